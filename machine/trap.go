package machine

import "chains/api"

// trap is a type of its own, so that a panic that ends a run is not mistaken for one that a fault of the program raises.
type trap struct {
	outcome api.Outcome
}

// end leaves the instruction that is being done, and the run with it.
func end(outcome api.Outcome) {
	panic(trap{outcome})
}

// outcomeOf answers how the run ends: by a trap, or, if it comes back by itself, for want of fuel.
func outcomeOf(run func()) (outcome api.Outcome) {
	defer func() {
		switch cause := recover().(type) {
		case nil:
		case trap:
			outcome = cause.outcome
		default:
			panic(cause)
		}
	}()
	run()
	return api.OutOfFuel
}
