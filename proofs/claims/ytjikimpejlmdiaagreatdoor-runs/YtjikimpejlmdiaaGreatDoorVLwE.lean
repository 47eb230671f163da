import Derived.Test.YtjikimpejlmdiaaGreatDoorVGu
import Derived.Deep.MidRow
set_option maxHeartbeats 4000000
set_option linter.unusedVariables false
set_option linter.unusedSimpArgs false
namespace Go.Proofs.YtjikimpejlmdiaaGreatDoor
namespace law
open ChangeShapes WideShapes ChangeAt RowKit nums dnums mach
attribute [local go_sem ↓] Go.wp_at_zero Go.wp_at_succ
theorem there_new (w : World) (cs : Array Value) (t : TypeId) (n : Nat) (hn : cs.size = n) : (w.alloc (.cells cs t)).there w.heap.size 0 n := ref.there_of (w := w.alloc (.cells cs t)) (heap_alloc_new w _) hn rfl
theorem own_below {w w' : World} {base e size n : Nat} {v : Value} {xs : List Value} (h : w.ownsRow base e size v n xs) (hb : Below w.heap.size w w') : w'.ownsRow base e size v n xs :=
  ref.own_touch (S := []) h (ref.Touch.of_below hb) sP
theorem range_touch {w w' : World} {g : Nat} {cs : List Value} (h : w.rangeAt g 0 cs) (t : ref.Touch [] w w') (hg : g < w.heap.size) : w'.rangeAt g 0 cs := fun j v hv => by
  rw [t.cell (p := ⟨g, 0 + j, none⟩) hg sP]; exact h j v hv
theorem range_below {w w' : World} {g : Nat} {cs : List Value} (h : w.rangeAt g 0 cs) (hb : Below w.heap.size w w') (hg : g < w.heap.size) : w'.rangeAt g 0 cs := range_touch h (ref.Touch.of_below hb) hg
theorem below_touch {u w w' : World} (h : Below u.heap.size u w) (t : ref.Touch [] w w') : Below u.heap.size u w' := h.trans (t.below h.size sP)
end law
end Go.Proofs.YtjikimpejlmdiaaGreatDoor
