import Derived.Test.YtjikimpejlmdiaaGreatDoorWGi
import Derived.Test.YtjikimpejlmdiaaGreatDoorWGa
import Derived.Test.YtjikimpejlmdiaaGreatDoorWGe
set_option maxHeartbeats 4000000
set_option linter.unusedVariables false
set_option linter.unusedSimpArgs false
namespace Go.Proofs.YtjikimpejlmdiaaGreatDoor
namespace ref
open ChangeShapes WideShapes ChangeAt RowKit nums dnums mach
/-- What the call leaves, ahead of the step on. -/
def ecd (m : M) : M :=
  let a := m.regs 10
  let p := m.regs 11
  let n := m.regs 12
  let c := m.regs 17
  if c = 93 then stop { m with evs := m.evs ++ [⟨93, a, ByteArray.empty⟩], steps := m.steps + 1 } 1 else
  if c = 64 then (if lies m p n then setReg { m with evs := m.evs ++ [⟨64, n, memD m.mem p.toNat n.toNat⟩] } 10 n else setReg m 10 4294967282) else
  if c = 63 then
    (if lies m p n then
      let s := m.ans.headD ByteArray.empty
      let t := s.extract 0 (min s.size n.toNat)
      setReg { wrote { m with mem := put m.mem p.toNat t, ans := m.ans.tail } p t.size with evs := m.evs ++ [⟨63, t.size, t⟩] } 10 t.size
    else setReg m 10 4294967282) else
  if c = 214 then
    (let k := if m.low <= a /\ a <= m.size then a else m.brk
     setReg { m with brk := k } 10 k) else
  setReg m 10 4294967258
theorem ecall_ecd (m : M) : ecall m = if m.regs 17 = 93 then ecd m else next (ecd m) := by
  unfold ecall ecd
  dsimp only
  by_cases h1 : m.regs 17 = 93
  · simp only [h1, if_true]
  · rw [if_neg h1, if_neg h1, if_neg h1]
    by_cases h2 : m.regs 17 = 64
    · rw [if_pos h2, if_pos h2]
      by_cases h3 : lies m (m.regs 11) (m.regs 12) = true
      · rw [if_pos h3, if_pos h3]; rfl
      · rw [if_neg h3, if_neg h3]
    · rw [if_neg h2, if_neg h2]
      by_cases h4 : m.regs 17 = 63
      · rw [if_pos h4, if_pos h4]
        by_cases h3 : lies m (m.regs 11) (m.regs 12) = true
        · rw [if_pos h3, if_pos h3]
        · rw [if_neg h3, if_neg h3]
      · rw [if_neg h4, if_neg h4]
        by_cases h5 : m.regs 17 = 214
        · rw [if_pos h5, if_pos h5]
        · rw [if_neg h5, if_neg h5]
theorem Whole.quiet {B b mb : Nat} {m : M} {vE vA vS vB : Value} {w w' : World} (h : Whole B b mb m vE vA vS vB w) (hz : 0 < m.size) (t : Touch [] w w') : Whole B b mb m vE vA vS vB w' /\ Below B w w' :=
  h.step (h.ref.other t sP sP hz) (h.slots.other (t.mono sP) rfl rfl) (t.mono sP) rfl rfl rfl
theorem setReg_en (m : M) (r v : Int) : (setReg m r v).ended = m.ended := by unfold setReg; by_cases e : r = 0 <;> simp [e]
theorem sw_pc (X : M) (p n v : Int) (E : List Ev) : (setReg { wrote X p n with evs := E } 10 v).pc = X.pc /\ (setReg { wrote X p n with evs := E } 10 v).steps = X.steps /\ (setReg { wrote X p n with evs := E } 10 v).ended = X.ended := by
  unfold wrote
  by_cases e : n = 0 <;> simp [e, setReg]
theorem ecd_93 (m : M) (h : m.regs 17 = 93) : ecd m = stop { m with evs := m.evs ++ [⟨93, m.regs 10, ByteArray.empty⟩], steps := m.steps + 1 } 1 := by unfold ecd; dsimp only; rw [if_pos h]
theorem ecd_pc (m : M) (h : ¬ m.regs 17 = 93) : (ecd m).pc = m.pc /\ (ecd m).steps = m.steps /\ (ecd m).ended = m.ended := by
  unfold ecd
  dsimp only
  rw [if_neg h]
  by_cases h2 : m.regs 17 = 64
  · rw [if_pos h2]
    by_cases h3 : lies m (m.regs 11) (m.regs 12) = true
    · rw [if_pos h3]; exact ⟨setReg_pc _ _ _, setReg_st _ _ _, setReg_en _ _ _⟩
    · rw [if_neg h3]; exact ⟨setReg_pc _ _ _, setReg_st _ _ _, setReg_en _ _ _⟩
  · rw [if_neg h2]
    by_cases h4 : m.regs 17 = 63
    · rw [if_pos h4]
      by_cases h3 : lies m (m.regs 11) (m.regs 12) = true
      · rw [if_pos h3]; exact sw_pc { m with mem := put m.mem (m.regs 11).toNat _, ans := m.ans.tail } _ _ _ _
      · rw [if_neg h3]; exact ⟨setReg_pc _ _ _, setReg_st _ _ _, setReg_en _ _ _⟩
    · rw [if_neg h4]
      by_cases h5 : m.regs 17 = 214
      · rw [if_pos h5]; exact ⟨setReg_pc _ _ _, setReg_st _ _ _, setReg_en _ _ _⟩
      · rw [if_neg h5]; exact ⟨setReg_pc _ _ _, setReg_st _ _ _, setReg_en _ _ _⟩
theorem ex_call (m : M) (x : Int) (h0 : opn x = 46) : exec m x = ecall m := by
  unfold exec
  dsimp only
  rw [if_neg (by omega : ¬ (opn x = 2)), if_neg (by omega : ¬ (opn x = 3)), if_neg (by omega : ¬ (4 <= opn x /\ opn x <= 9)), if_neg (by omega : ¬ (opn x = 47)), if_pos (by omega : opn x = 46)]
end ref
namespace ref
open ChangeShapes WideShapes ChangeAt RowKit nums dnums mach
end ref
end Go.Proofs.YtjikimpejlmdiaaGreatDoor
