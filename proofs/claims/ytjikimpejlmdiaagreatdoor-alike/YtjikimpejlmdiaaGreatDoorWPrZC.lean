import Derived.Test.YtjikimpejlmdiaaGreatDoorWPrZB
import Derived.Test.YtjikimpejlmdiaaGreatDoorWGo
import Derived.Test.YtjikimpejlmdiaaGreatDoorWMachK
import Derived.BigQuiet
import Derived.Deep.RegionHeld3
import Derived.BigRegion
set_option maxHeartbeats 4000000
set_option linter.unusedVariables false
set_option linter.unusedSimpArgs false
namespace Go.Proofs.YtjikimpejlmdiaaGreatDoor
namespace prog
open ChangeShapes WideShapes ChangeAt RowKit nums dnums mach
attribute [local go_sem ↓] Go.wp_at_zero Go.wp_at_succ
theorem StepsIn.page {k n : Nat} {a : Int} {mem mem' : Nat -> Int} {w : World} (h : StepsIn k n a mem w) (a0 : 0 <= a) (a4 : a % 4 = 0) (ap : ∀ j : Nat, j < n -> (a + 4 * j) / 64 = a / 64) (hm : ∀ i : Nat, (i : Int) / 64 = a / 64 -> mem' i = mem i) : StepsIn k n a mem' w :=
  ⟨h.1, fun j hj u hu => by rw [word_page mem mem' a (a + 4 * j) oM oM (ap j hj) hm]; exact h.2 j hj u hu⟩
theorem StepsIn.range {k n : Nat} {a : Int} {mem : Nat -> Int} {w : World} (h : StepsIn k n a mem w) (j : Nat) (hj : j < n) : w.rangeAt k (j * 6) (stepL (ld mem (a + 4 * j).toNat 4)) := fun t v hv => by
  have ht : t < 6 := by have := (List.getElem?_eq_some_iff.1 hv).1; simpa [stepL] using this
  rw [h.2 j hj t ht]
  have : t = 0 \/ t = 1 \/ t = 2 \/ t = 3 \/ t = 4 \/ t = 5 := by omega
  rcases this with rfl | rfl | rfl | rfl | rfl | rfl <;> simpa [stepL, stepC] using hv
/-- A block of a type of its own is none of a row's. -/
theorem tag_apart {w : World} {k base e size j t : Nat} {cs : Array Value} {fr : Nat × Nat} {v : Value} {xs : List Value} (h : w.heap[k]? = some (.cells cs t fr)) (ho : w.ownsRow base e size v j xs) (ne : e ≠ t) : k ∉ ref.sblk v := fun hk => by
  rcases ho.2 with ⟨h1, _⟩ | ⟨g', cap', cur, hv, hb, hg, hn, hm, hs, ht⟩
  · rw [h1] at hk; simp [ref.sblk] at hk
  · rw [hv] at hk
    simp [ref.sblk] at hk
    subst hk
    rw [hg] at h
    injection h with hc
    injection hc with _ hc _
    exact ne hc
theorem touchF {b mb sb : Nat} {L : List Nat} {u v w : World} (h : ref.Touch [b, mb, sb, sb + 1] u v) (k : ref.Touch (b :: mb :: sb :: L) v w) (hL : ∀ i, i ∈ L -> u.heap.size <= i) : ref.Touch [b, mb, sb, sb + 1] u w :=
  ⟨k.os.trans h.os, k.tape.trans h.tape, k.output.trans h.output, Nat.le_trans h.size k.size, fun i hi hn => (k.block i (Nat.lt_of_lt_of_le hi h.size) (fun hm => by
    simp at hm hn
    rcases hm with e | e | e | e
    · exact hn.1 e
    · exact hn.2.1 e
    · exact hn.2.2.1 e
    · exact absurd (hL i e) (Nat.not_le.mpr hi))).trans (h.block i hi hn)⟩
/-- Within the inner loop. -/
structure InnerQ (m0 q : M) (k n j : Nat) (s0 : Int) : Prop where
  st : q.steps = s0 + j
  en : q.ended = false
  pe : j < n -> Pend m0 q k n j
  br : 1 <= j -> BRun m0 q /\ (j = n -> lost q = true)
  fu : q.fuel = m0.fuel
structure InW (B E b mb sb tb kb n c k : Nat) (w : World) (q : M) (nx : Int) (vE vA : Value) (Y : World) : Prop where
  pw : PW B E b mb sb q nx vE vA Y
  tg : Y.heap[tb]? = some (.cells #[.int .u32 (k : Int), .slice (some ⟨kb, 0, none⟩) n c] 128 (0, 0))
  st : StepsIn kb n k q.mem Y
  t : ref.Touch [b, mb, sb, sb + 1] w Y
  nk : kb ≠ b /\ kb ≠ mb /\ kb ≠ sb
  nt : tb ≠ b /\ tb ≠ mb /\ tb ≠ sb
theorem InW.quiet {B E b mb sb tb kb n c k : Nat} {w : World} {q : M} {nx : Int} {vE vA : Value} {Y Y' : World} (h : InW B E b mb sb tb kb n c k w q nx vE vA Y) (hz : 0 < q.size) (hn : 0 < n) (t : ref.Touch [] Y Y') : InW B E b mb sb tb kb n c k w q nx vE vA Y' := by
  have l : tb < Y.heap.size := (Array.getElem?_eq_some_iff.1 h.tg).1
  exact ⟨h.pw.quiet hz t, by rw [t.block tb l sP]; exact h.tg, h.st.touch hn t sP, h.t.trans (t.mono sP), h.nk, h.nt⟩
theorem InW.c0 {B E b mb sb tb kb n c k : Nat} {w : World} {q : M} {nx : Int} {vE vA : Value} {Y : World} (h : InW B E b mb sb tb kb n c k w q nx vE vA Y) : Y.cell? ⟨tb, 0, none⟩ = some (.int .u32 (k : Int)) := by
  rw [cell_of_row Y tb 0 _ _ _ h.tg]; rfl
/-- Behind an instruction of the block. -/
theorem InW.did {B E b mb sb tb kb n c k : Nat} {w : World} {q m' : M} {nx nx' : Int} {vE vA vE' vA' : Value} {Y Y' : World} (h : InW B E b mb sb tb kb n c k w q nx vE vA Y) (hn : 0 < n) (hE : w.heap.size = E) (hp : PW B E b mb sb m' nx' vE' vA' Y') (t : ref.Touch (b :: mb :: sb :: ref.sblk vE) Y Y') (hm : StepsIn kb n k q.mem Y' -> StepsIn kb n k m'.mem Y') : InW B E b mb sb tb kb n c k w m' nx' vE' vA' Y' := by
  have l : tb < Y.heap.size := (Array.getElem?_eq_some_iff.1 h.tg).1
  have n1 : tb ∉ b :: mb :: sb :: ref.sblk vE := by
    simp
    exact ⟨h.nt.1, h.nt.2.1, h.nt.2.2, tag_apart h.tg h.pw.evs dC⟩
  have n2 : kb ∉ b :: mb :: sb :: ref.sblk vE := by
    simp
    exact ⟨h.nk.1, h.nk.2.1, h.nk.2.2, StepsIn.apart (g := 0) h.st h.pw.evs dC⟩
  exact ⟨hp, by rw [t.block tb l n1]; exact h.tg, hm (h.st.touch hn t n2), touchF h.t t (fun i hi => by rw [hE]; exact (ref.own_lt h.pw.evs i hi).1), h.nk, h.nt⟩
end prog
end Go.Proofs.YtjikimpejlmdiaaGreatDoor
