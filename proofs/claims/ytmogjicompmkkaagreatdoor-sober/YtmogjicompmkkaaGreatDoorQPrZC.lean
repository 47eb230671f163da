import Derived.Test.YtmogjicompmkkaaGreatDoorQPrZB
import Derived.Test.YtmogjicompmkkaaGreatDoorQGo
import Derived.Test.YtmogjicompmkkaaGreatDoorQMachK
import Derived.BigQuiet
import Derived.Deep.RegionHeld3
import Derived.BigRegion
namespace Go.Proofs.YtmogjicompmkkaaGreatDoor.prog
open Go.ChangeShapes Go.WideShapes Go.ChangeAt Go.RowKit Go.Proofs.YtmogjicompmkkaaGreatDoor.nums Go.Proofs.YtmogjicompmkkaaGreatDoor.dnums Go.Proofs.YtmogjicompmkkaaGreatDoor.mach

set_option linter.unusedVariables false
set_option linter.unusedSimpArgs false
attribute [local go_sem ↓] Go.wp_at_zero Go.wp_at_succ
theorem find_any (B E b mb sb : Nat) (m : M) (nx : Int) (vE vA : Value) (w : World) (h : PW B E b mb sb m nx vE vA w) (hg : MGood m) (hn0 : 0 < m.nslots) (k : Nat) (hk : m.pc = k) (hs : SInv m) (ha : (k : Int) % 4 = 0) (hl : lies m k 4 = true) (hT : ∀ w' x, ref.Touch [] w w' → decodes.Tabs w' x) (hx : ¬ opn (ld m.mem k 4) = -1) (u0 : 0 ≤ m.used) (u1 : m.used ≤ 256) (ar1 : m.arena ≤ 256) (bt0 : 0 ≤ m.built) (bt1 : m.built ≤ 5000) :
    Calls Tryz.prog 73 #[.pointer (some ⟨b, 0, none⟩)] w fun e w' => ∃ kb n c : Nat, e = .returned (.agg #[.int .u32 (k : Int), .slice (some ⟨kb, 0, none⟩) n c]) ∧ PW B E b mb sb (mach.find m) nx vE vA w' ∧ BlkAt B (sb :: b :: mb :: ref.sblk vE) m.mem k kb n c w' ∧ ref.Touch [b, sb] w w' := by
  have eK : (m.pc / 4).toNat % m.nslots = (k / 4 % m.nslots) := by rw [hk]; congr 1
  by_cases hc : (m.slots (k / 4 % m.nslots)).1 = k ∧ ¬ (m.slots (k / 4 % m.nslots)).2 = 0
  · have ef := find_enter m (by rw [eK, hk]; intro q; rcases q with q | q; exact hc.2 q; exact q hc.1)
    refine (find_old B E b mb sb m nx vE vA w h hg hn0 k hk hs ha hl hc.1 hc.2).mono ?_
    rintro e w' ⟨kb, n, c, h1, h2, h3, h4⟩
    exact ⟨kb, n, c, h1, by rw [ef]; exact h2.congr rfl rfl rfl rfl rfl rfl rfl rfl rfl rfl rfl rfl rfl rfl, h3, h4⟩
  · have ef := find_build m (by rw [eK, hk]; exact Classical.byContradiction fun q => hc ⟨Classical.byContradiction fun r => q (Or.inr r), fun r => q (Or.inl r)⟩)
    by_cases hfull : m.arena < m.used + blockLen m.mem 8 k
    · refine (find_f B E b mb sb m nx vE vA w h hg hn0 k hk hs ha hl hT hc hx u0 u1 ar1 bt0 bt1 hfull).mono ?_
      rintro e w' ⟨kb, n, c, h1, h2, h3, h4⟩
      refine ⟨kb, n, c, h1, ?_, h3, h4⟩
      rw [ef]
      refine h2.congr rfl rfl rfl rfl rfl rfl rfl rfl rfl rfl ?_ rfl ?_ rfl
      · show (fun i => if i = (m.pc / 4).toNat % m.nslots then (m.pc, blockLen m.mem 8 m.pc) else (if decide (m.arena < m.used + blockLen m.mem 8 m.pc) then fun _ => ((0 : Int), (0 : Int)) else m.slots) i) = _
        rw [eK, hk, decide_eq_true hfull]; rfl
      · show (if decide (m.arena < m.used + blockLen m.mem 8 m.pc) then 0 else m.used) + blockLen m.mem 8 m.pc = _
        rw [hk, decide_eq_true hfull]; simp
    · refine (find_n B E b mb sb m nx vE vA w h hg hn0 k hk hs ha hl hT hc hx u0 u1 ar1 bt0 bt1 hfull).mono ?_
      rintro e w' ⟨kb, n, c, h1, h2, h3, h4⟩
      refine ⟨kb, n, c, h1, ?_, h3, h4⟩
      rw [ef]
      refine h2.congr rfl rfl rfl rfl rfl rfl rfl rfl rfl rfl ?_ rfl ?_ rfl
      · show (fun i => if i = (m.pc / 4).toNat % m.nslots then (m.pc, blockLen m.mem 8 m.pc) else (if decide (m.arena < m.used + blockLen m.mem 8 m.pc) then fun _ => ((0 : Int), (0 : Int)) else m.slots) i) = _
        rw [eK, hk, decide_eq_false hfull]; rfl
      · show (if decide (m.arena < m.used + blockLen m.mem 8 m.pc) then 0 else m.used) + blockLen m.mem 8 m.pc = _
        rw [hk, decide_eq_false hfull]; rfl
theorem StepsIn.page {k n : Nat} {a : Int} {mem mem' : Nat → Int} {w : World} (h : StepsIn k n a mem w) (a0 : 0 ≤ a) (a4 : a % 4 = 0) (ap : ∀ j : Nat, j < n → (a + 4 * j) / 64 = a / 64) (hm : ∀ i : Nat, (i : Int) / 64 = a / 64 → mem' i = mem i) : StepsIn k n a mem' w :=
  ⟨h.1, fun j hj u hu => by rw [word_page mem mem' a (a + 4 * j) (by omega) (by omega) (ap j hj) hm]; exact h.2 j hj u hu⟩
theorem StepsIn.range {k n : Nat} {a : Int} {mem : Nat → Int} {w : World} (h : StepsIn k n a mem w) (j : Nat) (hj : j < n) : w.rangeAt k (j * 6) (stepL (ld mem (a + 4 * j).toNat 4)) := fun t v hv => by
  have ht : t < 6 := by have := (List.getElem?_eq_some_iff.1 hv).1; simpa [stepL] using this
  rw [h.2 j hj t ht]
  have : t = 0 ∨ t = 1 ∨ t = 2 ∨ t = 3 ∨ t = 4 ∨ t = 5 := by omega
  rcases this with rfl | rfl | rfl | rfl | rfl | rfl <;> simpa [stepL, stepC] using hv
/-- A block of a type of its own is none of a row's. -/
theorem tag_apart {w : World} {k base e size j t : Nat} {cs : Array Value} {fr : Nat × Nat} {v : Value} {xs : List Value} (h : w.heap[k]? = some (.cells cs t fr)) (ho : w.ownsRow base e size v j xs) (ne : e ≠ t) : k ∉ ref.sblk v := fun hk => by
  rcases ho.2 with ⟨h1, _⟩ | ⟨g', cap', cur, hv, hb, hg, hn, hm, hs, ht⟩
  · rw [h1] at hk; simp [ref.sblk] at hk
  · rw [hv] at hk
    simp [ref.sblk] at hk
    subst hk
    rw [hg] at h
    injection h with hc
    injection hc with _ hc _
    exact ne hc
/-- Within the inner loop. -/
structure InnerQ (m0 q : M) (k n j : Nat) (s0 : Int) : Prop where
  st : q.steps = s0 + j
  en : q.ended = false
  pe : j < n → Pend m0 q k n j
  br : 1 ≤ j → BRun m0 q ∧ (j = n → lost q = true)
  fu : q.fuel = m0.fuel
structure InW (B E b mb sb tb kb n c k : Nat) (w : World) (q : M) (nx : Int) (vE vA : Value) (Y : World) : Prop where
  pw : PW B E b mb sb q nx vE vA Y
  tg : Y.heap[tb]? = some (.cells #[.int .u32 (k : Int), .slice (some ⟨kb, 0, none⟩) n c] 116 (0, 0))
  st : StepsIn kb n k q.mem Y
  t : ref.Touch [b, mb, sb] w Y
  nk : kb ≠ b ∧ kb ≠ mb ∧ kb ≠ sb
  nt : tb ≠ b ∧ tb ≠ mb ∧ tb ≠ sb
theorem InW.quiet {B E b mb sb tb kb n c k : Nat} {w : World} {q : M} {nx : Int} {vE vA : Value} {Y Y' : World} (h : InW B E b mb sb tb kb n c k w q nx vE vA Y) (hz : 0 < q.size) (hn : 0 < n) (t : ref.Touch [] Y Y') : InW B E b mb sb tb kb n c k w q nx vE vA Y' := by
  have l : tb < Y.heap.size := (Array.getElem?_eq_some_iff.1 h.tg).1
  exact ⟨h.pw.quiet hz t, by rw [t.block tb l (by simp)]; exact h.tg, h.st.touch hn t (by simp), h.t.trans (t.mono (by simp)), h.nk, h.nt⟩
theorem InW.c0 {B E b mb sb tb kb n c k : Nat} {w : World} {q : M} {nx : Int} {vE vA : Value} {Y : World} (h : InW B E b mb sb tb kb n c k w q nx vE vA Y) : Y.cell? ⟨tb, 0, none⟩ = some (.int .u32 (k : Int)) := by
  rw [cell_of_row Y tb 0 _ _ _ h.tg]; rfl
/-- Behind an instruction of the block. -/
theorem InW.did {B E b mb sb tb kb n c k : Nat} {w : World} {q m' : M} {nx nx' : Int} {vE vA vE' vA' : Value} {Y Y' : World} (h : InW B E b mb sb tb kb n c k w q nx vE vA Y) (hn : 0 < n) (hE : w.heap.size = E) (hp : PW B E b mb sb m' nx' vE' vA' Y') (t : ref.Touch (b :: mb :: sb :: ref.sblk vE) Y Y') (hm : StepsIn kb n k q.mem Y' → StepsIn kb n k m'.mem Y') : InW B E b mb sb tb kb n c k w m' nx' vE' vA' Y' := by
  have l : tb < Y.heap.size := (Array.getElem?_eq_some_iff.1 h.tg).1
  have n1 : tb ∉ b :: mb :: sb :: ref.sblk vE := by
    simp
    exact ⟨h.nt.1, h.nt.2.1, h.nt.2.2, tag_apart h.tg h.pw.evs (by decide)⟩
  have n2 : kb ∉ b :: mb :: sb :: ref.sblk vE := by
    simp
    exact ⟨h.nk.1, h.nk.2.1, h.nk.2.2, StepsIn.apart (g := 0) h.st h.pw.evs (by decide)⟩
  exact ⟨hp, by rw [t.block tb l n1]; exact h.tg, hm (h.st.touch hn t n2), touchE h.t t (fun i hi => by rw [hE]; exact (ref.own_lt h.pw.evs i hi).1), h.nk, h.nt⟩
end Go.Proofs.YtmogjicompmkkaaGreatDoor.prog
