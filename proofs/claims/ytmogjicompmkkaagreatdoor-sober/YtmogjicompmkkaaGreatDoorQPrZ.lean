import Derived.Test.YtmogjicompmkkaaGreatDoorQGw
import Derived.BigQuiet
import Derived.Deep.AppendLies
namespace Go.Proofs.YtmogjicompmkkaaGreatDoor.prog
open Go.ChangeShapes Go.WideShapes Go.ChangeAt Go.RowKit Go.Proofs.YtmogjicompmkkaaGreatDoor.nums Go.Proofs.YtmogjicompmkkaaGreatDoor.dnums Go.Proofs.YtmogjicompmkkaaGreatDoor.mach

set_option linter.unusedVariables false
set_option linter.unusedSimpArgs false
attribute [local go_sem ↓] Go.wp_at_zero Go.wp_at_succ
theorem eb_2 (w : World) : Calls Tryz.prog 125 #[.int .i64 2] w fun e w' => e = .returned (.bool true) ∧ w' = w := by
  go_enter Tryz.func125, Tryz.ntmps125
  go_wp2
  go_ret
  exact ⟨rfl, rfl⟩
theorem eb_3 (w : World) : Calls Tryz.prog 125 #[.int .i64 3] w fun e w' => e = .returned (.bool true) ∧ w' = w := by
  go_enter Tryz.func125, Tryz.ntmps125
  go_wp2
  go_ret
  exact ⟨rfl, rfl⟩
theorem eb_4 (w : World) : Calls Tryz.prog 125 #[.int .i64 4] w fun e w' => e = .returned (.bool true) ∧ w' = w := by
  go_enter Tryz.func125, Tryz.ntmps125
  go_wp2
  go_ret
  exact ⟨rfl, rfl⟩
theorem eb_5 (w : World) : Calls Tryz.prog 125 #[.int .i64 5] w fun e w' => e = .returned (.bool true) ∧ w' = w := by
  go_enter Tryz.func125, Tryz.ntmps125
  go_wp2
  go_ret
  exact ⟨rfl, rfl⟩
theorem eb_6 (w : World) : Calls Tryz.prog 125 #[.int .i64 6] w fun e w' => e = .returned (.bool true) ∧ w' = w := by
  go_enter Tryz.func125, Tryz.ntmps125
  go_wp2
  go_ret
  exact ⟨rfl, rfl⟩
theorem eb_7 (w : World) : Calls Tryz.prog 125 #[.int .i64 7] w fun e w' => e = .returned (.bool true) ∧ w' = w := by
  go_enter Tryz.func125, Tryz.ntmps125
  go_wp2
  go_ret
  exact ⟨rfl, rfl⟩
theorem eb_8 (w : World) : Calls Tryz.prog 125 #[.int .i64 8] w fun e w' => e = .returned (.bool true) ∧ w' = w := by
  go_enter Tryz.func125, Tryz.ntmps125
  go_wp2
  go_ret
  exact ⟨rfl, rfl⟩
theorem eb_9 (w : World) : Calls Tryz.prog 125 #[.int .i64 9] w fun e w' => e = .returned (.bool true) ∧ w' = w := by
  go_enter Tryz.func125, Tryz.ntmps125
  go_wp2
  go_ret
  exact ⟨rfl, rfl⟩
theorem eb_46 (w : World) : Calls Tryz.prog 125 #[.int .i64 46] w fun e w' => e = .returned (.bool true) ∧ w' = w := by
  go_enter Tryz.func125, Tryz.ntmps125
  go_wp2
  go_ret
  exact ⟨rfl, rfl⟩
theorem eb_47 (w : World) : Calls Tryz.prog 125 #[.int .i64 47] w fun e w' => e = .returned (.bool true) ∧ w' = w := by
  go_enter Tryz.func125, Tryz.ntmps125
  go_wp2
  go_ret
  exact ⟨rfl, rfl⟩
theorem eb_lo (op : Int) (h0 : 0 ≤ op) (h1 : op ≤ 1) (w : World) : Calls Tryz.prog 125 #[.int .i64 op] w fun e w' => e = .returned (.bool false) ∧ w' = w := by
  go_enter Tryz.func125, Tryz.ntmps125
  go_wp2
  go_ret
  exact ⟨rfl, rfl⟩
theorem eb_mid (op : Int) (h0 : 10 ≤ op) (h1 : op ≤ 45) (w : World) : Calls Tryz.prog 125 #[.int .i64 op] w fun e w' => e = .returned (.bool false) ∧ w' = w := by
  go_enter Tryz.func125, Tryz.ntmps125
  go_wp2
  go_ret
  exact ⟨rfl, rfl⟩
theorem eb_any (op : Int) (h0 : 0 ≤ op) (h1 : op ≤ 47) (w : World) : Calls Tryz.prog 125 #[.int .i64 op] w fun e w' => e = .returned (.bool (ends op)) ∧ w' = w := by
  by_cases c : op = 2
  · subst c; exact eb_2 w
  by_cases c : op = 3
  · subst c; exact eb_3 w
  by_cases c : op = 4
  · subst c; exact eb_4 w
  by_cases c : op = 5
  · subst c; exact eb_5 w
  by_cases c : op = 6
  · subst c; exact eb_6 w
  by_cases c : op = 7
  · subst c; exact eb_7 w
  by_cases c : op = 8
  · subst c; exact eb_8 w
  by_cases c : op = 9
  · subst c; exact eb_9 w
  by_cases c : op = 46
  · subst c; exact eb_46 w
  by_cases c : op = 47
  · subst c; exact eb_47 w
  have e : ends op = false := by simp only [ends]; rw [decide_eq_false (by omega)]
  rw [e]
  by_cases c : op ≤ 1
  · exact eb_lo op h0 c w
  · exact eb_mid op (by omega) (by omega) w
theorem tnewP {S T : List Nat} {u v w : World} (h : ref.Touch S u v) (k : ref.Touch T v w) (hT : ∀ i, i ∈ T → u.heap.size ≤ i) : ref.Touch S u w :=
  ⟨k.os.trans h.os, k.tape.trans h.tape, k.output.trans h.output, Nat.le_trans h.size k.size, fun i hi hn => (k.block i (Nat.lt_of_lt_of_le hi h.size) (fun hm => absurd (hT i hm) (Nat.not_le.mpr hi))).trans (h.block i hi hn)⟩
theorem row_getP {w : World} {base e size n g cap : Nat} {xs : List Value} (h : w.ownsRow base e size (.slice (some ⟨g, 0, none⟩) n cap) n xs) (i : Nat) (u : Value) (hu : xs[i]? = some u) : w.cell? ⟨g, i, none⟩ = some u := by
  rcases h.2 with ⟨h1, _⟩ | ⟨g', cap', cur, hv, hb, hg, hn, hm, hs, ht⟩
  · cases h1
  · injection hv with e1 e2 e3
    injection e1 with e1
    injection e1 with e1
    subst e1
    rw [cell_of_row w g i cur e (0, 0) hg]
    rw [← ht, List.getElem?_take] at hu
    by_cases c : i < n * size
    · rw [if_pos c] at hu; simpa using hu
    · rw [if_neg c] at hu; cases hu
theorem row_own {w : World} {base e size n : Nat} {v : Value} {xs : List Value} (h : w.ownsRow base e size v n xs) : (v = .slice none 0 0 ∧ n = 0) ∨ ∃ g cap, v = .slice (some ⟨g, 0, none⟩) n cap ∧ base ≤ g ∧ n ≤ cap := by
  rcases h.2 with h1 | ⟨g', cap', cur, hv, hb, hg, hn, hm, hs, ht⟩
  · exact Or.inl h1
  · exact Or.inr ⟨g', cap', hv, hb, hn⟩
/-- The cells of one instruction made ready, and of so many from an address on. -/
def stepL (x : Int) : List Value := [.func (.func (kofx (opn x))) #[] #[], .int .i64 (opn x), .int .i64 (qRd x), .int .i64 (qR1 x), .int .i64 (qR2 x), .int .i32 (imm x)]
def stepsL (mem : Nat → Int) (a : Nat) : Nat → List Value
  | 0 => []
  | j + 1 => stepsL mem a j ++ stepL (ld mem (a + 4 * j) 4)
theorem stepsL_len (mem : Nat → Int) (a : Nat) : ∀ j, (stepsL mem a j).length = j * 6
  | 0 => rfl
  | j + 1 => by simp [stepsL, stepL, stepsL_len mem a j]; omega
theorem stepsL_at (mem : Nat → Int) (a : Nat) : ∀ (n j t : Nat), j < n → t < 6 → (stepsL mem a n)[j * 6 + t]? = some (stepC (ld mem (a + 4 * j) 4) t)
  | 0, j, t, h, _ => by omega
  | n + 1, j, t, h, ht => by
    have hl := stepsL_len mem a n
    unfold stepsL
    by_cases e : j < n
    · rw [List.getElem?_append_left (by omega)]
      exact stepsL_at mem a n j t e ht
    · obtain rfl : j = n := by omega
      rw [List.getElem?_append_right (by omega), hl, show j * 6 + t - j * 6 = t by omega]
      have : t = 0 ∨ t = 1 ∨ t = 2 ∨ t = 3 ∨ t = 4 ∨ t = 5 := by omega
      rcases this with rfl | rfl | rfl | rfl | rfl | rfl <;> rfl
theorem steps_in {w : World} {base g cap n a : Nat} {mem : Nat → Int} (h : w.ownsRow base 86 6 (.slice (some ⟨g, 0, none⟩) n cap) n (stepsL mem a n)) : StepsIn g n a mem w := by
  refine ⟨?_, fun j hj t ht => ?_⟩
  · rcases h.2 with ⟨h1, _⟩ | ⟨g', cap', cur, hv, hb, hg, hn, hm, hs, ht⟩
    · cases h1
    · injection hv with e1 e2 e3
      injection e1 with e1
      injection e1 with e1
      subst e1
      exact ⟨cur, (0, 0), hg⟩
  have := row_getP h (j * 6 + t) _ (stepsL_at mem a n j t hj ht)
  rw [this, show ((a : Int) + 4 * (j : Int)).toNat = a + 4 * j by omega]
/-- On the way of build. -/
structure BdAt (w : World) (k j : Nat) (mem : Nat → Int) (vS : Value) (Y : World) : Prop where
  t : ref.Touch [] w Y
  th : Y.there w.heap.size 0 2
  rg : Y.rangeAt (w.heap.size + 1) 0 [.int .u32 (k : Int), vS]
  fr : ∀ i, Y.frozen? ⟨w.heap.size + 1, i, none⟩ = false
  ow : Y.ownsRow (w.heap.size + 1 + 1) 86 6 vS j (stepsL mem k j)
theorem rangeAt_t {w w' : World} {S : List Nat} {g : Nat} {cs : List Value} (h : w.rangeAt g 0 cs) (hg : g < w.heap.size) (t : ref.Touch S w w') (hS : g ∉ S) : w'.rangeAt g 0 cs := fun j v hv => by
  rw [t.cell (p := ⟨g, 0 + j, none⟩) hg hS]; exact h j v hv
theorem BdAt.lt {w : World} {k j : Nat} {mem : Nat → Int} {vS : Value} {Y : World} (h : BdAt w k j mem vS Y) : w.heap.size + 1 < Y.heap.size := World.block_lt_of_cell? _ _ (h.rg 0 _ rfl)
theorem BdAt.step {w : World} {k j : Nat} {mem : Nat → Int} {vS : Value} {Y Y' : World} (h : BdAt w k j mem vS Y) (t : ref.Touch [] Y Y') : BdAt w k j mem vS Y' :=
  ⟨h.t.trans t, there_t h.th (by decide) t (by simp), rangeAt_t h.rg h.lt t (by simp), fun i => (t.frozen (p := ⟨w.heap.size + 1, i, none⟩) h.lt (by simp)).trans (h.fr i), ref.own_touch h.ow t (by simp)⟩
theorem BdAt.b1 {w : World} {k j : Nat} {mem : Nat → Int} {vS : Value} {Y : World} (h : BdAt w k j mem vS Y) : Y.cell? ⟨w.heap.size + 1, 1, none⟩ = some vS := h.rg 1 _ rfl
/-- One instruction more. -/
theorem BdAt.more {w : World} {k j g cap : Nat} {mem : Nat → Int} {vS : Value} {Y Y' : World} (h : BdAt w k j mem vS Y) (t : ref.Touch (ref.sblk vS) Y Y') (hg : w.heap.size + 1 + 1 ≤ g) (ho : Y'.ownsRow (w.heap.size + 1 + 1) 86 6 (.slice (some ⟨g, 0, none⟩) (j + 1) cap) (j + 1) (stepsL mem k j ++ stepL (ld mem (k + 4 * j) 4))) :
    BdAt w k (j + 1) mem (.slice (some ⟨g, 0, none⟩) (j + 1) cap) (Y'.setCell ⟨w.heap.size + 1, 1, none⟩ (.slice (some ⟨g, 0, none⟩) (j + 1) cap)) := by
  have hbl : ∀ i, i ∈ ref.sblk vS → w.heap.size + 1 + 1 ≤ i := fun i hi => (ref.own_lt h.ow i hi).1
  have n1 : w.heap.size + 1 ∉ ref.sblk vS := fun hc => by have := hbl _ hc; omega
  have n0 : w.heap.size ∉ ref.sblk vS := fun hc => by have := hbl _ hc; omega
  have t2 : ref.Touch [w.heap.size + 1] Y' (Y'.setCell ⟨w.heap.size + 1, 1, none⟩ (.slice (some ⟨g, 0, none⟩) (j + 1) cap)) := (ref.Touch.refl _ _).setCell (by simp) _
  have r' := rangeAt_t h.rg h.lt t n1
  refine ⟨tnewP (tnewP h.t t (fun i hi => by have := hbl i hi; omega)) t2 (by simp), there_t (there_t h.th (by decide) t n0) (by decide) t2 (by simp), fun i v hv => ?_, fun i => by rw [World.frozen?_setCell]; exact (t.frozen (p := ⟨w.heap.size + 1, i, none⟩) h.lt n1).trans (h.fr i), ref.own_touch ho t2 (by simp [ref.sblk]; omega)⟩
  rcases i with _ | _ | i
  · rw [World.cell?_setCell_other _ _ _ _ (by intro e; injection e with _ e; omega)]
    simp at hv; subst hv; exact r' 0 _ rfl
  · rw [World.cell?_setCell_same _ _ _ (r' 1 _ rfl)]
    simpa using hv
  · simp at hv
end Go.Proofs.YtmogjicompmkkaaGreatDoor.prog
