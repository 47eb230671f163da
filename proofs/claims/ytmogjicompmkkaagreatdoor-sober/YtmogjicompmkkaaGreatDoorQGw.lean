import Derived.Test.YtmogjicompmkkaaGreatDoorQGn
import Derived.BigQuiet
import Derived.Deep.RegionHeld3
import Derived.BigRegion
namespace Go.Proofs.YtmogjicompmkkaaGreatDoor.prog
open Go.ChangeShapes Go.WideShapes Go.ChangeAt Go.RowKit Go.Proofs.YtmogjicompmkkaaGreatDoor.nums Go.Proofs.YtmogjicompmkkaaGreatDoor.dnums Go.Proofs.YtmogjicompmkkaaGreatDoor.mach

set_option linter.unusedVariables false
set_option linter.unusedSimpArgs false
attribute [local go_sem ↓] Go.wp_at_zero Go.wp_at_succ
theorem slot_any (b sb n : Nat) (w : World) (hn0 : 0 < n) (hn : n ≤ 64) (cS : w.cell? ⟨b, 40, none⟩ = some (.slice (some ⟨sb, 0, none⟩) n n)) (a : Nat) (ha : a ≤ 4294967295) :
    Calls Tryz.prog 98 #[.pointer (some ⟨b, 40, none⟩), .int .u32 a] w fun e w' => e = .returned (.pointer (some ⟨sb, a / 4 % n * 2, none⟩)) ∧ ref.Touch [] w w' := by
  have q1 : IntKind.u32.wrap (n : Int) = (n : Int) := by rw [IntKind.wrap_u32]; omega
  have q3 : (a : Int) / 4 % (n : Int) < n := Int.emod_lt_of_pos _ (by omega)
  have q5 : 0 ≤ (a : Int) / 4 % (n : Int) := Int.emod_nonneg _ (by omega)
  have q4 : ¬ (n : Int) = 0 := by omega
  have HE : Hid (((a : Int) / 4 % (n : Int)).toNat = a / 4 % n) := (by rw [show (a : Int) / 4 % (n : Int) = ((a / 4 % n : Nat) : Int) by push_cast; rfl]; exact Int.toNat_natCast _ : ((a : Int) / 4 % (n : Int)).toNat = a / 4 % n)
  go_enter Tryz.func98, Tryz.ntmps98
  go_wp2_with fail
  go_quiet (fail)
  go_wp2_with fail
  go_ret
  exact ⟨by rw [← HE.out]; rfl, (ref.Touch.refl _ _).drewN _⟩
theorem has_row (b sb n : Nat) (w : World) (hn0 : 0 < n) (hn : n ≤ 64) (cS : w.cell? ⟨b, 40, none⟩ = some (.slice (some ⟨sb, 0, none⟩) n n)) (a : Nat) (ha : a ≤ 4294967295) (p : Int) (o : Option Addr) (l c : Nat) (cp : w.cell? ⟨sb, a / 4 % n * 2, none⟩ = some (.int .u32 p)) (cv : w.cell? ⟨sb, a / 4 % n * 2 + 1, none⟩ = some (.slice o l c)) :
    Calls Tryz.prog 74 #[.pointer (some ⟨b, 40, none⟩), .int .u32 a] w fun e w' => e = .returned (.bool (decide (p = a ∧ 0 < l))) ∧ ref.Touch [] w w' := by
  have ls : sb < w.heap.size := World.block_lt_of_cell? _ _ cp
  by_cases h1 : p = a
  · by_cases h2 : 0 < l
    · have e1 : decide (p = a ∧ 0 < l) = true := by simp [h1, h2]
      have h3 : decide ((0 : Int) < (l : Int)) = true := by simp; omega
      rw [e1]
      clear e1
      subst h1
      go_enter Tryz.func74, Tryz.ntmps74
      go_wp2_with (first | (go_at_call 98; refine (Calls.mono (slot_any b sb n w hn0 hn cS a ha) ?_); rintro e w1 ⟨rfl, ht1⟩; have T1 : Hid (ref.Touch [] w w1) := ht1; have c1 : w1.cell? ⟨sb, a / 4 % n * 2, none⟩ = some (.int .u32 (a : Int)) := (ht1.cell (p := ⟨sb, a / 4 % n * 2, none⟩) ls (by simp)).trans cp; have c2 : w1.cell? ⟨sb, a / 4 % n * 2 + 1, none⟩ = some (.slice o l c) := (ht1.cell (p := ⟨sb, a / 4 % n * 2 + 1, none⟩) ls (by simp)).trans cv; clear ht1))
      go_ret
      exact ⟨rfl, T1.out⟩
    · have e1 : decide (p = a ∧ 0 < l) = false := by simp [h2]
      obtain rfl : l = 0 := by omega
      rw [e1]
      clear e1 h2
      subst h1
      go_enter Tryz.func74, Tryz.ntmps74
      go_wp2_with (first | (go_at_call 98; refine (Calls.mono (slot_any b sb n w hn0 hn cS a ha) ?_); rintro e w1 ⟨rfl, ht1⟩; have T1 : Hid (ref.Touch [] w w1) := ht1; have c1 : w1.cell? ⟨sb, a / 4 % n * 2, none⟩ = some (.int .u32 (a : Int)) := (ht1.cell (p := ⟨sb, a / 4 % n * 2, none⟩) ls (by simp)).trans cp; have c2 : w1.cell? ⟨sb, a / 4 % n * 2 + 1, none⟩ = some (.slice o 0 c) := (ht1.cell (p := ⟨sb, a / 4 % n * 2 + 1, none⟩) ls (by simp)).trans cv; clear ht1))
      go_ret
      exact ⟨rfl, T1.out⟩
  · have e1 : decide (p = a ∧ 0 < l) = false := by simp [h1]
    have h3 : (p == (a : Int)) = false := by simpa using h1
    rw [e1]
    clear e1
    go_enter Tryz.func74, Tryz.ntmps74
    go_wp2_with (first | (go_at_call 98; refine (Calls.mono (slot_any b sb n w hn0 hn cS a ha) ?_); rintro e w1 ⟨rfl, ht1⟩; have T1 : Hid (ref.Touch [] w w1) := ht1; have c1 : w1.cell? ⟨sb, a / 4 % n * 2, none⟩ = some (.int .u32 p) := (ht1.cell (p := ⟨sb, a / 4 % n * 2, none⟩) ls (by simp)).trans cp; have c2 : w1.cell? ⟨sb, a / 4 % n * 2 + 1, none⟩ = some (.slice o l c) := (ht1.cell (p := ⟨sb, a / 4 % n * 2 + 1, none⟩) ls (by simp)).trans cv; clear ht1))
    go_ret
    exact ⟨rfl, T1.out⟩
/-- What the program's cache has, of the machine. -/
theorem has_any (B b mb sb : Nat) (X : List Nat) (m : M) (nx : Int) (vX : Nat → Value) (w : World) (h : PCt B b mb sb X m nx vX w) (hn0 : 0 < m.nslots) (a : Nat) (ha : a ≤ 4294967295) :
    Calls Tryz.prog 74 #[.pointer (some ⟨b, 40, none⟩), .int .u32 a] w fun e w' => e = .returned (.bool (decide ((m.slots (a / 4 % m.nslots)).1 = a ∧ ¬ (m.slots (a / 4 % m.nslots)).2 = 0))) ∧ ref.Touch [] w w' := by
  have hne : m.nslots ≠ 0 := by omega
  have hS := h.cS
  rw [slotsV, if_neg hne] at hS
  obtain ⟨g, hr, hg⟩ := h.c.row hne
  have hi : a / 4 % m.nslots < m.nslots := Nat.mod_lt _ hn0
  obtain ⟨g1, g2⟩ := hg _ hi
  have cp := hr.pcs _ hi
  have cv := hr.vs _ hi
  rw [g1] at cp
  rcases g2 with ⟨e1, e2⟩ | ⟨k, n, c, e1, e2, e3, e4, e5, e7, e8, e9, e10⟩
  · rw [e2] at cv
    refine (has_row b sb m.nslots w hn0 h.c.le hS a ha _ none 0 0 cp cv).mono ?_
    rintro e w' ⟨rfl, ht⟩
    refine ⟨?_, ht⟩
    rw [e1]
    simp
  · rw [e4] at cv
    refine (has_row b sb m.nslots w hn0 h.c.le hS a ha _ _ n c cp cv).mono ?_
    rintro e w' ⟨rfl, ht⟩
    refine ⟨?_, ht⟩
    rw [e1]
    have e0 : ¬ (n : Int) = 0 := by omega
    exact congrArg (fun b => Ending.returned (Value.bool b)) (decide_eq_decide.2 ⟨fun x => ⟨x.1, e0⟩, fun x => ⟨x.1, e2⟩⟩)
theorem PW.tk {B E b mb sb : Nat} {m : M} {nx : Int} {vE vA : Value} {w : World} (h : PW B E b mb sb m nx vE vA w) (hn : m.nslots ≠ 0) (v : Int) : PW B E b mb sb { m with used := v } nx vE vA (w.setCell ⟨b, 42, none⟩ (.int .i64 v)) :=
  h.step (h.p.upd (m' := { m with used := v }) (nx' := nx) (vX' := PX { m with used := v } sb vE vA) 42 (by decide) (by decide) _ rfl rfl (fun i hi hM => Or.elim (Decidable.em (i = 42)) (fun e => by subst e; simp [layP, vX3, cacheV, hn]) (fun e => by
    have : i < 32 ∨ i = 33 ∨ i = 34 ∨ i = 35 ∨ i = 36 ∨ i = 37 ∨ i = 38 ∨ i = 39 ∨ i = 40 ∨ i = 41 ∨ i = 43 := by omega
    rw [if_neg e]
    rcases this with k | k | k | k | k | k | k | k | k | k | k <;> simp [layP, vX3, cacheV, k]))) ((ref.Touch.refl _ _).setCell (by simp) _) rfl rfl rfl rfl rfl
theorem PW.bt {B E b mb sb : Nat} {m : M} {nx : Int} {vE vA : Value} {w : World} (h : PW B E b mb sb m nx vE vA w) (v : Int) : PW B E b mb sb { m with built := v } nx vE vA (w.setCell ⟨b, 43, none⟩ (.int .i64 v)) :=
  h.step (h.p.upd (m' := { m with built := v }) (nx' := nx) (vX' := PX { m with built := v } sb vE vA) 43 (by decide) (by decide) _ rfl rfl (fun i hi hM => Or.elim (Decidable.em (i = 43)) (fun e => by subst e; simp [layP, vX3, cacheV]) (fun e => by
    have : i < 32 ∨ i = 33 ∨ i = 34 ∨ i = 35 ∨ i = 36 ∨ i = 37 ∨ i = 38 ∨ i = 39 ∨ i = 40 ∨ i = 41 ∨ i = 42 := by omega
    rw [if_neg e]
    rcases this with k | k | k | k | k | k | k | k | k | k | k <;> simp [layP, vX3, cacheV, k]))) ((ref.Touch.refl _ _).setCell (by simp) _) rfl rfl rfl rfl rfl
/-- The slots are turned, nothing else. -/
theorem PW.row {B E b mb sb : Nat} {m : M} {nx : Int} {vE vA : Value} {w w' : World} (h : PW B E b mb sb m nx vE vA w) (hz : 0 < m.size) (hn : m.nslots ≠ 0) (t : ref.Touch [sb] w w') (f : Nat → Int × Int) (g : Nat → Int × Value) (hr : RowIn sb m.nslots g w') (hg : ∀ i, i < m.nslots → (g i).1 = (f i).1 ∧ SlotV B (sb :: b :: mb :: ref.sblk vE) m.mem (f i) (g i).2 w') : PW B E b mb sb { m with slots := f } nx vE vA w' := by
  obtain ⟨s1, s2⟩ := h.c.sx hn
  simp at s2
  have n1 : b ∉ [sb] := by simpa using fun e => s2.1 e.symm
  have n2 : mb ∉ [sb] := by simpa using fun e => s2.2.1 e.symm
  have hbel : Below B w w' := t.below h.bs (by intro i hi; simp at hi; subst hi; exact h.hsb)
  have hp : PAt B b mb { m with slots := f } nx (PX m sb vE vA) w' := (h.p.other t n1 n2 hz).cong rfl rfl rfl rfl rfl rfl
  exact ⟨hp, h.be, Nat.le_trans h.eh t.size, ref.own_touch h.evs t (fun k hk => by simpa using (h.dE k hk).2.2), h.ans.below hbel, h.dE, ⟨h.c.le, h.c.sx, fun _ => ⟨g, hr, hg⟩⟩, h.hsb, Nat.lt_of_lt_of_le h.ls t.size⟩
theorem PW.zero {B E b mb sb : Nat} {m : M} {nx : Int} {vE vA : Value} {w : World} (h : PW B E b mb sb m nx vE vA w) (hz : 0 < m.size) (hn : m.nslots ≠ 0) : PW B E b mb sb { m with slots := fun _ => (0, 0) } nx vE vA (w.setCells sb 0 (zeroL m.nslots)) := by
  obtain ⟨g, hr, hg⟩ := h.c.row hn
  refine h.row hz hn (touch_setsP (by simp) _ _ _ _ (ref.Touch.refl _ _)) _ (fun _ => (0, nilV)) ?_ (fun i hi => ⟨rfl, Or.inl ⟨rfl, rfl⟩⟩)
  have := hr.zero 0 m.nslots (by omega)
  rw [Nat.zero_mul] at this
  exact this.congr (fun i hi => by rw [if_pos (by omega)])
theorem PW.slot {B E b mb sb : Nat} {m : M} {nx : Int} {vE vA : Value} {w : World} (h : PW B E b mb sb m nx vE vA w) (hz : 0 < m.size) (k : Nat) (hk : k < m.nslots) (p : Int × Int) (v : Value) (hv : SlotV B (sb :: b :: mb :: ref.sblk vE) m.mem p v w) :
    PW B E b mb sb { m with slots := fun i => if i = k then p else m.slots i } nx vE vA (w.setCells sb (k * 2) [.int .u32 p.1, v]) := by
  have hn : m.nslots ≠ 0 := by omega
  obtain ⟨g, hr, hg⟩ := h.c.row hn
  have t : ref.Touch [sb] w (w.setCells sb (k * 2) [.int .u32 p.1, v]) := touch_setsP (by simp) _ _ _ _ (ref.Touch.refl _ _)
  refine h.row hz hn t _ (fun i => if i = k then (p.1, v) else g i) (hr.upd hk p.1 v) (fun i hi => ?_)
  by_cases e : i = k
  · simp only [if_pos e]; exact ⟨trivial, hv.touch t (by simp)⟩
  · simp only [if_neg e]; exact ⟨(hg i hi).1, (hg i hi).2.touch t (by simp)⟩
theorem then_world {K : Act → World → Prop} {Q : Exit → Act → World → Prop} {a : Act} {W : World} (R : World → Prop) (hr : R W) (h : ∀ Y, R Y → Exit.then K Q .normal a Y) : Exit.then K Q .normal a W := h W hr
theorem wp_world {P : Program} {c : Code} {Q : Exit → Act → World → Prop} {a : Act} {W : World} (R : World → Prop) (hr : R W) (h : ∀ Y, R Y → Code.wp P c Q a Y) : Code.wp P c Q a W := h W hr
/-- On the way of keep: the machine, and the box with the new block. -/
structure KAt (w0 : World) (a n kb c : Nat) (B E b mb sb : Nat) (m : M) (nx : Int) (vE vA : Value) (Y : World) : Prop where
  pw : PW B E b mb sb m nx vE vA Y
  g0 : Y.cell? ⟨w0.heap.size, 0, none⟩ = some (.int .u32 (a : Int))
  g1 : Y.cell? ⟨w0.heap.size, 1, none⟩ = some (.slice (some ⟨kb, 0, none⟩) n c)
  tt : ref.Touch [b, sb] w0 Y
  sv : SlotV B (sb :: b :: mb :: ref.sblk vE) m.mem ((a : Int), (n : Int)) (.slice (some ⟨kb, 0, none⟩) n c) Y
  ng : w0.heap.size ≠ b ∧ w0.heap.size ≠ sb
theorem KAt.up {w0 : World} {a n kb c : Nat} {B E b mb sb : Nat} {m m' : M} {nx : Int} {vE vA : Value} {Y Y' : World} (h : KAt w0 a n kb c B E b mb sb m nx vE vA Y) (hp : PW B E b mb sb m' nx vE vA Y') (t : ref.Touch [b, sb] Y Y') (e : m'.mem = m.mem) : KAt w0 a n kb c B E b mb sb m' nx vE vA Y' := by
  have lg := World.block_lt_of_cell? _ _ h.g0
  have ng : w0.heap.size ∉ [b, sb] := by simp; exact h.ng
  exact ⟨hp, (t.cell (p := ⟨w0.heap.size, 0, none⟩) lg ng).trans h.g0, (t.cell (p := ⟨w0.heap.size, 1, none⟩) lg ng).trans h.g1, h.tt.trans t, by rw [e]; exact h.sv.touch t (by simp), h.ng⟩
end Go.Proofs.YtmogjicompmkkaaGreatDoor.prog

namespace Go.Proofs.YtmogjicompmkkaaGreatDoor.prog
open Go.ChangeShapes Go.WideShapes Go.ChangeAt Go.RowKit Go.Proofs.YtmogjicompmkkaaGreatDoor.nums Go.Proofs.YtmogjicompmkkaaGreatDoor.dnums Go.Proofs.YtmogjicompmkkaaGreatDoor.mach

set_option linter.unusedVariables false
set_option linter.unusedSimpArgs false
set_option maxRecDepth 10000
attribute [local go_sem ↓] Go.wp_at_zero Go.wp_at_succ
set_option maxHeartbeats 1000000 in
theorem keep_n (B E b mb sb : Nat) (m : M) (nx : Int) (vE vA : Value) (w : World) (h : PW B E b mb sb m nx vE vA w) (hz : 0 < m.size) (hn0 : 0 < m.nslots) (a n kb c : Nat) (ha : a ≤ 512) (hn8 : n ≤ 8) (u0 : 0 ≤ m.used) (u1 : m.used ≤ 256) (ar1 : m.arena ≤ 256) (bt0 : 0 ≤ m.built) (bt1 : m.built ≤ 5000) (hfull : ¬ m.arena < m.used + n)
    (hv : SlotV B (sb :: b :: mb :: ref.sblk vE) m.mem ((a : Int), (n : Int)) (.slice (some ⟨kb, 0, none⟩) n c) w) :
    Calls Tryz.prog 96 #[.pointer (some ⟨b, 40, none⟩), .agg #[.int .u32 (a : Int), .slice (some ⟨kb, 0, none⟩) n c]] w fun e w' => e = .returned (.tuple #[]) ∧ PW B E b mb sb { m with slots := fun i => if i = a / 4 % m.nslots then ((a : Int), (n : Int)) else m.slots i, used := m.used + n, built := m.built + 1 } nx vE vA w' ∧ ref.Touch [b, sb] w w' ∧ SlotV B (sb :: b :: mb :: ref.sblk vE) m.mem ((a : Int), (n : Int)) (.slice (some ⟨kb, 0, none⟩) n c) w' := by
  have hn : m.nslots ≠ 0 := by omega
  have hkn : a / 4 % m.nslots < m.nslots := Nat.mod_lt _ hn0
  have lb := h.lb
  have ls := h.ls
  have K0 : Hid (KAt w a n kb c B E b mb sb m nx vE vA (w.alloc (.cells #[.int .u32 (a : Int), .slice (some ⟨kb, 0, none⟩) n c] 116))) := ⟨h.quiet hz ((ref.Touch.refl _ _).alloc _), World.cell?_alloc_at _ _ _ _ rfl, World.cell?_alloc_at _ _ _ _ rfl, (ref.Touch.refl _ _).alloc _, hv.touch (S := []) ((ref.Touch.refl _ _).alloc _) (by simp), by omega, by omega⟩
  have HLE : Hid (m.nslots ≤ 64) := h.c.le
  have THR : Hid (∀ W, KAt w a n kb c B E b mb sb { m with used := m.used + n, built := m.built + 1 } nx vE vA W → W.there sb (a / 4 % m.nslots * 2) 2) := fun W hW => by
    obtain ⟨g, hr, _⟩ := hW.pw.c.row hn
    exact fun j hj => ⟨hr.there _ (by have : a / 4 % m.nslots < m.nslots := hkn; show _ < m.nslots * 2; omega), hr.free _⟩
  have d3 : decide (m.arena < m.used + (n : Int)) = false := by simp only [hfull, decide_false]
  have c2 : (w.alloc (.cells #[.int .u32 (a : Int), .slice (some ⟨kb, 0, none⟩) n c] 116)).cell? ⟨b, 42, none⟩ = some (.int .i64 m.used) := (K0.out.pw.p.cells 42 (by decide) (by decide)).trans (by simp [layP, vX3, cacheV, slotsV, hn])
  have c3 : (w.alloc (.cells #[.int .u32 (a : Int), .slice (some ⟨kb, 0, none⟩) n c] 116)).cell? ⟨b, 41, none⟩ = some (.int .i64 m.arena) := (K0.out.pw.p.cells 41 (by decide) (by decide)).trans (by simp [layP, vX3, cacheV, slotsV, hn])
  clear h hv
  go_enter Tryz.func96, Tryz.ntmps96
  go_wp2_with fail
  go_quiet (fail)
  refine then_world (fun Y => KAt w a n kb c B E b mb sb m nx vE vA Y) (K0.out.up (K0.out.pw.quiet hz ((ref.Touch.refl _ _).drewN _)) ((ref.Touch.refl _ _).drewN _) rfl) (fun Y1 HY1 => ?_)
  have lb1 : b < Y1.heap.size := HY1.pw.lb
  have g01 := HY1.g0
  have g11 := HY1.g1
  have y421 : Y1.cell? ⟨b, 42, none⟩ = some (.int .i64 m.used) := (HY1.pw.p.cells 42 (by decide) (by decide)).trans (by simp [layP, vX3, cacheV, slotsV, hn])
  have x421 := HY1.pw.p.free 42
  have y401 : Y1.cell? ⟨b, 40, none⟩ = some (.slice (some ⟨sb, 0, none⟩) m.nslots m.nslots) := (HY1.pw.p.cells 40 (by decide) (by decide)).trans (by simp [layP, vX3, cacheV, slotsV, hn])
  have x401 := HY1.pw.p.free 40
  have K1 : Hid (KAt w a n kb c B E b mb sb m nx vE vA Y1) := HY1
  clear HY1 c2 c3
  go_wp2_with fail
  go_region
  refine then_world (fun Y => KAt w a n kb c B E b mb sb { m with used := m.used + n } nx vE vA Y) (K1.out.up ((K1.out.pw.tk hn (m.used + n)).quiet hz (ref.Touch.refl _ _).drew) (((ref.Touch.refl _ _).setCell (by simp) _).drew) rfl) (fun Y2 HY2 => ?_)
  have lb2 : b < Y2.heap.size := HY2.pw.lb
  have g02 := HY2.g0
  have g12 := HY2.g1
  have y432 : Y2.cell? ⟨b, 43, none⟩ = some (.int .i64 m.built) := (HY2.pw.p.cells 43 (by decide) (by decide)).trans (by simp [layP, vX3, cacheV, slotsV, hn])
  have x432 := HY2.pw.p.free 43
  have K2 : Hid (KAt w a n kb c B E b mb sb { m with used := m.used + n } nx vE vA Y2) := HY2
  clear HY2
  have K3 : Hid (KAt w a n kb c B E b mb sb { m with used := m.used + n, built := m.built + 1 } nx vE vA (Y2.setCell ⟨b, 43, none⟩ (.int .i64 (m.built + 1)))) := K2.out.up (K2.out.pw.bt (m.built + 1)) ((ref.Touch.refl _ _).setCell (by simp) _) rfl
  go_wp2_with fail
  have h6i : (fun w' => w'.cell? ⟨w.heap.size, 0, none⟩ = some (.int .u32 (a : Int)) ∧ w'.cell? ⟨w.heap.size, 1, none⟩ = some (.slice (some ⟨kb, 0, none⟩) n c) ∧ w'.cell? ⟨b, 40, none⟩ = some (.slice (some ⟨sb, 0, none⟩) m.nslots m.nslots)) (Y2.setCell ⟨b, 43, none⟩ (.int .i64 (m.built + 1))).drew := ⟨K3.out.g0, K3.out.g1, (K3.out.pw.p.cells 40 (by decide) (by decide)).trans (by simp [layP, vX3, cacheV, slotsV, hn])⟩
  refine wp_region_held_drew (S := (fun w' => w'.cell? ⟨w.heap.size, 0, none⟩ = some (.int .u32 (a : Int)) ∧ w'.cell? ⟨w.heap.size, 1, none⟩ = some (.slice (some ⟨kb, 0, none⟩) n c) ∧ w'.cell? ⟨b, 40, none⟩ = some (.slice (some ⟨sb, 0, none⟩) m.nslots m.nslots))) (by kernel_rfl) (h6i) (fun hHeld => ?_)
  refine tk (i := 0) (oi := ⟨some 41, _, _, _, _, _⟩) (v := ?v41x334) rfl (by kernel_rfl) (fun _ _ _ h => h) (by rfl) ?h41x334 (by assumption) ?r41x334
  case h41x334 => intro w' hSw; (try dsimp only [sbx] at hSw); go_simp; try with_reducible rfl
  try simp only [Act.put, ly1, ly2, ly3]
  refine tk (i := 1) (oi := ⟨some 42, _, _, _, _, _⟩) (v := ?v42x335) rfl (by kernel_rfl) (fun _ _ _ h => h) (by rfl) ?h42x335 (by assumption) ?r42x335
  case h42x335 => intro w' hSw; (try dsimp only [sbx] at hSw); go_simp; try with_reducible rfl
  try simp only [Act.put, ly1, ly2, ly3]
  refine tk (i := 2) (oi := ⟨some 43, _, _, _, _, _⟩) (v := ?v43x336) rfl (by kernel_rfl) (fun _ _ _ h => h) (by rfl) ?h43x336 (by assumption) ?r43x336
  case h43x336 => intro w' hSw; (try dsimp only [sbx] at hSw); go_simp; try with_reducible rfl
  try simp only [Act.put, ly1, ly2, ly3]
  refine tk (i := 4) (oi := ⟨some 45, _, _, _, _, _⟩) (v := ?v45x337) rfl (by kernel_rfl) (fun _ _ _ h => h) (by rfl) ?h45x337 (by assumption) ?r45x337
  case h45x337 => intro w' hSw; (try dsimp only [sbx] at hSw); go_simp; try with_reducible rfl
  try simp only [Act.put, ly1, ly2, ly3]
  refine wpAnyH_ready (rs := [3]) (by kernel_rfl) (by simp) ?_
  refine AllReadyH.cons (o := ⟨some 44, _, _, _, _, _⟩) rfl (fun K hK => ?_) AllReadyH.nil
  rw [if_pos (by rfl)]
  go_simp
  refine (Calls.mono (slot_any b sb m.nslots _ hn0 HLE.out hHeld.2.2 a (by omega)) ?_)
  rintro e w6 ⟨rfl, ht6⟩
  have K6 : Hid (KAt w a n kb c B E b mb sb { m with used := m.used + n, built := m.built + 1 } nx vE vA w6) := K3.out.up (K3.out.pw.quiet hz (ref.Touch.trans (ref.Touch.refl _ _).drew ht6)) (ref.Touch.mono (S := []) (ref.Touch.trans (ref.Touch.refl _ _).drew ht6) (by simp)) rfl
  have h6 : (fun w' => w'.cell? ⟨w.heap.size, 0, none⟩ = some (.int .u32 (a : Int)) ∧ w'.cell? ⟨w.heap.size, 1, none⟩ = some (.slice (some ⟨kb, 0, none⟩) n c) ∧ w'.cell? ⟨b, 40, none⟩ = some (.slice (some ⟨sb, 0, none⟩) m.nslots m.nslots)) w6 := ⟨K6.out.g0, K6.out.g1, (K6.out.pw.p.cells 40 (by decide) (by decide)).trans (by simp [layP, vX3, cacheV, slotsV, hn])⟩
  clear ht6
  refine hK.out _ _ h6 (fun hHeld => ?_)
  clear hK K
  try simp only [Act.put, ly1, ly2, ly3]
  refine tk (i := 5) (oi := ⟨some 46, _, _, _, _, _⟩) (v := ?v46x338) rfl (by kernel_rfl) (fun _ _ _ h => h) (by rfl) ?h46x338 (by assumption) ?r46x338
  case h46x338 => intro w' hSw; (try dsimp only [sbx] at hSw); go_simp; try with_reducible rfl
  try simp only [Act.put, ly1, ly2, ly3]
  refine wpAnyH_ready (rs := [6]) (by kernel_rfl) (by simp) ?_
  refine AllReadyH.cons (o := ⟨none, _, _, _, _, _⟩) rfl (fun K hK => ?_) AllReadyH.nil
  rw [if_pos (by rfl)]
  refine wp_store_mid _ _ _ rfl sb (a / 4 % m.nslots * 2) #[.int .u32 (a : Int), .slice (some ⟨kb, 0, none⟩) n c] rfl rfl (by exact THR.out _ K6.out) info_bl (by simp [Value.oneCell']) ?_
  generalize h9 : World.setCells _ sb (a / 4 % m.nslots * 2) (Array.toList #[.int .u32 (a : Int), .slice (some ⟨kb, 0, none⟩) n c]) = w9
  have t9 : ref.Touch [b, sb] w6 w9 := by rw [← h9]; exact touch_setsP (by simp) _ _ _ _ (ref.Touch.refl _ _)
  have K9 : Hid (KAt w a n kb c B E b mb sb { m with slots := fun i => if i = a / 4 % m.nslots then ((a : Int), (n : Int)) else m.slots i, used := m.used + n, built := m.built + 1 } nx vE vA w9) := K6.out.up (by rw [← h9]; exact K6.out.pw.slot hz _ hkn ((a : Int), (n : Int)) _ K6.out.sv) t9 rfl
  have h9s : (fun w' => w'.cell? ⟨w.heap.size, 0, none⟩ = some (.int .u32 (a : Int)) ∧ w'.cell? ⟨w.heap.size, 1, none⟩ = some (.slice (some ⟨kb, 0, none⟩) n c) ∧ w'.cell? ⟨b, 40, none⟩ = some (.slice (some ⟨sb, 0, none⟩) m.nslots m.nslots)) w9 := ⟨K9.out.g0, K9.out.g1, (K9.out.pw.p.cells 40 (by decide) (by decide)).trans (by simp [layP, vX3, cacheV, slotsV, hn])⟩
  clear h9 t9
  refine hK.out _ _ h9s (fun hHeld9 => ?_)
  clear hK K
  try simp only [Act.put, ly1, ly2, ly3]
  refine wpAnyH_done (by kernel_rfl) ?_ _
  go_wp2_with fail
  go_end0
  exact ⟨rfl, K9.out.pw, K9.out.tt, K9.out.sv⟩
set_option maxHeartbeats 1000000 in
theorem keep_f (B E b mb sb : Nat) (m : M) (nx : Int) (vE vA : Value) (w : World) (h : PW B E b mb sb m nx vE vA w) (hz : 0 < m.size) (hn0 : 0 < m.nslots) (a n kb c : Nat) (ha : a ≤ 512) (hn8 : n ≤ 8) (u0 : 0 ≤ m.used) (u1 : m.used ≤ 256) (ar1 : m.arena ≤ 256) (bt0 : 0 ≤ m.built) (bt1 : m.built ≤ 5000) (hfull : m.arena < m.used + n)
    (hv : SlotV B (sb :: b :: mb :: ref.sblk vE) m.mem ((a : Int), (n : Int)) (.slice (some ⟨kb, 0, none⟩) n c) w) :
    Calls Tryz.prog 96 #[.pointer (some ⟨b, 40, none⟩), .agg #[.int .u32 (a : Int), .slice (some ⟨kb, 0, none⟩) n c]] w fun e w' => e = .returned (.tuple #[]) ∧ PW B E b mb sb { m with slots := fun i => if i = a / 4 % m.nslots then ((a : Int), (n : Int)) else (0, 0), used := (n : Int), built := m.built + 1 } nx vE vA w' ∧ ref.Touch [b, sb] w w' ∧ SlotV B (sb :: b :: mb :: ref.sblk vE) m.mem ((a : Int), (n : Int)) (.slice (some ⟨kb, 0, none⟩) n c) w' := by
  have hn : m.nslots ≠ 0 := by omega
  have hkn : a / 4 % m.nslots < m.nslots := Nat.mod_lt _ hn0
  have lb := h.lb
  have ls := h.ls
  have K0 : Hid (KAt w a n kb c B E b mb sb m nx vE vA (w.alloc (.cells #[.int .u32 (a : Int), .slice (some ⟨kb, 0, none⟩) n c] 116))) := ⟨h.quiet hz ((ref.Touch.refl _ _).alloc _), World.cell?_alloc_at _ _ _ _ rfl, World.cell?_alloc_at _ _ _ _ rfl, (ref.Touch.refl _ _).alloc _, hv.touch (S := []) ((ref.Touch.refl _ _).alloc _) (by simp), by omega, by omega⟩
  have HLE : Hid (m.nslots ≤ 64) := h.c.le
  have THR : Hid (∀ W, KAt w a n kb c B E b mb sb { m with slots := fun _ => (0, 0), used := (n : Int), built := m.built + 1 } nx vE vA W → W.there sb (a / 4 % m.nslots * 2) 2) := fun W hW => by
    obtain ⟨g, hr, _⟩ := hW.pw.c.row hn
    exact fun j hj => ⟨hr.there _ (by have : a / 4 % m.nslots < m.nslots := hkn; show _ < m.nslots * 2; omega), hr.free _⟩
  have d3 : decide (m.arena < m.used + (n : Int)) = true := by simp; omega
  have c2 : (w.alloc (.cells #[.int .u32 (a : Int), .slice (some ⟨kb, 0, none⟩) n c] 116)).cell? ⟨b, 42, none⟩ = some (.int .i64 m.used) := (K0.out.pw.p.cells 42 (by decide) (by decide)).trans (by simp [layP, vX3, cacheV, slotsV, hn])
  have c3 : (w.alloc (.cells #[.int .u32 (a : Int), .slice (some ⟨kb, 0, none⟩) n c] 116)).cell? ⟨b, 41, none⟩ = some (.int .i64 m.arena) := (K0.out.pw.p.cells 41 (by decide) (by decide)).trans (by simp [layP, vX3, cacheV, slotsV, hn])
  clear h hv
  go_enter Tryz.func96, Tryz.ntmps96
  go_wp2_with fail
  go_quiet (fail)
  refine then_world (fun Y => KAt w a n kb c B E b mb sb m nx vE vA Y) (K0.out.up (K0.out.pw.quiet hz ((ref.Touch.refl _ _).drewN _)) ((ref.Touch.refl _ _).drewN _) rfl) (fun Y1 HY1 => ?_)
  have lb1 : b < Y1.heap.size := HY1.pw.lb
  have g01 := HY1.g0
  have g11 := HY1.g1
  have y421 : Y1.cell? ⟨b, 42, none⟩ = some (.int .i64 m.used) := (HY1.pw.p.cells 42 (by decide) (by decide)).trans (by simp [layP, vX3, cacheV, slotsV, hn])
  have x421 := HY1.pw.p.free 42
  have y401 : Y1.cell? ⟨b, 40, none⟩ = some (.slice (some ⟨sb, 0, none⟩) m.nslots m.nslots) := (HY1.pw.p.cells 40 (by decide) (by decide)).trans (by simp [layP, vX3, cacheV, slotsV, hn])
  have x401 := HY1.pw.p.free 40
  have K1 : Hid (KAt w a n kb c B E b mb sb m nx vE vA Y1) := HY1
  clear HY1 c2 c3
  have hcl : ∀ ty, (Builtin.clear_ #[77] ty #[.slice (some ⟨sb, 0, none⟩) m.nslots m.nslots]).run Tryz.prog Y1 = .ok (.tuple #[]) (Y1.setCells sb 0 (zeroL m.nslots)) := fun ty => by
    obtain ⟨g, hr, _⟩ := K1.out.pw.c.row hn
    exact clear_row Y1 ty sb 0 m.nslots m.nslots hn0 (fun j hj => by rw [Nat.zero_add]; exact hr.there j hj) hr.free
  have KZ : Hid (KAt w a n kb c B E b mb sb { m with slots := fun _ => (0, 0) } nx vE vA (Y1.setCells sb 0 (zeroL m.nslots))) := K1.out.up (K1.out.pw.zero hz hn) (touch_setsP (by simp) _ _ _ _ (ref.Touch.refl _ _)) rfl
  obtain ⟨Yz, hYz⟩ : ∃ Yz, Yz = Y1.setCells sb 0 (zeroL m.nslots) := ⟨_, rfl⟩
  rw [← hYz] at KZ
  simp only [← hYz] at hcl
  clear hYz
  have yzT : ∃ u, Yz.cell? ⟨b, 42, none⟩ = some u := KZ.out.pw.p.there 42 (by decide)
  obtain ⟨uz, yzT⟩ := yzT
  have xzT := KZ.out.pw.p.free 42
  have lbz := KZ.out.pw.lb
  have KC : Hid (KAt w a n kb c B E b mb sb { m with slots := fun _ => (0, 0), used := 0 } nx vE vA (Yz.setCell ⟨b, 42, none⟩ (.int .i64 0))) := KZ.out.up (KZ.out.pw.tk hn 0) ((ref.Touch.refl _ _).setCell (by simp) _) rfl
  go_wp2_with fail
  refine wp_world (fun Y => KAt w a n kb c B E b mb sb { m with slots := fun _ => (0, 0), used := 0 } nx vE vA Y) KC.out (fun Yc HYc => ?_)
  have lbc : b < Yc.heap.size := HYc.pw.lb
  have g0c := HYc.g0
  have g1c := HYc.g1
  have y42c : Yc.cell? ⟨b, 42, none⟩ = some (.int .i64 0) := (HYc.pw.p.cells 42 (by decide) (by decide)).trans (by simp [layP, vX3, cacheV, slotsV, hn])
  have x42c := HYc.pw.p.free 42
  have Kc : Hid (KAt w a n kb c B E b mb sb { m with slots := fun _ => (0, 0), used := 0 } nx vE vA Yc) := HYc
  clear HYc
  go_region
  refine then_world (fun Y => KAt w a n kb c B E b mb sb { m with slots := fun _ => (0, 0), used := (n : Int) } nx vE vA Y) (Kc.out.up ((Kc.out.pw.tk hn ((n : Int))).quiet hz (ref.Touch.refl _ _).drew) (((ref.Touch.refl _ _).setCell (by simp) _).drew) rfl) (fun Y2 HY2 => ?_)
  have lb2 : b < Y2.heap.size := HY2.pw.lb
  have g02 := HY2.g0
  have g12 := HY2.g1
  have y432 : Y2.cell? ⟨b, 43, none⟩ = some (.int .i64 m.built) := (HY2.pw.p.cells 43 (by decide) (by decide)).trans (by simp [layP, vX3, cacheV, slotsV, hn])
  have x432 := HY2.pw.p.free 43
  have K2 : Hid (KAt w a n kb c B E b mb sb { m with slots := fun _ => (0, 0), used := (n : Int) } nx vE vA Y2) := HY2
  clear HY2
  have K3 : Hid (KAt w a n kb c B E b mb sb { m with slots := fun _ => (0, 0), used := (n : Int), built := m.built + 1 } nx vE vA (Y2.setCell ⟨b, 43, none⟩ (.int .i64 (m.built + 1)))) := K2.out.up (K2.out.pw.bt (m.built + 1)) ((ref.Touch.refl _ _).setCell (by simp) _) rfl
  go_wp2_with fail
  have h6i : (fun w' => w'.cell? ⟨w.heap.size, 0, none⟩ = some (.int .u32 (a : Int)) ∧ w'.cell? ⟨w.heap.size, 1, none⟩ = some (.slice (some ⟨kb, 0, none⟩) n c) ∧ w'.cell? ⟨b, 40, none⟩ = some (.slice (some ⟨sb, 0, none⟩) m.nslots m.nslots)) (Y2.setCell ⟨b, 43, none⟩ (.int .i64 (m.built + 1))).drew := ⟨K3.out.g0, K3.out.g1, (K3.out.pw.p.cells 40 (by decide) (by decide)).trans (by simp [layP, vX3, cacheV, slotsV, hn])⟩
  refine wp_region_held_drew (S := (fun w' => w'.cell? ⟨w.heap.size, 0, none⟩ = some (.int .u32 (a : Int)) ∧ w'.cell? ⟨w.heap.size, 1, none⟩ = some (.slice (some ⟨kb, 0, none⟩) n c) ∧ w'.cell? ⟨b, 40, none⟩ = some (.slice (some ⟨sb, 0, none⟩) m.nslots m.nslots))) (by kernel_rfl) (h6i) (fun hHeld => ?_)
  refine tk (i := 0) (oi := ⟨some 41, _, _, _, _, _⟩) (v := ?v41x339) rfl (by kernel_rfl) (fun _ _ _ h => h) (by rfl) ?h41x339 (by assumption) ?r41x339
  case h41x339 => intro w' hSw; (try dsimp only [sbx] at hSw); go_simp; try with_reducible rfl
  try simp only [Act.put, ly1, ly2, ly3]
  refine tk (i := 1) (oi := ⟨some 42, _, _, _, _, _⟩) (v := ?v42x340) rfl (by kernel_rfl) (fun _ _ _ h => h) (by rfl) ?h42x340 (by assumption) ?r42x340
  case h42x340 => intro w' hSw; (try dsimp only [sbx] at hSw); go_simp; try with_reducible rfl
  try simp only [Act.put, ly1, ly2, ly3]
  refine tk (i := 2) (oi := ⟨some 43, _, _, _, _, _⟩) (v := ?v43x341) rfl (by kernel_rfl) (fun _ _ _ h => h) (by rfl) ?h43x341 (by assumption) ?r43x341
  case h43x341 => intro w' hSw; (try dsimp only [sbx] at hSw); go_simp; try with_reducible rfl
  try simp only [Act.put, ly1, ly2, ly3]
  refine tk (i := 4) (oi := ⟨some 45, _, _, _, _, _⟩) (v := ?v45x342) rfl (by kernel_rfl) (fun _ _ _ h => h) (by rfl) ?h45x342 (by assumption) ?r45x342
  case h45x342 => intro w' hSw; (try dsimp only [sbx] at hSw); go_simp; try with_reducible rfl
  try simp only [Act.put, ly1, ly2, ly3]
  refine wpAnyH_ready (rs := [3]) (by kernel_rfl) (by simp) ?_
  refine AllReadyH.cons (o := ⟨some 44, _, _, _, _, _⟩) rfl (fun K hK => ?_) AllReadyH.nil
  rw [if_pos (by rfl)]
  go_simp
  refine (Calls.mono (slot_any b sb m.nslots _ hn0 HLE.out hHeld.2.2 a (by omega)) ?_)
  rintro e w6 ⟨rfl, ht6⟩
  have K6 : Hid (KAt w a n kb c B E b mb sb { m with slots := fun _ => (0, 0), used := (n : Int), built := m.built + 1 } nx vE vA w6) := K3.out.up (K3.out.pw.quiet hz (ref.Touch.trans (ref.Touch.refl _ _).drew ht6)) (ref.Touch.mono (S := []) (ref.Touch.trans (ref.Touch.refl _ _).drew ht6) (by simp)) rfl
  have h6 : (fun w' => w'.cell? ⟨w.heap.size, 0, none⟩ = some (.int .u32 (a : Int)) ∧ w'.cell? ⟨w.heap.size, 1, none⟩ = some (.slice (some ⟨kb, 0, none⟩) n c) ∧ w'.cell? ⟨b, 40, none⟩ = some (.slice (some ⟨sb, 0, none⟩) m.nslots m.nslots)) w6 := ⟨K6.out.g0, K6.out.g1, (K6.out.pw.p.cells 40 (by decide) (by decide)).trans (by simp [layP, vX3, cacheV, slotsV, hn])⟩
  clear ht6
  refine hK.out _ _ h6 (fun hHeld => ?_)
  clear hK K
  try simp only [Act.put, ly1, ly2, ly3]
  refine tk (i := 5) (oi := ⟨some 46, _, _, _, _, _⟩) (v := ?v46x343) rfl (by kernel_rfl) (fun _ _ _ h => h) (by rfl) ?h46x343 (by assumption) ?r46x343
  case h46x343 => intro w' hSw; (try dsimp only [sbx] at hSw); go_simp; try with_reducible rfl
  try simp only [Act.put, ly1, ly2, ly3]
  refine wpAnyH_ready (rs := [6]) (by kernel_rfl) (by simp) ?_
  refine AllReadyH.cons (o := ⟨none, _, _, _, _, _⟩) rfl (fun K hK => ?_) AllReadyH.nil
  rw [if_pos (by rfl)]
  refine wp_store_mid _ _ _ rfl sb (a / 4 % m.nslots * 2) #[.int .u32 (a : Int), .slice (some ⟨kb, 0, none⟩) n c] rfl rfl (by exact THR.out _ K6.out) info_bl (by simp [Value.oneCell']) ?_
  generalize h9 : World.setCells _ sb (a / 4 % m.nslots * 2) (Array.toList #[.int .u32 (a : Int), .slice (some ⟨kb, 0, none⟩) n c]) = w9
  have t9 : ref.Touch [b, sb] w6 w9 := by rw [← h9]; exact touch_setsP (by simp) _ _ _ _ (ref.Touch.refl _ _)
  have K9 : Hid (KAt w a n kb c B E b mb sb { m with slots := fun i => if i = a / 4 % m.nslots then ((a : Int), (n : Int)) else (0, 0), used := (n : Int), built := m.built + 1 } nx vE vA w9) := K6.out.up (by rw [← h9]; exact K6.out.pw.slot hz _ hkn ((a : Int), (n : Int)) _ K6.out.sv) t9 rfl
  have h9s : (fun w' => w'.cell? ⟨w.heap.size, 0, none⟩ = some (.int .u32 (a : Int)) ∧ w'.cell? ⟨w.heap.size, 1, none⟩ = some (.slice (some ⟨kb, 0, none⟩) n c) ∧ w'.cell? ⟨b, 40, none⟩ = some (.slice (some ⟨sb, 0, none⟩) m.nslots m.nslots)) w9 := ⟨K9.out.g0, K9.out.g1, (K9.out.pw.p.cells 40 (by decide) (by decide)).trans (by simp [layP, vX3, cacheV, slotsV, hn])⟩
  clear h9 t9
  refine hK.out _ _ h9s (fun hHeld9 => ?_)
  clear hK K
  try simp only [Act.put, ly1, ly2, ly3]
  refine wpAnyH_done (by kernel_rfl) ?_ _
  go_wp2_with fail
  go_end0
  exact ⟨rfl, K9.out.pw, K9.out.tt, K9.out.sv⟩
end Go.Proofs.YtmogjicompmkkaaGreatDoor.prog
