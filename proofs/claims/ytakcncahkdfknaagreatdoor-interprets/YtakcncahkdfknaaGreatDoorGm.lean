import Derived.Test.YtakcncahkdfknaaGreatDoorGl
import Derived.Test.YtakcncahkdfknaaGreatDoorGj
import Derived.Test.YtakcncahkdfknaaGreatDoorGa
import Derived.Lib.LazyBuf
namespace Go.Proofs.YtakcncahkdfknaaGreatDoor.prog
open Go.ChangeShapes Go.WideShapes Go.ChangeAt Go.RowKit Go.Proofs.YtakcncahkdfknaaGreatDoor.nums Go.Proofs.YtakcncahkdfknaaGreatDoor.dnums Go.Proofs.YtakcncahkdfknaaGreatDoor.mach

set_option linter.unusedVariables false
set_option linter.unusedSimpArgs false
attribute [local go_sem ↓] Go.wp_at_zero Go.wp_at_succ
/-- The cells that are no plain number, and the image's end. -/
def vX3 (lo : Int) (vE vA : Value) (i : Nat) : Value := if i = 35 then .int .u32 lo else if i = 37 then vA else vE
/-- The program's Machine with its rows. -/
structure PW (B E b mb : Nat) (m : M) (nx : Int) (vE vA : Value) (w : World) : Prop where
  p : PAt B b mb m nx (vX3 m.low vE vA) w
  be : B ≤ E
  eh : E ≤ w.heap.size
  evs : w.ownsRow E 56 3 vE m.evs.length (ref.evCells m.evs)
  ans : ref.AnsAt B m.ans vA w
  dE : ∀ k, k ∈ ref.sblk vE → k ≠ b ∧ k ≠ mb
theorem PW.lb {B E b mb : Nat} {m : M} {nx : Int} {vE vA : Value} {w : World} (h : PW B E b mb m nx vE vA w) : b < w.heap.size := World.block_lt_of_cell? _ _ h.p.data
theorem PW.bs {B E b mb : Nat} {m : M} {nx : Int} {vE vA : Value} {w : World} (h : PW B E b mb m nx vE vA w) : B ≤ w.heap.size := Nat.le_trans h.p.hb (Nat.le_of_lt h.lb)
theorem PW.step {B E b mb : Nat} {m m' : M} {nx nx' : Int} {vE vA : Value} {w w' : World} (h : PW B E b mb m nx vE vA w) (hp : PAt B b mb m' nx' (vX3 m'.low vE vA) w') (t : ref.Touch [b, mb] w w') (e1 : m'.evs = m.evs) (e2 : m'.ans = m.ans) : PW B E b mb m' nx' vE vA w' := by
  have hbel : Below B w w' := t.below h.bs (by intro i hi; simp at hi; rcases hi with rfl | rfl; exact h.p.hb; exact h.p.hmb)
  refine ⟨hp, h.be, Nat.le_trans h.eh t.size, ?_, ?_, h.dE⟩
  · rw [e1]; exact ref.own_touch h.evs t (fun k hk => by have := h.dE k hk; simp [this.1, this.2])
  · rw [e2]; exact h.ans.below hbel
theorem PW.quiet {B E b mb : Nat} {m : M} {nx : Int} {vE vA : Value} {w w' : World} (h : PW B E b mb m nx vE vA w) (hz : 0 < m.size) (t : ref.Touch [] w w') : PW B E b mb m nx vE vA w' :=
  h.step (h.p.other t (by simp) (by simp) hz) (t.mono (by simp)) rfl rfl
/-- Machines that the program's Machine can't tell apart. -/
theorem PW.congr {B E b mb : Nat} {m m' : M} {nx : Int} {vE vA : Value} {w : World} (h : PW B E b mb m nx vE vA w) (e1 : m'.regs = m.regs) (e2 : m'.pc = m.pc) (e3 : m'.brk = m.brk) (e4 : m'.steps = m.steps) (e5 : m'.mem = m.mem) (e6 : m'.size = m.size) (e7 : m'.low = m.low) (e8 : m'.evs = m.evs) (e9 : m'.ans = m.ans) : PW B E b mb m' nx vE vA w := by
  refine ⟨⟨h.p.hb, h.p.hmb, h.p.ne, fun i hi hM => ?_, ?_, h.p.free, fun i hi => ?_, h.p.freem⟩, h.be, h.eh, by rw [e8]; exact h.evs, by rw [e9]; exact h.ans, h.dE⟩
  · rw [h.p.cells i hi hM]
    simp only [layP, e1, e2, e3, e4, e7]
  · rw [e6]; exact h.p.data
  · rw [e5]; exact h.p.bytes i (by rw [e6] at hi; exact hi)
theorem PW.cE {B E b mb : Nat} {m : M} {nx : Int} {vE vA : Value} {w : World} (h : PW B E b mb m nx vE vA w) : w.cell? ⟨b, 38, none⟩ = some vE := h.p.cells 38 (by decide) (by decide)
theorem PW.cA {B E b mb : Nat} {m : M} {nx : Int} {vE vA : Value} {w : World} (h : PW B E b mb m nx vE vA w) : w.cell? ⟨b, 37, none⟩ = some vA := h.p.cells 37 (by decide) (by decide)
theorem PW.cL {B E b mb : Nat} {m : M} {nx : Int} {vE vA : Value} {w : World} (h : PW B E b mb m nx vE vA w) : w.cell? ⟨b, 35, none⟩ = some (.int .u32 m.low) := h.p.cells 35 (by decide) (by decide)
theorem at_evs (B E b mb : Nat) (m : M) (nx : Int) (vE vA : Value) (w : World) (h : PW B E b mb m nx vE vA w) (l : List Ev) (v : Value) : PAt B b mb { m with evs := l } nx (vX3 m.low v vA) (w.setCell ⟨b, 38, none⟩ v) :=
  h.p.upd (m' := { m with evs := l }) (nx' := nx) (vX' := vX3 m.low v vA) 38 (by decide) (by decide) _ rfl rfl (fun i hi hM => Or.elim (Decidable.em (i = 38)) (fun e => by subst e; simp [layP, vX3]) (fun e => by
    have : i < 32 ∨ i = 33 ∨ i = 34 ∨ i = 35 ∨ i = 36 ∨ i = 37 ∨ i = 39 := by omega
    rw [if_neg e]
    rcases this with k | k | k | k | k | k | k <;> simp [layP, vX3, k]))
theorem at_ans (B E b mb : Nat) (m : M) (nx : Int) (vE vA : Value) (w : World) (h : PW B E b mb m nx vE vA w) (l : List ByteArray) (v : Value) : PAt B b mb { m with ans := l } nx (vX3 m.low vE v) (w.setCell ⟨b, 37, none⟩ v) :=
  h.p.upd (m' := { m with ans := l }) (nx' := nx) (vX' := vX3 m.low vE v) 37 (by decide) (by decide) _ rfl rfl (fun i hi hM => Or.elim (Decidable.em (i = 37)) (fun e => by subst e; simp [layP, vX3]) (fun e => by
    have : i < 32 ∨ i = 33 ∨ i = 34 ∨ i = 35 ∨ i = 36 ∨ i = 38 ∨ i = 39 := by omega
    rw [if_neg e]
    rcases this with k | k | k | k | k | k | k <;> simp [layP, vX3, k]))
theorem at_brk (B b mb : Nat) (m : M) (nx : Int) (vX : Nat → Value) (w : World) (h : PAt B b mb m nx vX w) (v : Int) : PAt B b mb { m with brk := v } nx vX (w.setCell ⟨b, 36, none⟩ (.int .u32 v)) :=
  h.upd (m' := { m with brk := v }) (nx' := nx) (vX' := vX) 36 (by decide) (by decide) _ rfl rfl (fun i hi hM => Or.elim (Decidable.em (i = 36)) (fun e => by subst e; simp [layP]) (fun e => by simp [layP, e]))
/-- What is left of the row of events behind an append. -/
theorem grown_p {B E b mb : Nat} {m : M} {nx : Int} {vE vA : Value} {w w1 : World} {o : Obj} {g : Nat} (h : PW B E b mb m nx vE vA w) (hz : 0 < m.size) (hgrow : (w.alloc o).grownBy w1 vE.ownBlock) (hat : vE.ownBlock = some g ∨ g = w.heap.size + 1) :
    PAt B b mb m nx (vX3 m.low vE vA) w1 ∧ ref.Touch (ref.sblk vE) w w1 ∧ (g ≠ b ∧ g ≠ mb) ∧ Below B w w1 := by
  have ht : ref.Touch (ref.sblk vE) w w1 := ((ref.Touch.refl _ _).alloc _).trans (ref.touch_grown hgrow)
  have lb := h.lb
  have lm : mb < w.heap.size := World.block_lt_of_cell? _ _ (h.p.bytes 0 hz)
  refine ⟨h.p.other ht (fun hc => (h.dE b hc).1 rfl) (fun hc => (h.dE mb hc).2 rfl) hz, ht, ?_, ?_⟩
  · rcases hat with hat | hat
    · exact h.dE g (ref.sblk_own.2 hat)
    · subst hat; exact ⟨by omega, by omega⟩
  · exact ht.below h.bs (fun k hk => Nat.le_trans h.be (ref.own_lt h.evs k hk).1)
theorem pw_ev {B E b mb : Nat} {m : M} {nx : Int} {vE vA : Value} {w w1 : World} {g cap : Nat} {ev : Ev} (h : PW B E b mb m nx vE vA w) (hp : PAt B b mb m nx (vX3 m.low vE vA) w1) (hd : g ≠ b ∧ g ≠ mb) (hbel : Below B w w1)
    (ho : w1.ownsRow E 56 3 (.slice (some ⟨g, 0, none⟩) (m.evs.length + 1) cap) (m.evs.length + 1) (ref.evCells m.evs ++ [Value.int .u32 ev.call, Value.int .u32 ev.result, Value.string ev.data])) :
    PW B E b mb { m with evs := m.evs ++ [ev] } nx (.slice (some ⟨g, 0, none⟩) (m.evs.length + 1) cap) vA (w1.setCell ⟨b, 38, none⟩ (.slice (some ⟨g, 0, none⟩) (m.evs.length + 1) cap)) := by
  have t : ref.Touch [b] w1 (w1.setCell ⟨b, 38, none⟩ (.slice (some ⟨g, 0, none⟩) (m.evs.length + 1) cap)) := (ref.Touch.refl _ _).setCell (by simp) _
  have hB1 : B ≤ w1.heap.size := Nat.le_trans h.bs hbel.size
  have hb2 : Below B w (w1.setCell ⟨b, 38, none⟩ (.slice (some ⟨g, 0, none⟩) (m.evs.length + 1) cap)) := hbel.trans (t.below hB1 (by intro i hi; simp at hi; subst hi; exact h.p.hb))
  have hp1 : PAt B b mb { m with evs := m.evs ++ [ev] } nx (vX3 m.low (.slice (some ⟨g, 0, none⟩) (m.evs.length + 1) cap) vA) (w1.setCell ⟨b, 38, none⟩ (.slice (some ⟨g, 0, none⟩) (m.evs.length + 1) cap)) :=
    hp.upd (m' := { m with evs := m.evs ++ [ev] }) (nx' := nx) (vX' := vX3 m.low (.slice (some ⟨g, 0, none⟩) (m.evs.length + 1) cap) vA) 38 (by decide) (by decide) _ rfl rfl (fun i hi hM => Or.elim (Decidable.em (i = 38)) (fun e => by subst e; simp [layP, vX3]) (fun e => by
    have : i < 32 ∨ i = 33 ∨ i = 34 ∨ i = 35 ∨ i = 36 ∨ i = 37 ∨ i = 39 := by omega
    rw [if_neg e]
    rcases this with k | k | k | k | k | k | k <;> simp [layP, vX3, k]))
  refine ⟨hp1, h.be, Nat.le_trans h.eh hb2.size, ?_, h.ans.below hb2, ?_⟩
  · have := ref.own_touch ho t (by simp [ref.sblk]; exact hd.1)
    show World.ownsRow _ _ _ _ _ (m.evs ++ [ev]).length (ref.evCells (m.evs ++ [ev]))
    rw [List.length_append]
    rw [show ref.evCells (m.evs ++ [ev]) = ref.evCells m.evs ++ [Value.int .u32 ev.call, Value.int .u32 ev.result, Value.string ev.data] from ref.evCells_add _ _ _ _]
    exact this
  · intro k hk2
    simp [ref.sblk] at hk2
    subst hk2
    exact hd
set_option maxRecDepth 10000 in
set_option maxHeartbeats 1000000 in
theorem tell_any (B E b mb : Nat) (m : M) (nx : Int) (vE vA : Value) (w : World) (h : PW B E b mb m nx vE vA w) (hz : 0 < m.size) (hsz : m.evs.length ≤ 2000) (c r : Int) (d : ByteArray) :
    Calls Tryz.prog 109 #[.pointer (some ⟨b, 0, none⟩), .agg #[.int .u32 c, .int .u32 r, .string d]] w fun e w' => e = .returned (.tuple #[]) ∧ ∃ vE', PW B E b mb { m with evs := m.evs ++ [⟨c, r, d⟩] } nx vE' vA w' ∧ ref.Touch (b :: ref.sblk vE) w w' := by
  have HH : Hid (PW B E b mb m nx vE vA (w.alloc (.cells #[.int .u32 c, .int .u32 r, .string d] 56))) := h.quiet hz ((ref.Touch.refl _ _).alloc _)
  obtain ⟨i0, hi, hz0, hz1, hz2⟩ := info_parts ref.info_ev
  have lb : b < w.heap.size := h.lb
  have HBs : Hid (E ≤ w.heap.size + 1 + 1) := (by have := h.eh; omega : E ≤ w.heap.size + 1 + 1)
  have cE : (w.alloc (.cells #[.int .u32 c, .int .u32 r, .string d] 56)).cell? ⟨b, 38, none⟩ = some vE := HH.out.cE
  clear h
  go_enter Tryz.func109, Tryz.ntmps109
  go_wp2_with fail
  go_region_law ((refine step_append_lies _ (by rfl) _ _ _ (by rfl) E 56 i0 _ 3 24 Tryz.underlying30 hi hz0 hz1 hz2 (by rfl) (by decide) vE m.evs.length (ref.evCells m.evs) (by rfl) ((HH.out.evs.alloc _).drew) ⟨(w.alloc (.cells #[.int .u32 c, .int .u32 r, .string d] 56)).heap.size, 0, none⟩ 1 1 [Value.int .u32 c, Value.int .u32 r, Value.string d] (by first | rfl | (simp; rfl)) (by rfl) (World.news_of_block (cs := #[.int .u32 c, .int .u32 r, .string d]) (t := 56) (fr := (0, 0)) (heap_alloc_new (w.alloc (.cells #[.int .u32 c, .int .u32 r, .string d] 56)) _)) (by simp [Value.oneCell']) (by decide) (by unfold maxLen; omega) (by omega) (by simpa using HBs.out) ((w.alloc (.cells #[.int .u32 c, .int .u32 r, .string d] 56)).heap.size + 1) (by simp) ?_); intro g cap w1 hown hgrow hat hlt2; obtain ⟨hr, ht, hd, hbel⟩ := grown_p HH.out hz (ref.grown_undrew hgrow) hat; have HR : Hid (PAt B b mb m nx (vX3 m.low vE vA) w1) := hr; have HT : Hid (ref.Touch (ref.sblk vE) (w.alloc (.cells #[.int .u32 c, .int .u32 r, .string d] 56)) w1) := ht; have HD : Hid (g ≠ b ∧ g ≠ mb) := hd; have HB : Hid (Below B (w.alloc (.cells #[.int .u32 c, .int .u32 r, .string d] 56)) w1) := hbel; have HO : Hid (w1.ownsRow E 56 3 (.slice (some ⟨g, 0, none⟩) (m.evs.length + 1) cap) (m.evs.length + 1) (ref.evCells m.evs ++ [Value.int .u32 c, Value.int .u32 r, Value.string d])) := hown; have dE : w1.cell? ⟨b, 38, none⟩ = some vE := hr.cells 38 (by decide) (by decide); have fE := hr.free 38; clear hr ht hd hbel hown hat hlt2)
  all_goals go_wp2_with fail
  all_goals go_end0
  all_goals (refine ⟨rfl, _, pw_ev (ev := ⟨c, r, d⟩) HH.out HR.out HD.out HB.out HO.out, ?_⟩; exact ref.Touch.setCell ((((ref.Touch.refl _ _).alloc _).trans HT.out).mono (by simp; intro i hi; exact Or.inr hi)) (by simp) _)
end Go.Proofs.YtakcncahkdfknaaGreatDoor.prog

namespace Go.Proofs.YtakcncahkdfknaaGreatDoor.prog
open Go.ChangeShapes Go.WideShapes Go.ChangeAt Go.RowKit Go.Proofs.YtakcncahkdfknaaGreatDoor.nums Go.Proofs.YtakcncahkdfknaaGreatDoor.dnums Go.Proofs.YtakcncahkdfknaaGreatDoor.mach

set_option linter.unusedVariables false
set_option linter.unusedSimpArgs false
attribute [local go_sem ↓] Go.wp_at_zero Go.wp_at_succ
/-- A text that is longer than the room for it. -/
theorem run_copy_string_cut (w : World) (dT sT ty elem : TypeId) (b o dLen dCap : Nat) (t : ByteArray)
    (hu : Tryz.prog.underlying dT = some (.slice elem)) (hz : ∀ w, (Go.sizeOf elem).run Tryz.prog w = .ok 1 w) (hle : dLen ≤ t.size)
    (hc : ∀ j, j < dLen → (w.cell? ⟨b, o + j, none⟩).isSome = true) (hf : ∀ j, j < dLen → w.frozen? ⟨b, o + j, none⟩ = false) :
    (Builtin.copy_ #[dT, sT] ty #[.slice (some ⟨b, o, none⟩) dLen dCap, .string t]).run Tryz.prog w = .ok (goInt dLen) (w.setCells b o (ref.strCells (t.extract 0 dLen))) := by
  have hmin : Nat.min t.size dLen = dLen := Nat.min_eq_right hle
  have hE : ref.strCells (t.extract 0 dLen) = (t.data.toList.map fun x => Value.int .u8 (x.toNat : Int)).take dLen := by
    unfold ref.strCells
    rw [← List.map_take, show (t.extract 0 dLen).data.toList = t.data.toList.take dLen from by simp [ByteArray.data_extract, Array.toList_extract]]
  have hl : ((t.data.toList.map fun x => Value.int .u8 (x.toNat : Int)).take dLen).length = dLen := by rw [List.length_take, List.length_map, ← Lib.size_eq]; omega
  have hst := run_storeCells_cells (P := Tryz.prog) b o ((t.data.toList.map fun x => Value.int .u8 (x.toNat : Int)).take dLen) 0 w (by rw [hl]; simpa using hc) (by rw [hl]; simpa using hf) (by
    intro v hv
    obtain ⟨x, _, rfl⟩ := List.mem_map.1 (List.mem_of_mem_take hv)
    rfl)
  rw [hE]
  simp [Builtin.copy_, run_underlying hu, Builtin.lenOf, Builtin.firstCells, hz, hmin]
  simp at hst
  rw [hst]
  rfl
theorem PAt.puts {B b mb : Nat} {m : M} {nx : Int} {vX : Nat → Value} {w : World} (h : PAt B b mb m nx vX w) (k : Nat) (t : ByteArray) (hk : k + t.size ≤ m.size) : PAt B b mb { m with mem := put m.mem k t } nx vX (w.setCells mb k (ref.strCells t)) := by
  have e : ref.strCells t = (t.data.toList.map fun x => (x.toNat : Int)).map (Value.int .u8) := by simp [ref.strCells]
  have hl : (t.data.toList.map fun x => (x.toNat : Int)).length = t.size := by rw [List.length_map, ← Lib.size_eq]
  rw [e]
  refine h.sets k _ _ (by rw [hl]; exact hk) (fun i => ?_)
  rw [hl]
  show put m.mem k t i = _
  unfold put
  by_cases c : k ≤ i ∧ i < k + t.size
  · rw [if_pos c, if_pos c]
    have hs : i - k < t.data.size := by have : t.size = t.data.size := rfl; omega
    have hs2 : i - k < t.size := hs
    simp [List.getD, Array.getD, hs, hs2]
  · rw [if_neg c, if_neg c]
theorem memD_put (mem : Nat → Int) (k : Nat) (t : ByteArray) : ref.memD (put mem k t) k t.size = t := by
  unfold ref.memD
  apply ByteArray.ext
  apply Array.ext
  · simp
  · intro i h1 h2
    have hs : i < t.data.size := h2
    have hs2 : i < t.size := h2
    simp [put, hs2, Array.getD, hs]
theorem conv_p (B b mb : Nat) (m : M) (nx : Int) (vX : Nat → Value) (w : World) (h : PAt B b mb m nx vX w) (hm : ∀ i, 0 ≤ m.mem i ∧ m.mem i ≤ 255) (k o j c : Nat) (hk : k + j ≤ m.size) (ho : 0 < j → o = k) : (convert 49 9 (.slice (some ⟨mb, o, none⟩) j c)).run Tryz.prog w = .ok (.string (ref.memD m.mem k j)) w := by
  have := run_convert_bytes_back (P := Tryz.prog) w 49 9 5 ⟨mb, o, none⟩ c ((List.range j).map fun i => UInt8.ofNat (m.mem (k + i)).toNat) Tryz.underlying49 Tryz.underlying5 Tryz.underlying9 (by
    intro i hi
    simp at hi
    obtain rfl := ho (by omega)
    have e : (⟨mb, o, none⟩ : Addr).add i = ⟨mb, o + i, none⟩ := by unfold Addr.add; by_cases z : i = 0 <;> simp [z]
    rw [e, h.bytes (o + i) (by omega)]
    have := hm (o + i)
    simp
    omega)
  simpa [ref.memD] using this
theorem copy_p (B b mb : Nat) (m : M) (nx : Int) (vX : Nat → Value) (w : World) (h : PAt B b mb m nx vX w) (hm : m.size ≤ 512) (k o j c : Nat) (s : ByteArray) (hk : k + j ≤ m.size) (ho : 0 < j → o = k) (ty : TypeId) :
    (Builtin.copy_ #[49, 9] ty #[.slice (some ⟨mb, o, none⟩) j c, .string s]).run Tryz.prog w = .ok (goInt (s.extract 0 (min s.size j)).size) (w.setCells mb k (ref.strCells (s.extract 0 (min s.size j)))) := by
  have hz : ∀ w, (Go.sizeOf 5).run Tryz.prog w = .ok 1 w := fun w => by kernel_rfl
  have tsz : (s.extract 0 (min s.size j)).size = min s.size j := by simp
  have nil : ∀ t : ByteArray, t.size = 0 → ref.strCells t = [] := fun t ht => List.eq_nil_of_length_eq_zero (by rw [ref.strCells_len]; exact ht)
  have mv : ∀ t : ByteArray, t.size ≤ j → w.setCells mb o (ref.strCells t) = w.setCells mb k (ref.strCells t) := fun t ht => by
    by_cases e : j = 0
    · rw [nil t (by omega)]; rfl
    · rw [ho (by omega)]
  rw [← mv _ (by omega)]
  by_cases c1 : s.size ≤ j
  · rw [Nat.min_eq_left c1, ref.ext_all]
    exact run_copy_string (P := Tryz.prog) w 49 9 ty 5 mb o j c s Tryz.underlying49 hz c1 (fun i hi => by rw [ho (by omega), h.bytes (k + i) (by omega)]; rfl) (fun i hi => h.freem _)
  · rw [Nat.min_eq_right (by omega)] at tsz ⊢
    rw [tsz]
    exact run_copy_string_cut w 49 9 ty 5 mb o j c s Tryz.underlying49 hz (by omega) (fun i hi => by rw [ho (by omega), h.bytes (k + i) (by omega)]; rfl) (fun i hi => h.freem _)
set_option maxRecDepth 10000 in
theorem span_fa (B b mb : Nat) (m : M) (nx : Int) (vX : Nat → Value) (w : World) (h : PAt B b mb m nx vX w) (hf : Fine m) (hl : lies m (m.regs 11) (m.regs 12) = false) : Calls Tryz.prog 106 #[.pointer (some ⟨b, 0, none⟩)] w fun e w' => e = .returned (.tuple #[.slice none 0 0, .bool false]) ∧ ref.Touch [] w w' := by
  have c11 : w.cell? ⟨b, 11, none⟩ = some (.int .u32 (m.regs 11)) := h.reg 11 (by decide)
  have c12 : w.cell? ⟨b, 12, none⟩ = some (.int .u32 (m.regs 12)) := h.reg 12 (by decide)
  have cda := h.data
  have p0 := (hf.regs 11).1
  have p1 := (hf.regs 11).2
  have n0 := (hf.regs 12).1
  have n1 := (hf.regs 12).2
  have z1 := hf.size
  have hl2 : decide (m.regs 11 + m.regs 12 ≤ (m.size : Int)) = false := hl
  clear h hf
  go_enter Tryz.func106, Tryz.ntmps106
  go_wp2_with fail
  go_region
  go_wp2_with (first | (go_at_call 16; refine (lies_any (m.regs 11) (m.regs 12) (m.size : Int) p0 p1 n0 n1 _).mono ?_; rintro e w' ⟨rfl, hw'⟩; subst w'))
  go_ret2
  exact ⟨rfl, (ref.Touch.refl _ _).drew⟩
set_option maxRecDepth 10000 in
theorem span_y (B b mb : Nat) (m : M) (nx : Int) (vX : Nat → Value) (w : World) (h : PAt B b mb m nx vX w) (hf : Fine m) (k j : Nat) (hk : m.regs 11 = k) (hj : m.regs 12 = j) (hkj : k + j ≤ m.size) (hks : ¬ m.size = k) : Calls Tryz.prog 106 #[.pointer (some ⟨b, 0, none⟩)] w fun e w' => e = .returned (.tuple #[.slice (some ⟨mb, k, none⟩) j (m.size - k), .bool true]) ∧ ref.Touch [] w w' := by
  have c11 : w.cell? ⟨b, 11, none⟩ = some (.int .u32 (m.regs 11)) := h.reg 11 (by decide)
  have c12 : w.cell? ⟨b, 12, none⟩ = some (.int .u32 (m.regs 12)) := h.reg 12 (by decide)
  have cda := h.data
  have p0 := (hf.regs 11).1
  have p1 := (hf.regs 11).2
  have n0 := (hf.regs 12).1
  have n1 := (hf.regs 12).2
  have z1 := hf.size
  rw [hk] at c11 p0 p1
  rw [hj] at c12 n0 n1
  have hl2 : decide ((k : Int) + (j : Int) ≤ (m.size : Int)) = true := by simp; omega
  have q3 : (k : Int) ≤ (k : Int) + (j : Int) := by omega
  have q2 : (k : Int) + (j : Int) ≤ (m.size : Int) := by omega
  have q6 : IntKind.u64.wrap ((k : Int) + (j : Int)) = (k : Int) + (j : Int) := by rw [IntKind.wrap_u64]; omega
  have q7 : ((k : Int) + (j : Int)).toNat - k = j := by omega
  clear h hf
  go_enter Tryz.func106, Tryz.ntmps106
  go_wp2_with fail
  go_region
  go_wp2_with (first | (go_at_call 16; refine (lies_any (k : Int) (j : Int) (m.size : Int) p0 p1 n0 n1 _).mono ?_; rintro e w' ⟨rfl, hw'⟩; subst w'))
  go_ret2
  exact ⟨by simp [q7], (ref.Touch.refl _ _).drew⟩
set_option maxRecDepth 10000 in
theorem span_n (B b mb : Nat) (m : M) (nx : Int) (vX : Nat → Value) (w : World) (h : PAt B b mb m nx vX w) (hf : Fine m) (k : Nat) (hk : m.regs 11 = k) (hj : m.regs 12 = 0) (hks : m.size = k) : Calls Tryz.prog 106 #[.pointer (some ⟨b, 0, none⟩)] w fun e w' => e = .returned (.tuple #[.slice (some ⟨mb, 0, none⟩) 0 0, .bool true]) ∧ ref.Touch [] w w' := by
  have c11 : w.cell? ⟨b, 11, none⟩ = some (.int .u32 (m.regs 11)) := h.reg 11 (by decide)
  have c12 : w.cell? ⟨b, 12, none⟩ = some (.int .u32 (m.regs 12)) := h.reg 12 (by decide)
  have cda := h.data
  have p0 := (hf.regs 11).1
  have p1 := (hf.regs 11).2
  have n0 := (hf.regs 12).1
  have n1 := (hf.regs 12).2
  have z1 := hf.size
  subst hks
  rw [hk] at c11 p0 p1
  rw [hj] at c12 n0 n1
  have hl2 : decide ((m.size : Int) + (0 : Int) ≤ (m.size : Int)) = true := by simp
  have q6 : IntKind.u64.wrap (m.size : Int) = (m.size : Int) := by rw [IntKind.wrap_u64]; omega
  clear h hf
  go_enter Tryz.func106, Tryz.ntmps106
  go_wp2_with fail
  go_region
  go_wp2_with (first | (go_at_call 16; refine (lies_any (m.size : Int) 0 (m.size : Int) p0 p1 n0 n1 _).mono ?_; rintro e w' ⟨rfl, hw'⟩; subst w'))
  go_ret2
  exact ⟨by simp, (ref.Touch.refl _ _).drew⟩
theorem span_ok (B b mb : Nat) (m : M) (nx : Int) (vX : Nat → Value) (w : World) (h : PAt B b mb m nx vX w) (hf : Fine m) (k j : Nat) (hk : m.regs 11 = k) (hj : m.regs 12 = j) (hkj : k + j ≤ m.size) : Calls Tryz.prog 106 #[.pointer (some ⟨b, 0, none⟩)] w fun e w' => ∃ o c, e = .returned (.tuple #[.slice (some ⟨mb, o, none⟩) j c, .bool true]) ∧ (0 < j → o = k) ∧ j ≤ c ∧ c ≤ 512 ∧ ref.Touch [] w w' := by
  have z1 := hf.size
  by_cases hks : m.size = k
  · obtain rfl : j = 0 := by omega
    refine (span_n B b mb m nx vX w h hf k hk hj hks).mono ?_
    rintro e w' ⟨rfl, ht⟩
    exact ⟨0, 0, rfl, by omega, by omega, by omega, ht⟩
  · refine (span_y B b mb m nx vX w h hf k j hk hj hkj hks).mono ?_
    rintro e w' ⟨rfl, ht⟩
    exact ⟨k, m.size - k, rfl, fun _ => rfl, by omega, by omega, ht⟩
set_option maxRecDepth 10000 in
theorem ansB_any (B E b mb : Nat) (m : M) (nx : Int) (vE vA : Value) (w : World) (h : PW B E b mb m nx vE vA w) (hz : 0 < m.size) (hf : Fine m) (hsz : m.evs.length ≤ 2000) (c : Int) (k o j ca : Nat) (hkj : k + j ≤ m.size) (ho : 0 < j → o = k) :
    Calls Tryz.prog 107 #[.pointer (some ⟨b, 0, none⟩), .int .u32 c, .slice (some ⟨mb, o, none⟩) j ca] w fun e w' => e = .returned (.tuple #[]) ∧ ∃ vE', PW B E b mb (setReg { m with evs := m.evs ++ [⟨c, (j : Int), ref.memD m.mem k j⟩] } 10 j) nx vE' vA w' ∧ ref.Touch (b :: ref.sblk vE) w w' := by
  have HH : Hid (PW B E b mb m nx vE vA w) := h
  have z1 := hf.size
  have cv := conv_p B b mb m nx _ w h.p hf.mem k o j ca hkj ho
  have q1 : IntKind.u32.wrap (j : Int) = (j : Int) := by rw [IntKind.wrap_u32]; omega
  clear h hf
  go_enter Tryz.func107, Tryz.ntmps107
  go_wp2_with (first | (go_at_call 109; refine (Calls.mono (tell_any B E b mb m nx vE vA _ HH.out hz hsz c (j : Int) (ref.memD m.mem k j)) ?_); rintro e w1 ⟨rfl, vE1, hp1, ht1⟩; have H1 : Hid (PW B E b mb { m with evs := m.evs ++ [⟨c, (j : Int), ref.memD m.mem k j⟩] } nx vE1 vA w1) := hp1; have T1 : Hid (ref.Touch (b :: ref.sblk vE) w w1) := ht1; clear hp1 ht1) | (go_at_call 86; refine (Calls.mono (set_any B b mb { m with evs := m.evs ++ [⟨c, (j : Int), ref.memD m.mem k j⟩] } nx _ _ H1.out.p 10 (j : Int) (by decide) (by decide)) ?_); rintro e w2 ⟨rfl, hp2, ht2⟩; have H2 : Hid (PW B E b mb (setReg { m with evs := m.evs ++ [⟨c, (j : Int), ref.memD m.mem k j⟩] } 10 j) nx vE1 vA w2) := H1.out.step (by rw [show (setReg { m with evs := m.evs ++ [⟨c, (j : Int), ref.memD m.mem k j⟩] } 10 j).low = m.low from rfl]; exact hp2) (ht2.mono (by simp)) rfl rfl; have T2 : Hid (ref.Touch [b] w1 w2) := ht2; clear hp2 ht2))
  go_end0
  exact ⟨rfl, _, H2.out, T1.out.trans (T2.out.mono (by simp))⟩
set_option maxRecDepth 10000 in
theorem nextA_nil (B E b mb : Nat) (m : M) (nx : Int) (vE vA : Value) (w : World) (h : PW B E b mb m nx vE vA w) (ha : m.ans = []) : Calls Tryz.prog 108 #[.pointer (some ⟨b, 0, none⟩)] w fun e w' => e = .returned (.string ⟨#[]⟩) ∧ w' = w := by
  obtain ⟨oa, cap, hv, hl1, hl2, hl3, hcs, hsz2⟩ := h.ans
  rw [ha] at hv
  have cA : w.cell? ⟨b, 37, none⟩ = some (.slice oa 0 cap) := h.cA.trans (by rw [hv]; rfl)
  clear h hv hcs hsz2
  go_enter Tryz.func108, Tryz.ntmps108
  go_wp2
  go_ret
  exact ⟨rfl, rfl⟩
theorem pw_ans (B E b mb : Nat) (m : M) (nx : Int) (vE vA : Value) (w : World) (h : PW B E b mb m nx vE vA w) (l : List ByteArray) (v : Value) (ha : ref.AnsAt B l v w) : PW B E b mb { m with ans := l } nx vE v (w.setCell ⟨b, 37, none⟩ v) := by
  have t : ref.Touch [b] w (w.setCell ⟨b, 37, none⟩ v) := (ref.Touch.refl _ _).setCell (by simp) _
  have hbel : Below B w (w.setCell ⟨b, 37, none⟩ v) := t.below h.bs (by intro i hi; simp at hi; subst hi; exact h.p.hb)
  exact ⟨at_ans B E b mb m nx vE vA w h l v, h.be, Nat.le_trans h.eh t.size, ref.own_touch h.evs t (fun k hk => by simpa using (h.dE k hk).1), ha.below hbel, h.dE⟩
set_option maxRecDepth 10000 in
theorem nextA_cons (B E b mb : Nat) (m : M) (nx : Int) (vE vA : Value) (w : World) (h : PW B E b mb m nx vE vA w) (s : ByteArray) (rest : List ByteArray) (ha : m.ans = s :: rest) : Calls Tryz.prog 108 #[.pointer (some ⟨b, 0, none⟩)] w fun e w' => e = .returned (.string s) ∧ ∃ vA', PW B E b mb { m with ans := rest } nx vE vA' w' ∧ ref.Touch [b] w w' := by
  have hA := h.ans
  obtain ⟨oa, cap, hv, hl1, hl2, hl3, hcs, hsz2⟩ := h.ans
  rw [ha] at hv hl1 hl2 hcs hsz2
  obtain ⟨ad, had, hadb, hadc⟩ := hcs 0 s (by simp)
  subst had
  have e0 : ad.add 0 = ad := rfl
  rw [e0] at hadc
  have cA : w.cell? ⟨b, 37, none⟩ = some (.slice (some ad) (rest.length + 1) cap) := h.cA.trans (by rw [hv]; rfl)
  have fA := h.p.free 37
  have lr : rest.length < 4096 := by simp at hl2; omega
  have lc : rest.length + 1 ≤ cap := by simpa using hl1
  have hA2 : ref.AnsAt B rest (.slice (if cap = 1 then some ad else some (ad.add 1)) rest.length (cap - 1)) w := ref.AnsAt.tail (s := s) (by rw [ha, hv] at hA; exact hA)
  by_cases hcap : cap = 1
  · subst hcap
    have hr0 : rest = [] := List.eq_nil_of_length_eq_zero (by omega)
    subst hr0
    rw [if_pos rfl] at hA2
    have HP : Hid (PW B E b mb { m with ans := [] } nx vE (.slice (some ad) 0 0) (w.setCell ⟨b, 37, none⟩ (.slice (some ad) 0 0))) := pw_ans B E b mb m nx vE vA w h [] _ hA2
    clear h hA hv hcs hsz2 hA2
    go_enter Tryz.func108, Tryz.ntmps108
    go_wp2
    go_ret
    exact ⟨rfl, _, HP.out, (ref.Touch.refl _ _).setCell (by simp) _⟩
  · rw [if_neg hcap] at hA2
    have HP : Hid (PW B E b mb { m with ans := rest } nx vE (.slice (some ⟨ad.block, ad.off + 1, none⟩) rest.length (cap - 1)) (w.setCell ⟨b, 37, none⟩ (.slice (some ⟨ad.block, ad.off + 1, none⟩) rest.length (cap - 1)))) := pw_ans B E b mb m nx vE vA w h rest _ hA2
    clear h hA hv hcs hsz2 hA2
    go_enter Tryz.func108, Tryz.ntmps108
    go_wp2
    go_ret
    exact ⟨rfl, _, HP.out, (ref.Touch.refl _ _).setCell (by simp) _⟩
end Go.Proofs.YtakcncahkdfknaaGreatDoor.prog
