import Derived.Test.YtjikimpejlmdiaaGreatDoorVGp
import Derived.Test.YtjikimpejlmdiaaGreatDoorVGa
import Derived.Deep.MidRow
set_option maxHeartbeats 4000000
set_option linter.unusedVariables false
set_option linter.unusedSimpArgs false
namespace Go.Proofs.YtjikimpejlmdiaaGreatDoor
namespace ref
open ChangeShapes WideShapes ChangeAt RowKit nums dnums mach
theorem good_start (pg : Int) (im : ByteArray) (ba en : Int) (ans : List ByteArray) (fu sl ar : Int) (bl : Bool) (ba0 : 0 <= ba) (en0 : 0 <= en) (en1 : en <= 4294967295) (h : wrong pg im ba fu sl ar bl = 0) : MGood (start pg im ba en ans fu sl ar bl) /\ 1 <= pg /\ pg <= 8 /\ (im.size : Int) <= pg * 64 /\ ba <= pg * 64 - im.size /\ 0 <= fu /\ fu <= 2000 := by
  unfold wrong at h
  by_cases c1 : pg < 1 \/ 8 < pg
  · rw [if_pos c1] at h; omega
  rw [if_neg c1] at h
  by_cases c2 : pg * 64 < im.size \/ pg * 64 - im.size < ba
  · rw [if_pos c2] at h; omega
  rw [if_neg c2] at h
  by_cases c3 : fu < 0 \/ 2000 < fu
  · rw [if_pos c3] at h; omega
  refine ⟨⟨⟨fun r => ?_, rfl, put_bd _ (fun i => ⟨by decide, by decide⟩) _ _, ?_, ⟨en0, en1⟩, ?_, ?_, ?_, ?_, ?_⟩, ?_, ?_, ?_⟩, by omega, by omega, by omega, by omega, by omega, by omega⟩
  · show (0 : Int) <= 0 /\ (0 : Int) <= 4294967295; omega
  · show (pg * 64).toNat <= 512; omega
  · show 0 <= ba + im.size /\ ba + im.size <= 4294967295; omega
  · show 0 <= ba + im.size /\ ba + im.size <= (((pg * 64).toNat : Nat) : Int); omega
  · show (0 : Int) <= 0; omega
  · show 0 <= fu /\ fu <= 2000; omega
  · show 0 <= fu; omega
  · show 0 < (pg * 64).toNat; omega
  · show ((([] : List Ev).length : Nat) : Int) <= 0; simp
  · show (0 : Int) <= 0 /\ (0 : Int) <= 4294967295; omega
/-- How far a run has to go. -/
def msr (b : Nat) (w : World) : Nat :=
  match w.cell? ⟨b, 43, none⟩, w.cell? ⟨b, 37, none⟩, w.cell? ⟨b, 42, none⟩ with
  | some (.bool false), some (.int _ s), some (.int _ f) => (f - s).toNat + 1
  | _, _, _ => 0
theorem msr_at {B b mb : Nat} {m : M} {vE vA vS vB : Value} {w : World} (h : RefAt B b mb m vE vA vS vB w) : msr b w = if m.ended then 0 else (m.fuel - m.steps).toNat + 1 := by
  have h1 : w.cell? ⟨b, 43, none⟩ = some (.bool m.ended) := h.cells 43 dC dC
  have h2 : w.cell? ⟨b, 37, none⟩ = some (.int .i64 m.steps) := h.cells 37 dC dC
  have h3 : w.cell? ⟨b, 42, none⟩ = some (.int .i64 m.fuel) := h.cells 42 dC dC
  unfold msr
  rw [h1, h2, h3]
  cases m.ended <;> rfl
end ref
namespace ref
open ChangeShapes WideShapes ChangeAt RowKit nums dnums mach
attribute [local go_sem ↓] Go.wp_at_zero Go.wp_at_succ
/-- The cells of a report. -/
def repL (m : M) (vE : Value) : List Value := (List.range 39).map fun i => if i = 35 then .string (memD m.mem 0 m.size) else lay m vE (.slice none 0 0) (.slice none 0 0) (.slice none 0 0) i
def rep0 : Array Value := #[.int .i64 0, .int .u32 0, .int .u32 0, .int .u32 0, .int .u32 0, .int .u32 0, .int .u32 0, .int .u32 0, .int .u32 0, .int .u32 0, .int .u32 0, .int .u32 0, .int .u32 0, .int .u32 0, .int .u32 0, .int .u32 0, .int .u32 0, .int .u32 0, .int .u32 0, .int .u32 0, .int .u32 0, .int .u32 0, .int .u32 0, .int .u32 0, .int .u32 0, .int .u32 0, .int .u32 0, .int .u32 0, .int .u32 0, .int .u32 0, .int .u32 0, .int .u32 0, .int .u32 0, .int .u32 0, .int .u32 0, .string ⟨#[]⟩, .slice none 0 0, .int .i64 0, .int .i64 0]
theorem rep0_one : rep0.all (·.oneCell') = true := by simp [rep0, Value.oneCell']
theorem repL_len (m : M) (vE : Value) : (repL m vE).length = 39 := by simp [repL]
theorem info_rep : (Tryz.prog.info? 32).map (·.size) = some 39 := by kernel_rfl
theorem own_base {w : World} {B B' e size n : Nat} {v : Value} {xs : List Value} (h : w.ownsRow B e size v n xs) (hb : B' <= B) : w.ownsRow B' e size v n xs := by
  refine ⟨h.1, ?_⟩
  rcases h.2 with hn | ⟨g, cap, cur, rfl, hb2, rest⟩
  · exact .inl hn
  · exact .inr ⟨g, cap, cur, rfl, Nat.le_trans hb hb2, rest⟩
theorem results_ctt {fn : Func} {p u v : Tmp} {ty : TypeId} (h : fn.results = #[.cell p ty, .tmp u, .tmp v]) (tmps : Array Value) (P : Program) (w : World) (g : Nat) (cs : List Value) (hp : tmps.getD p undef = .pointer (some ⟨g, 0, none⟩)) (d : TypeDesc) (hc : w.rangeAt g 0 cs) (hu : P.underlying ty = some d) (hd : d.isRow = true) (hi : (P.info? ty).map (·.size) = some cs.length) :
    (results fn tmps).run P w = .ok (.tuple #[.agg cs.toArray, tmps.getD u undef, tmps.getD v undef]) w := by
  have := run_loadVar_mid (P := P) w g 0 ty cs d hc hu hd hi
  have hp2 : tmps[p]?.getD undef = .pointer (some ⟨g, 0, none⟩) := by simpa using hp
  simp only [results, h]
  simp [Sem.run_bind, Result.andThen, hp2, asAddr, this]
theorem two_new (w : World) (o1 o2 : Obj) : ((w.alloc o1).alloc o2).heap[w.heap.size + 1]? = some o2 := by
  have := heap_alloc_new (w.alloc o1) o2
  rwa [show (w.alloc o1).heap.size = w.heap.size + 1 from by simp] at this
theorem there_of {w w' : World} {g n : Nat} {cs : Array Value} {t : TypeId} (h : w.heap[g]? = some (.cells cs t (0, 0))) (hn : cs.size = n) (hk : w'.heap[g]? = w.heap[g]?) : w'.there g 0 n := fun j hj => by
  rw [h] at hk
  refine ⟨?_, ?_⟩
  · rw [cell_of_row w' g (0 + j) cs t (0, 0) hk]; simp; omega
  · unfold World.frozen?; simp [hk]
theorem lay_lt (m : M) (vE vA vS vB : Value) (j : Nat) (hj : j < 39) : lay m vE vA vS vB j = lay m vE (.slice none 0 0) (.slice none 0 0) (.slice none 0 0) j := by
  by_cases h1 : j < 34
  · by_cases h2 : j = 0
    · subst h2; rfl
    · by_cases h3 : j = 1
      · subst h3; rfl
      · simp [lay, h1, h2, h3]
  · have : j = 34 \/ j = 35 \/ j = 36 \/ j = 37 \/ j = 38 := by omega
    rcases this with rfl | rfl | rfl | rfl | rfl <;> rfl
theorem there_below {w w' : World} {B g n : Nat} (h : w.there g 0 n) (hn : 0 < n) (hb : Below B w w') (hg : g < B) : w'.there g 0 n := fun j hj => by
  obtain ⟨h1, h2⟩ := h j hj
  have e := hb.block g hg
  exact ⟨by rw [World.cell?_of_block (w := w) (a := ⟨g, 0 + j, none⟩) e]; exact h1, by rw [World.frozen?_of_block (w := w) (a := ⟨g, 0 + j, none⟩) e]; exact h2⟩
theorem there_set {w : World} {g n : Nat} (h : w.there g 0 n) (a : Addr) (v : Value) (ha : a.block ≠ g) : (w.setCell a v).there g 0 n := fun j hj => by
  obtain ⟨h1, h2⟩ := h j hj
  exact ⟨by rw [World.cell?_setCell_other _ _ _ _ (by intro e; exact ha (by rw [e]))]; exact h1, by rw [World.frozen?_setCell]; exact h2⟩
theorem rep_range {B b mb : Nat} {m : M} {vE vA vS vB : Value} {w : World} (h : RefAt B b mb m vE vA vS vB w) (hm : ∀ i, 0 <= m.mem i /\ m.mem i <= 255) : (w.setCell ⟨b, 35, none⟩ (.string (memD m.mem 0 m.size))).rangeAt b 0 (repL m vE) := by
  intro j v hv
  rw [Nat.zero_add]
  have hj : j < 39 := by have := (List.getElem?_eq_some_iff.1 hv).1; rwa [repL_len] at this
  have e : v = if j = 35 then .string (memD m.mem 0 m.size) else lay m vE (.slice none 0 0) (.slice none 0 0) (.slice none 0 0) j := by
    simp [repL, hj] at hv; exact hv.symm
  by_cases k : j = 35
  · subst k
    obtain ⟨u, hu⟩ := h.there 35 dC
    rw [World.cell?_setCell_same _ _ _ hu, e, if_pos rfl]
  · rw [World.cell?_setCell_other _ _ _ _ (by intro x; injection x with _ x; omega), h.cells j oM oM, e, if_neg k]
    rw [lay_lt m vE vA vS vB j hj]
theorem repL_one (m : M) (vE : Value) (h : vE.oneCell' = true) : ∀ v ∈ repL m vE, v.oneCell' = true := by
  intro v hv
  simp [repL, List.range, List.range.loop, lay] at hv
  rcases hv with rfl | rfl | rfl | rfl | rfl | rfl | rfl | rfl | rfl | rfl | rfl | rfl | rfl | rfl | rfl | rfl | rfl | rfl | rfl | rfl | rfl | rfl | rfl | rfl | rfl | rfl | rfl | rfl | rfl | rfl | rfl | rfl | rfl | rfl | rfl | rfl | rfl | rfl | rfl <;> first | rfl | exact h
theorem own_slice {w : World} {base e size n : Nat} {v : Value} {xs : List Value} (h : w.ownsRow base e size v n xs) : ∃ o k c, v = .slice o k c := by
  rcases h.2 with ⟨rfl, _⟩ | ⟨g, cap, cur, rfl, _⟩
  · exact ⟨_, _, _, rfl⟩
  · exact ⟨_, _, _, rfl⟩
theorem own_one {w : World} {base e size n : Nat} {v : Value} {xs : List Value} (h : w.ownsRow base e size v n xs) : v.oneCell' = true := by
  rcases h.2 with ⟨rfl, _⟩ | ⟨g, cap, cur, rfl, _⟩ <;> rfl
end ref
end Go.Proofs.YtjikimpejlmdiaaGreatDoor
