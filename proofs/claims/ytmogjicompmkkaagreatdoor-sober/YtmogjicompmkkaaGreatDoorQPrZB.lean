import Derived.Test.YtmogjicompmkkaaGreatDoorQPrZA
import Derived.BigQuiet
import Derived.Deep.RegionHeld3
import Derived.BigRegion
namespace Go.Proofs.YtmogjicompmkkaaGreatDoor.prog
open Go.ChangeShapes Go.WideShapes Go.ChangeAt Go.RowKit Go.Proofs.YtmogjicompmkkaaGreatDoor.nums Go.Proofs.YtmogjicompmkkaaGreatDoor.dnums Go.Proofs.YtmogjicompmkkaaGreatDoor.mach

set_option linter.unusedVariables false
set_option linter.unusedSimpArgs false
set_option maxRecDepth 10000
attribute [local go_sem ↓] Go.wp_at_zero Go.wp_at_succ
theorem build_any (B b mb : Nat) (m : M) (nx : Int) (vX : Nat → Value) (w : World) (h : PAt B b mb m nx vX w) (hz : 0 < m.size) (hf : Fine m) (h64 : m.size % 64 = 0) (k : Nat) (hk : m.pc = k) (ha : k % 4 = 0) (hk4 : k + 4 ≤ m.size) (hT : ∀ w' x, ref.Touch [] w w' → decodes.Tabs w' x) : Calls Tryz.prog 97 #[.pointer (some ⟨b, 0, none⟩)] w (BuildQ k m.mem w) := by
  by_cases hr : 64 - (k : Int) % 64 < 32
  · exact build_B B b mb m nx vX w h hz hf h64 k hk ha hk4 hT hr (64 - k % 64) (by omega)
  · exact build_A B b mb m nx vX w h hz hf h64 k hk ha hk4 hT hr 32 rfl
theorem SlotV.late {B : Nat} {X : List Nat} {mem : Nat → Int} {p : Int × Int} {v : Value} {w w' : World} {x : Nat} {kd : IntKind} {v0 : Int} (h : SlotV B X mem p v w) (t : ref.Touch [x] w w') (hx : w.cell? ⟨x, 0, none⟩ = some (.int kd v0)) : SlotV B X mem p v w' := by
  rcases h with h | ⟨k, n, c, h1, h2, h3, h4, h5, h7, h8, h9, h10⟩
  · exact Or.inl h
  · refine Or.inr ⟨k, n, c, h1, h2, h3, h4, h5, h7, h8, h9, h10.touch h2 t (fun hk => ?_)⟩
    simp at hk
    subst hk
    have := h10.2 0 h2 0 (by decide)
    simp [hx, stepC] at this
/-- A block is written into that holds a number at its head, and is none of the machine's. -/
theorem PW.late {B E b mb sb : Nat} {m : M} {nx : Int} {vE vA : Value} {w w' : World} {x : Nat} {kd : IntKind} {v0 : Int} (h : PW B E b mb sb m nx vE vA w) (hz : 0 < m.size) (t : ref.Touch [x] w w') (hx : w.cell? ⟨x, 0, none⟩ = some (.int kd v0)) (hB : B ≤ x) (n1 : b ≠ x) (n2 : mb ≠ x) (n3 : sb ≠ x) (n4 : x ∉ ref.sblk vE) : PW B E b mb sb m nx vE vA w' := by
  have hbel : Below B w w' := t.below h.bs (by intro i hi; simp at hi; subst hi; exact hB)
  refine ⟨h.p.other t (by simpa using n1) (by simpa using n2) hz, h.be, Nat.le_trans h.eh t.size, ref.own_touch h.evs t (fun k hk => by simp; intro e; exact n4 (e ▸ hk)), h.ans.below hbel, h.dE, ⟨h.c.le, h.c.sx, fun hn => ?_⟩, h.hsb, Nat.lt_of_lt_of_le h.ls t.size⟩
  obtain ⟨g, hr, hg⟩ := h.c.row hn
  exact ⟨g, hr.other (by omega) t (by simpa using n3), fun i hi => ⟨(hg i hi).1, (hg i hi).2.late t hx⟩⟩
/-- The block that find answers, and where it lies. -/
def BlkAt (B : Nat) (X : List Nat) (mem : Nat → Int) (k kb n c : Nat) (w : World) : Prop := (n : Int) = blockLen mem 8 k ∧ 0 < n ∧ n ≤ 8 ∧ n ≤ c ∧ B ≤ kb ∧ kb ∉ X ∧ StepsIn kb n k mem w
theorem find_al (B E b mb sb : Nat) (m : M) (nx : Int) (vE vA : Value) (w : World) (h : PW B E b mb sb m nx vE vA w) (hg : MGood m) (hn0 : 0 < m.nslots) (k : Nat) (hk : m.pc = k) (ha : ¬ (k : Int) % 4 = 0) : Calls Tryz.prog 73 #[.pointer (some ⟨b, 0, none⟩)] w fun e w' => e = .panicked (trapV 3) ∧ ref.Touch [] w w' := by
  have HKE : Hid (m.pc = k) := hk
  have hz : 0 < m.size := hg.pos
  have hf := hg.fine
  have hn : m.nslots ≠ 0 := by omega
  have lb := h.lb
  have ls := h.ls
  have k1 : (k : Int) ≤ 4294967295 := by have := hf.pc.2; omega
  have k0 : (0 : Int) ≤ (k : Int) := by omega
  have HW : Hid (∀ w', ref.Touch [] w w' → PW B E b mb sb m nx vE vA w') := fun w' t => h.quiet hz t
  have HHt : Hid (∀ w', ref.Touch [] (w.alloc (.cells #[Value.int .u32 0, Value.slice none 0 0] 116)) w' → PAt B b mb m nx (PX m sb vE vA) w') := fun w' t => (h.quiet hz (((ref.Touch.refl _ _).alloc _).trans t)).p
  have HF : Hid (Fine m) := hf
  have HG : Hid (MGood m) := hg
  have cpc : (w.alloc (.cells #[Value.int .u32 0, Value.slice none 0 0] 116)).cell? ⟨b, 33, none⟩ = some (.int .u32 (k : Int)) := ((HHt.out _ (ref.Touch.refl _ _)).cells 33 (by decide) (by decide)).trans (by rw [← HKE.out]; rfl)
  clear h hf hg
  go_enter Tryz.func73, Tryz.ntmps73
  go_wp2_with (first | (go_at_call 60; refine (Calls.mono (guard4_al B b mb m nx _ _ (HHt.out _ (by repeat' (first | with_reducible exact tR _ _ | with_reducible apply tD | with_reducible apply tN | assumption))) (k : Int) 3 4 k0 k1 HF.out.size ha) ?_); rintro e w' ⟨rfl, hw'⟩; subst w'))
  exact ⟨rfl, rfl, (by repeat' (first | with_reducible exact ref.Touch.refl _ _ | with_reducible apply ref.Touch.drew | with_reducible apply ref.Touch.drewN | with_reducible apply ref.Touch.alloc | assumption))⟩
theorem find_fa (B E b mb sb : Nat) (m : M) (nx : Int) (vE vA : Value) (w : World) (h : PW B E b mb sb m nx vE vA w) (hg : MGood m) (hn0 : 0 < m.nslots) (k : Nat) (hk : m.pc = k) (ha : (k : Int) % 4 = 0) (hl : lies m k 4 = false) : Calls Tryz.prog 73 #[.pointer (some ⟨b, 0, none⟩)] w fun e w' => e = .panicked (trapV 4) ∧ ref.Touch [] w w' := by
  have HKE : Hid (m.pc = k) := hk
  have hz : 0 < m.size := hg.pos
  have hf := hg.fine
  have hn : m.nslots ≠ 0 := by omega
  have lb := h.lb
  have ls := h.ls
  have k1 : (k : Int) ≤ 4294967295 := by have := hf.pc.2; omega
  have k0 : (0 : Int) ≤ (k : Int) := by omega
  have HW : Hid (∀ w', ref.Touch [] w w' → PW B E b mb sb m nx vE vA w') := fun w' t => h.quiet hz t
  have HHt : Hid (∀ w', ref.Touch [] (w.alloc (.cells #[Value.int .u32 0, Value.slice none 0 0] 116)) w' → PAt B b mb m nx (PX m sb vE vA) w') := fun w' t => (h.quiet hz (((ref.Touch.refl _ _).alloc _).trans t)).p
  have HF : Hid (Fine m) := hf
  have HG : Hid (MGood m) := hg
  have cpc : (w.alloc (.cells #[Value.int .u32 0, Value.slice none 0 0] 116)).cell? ⟨b, 33, none⟩ = some (.int .u32 (k : Int)) := ((HHt.out _ (ref.Touch.refl _ _)).cells 33 (by decide) (by decide)).trans (by rw [← HKE.out]; rfl)
  clear h hf hg
  go_enter Tryz.func73, Tryz.ntmps73
  go_wp2_with (first | (go_at_call 60; refine (Calls.mono (guard4_fa B b mb m nx _ _ (HHt.out _ (by repeat' (first | with_reducible exact tR _ _ | with_reducible apply tD | with_reducible apply tN | assumption))) (k : Int) 3 4 k0 k1 HF.out.size ha hl) ?_); rintro e w' ⟨rfl, hw'⟩; subst w'))
  exact ⟨rfl, rfl, (by repeat' (first | with_reducible exact ref.Touch.refl _ _ | with_reducible apply ref.Touch.drew | with_reducible apply ref.Touch.drewN | with_reducible apply ref.Touch.alloc | assumption))⟩
set_option maxHeartbeats 1000000 in
theorem find_old (B E b mb sb : Nat) (m : M) (nx : Int) (vE vA : Value) (w : World) (h : PW B E b mb sb m nx vE vA w) (hg : MGood m) (hn0 : 0 < m.nslots) (k : Nat) (hk : m.pc = k) (hs : SInv m) (ha : (k : Int) % 4 = 0) (hl : lies m k 4 = true) (hc1 : (m.slots (k / 4 % m.nslots)).1 = k) (hc2 : ¬ (m.slots (k / 4 % m.nslots)).2 = 0) :
    Calls Tryz.prog 73 #[.pointer (some ⟨b, 0, none⟩)] w fun e w' => ∃ kb n c : Nat, e = .returned (.agg #[.int .u32 (k : Int), .slice (some ⟨kb, 0, none⟩) n c]) ∧ PW B E b mb sb m nx vE vA w' ∧ BlkAt B (sb :: b :: mb :: ref.sblk vE) m.mem k kb n c w' ∧ ref.Touch [b, sb] w w' := by
  have HKE : Hid (m.pc = k) := hk
  have hz : 0 < m.size := hg.pos
  have hf := hg.fine
  have hn : m.nslots ≠ 0 := by omega
  have lb := h.lb
  have ls := h.ls
  have k1 : (k : Int) ≤ 4294967295 := by have := hf.pc.2; omega
  have k0 : (0 : Int) ≤ (k : Int) := by omega
  have HW : Hid (∀ w', ref.Touch [] w w' → PW B E b mb sb m nx vE vA w') := fun w' t => h.quiet hz t
  have HHt : Hid (∀ w', ref.Touch [] (w.alloc (.cells #[Value.int .u32 0, Value.slice none 0 0] 116)) w' → PAt B b mb m nx (PX m sb vE vA) w') := fun w' t => (h.quiet hz (((ref.Touch.refl _ _).alloc _).trans t)).p
  have HF : Hid (Fine m) := hf
  have HG : Hid (MGood m) := hg
  have cpc : (w.alloc (.cells #[Value.int .u32 0, Value.slice none 0 0] 116)).cell? ⟨b, 33, none⟩ = some (.int .u32 (k : Int)) := ((HHt.out _ (ref.Touch.refl _ _)).cells 33 (by decide) (by decide)).trans (by rw [← HKE.out]; rfl)
  have hi : (k / 4 % m.nslots) < m.nslots := Nat.mod_lt _ hn0
  obtain ⟨g, hr, hgg⟩ := h.c.row hn
  obtain ⟨g1, g2⟩ := hgg _ hi
  rcases g2 with ⟨e1, _⟩ | ⟨kb, n, c, e1, e2, e3, e4, e5, e7, e8, e9, e10⟩
  · rw [e1] at hc2; exact absurd rfl hc2
  have cp := hr.pcs _ hi
  have cv := hr.vs _ hi
  rw [g1, hc1] at cp
  rw [e4] at cv
  rw [hc1] at e9 e10
  have HBK : Hid (BlkAt B (sb :: b :: mb :: ref.sblk vE) m.mem k kb n c w) := ⟨by
    rcases hs.slot _ hi with q | q
    · rw [q] at hc2; exact absurd rfl hc2
    · have := q.len; rw [hc1, e1] at this; exact this, e2, e3, e5, e7, e8, e10⟩
  have HRW : Hid (w.cell? ⟨sb, (k / 4 % m.nslots) * 2, none⟩ = some (.int .u32 (k : Int)) ∧ w.cell? ⟨sb, (k / 4 % m.nslots) * 2 + 1, none⟩ = some (.slice (some ⟨kb, 0, none⟩) n c) ∧ sb < w.heap.size) := ⟨cp, cv, ls⟩
  have HLE : Hid (m.nslots ≤ 64) := h.c.le
  have hhas : decide ((m.slots (k / 4 % m.nslots)).1 = (k : Int) ∧ ¬ (m.slots (k / 4 % m.nslots)).2 = 0) = true := by simp [hc1, hc2]
  clear hk
  clear h hf hg hs hr hgg g1 e1 e2 e3 e4 e5 e7 e8 e9 e10 cp cv
  go_enter Tryz.func73, Tryz.ntmps73
  go_wp2_with (first | (go_at_call 60; refine (Calls.mono (guard4_ok B b mb m nx _ _ (HHt.out _ (by repeat' (first | with_reducible exact tR _ _ | with_reducible apply tD | with_reducible apply tN | assumption))) (k : Int) 3 4 k0 k1 HF.out.size ha hl) ?_); rintro e w' ⟨rfl, hw'⟩; subst w'))
  refine wp_region_held_drew (S := (fun w' => w'.cell? ⟨b, 33, none⟩ = some (.int .u32 (k : Int)))) (by kernel_rfl) (cpc) (fun hHeld => ?_)
  refine tk (i := 0) (oi := ⟨some 9, _, _, _, _, _⟩) (v := ?v9x344) rfl (by kernel_rfl) (fun _ _ _ h => h) (by rfl) ?h9x344 (by assumption) ?r9x344
  case h9x344 => intro w' hSw; (try dsimp only [sbx] at hSw); go_simp; try with_reducible rfl
  try simp only [Act.put, ly1, ly2, ly3]
  refine tk (i := 1) (oi := ⟨some 10, _, _, _, _, _⟩) (v := ?v10x345) rfl (by kernel_rfl) (fun _ _ _ h => h) (by rfl) ?h10x345 (by assumption) ?r10x345
  case h10x345 => intro w' hSw; (try dsimp only [sbx] at hSw); go_simp; try with_reducible rfl
  try simp only [Act.put, ly1, ly2, ly3]
  refine tk (i := 2) (oi := ⟨some 11, _, _, _, _, _⟩) (v := ?v11x346) rfl (by kernel_rfl) (fun _ _ _ h => h) (by rfl) ?h11x346 (by assumption) ?r11x346
  case h11x346 => intro w' hSw; (try dsimp only [sbx] at hSw); go_simp; try with_reducible rfl
  try simp only [Act.put, ly1, ly2, ly3]
  refine tk (i := 3) (oi := ⟨some 12, _, _, _, _, _⟩) (v := ?v12x347) rfl (by kernel_rfl) (fun _ _ _ h => h) (by rfl) ?h12x347 (by assumption) ?r12x347
  case h12x347 => intro w' hSw; (try dsimp only [sbx] at hSw); go_simp; try with_reducible rfl
  try simp only [Act.put, ly1, ly2, ly3]
  refine tk (i := 4) (oi := ⟨some 13, _, _, _, _, _⟩) (v := ?v13x348) rfl (by kernel_rfl) (fun _ _ _ h => h) (by rfl) ?h13x348 (by assumption) ?r13x348
  case h13x348 => intro w' hSw; (try dsimp only [sbx] at hSw); go_simp; try with_reducible rfl
  try simp only [Act.put, ly1, ly2, ly3]
  refine tk (i := 5) (oi := ⟨some 14, _, _, _, _, _⟩) (v := ?v14x349) rfl (by kernel_rfl) (fun _ _ _ h => h) (by rfl) ?h14x349 (by assumption) ?r14x349
  case h14x349 => intro w' hSw; (try dsimp only [sbx] at hSw); go_simp; try with_reducible rfl
  try simp only [Act.put, ly1, ly2, ly3]
  refine tk (i := 6) (oi := ⟨some 15, _, _, _, _, _⟩) (v := ?v15x350) rfl (by kernel_rfl) (fun _ _ _ h => h) (by rfl) ?h15x350 (by assumption) ?r15x350
  case h15x350 => intro w' hSw; (try dsimp only [sbx] at hSw); go_simp; try with_reducible rfl
  try simp only [Act.put, ly1, ly2, ly3]
  refine wpAnyH_ready (rs := [7]) (by kernel_rfl) (by simp) ?_
  refine AllReadyH.cons (o := ⟨some 16, _, _, _, _, _⟩) rfl (fun K hK => ?_) AllReadyH.nil
  rw [if_pos (by rfl)]
  go_simp
  refine (Calls.mono (has_any B b mb sb _ m nx _ _ (HW.out _ (by repeat' (first | with_reducible exact ref.Touch.refl _ _ | with_reducible apply ref.Touch.drew | with_reducible apply ref.Touch.drewN | with_reducible apply ref.Touch.alloc | assumption))).ct hn0 k (by omega)) ?_)
  rintro e w2 ⟨rfl, ht2⟩
  have t2 : ref.Touch [] w w2 := ref.Touch.trans (by repeat' (first | with_reducible exact ref.Touch.refl _ _ | with_reducible apply ref.Touch.drew | with_reducible apply ref.Touch.drewN | with_reducible apply ref.Touch.alloc | assumption)) ht2
  have p2 : w2.cell? ⟨b, 33, none⟩ = some (.int .u32 (k : Int)) := ((HW.out _ t2).p.cells 33 (by decide) (by decide)).trans (by rw [← HKE.out]; rfl)
  have HTH2 : Hid (w2.there w.heap.size 0 2) := there_t (there_new w #[Value.int .u32 0, Value.slice none 0 0] 116) (Nat.succ_pos 1) (ref.Touch.trans (S := []) (by repeat' (first | with_reducible exact ref.Touch.refl _ _ | with_reducible apply ref.Touch.drew | with_reducible apply ref.Touch.drewN | with_reducible apply ref.Touch.alloc | assumption)) ht2) (by simp)
  have HC2 : Hid (w2.cell? ⟨w.heap.size, 0, none⟩ = some (.int .u32 0)) := (ref.Touch.cell (S := []) (ref.Touch.trans (S := []) (u := (w.alloc (.cells #[Value.int .u32 0, Value.slice none 0 0] 116))) (by repeat' (first | with_reducible exact ref.Touch.refl _ _ | with_reducible apply ref.Touch.drew | with_reducible apply ref.Touch.drewN | with_reducible apply ref.Touch.alloc | assumption)) ht2) (p := ⟨w.heap.size, 0, none⟩) (by simp) (by simp)).trans (World.cell?_alloc_at _ _ _ _ rfl)
  rw [hhas]
  clear ht2
  refine hK.out _ _ (p2) (fun hHeld => ?_)
  clear hK K
  try simp only [Act.put, ly1, ly2, ly3]
  refine tk (i := 8) (oi := ⟨some 17, _, _, _, _, _⟩) (v := ?v17x351) rfl (by kernel_rfl) (fun _ _ _ h => h) (by rfl) ?h17x351 (by assumption) ?r17x351
  case h17x351 => intro w' hSw; (try dsimp only [sbx] at hSw); go_simp; try with_reducible rfl
  try simp only [Act.put, ly1, ly2, ly3]
  refine wpAnyH_done (by kernel_rfl) ?_ _
  go_wp2_with fail
  have HK4 : Hid (∀ w', ref.Touch [] w2 w' → PW B E b mb sb m nx vE vA w') := fun w' t => HW.out w' (t2.trans t)
  have HR4 : Hid (w2.cell? ⟨sb, (k / 4 % m.nslots) * 2, none⟩ = some (.int .u32 (k : Int)) ∧ w2.cell? ⟨sb, (k / 4 % m.nslots) * 2 + 1, none⟩ = some (.slice (some ⟨kb, 0, none⟩) n c) ∧ sb < w2.heap.size) := ⟨(t2.cell (p := ⟨sb, _, none⟩) ls (by simp)).trans HRW.out.1, (t2.cell (p := ⟨sb, _, none⟩) ls (by simp)).trans HRW.out.2.1, Nat.lt_of_lt_of_le ls t2.size⟩
  have HTH4 : Hid (w2.there w.heap.size 0 2) := HTH2.out
  have HS4 : Hid (∀ w', ref.Touch [] w2 w' → (fun w' => w'.cell? ⟨b, 33, none⟩ = some (.int .u32 (k : Int)) ∧ w'.cell? ⟨b, 40, none⟩ = some (.slice (some ⟨sb, 0, none⟩) m.nslots m.nslots) ∧ w'.cell? ⟨sb, (k / 4 % m.nslots) * 2, none⟩ = some (.int .u32 (k : Int)) ∧ w'.cell? ⟨sb, (k / 4 % m.nslots) * 2 + 1, none⟩ = some (.slice (some ⟨kb, 0, none⟩) n c)) w') := fun w' t => by
    have q := HK4.out w' t
    have cs := q.ct.cS
    rw [slotsV, if_neg hn] at cs
    exact ⟨(q.p.cells 33 (by decide) (by decide)).trans (by rw [← HKE.out]; rfl), cs, (t.cell (p := ⟨sb, (k / 4 % m.nslots) * 2, none⟩) HR4.out.2.2 (by simp)).trans HR4.out.1, (t.cell (p := ⟨sb, (k / 4 % m.nslots) * 2 + 1, none⟩) HR4.out.2.2 (by simp)).trans HR4.out.2.1⟩
  have HS4b : Hid (∀ w', ref.Touch [w.heap.size] w2 w' → (fun w' => w'.cell? ⟨b, 33, none⟩ = some (.int .u32 (k : Int)) ∧ w'.cell? ⟨b, 40, none⟩ = some (.slice (some ⟨sb, 0, none⟩) m.nslots m.nslots) ∧ w'.cell? ⟨sb, (k / 4 % m.nslots) * 2, none⟩ = some (.int .u32 (k : Int)) ∧ w'.cell? ⟨sb, (k / 4 % m.nslots) * 2 + 1, none⟩ = some (.slice (some ⟨kb, 0, none⟩) n c)) w') := fun w' t => by
    have q := HS4.out w2 (ref.Touch.refl _ _)
    have lbn : b < w2.heap.size := World.block_lt_of_cell? _ _ q.1
    have nb : b ∉ [w.heap.size] := by simp; omega
    have ns : sb ∉ [w.heap.size] := by simp; omega
    exact ⟨(t.cell (p := ⟨b, 33, none⟩) lbn nb).trans q.1, (t.cell (p := ⟨b, 40, none⟩) lbn nb).trans q.2.1, (t.cell (p := ⟨sb, (k / 4 % m.nslots) * 2, none⟩) HR4.out.2.2 ns).trans q.2.2.1, (t.cell (p := ⟨sb, (k / 4 % m.nslots) * 2 + 1, none⟩) HR4.out.2.2 ns).trans q.2.2.2⟩
  refine wp_region_held_drew (S := (fun w' => w'.cell? ⟨b, 33, none⟩ = some (.int .u32 (k : Int)) ∧ w'.cell? ⟨b, 40, none⟩ = some (.slice (some ⟨sb, 0, none⟩) m.nslots m.nslots) ∧ w'.cell? ⟨sb, (k / 4 % m.nslots) * 2, none⟩ = some (.int .u32 (k : Int)) ∧ w'.cell? ⟨sb, (k / 4 % m.nslots) * 2 + 1, none⟩ = some (.slice (some ⟨kb, 0, none⟩) n c))) (by kernel_rfl) (HS4.out _ (ref.Touch.refl _ _).drew) (fun hHeld => ?_)
  refine tk (i := 0) (oi := ⟨some 24, _, _, _, _, _⟩) (v := ?v24x352) rfl (by kernel_rfl) (fun _ _ _ h => h) (by rfl) ?h24x352 (by assumption) ?r24x352
  case h24x352 => intro w' hSw; (try dsimp only [sbx] at hSw); go_simp; try with_reducible rfl
  try simp only [Act.put, ly1, ly2, ly3]
  refine tk (i := 1) (oi := ⟨some 25, _, _, _, _, _⟩) (v := ?v25x353) rfl (by kernel_rfl) (fun _ _ _ h => h) (by rfl) ?h25x353 (by assumption) ?r25x353
  case h25x353 => intro w' hSw; (try dsimp only [sbx] at hSw); go_simp; try with_reducible rfl
  try simp only [Act.put, ly1, ly2, ly3]
  refine tk (i := 2) (oi := ⟨some 26, _, _, _, _, _⟩) (v := ?v26x354) rfl (by kernel_rfl) (fun _ _ _ h => h) (by rfl) ?h26x354 (by assumption) ?r26x354
  case h26x354 => intro w' hSw; (try dsimp only [sbx] at hSw); go_simp; try with_reducible rfl
  try simp only [Act.put, ly1, ly2, ly3]
  refine tk (i := 3) (oi := ⟨some 27, _, _, _, _, _⟩) (v := ?v27x355) rfl (by kernel_rfl) (fun _ _ _ h => h) (by rfl) ?h27x355 (by assumption) ?r27x355
  case h27x355 => intro w' hSw; (try dsimp only [sbx] at hSw); go_simp; try with_reducible rfl
  try simp only [Act.put, ly1, ly2, ly3]
  refine tk (i := 4) (oi := ⟨some 28, _, _, _, _, _⟩) (v := ?v28x356) rfl (by kernel_rfl) (fun _ _ _ h => h) (by rfl) ?h28x356 (by assumption) ?r28x356
  case h28x356 => intro w' hSw; (try dsimp only [sbx] at hSw); go_simp; try with_reducible rfl
  try simp only [Act.put, ly1, ly2, ly3]
  refine tk (i := 5) (oi := ⟨some 29, _, _, _, _, _⟩) (v := ?v29x357) rfl (by kernel_rfl) (fun _ _ _ h => h) (by rfl) ?h29x357 (by assumption) ?r29x357
  case h29x357 => intro w' hSw; (try dsimp only [sbx] at hSw); go_simp; try with_reducible rfl
  try simp only [Act.put, ly1, ly2, ly3]
  refine tk (i := 6) (oi := ⟨some 30, _, _, _, _, _⟩) (v := ?v30x358) rfl (by kernel_rfl) (fun _ _ _ h => h) (by rfl) ?h30x358 (by assumption) ?r30x358
  case h30x358 => intro w' hSw; (try dsimp only [sbx] at hSw); go_simp; try with_reducible rfl
  try simp only [Act.put, ly1, ly2, ly3]
  refine wpAnyH_ready (rs := [7]) (by kernel_rfl) (by simp) ?_
  refine AllReadyH.cons (o := ⟨some 31, _, _, _, _, _⟩) rfl (fun K hK => ?_) AllReadyH.nil
  rw [if_pos (by rfl)]
  go_simp
  refine (Calls.mono (slot_any b sb m.nslots _ hn0 HLE.out hHeld.2.1 k (by omega)) ?_)
  rintro e w6 ⟨rfl, ht6⟩
  have t6 : ref.Touch [] w2 w6 := ref.Touch.trans (ref.Touch.refl _ _).drew ht6
  have h6 : (fun w' => w'.cell? ⟨b, 33, none⟩ = some (.int .u32 (k : Int)) ∧ w'.cell? ⟨b, 40, none⟩ = some (.slice (some ⟨sb, 0, none⟩) m.nslots m.nslots) ∧ w'.cell? ⟨sb, (k / 4 % m.nslots) * 2, none⟩ = some (.int .u32 (k : Int)) ∧ w'.cell? ⟨sb, (k / 4 % m.nslots) * 2 + 1, none⟩ = some (.slice (some ⟨kb, 0, none⟩) n c)) w6 := HS4.out _ t6
  clear ht6
  refine hK.out _ _ h6 (fun hHeld => ?_)
  clear hK K
  try simp only [Act.put, ly1, ly2, ly3]
  refine tk (i := 8) (oi := ⟨some 32, _, _, _, _, _⟩) (v := ?v32x359) rfl (by kernel_rfl) (fun _ _ _ h => h) (by rfl) ?h32x359 (by assumption) ?r32x359
  case h32x359 => intro w' hSw; (try dsimp only [sbx] at hSw); go_simp; try with_reducible rfl
  try simp only [Act.put, ly1, ly2, ly3]
  refine tk (i := 9) (oi := ⟨some 33, _, _, _, _, _⟩) (v := ?v33x360) rfl (by kernel_rfl) (fun _ _ _ h => h) (by rfl) ?h33x360 (by assumption) ?r33x360
  case h33x360 => intro w' hSw; (try dsimp only [sbx] at hSw); go_simp; try with_reducible rfl
  try simp only [Act.put, ly1, ly2, ly3]
  refine wpAnyH_ready (rs := [10]) (by kernel_rfl) (by simp) ?_
  refine AllReadyH.cons (o := ⟨none, _, _, _, _, _⟩) rfl (fun K hK => ?_) AllReadyH.nil
  rw [if_pos (by rfl)]
  refine wp_store_mid _ _ _ rfl w.heap.size 0 #[Value.int .u32 (k : Int), Value.slice (some ⟨kb, 0, none⟩) n c] rfl rfl (by exact there_t (n := 2) HTH4.out (Nat.succ_pos 1) t6 (by simp)) info_bl (by simp [Value.oneCell']) ?_
  generalize h9 : World.setCells _ w.heap.size 0 (Array.toList #[Value.int .u32 (k : Int), Value.slice (some ⟨kb, 0, none⟩) n c]) = w9
  have T9 : Hid (ref.Touch [w.heap.size] w2 w9) := by rw [← h9]; exact touch_setsP (by simp) _ _ _ _ (t6.mono (by simp))
  have R9 : Hid (w9.rangeAt w.heap.size 0 (Array.toList #[Value.int .u32 (k : Int), Value.slice (some ⟨kb, 0, none⟩) n c])) := by rw [← h9]; exact World.rangeAt_setCells_same _ _ _ _ (there_t (n := 2) HTH4.out (Nat.succ_pos 1) t6 (by simp))
  have h9s : (fun w' => w'.cell? ⟨b, 33, none⟩ = some (.int .u32 (k : Int)) ∧ w'.cell? ⟨b, 40, none⟩ = some (.slice (some ⟨sb, 0, none⟩) m.nslots m.nslots) ∧ w'.cell? ⟨sb, (k / 4 % m.nslots) * 2, none⟩ = some (.int .u32 (k : Int)) ∧ w'.cell? ⟨sb, (k / 4 % m.nslots) * 2 + 1, none⟩ = some (.slice (some ⟨kb, 0, none⟩) n c)) w9 := HS4b.out _ T9.out
  clear h9
  refine hK.out _ _ h9s (fun hHeld9 => ?_)
  clear hK K
  try simp only [Act.put, ly1, ly2, ly3]
  refine wpAnyH_done (by kernel_rfl) ?_ _
  go_wp2_with fail
  refine bodyPost_ret (results_c Tryz.results73 _ _ _ w.heap.size (Array.toList #[Value.int .u32 (k : Int), Value.slice (some ⟨kb, 0, none⟩) n c]) (by rfl) _ R9.out Tryz.underlying116 rfl info_bl) rfl ?_
  have lw : w.heap.size ≤ w2.heap.size := t2.size
  have t9 : ref.Touch [] w w9 := tnewP t2 T9.out (by simp)
  obtain ⟨q1, q2, q3, q4, q5, q6, q7⟩ := HBK.out
  refine ⟨kb, n, c, rfl, HW.out w9 t9, ⟨q1, q2, q3, q4, q5, q6, q7.touch q2 t9 (by simp)⟩, t9.mono (by simp)⟩
set_option maxHeartbeats 1000000 in
theorem find_no (B E b mb sb : Nat) (m : M) (nx : Int) (vE vA : Value) (w : World) (h : PW B E b mb sb m nx vE vA w) (hg : MGood m) (hn0 : 0 < m.nslots) (k : Nat) (hk : m.pc = k) (hs : SInv m) (ha : (k : Int) % 4 = 0) (hl : lies m k 4 = true) (hT : ∀ w' x, ref.Touch [] w w' → decodes.Tabs w' x) (hc : ¬ ((m.slots (k / 4 % m.nslots)).1 = k ∧ ¬ (m.slots (k / 4 % m.nslots)).2 = 0)) (hx : opn (ld m.mem k 4) = -1) :
    Calls Tryz.prog 73 #[.pointer (some ⟨b, 0, none⟩)] w fun e w' => e = .panicked (trapV 2) ∧ ref.Touch [] w w' := by
  have HKE : Hid (m.pc = k) := hk
  have hz : 0 < m.size := hg.pos
  have hf := hg.fine
  have hn : m.nslots ≠ 0 := by omega
  have lb := h.lb
  have ls := h.ls
  have k1 : (k : Int) ≤ 4294967295 := by have := hf.pc.2; omega
  have k0 : (0 : Int) ≤ (k : Int) := by omega
  have HW : Hid (∀ w', ref.Touch [] w w' → PW B E b mb sb m nx vE vA w') := fun w' t => h.quiet hz t
  have HHt : Hid (∀ w', ref.Touch [] (w.alloc (.cells #[Value.int .u32 0, Value.slice none 0 0] 116)) w' → PAt B b mb m nx (PX m sb vE vA) w') := fun w' t => (h.quiet hz (((ref.Touch.refl _ _).alloc _).trans t)).p
  have HF : Hid (Fine m) := hf
  have HG : Hid (MGood m) := hg
  have cpc : (w.alloc (.cells #[Value.int .u32 0, Value.slice none 0 0] 116)).cell? ⟨b, 33, none⟩ = some (.int .u32 (k : Int)) := ((HHt.out _ (ref.Touch.refl _ _)).cells 33 (by decide) (by decide)).trans (by rw [← HKE.out]; rfl)
  have z5 := hf.size
  have h64 := hs.s64
  have hk4 : k + 4 ≤ m.size := by simp [lies] at hl; omega
  have HTB : Hid (∀ w' x, ref.Touch [] w w' → decodes.Tabs w' x) := hT
  have HLE : Hid (m.nslots ≤ 64) := h.c.le
  have lm : mb < w.heap.size := World.block_lt_of_cell? _ _ (h.p.bytes 0 hz)
  have HXL : Hid (∀ i, i ∈ sb :: b :: mb :: ref.sblk vE → i < w.heap.size) := fun i hi => by
    simp at hi
    rcases hi with q | q | q | q
    · omega
    · omega
    · omega
    · exact (ref.own_lt h.evs i q).2
  have HBS : Hid (B ≤ w.heap.size) := h.bs
  have hhas : decide ((m.slots (k / 4 % m.nslots)).1 = (k : Int) ∧ ¬ (m.slots (k / 4 % m.nslots)).2 = 0) = false := by simp only [hc, decide_false]
  clear h hf hg hs hT hc hk
  go_enter Tryz.func73, Tryz.ntmps73
  go_wp2_with (first | (go_at_call 60; refine (Calls.mono (guard4_ok B b mb m nx _ _ (HHt.out _ (by repeat' (first | with_reducible exact tR _ _ | with_reducible apply tD | with_reducible apply tN | assumption))) (k : Int) 3 4 k0 k1 HF.out.size ha hl) ?_); rintro e w' ⟨rfl, hw'⟩; subst w'))
  refine wp_region_held_drew (S := (fun w' => w'.cell? ⟨b, 33, none⟩ = some (.int .u32 (k : Int)))) (by kernel_rfl) (cpc) (fun hHeld => ?_)
  refine tk (i := 0) (oi := ⟨some 9, _, _, _, _, _⟩) (v := ?v9x365) rfl (by kernel_rfl) (fun _ _ _ h => h) (by rfl) ?h9x365 (by assumption) ?r9x365
  case h9x365 => intro w' hSw; (try dsimp only [sbx] at hSw); go_simp; try with_reducible rfl
  try simp only [Act.put, ly1, ly2, ly3]
  refine tk (i := 1) (oi := ⟨some 10, _, _, _, _, _⟩) (v := ?v10x366) rfl (by kernel_rfl) (fun _ _ _ h => h) (by rfl) ?h10x366 (by assumption) ?r10x366
  case h10x366 => intro w' hSw; (try dsimp only [sbx] at hSw); go_simp; try with_reducible rfl
  try simp only [Act.put, ly1, ly2, ly3]
  refine tk (i := 2) (oi := ⟨some 11, _, _, _, _, _⟩) (v := ?v11x367) rfl (by kernel_rfl) (fun _ _ _ h => h) (by rfl) ?h11x367 (by assumption) ?r11x367
  case h11x367 => intro w' hSw; (try dsimp only [sbx] at hSw); go_simp; try with_reducible rfl
  try simp only [Act.put, ly1, ly2, ly3]
  refine tk (i := 3) (oi := ⟨some 12, _, _, _, _, _⟩) (v := ?v12x368) rfl (by kernel_rfl) (fun _ _ _ h => h) (by rfl) ?h12x368 (by assumption) ?r12x368
  case h12x368 => intro w' hSw; (try dsimp only [sbx] at hSw); go_simp; try with_reducible rfl
  try simp only [Act.put, ly1, ly2, ly3]
  refine tk (i := 4) (oi := ⟨some 13, _, _, _, _, _⟩) (v := ?v13x369) rfl (by kernel_rfl) (fun _ _ _ h => h) (by rfl) ?h13x369 (by assumption) ?r13x369
  case h13x369 => intro w' hSw; (try dsimp only [sbx] at hSw); go_simp; try with_reducible rfl
  try simp only [Act.put, ly1, ly2, ly3]
  refine tk (i := 5) (oi := ⟨some 14, _, _, _, _, _⟩) (v := ?v14x370) rfl (by kernel_rfl) (fun _ _ _ h => h) (by rfl) ?h14x370 (by assumption) ?r14x370
  case h14x370 => intro w' hSw; (try dsimp only [sbx] at hSw); go_simp; try with_reducible rfl
  try simp only [Act.put, ly1, ly2, ly3]
  refine tk (i := 6) (oi := ⟨some 15, _, _, _, _, _⟩) (v := ?v15x371) rfl (by kernel_rfl) (fun _ _ _ h => h) (by rfl) ?h15x371 (by assumption) ?r15x371
  case h15x371 => intro w' hSw; (try dsimp only [sbx] at hSw); go_simp; try with_reducible rfl
  try simp only [Act.put, ly1, ly2, ly3]
  refine wpAnyH_ready (rs := [7]) (by kernel_rfl) (by simp) ?_
  refine AllReadyH.cons (o := ⟨some 16, _, _, _, _, _⟩) rfl (fun K hK => ?_) AllReadyH.nil
  rw [if_pos (by rfl)]
  go_simp
  refine (Calls.mono (has_any B b mb sb _ m nx _ _ (HW.out _ (by repeat' (first | with_reducible exact ref.Touch.refl _ _ | with_reducible apply ref.Touch.drew | with_reducible apply ref.Touch.drewN | with_reducible apply ref.Touch.alloc | assumption))).ct hn0 k (by omega)) ?_)
  rintro e w2 ⟨rfl, ht2⟩
  have t2 : ref.Touch [] w w2 := ref.Touch.trans (by repeat' (first | with_reducible exact ref.Touch.refl _ _ | with_reducible apply ref.Touch.drew | with_reducible apply ref.Touch.drewN | with_reducible apply ref.Touch.alloc | assumption)) ht2
  have p2 : w2.cell? ⟨b, 33, none⟩ = some (.int .u32 (k : Int)) := ((HW.out _ t2).p.cells 33 (by decide) (by decide)).trans (by rw [← HKE.out]; rfl)
  have HTH2 : Hid (w2.there w.heap.size 0 2) := there_t (there_new w #[Value.int .u32 0, Value.slice none 0 0] 116) (Nat.succ_pos 1) (ref.Touch.trans (S := []) (by repeat' (first | with_reducible exact ref.Touch.refl _ _ | with_reducible apply ref.Touch.drew | with_reducible apply ref.Touch.drewN | with_reducible apply ref.Touch.alloc | assumption)) ht2) (by simp)
  have HC2 : Hid (w2.cell? ⟨w.heap.size, 0, none⟩ = some (.int .u32 0)) := (ref.Touch.cell (S := []) (ref.Touch.trans (S := []) (u := (w.alloc (.cells #[Value.int .u32 0, Value.slice none 0 0] 116))) (by repeat' (first | with_reducible exact ref.Touch.refl _ _ | with_reducible apply ref.Touch.drew | with_reducible apply ref.Touch.drewN | with_reducible apply ref.Touch.alloc | assumption)) ht2) (p := ⟨w.heap.size, 0, none⟩) (by simp) (by simp)).trans (World.cell?_alloc_at _ _ _ _ rfl)
  rw [hhas]
  clear ht2
  refine hK.out _ _ (p2) (fun hHeld => ?_)
  clear hK K
  try simp only [Act.put, ly1, ly2, ly3]
  refine tk (i := 8) (oi := ⟨some 17, _, _, _, _, _⟩) (v := ?v17x372) rfl (by kernel_rfl) (fun _ _ _ h => h) (by rfl) ?h17x372 (by assumption) ?r17x372
  case h17x372 => intro w' hSw; (try dsimp only [sbx] at hSw); go_simp; try with_reducible rfl
  try simp only [Act.put, ly1, ly2, ly3]
  refine wpAnyH_done (by kernel_rfl) ?_ _
  go_wp2_with fail
  refine wp_region_held_drew (S := (fun _ => True)) (by kernel_rfl) (trivial) (fun hHeld => ?_)
  refine tk (i := 0) (oi := ⟨some 18, _, _, _, _, _⟩) (v := ?v18x361) rfl (by kernel_rfl) (fun _ _ _ h => h) (by rfl) ?h18x361 (by assumption) ?r18x361
  case h18x361 => intro w' hSw; (try dsimp only [sbx] at hSw); go_simp; try with_reducible rfl
  try simp only [Act.put, ly1, ly2, ly3]
  refine tk (i := 1) (oi := ⟨some 19, _, _, _, _, _⟩) (v := ?v19x362) rfl (by kernel_rfl) (fun _ _ _ h => h) (by rfl) ?h19x362 (by assumption) ?r19x362
  case h19x362 => intro w' hSw; (try dsimp only [sbx] at hSw); go_simp; try with_reducible rfl
  try simp only [Act.put, ly1, ly2, ly3]
  refine tk (i := 2) (oi := ⟨some 20, _, _, _, _, _⟩) (v := ?v20x363) rfl (by kernel_rfl) (fun _ _ _ h => h) (by rfl) ?h20x363 (by assumption) ?r20x363
  case h20x363 => intro w' hSw; (try dsimp only [sbx] at hSw); go_simp; try with_reducible rfl
  try simp only [Act.put, ly1, ly2, ly3]
  refine tk (i := 3) (oi := ⟨some 21, _, _, _, _, _⟩) (v := ?v21x364) rfl (by kernel_rfl) (fun _ _ _ h => h) (by rfl) ?h21x364 (by assumption) ?r21x364
  case h21x364 => intro w' hSw; (try dsimp only [sbx] at hSw); go_simp; try with_reducible rfl
  try simp only [Act.put, ly1, ly2, ly3]
  refine wpAnyH_ready (rs := [4]) (by kernel_rfl) (by simp) ?_
  refine AllReadyH.cons (o := ⟨some 22, _, _, _, _, _⟩) rfl (fun K hK => ?_) AllReadyH.nil
  rw [if_pos (by rfl)]
  go_simp
  refine (Calls.mono (build_any B b mb m nx _ _ (HW.out _ (t2.trans (ref.Touch.refl _ _).drew)).p hz HF.out h64 k HKE.out (by omega) hk4 (fun w' x t => HTB.out w' x (t2.drew.trans t))) ?_)
  rintro e w3 hq
  rcases hq with ⟨_, rfl, ht3⟩ | ⟨kb, n, c, _, ⟨hq2, hq3, _⟩, _⟩
  rotate_left
  · rw [show blockLen m.mem 8 k = 0 from by simp only [blockLen, Int.toNat_natCast]; rw [if_pos hx]] at hq2
    omega
  exact ⟨rfl, rfl, t2.drew.trans ht3⟩
set_option maxHeartbeats 1000000 in
theorem find_n (B E b mb sb : Nat) (m : M) (nx : Int) (vE vA : Value) (w : World) (h : PW B E b mb sb m nx vE vA w) (hg : MGood m) (hn0 : 0 < m.nslots) (k : Nat) (hk : m.pc = k) (hs : SInv m) (ha : (k : Int) % 4 = 0) (hl : lies m k 4 = true) (hT : ∀ w' x, ref.Touch [] w w' → decodes.Tabs w' x) (hc : ¬ ((m.slots (k / 4 % m.nslots)).1 = k ∧ ¬ (m.slots (k / 4 % m.nslots)).2 = 0)) (hx : ¬ opn (ld m.mem k 4) = -1) (u0 : 0 ≤ m.used) (u1 : m.used ≤ 256) (ar1 : m.arena ≤ 256) (bt0 : 0 ≤ m.built) (bt1 : m.built ≤ 5000) (hfull : ¬ m.arena < m.used + blockLen m.mem 8 k) :
    Calls Tryz.prog 73 #[.pointer (some ⟨b, 0, none⟩)] w fun e w' => ∃ kb n c : Nat, e = .returned (.agg #[.int .u32 (k : Int), .slice (some ⟨kb, 0, none⟩) n c]) ∧ PW B E b mb sb { m with slots := fun i => if i = (k / 4 % m.nslots) then ((k : Int), (blockLen m.mem 8 k)) else m.slots i, used := m.used + (blockLen m.mem 8 k), built := m.built + 1 } nx vE vA w' ∧ BlkAt B (sb :: b :: mb :: ref.sblk vE) m.mem k kb n c w' ∧ ref.Touch [b, sb] w w' := by
  have HKE : Hid (m.pc = k) := hk
  have hz : 0 < m.size := hg.pos
  have hf := hg.fine
  have hn : m.nslots ≠ 0 := by omega
  have lb := h.lb
  have ls := h.ls
  have k1 : (k : Int) ≤ 4294967295 := by have := hf.pc.2; omega
  have k0 : (0 : Int) ≤ (k : Int) := by omega
  have HW : Hid (∀ w', ref.Touch [] w w' → PW B E b mb sb m nx vE vA w') := fun w' t => h.quiet hz t
  have HHt : Hid (∀ w', ref.Touch [] (w.alloc (.cells #[Value.int .u32 0, Value.slice none 0 0] 116)) w' → PAt B b mb m nx (PX m sb vE vA) w') := fun w' t => (h.quiet hz (((ref.Touch.refl _ _).alloc _).trans t)).p
  have HF : Hid (Fine m) := hf
  have HG : Hid (MGood m) := hg
  have cpc : (w.alloc (.cells #[Value.int .u32 0, Value.slice none 0 0] 116)).cell? ⟨b, 33, none⟩ = some (.int .u32 (k : Int)) := ((HHt.out _ (ref.Touch.refl _ _)).cells 33 (by decide) (by decide)).trans (by rw [← HKE.out]; rfl)
  have z5 := hf.size
  have h64 := hs.s64
  have hk4 : k + 4 ≤ m.size := by simp [lies] at hl; omega
  have HTB : Hid (∀ w' x, ref.Touch [] w w' → decodes.Tabs w' x) := hT
  have HLE : Hid (m.nslots ≤ 64) := h.c.le
  have lm : mb < w.heap.size := World.block_lt_of_cell? _ _ (h.p.bytes 0 hz)
  have HXL : Hid (∀ i, i ∈ sb :: b :: mb :: ref.sblk vE → i < w.heap.size) := fun i hi => by
    simp at hi
    rcases hi with q | q | q | q
    · omega
    · omega
    · omega
    · exact (ref.own_lt h.evs i q).2
  have HBS : Hid (B ≤ w.heap.size) := h.bs
  have hhas : decide ((m.slots (k / 4 % m.nslots)).1 = (k : Int) ∧ ¬ (m.slots (k / 4 % m.nslots)).2 = 0) = false := by simp only [hc, decide_false]
  clear h hf hg hs hT hc hk
  go_enter Tryz.func73, Tryz.ntmps73
  go_wp2_with (first | (go_at_call 60; refine (Calls.mono (guard4_ok B b mb m nx _ _ (HHt.out _ (by repeat' (first | with_reducible exact tR _ _ | with_reducible apply tD | with_reducible apply tN | assumption))) (k : Int) 3 4 k0 k1 HF.out.size ha hl) ?_); rintro e w' ⟨rfl, hw'⟩; subst w'))
  refine wp_region_held_drew (S := (fun w' => w'.cell? ⟨b, 33, none⟩ = some (.int .u32 (k : Int)))) (by kernel_rfl) (cpc) (fun hHeld => ?_)
  refine tk (i := 0) (oi := ⟨some 9, _, _, _, _, _⟩) (v := ?v9x386) rfl (by kernel_rfl) (fun _ _ _ h => h) (by rfl) ?h9x386 (by assumption) ?r9x386
  case h9x386 => intro w' hSw; (try dsimp only [sbx] at hSw); go_simp; try with_reducible rfl
  try simp only [Act.put, ly1, ly2, ly3]
  refine tk (i := 1) (oi := ⟨some 10, _, _, _, _, _⟩) (v := ?v10x387) rfl (by kernel_rfl) (fun _ _ _ h => h) (by rfl) ?h10x387 (by assumption) ?r10x387
  case h10x387 => intro w' hSw; (try dsimp only [sbx] at hSw); go_simp; try with_reducible rfl
  try simp only [Act.put, ly1, ly2, ly3]
  refine tk (i := 2) (oi := ⟨some 11, _, _, _, _, _⟩) (v := ?v11x388) rfl (by kernel_rfl) (fun _ _ _ h => h) (by rfl) ?h11x388 (by assumption) ?r11x388
  case h11x388 => intro w' hSw; (try dsimp only [sbx] at hSw); go_simp; try with_reducible rfl
  try simp only [Act.put, ly1, ly2, ly3]
  refine tk (i := 3) (oi := ⟨some 12, _, _, _, _, _⟩) (v := ?v12x389) rfl (by kernel_rfl) (fun _ _ _ h => h) (by rfl) ?h12x389 (by assumption) ?r12x389
  case h12x389 => intro w' hSw; (try dsimp only [sbx] at hSw); go_simp; try with_reducible rfl
  try simp only [Act.put, ly1, ly2, ly3]
  refine tk (i := 4) (oi := ⟨some 13, _, _, _, _, _⟩) (v := ?v13x390) rfl (by kernel_rfl) (fun _ _ _ h => h) (by rfl) ?h13x390 (by assumption) ?r13x390
  case h13x390 => intro w' hSw; (try dsimp only [sbx] at hSw); go_simp; try with_reducible rfl
  try simp only [Act.put, ly1, ly2, ly3]
  refine tk (i := 5) (oi := ⟨some 14, _, _, _, _, _⟩) (v := ?v14x391) rfl (by kernel_rfl) (fun _ _ _ h => h) (by rfl) ?h14x391 (by assumption) ?r14x391
  case h14x391 => intro w' hSw; (try dsimp only [sbx] at hSw); go_simp; try with_reducible rfl
  try simp only [Act.put, ly1, ly2, ly3]
  refine tk (i := 6) (oi := ⟨some 15, _, _, _, _, _⟩) (v := ?v15x392) rfl (by kernel_rfl) (fun _ _ _ h => h) (by rfl) ?h15x392 (by assumption) ?r15x392
  case h15x392 => intro w' hSw; (try dsimp only [sbx] at hSw); go_simp; try with_reducible rfl
  try simp only [Act.put, ly1, ly2, ly3]
  refine wpAnyH_ready (rs := [7]) (by kernel_rfl) (by simp) ?_
  refine AllReadyH.cons (o := ⟨some 16, _, _, _, _, _⟩) rfl (fun K hK => ?_) AllReadyH.nil
  rw [if_pos (by rfl)]
  go_simp
  refine (Calls.mono (has_any B b mb sb _ m nx _ _ (HW.out _ (by repeat' (first | with_reducible exact ref.Touch.refl _ _ | with_reducible apply ref.Touch.drew | with_reducible apply ref.Touch.drewN | with_reducible apply ref.Touch.alloc | assumption))).ct hn0 k (by omega)) ?_)
  rintro e w2 ⟨rfl, ht2⟩
  have t2 : ref.Touch [] w w2 := ref.Touch.trans (by repeat' (first | with_reducible exact ref.Touch.refl _ _ | with_reducible apply ref.Touch.drew | with_reducible apply ref.Touch.drewN | with_reducible apply ref.Touch.alloc | assumption)) ht2
  have p2 : w2.cell? ⟨b, 33, none⟩ = some (.int .u32 (k : Int)) := ((HW.out _ t2).p.cells 33 (by decide) (by decide)).trans (by rw [← HKE.out]; rfl)
  have HTH2 : Hid (w2.there w.heap.size 0 2) := there_t (there_new w #[Value.int .u32 0, Value.slice none 0 0] 116) (Nat.succ_pos 1) (ref.Touch.trans (S := []) (by repeat' (first | with_reducible exact ref.Touch.refl _ _ | with_reducible apply ref.Touch.drew | with_reducible apply ref.Touch.drewN | with_reducible apply ref.Touch.alloc | assumption)) ht2) (by simp)
  have HC2 : Hid (w2.cell? ⟨w.heap.size, 0, none⟩ = some (.int .u32 0)) := (ref.Touch.cell (S := []) (ref.Touch.trans (S := []) (u := (w.alloc (.cells #[Value.int .u32 0, Value.slice none 0 0] 116))) (by repeat' (first | with_reducible exact ref.Touch.refl _ _ | with_reducible apply ref.Touch.drew | with_reducible apply ref.Touch.drewN | with_reducible apply ref.Touch.alloc | assumption)) ht2) (p := ⟨w.heap.size, 0, none⟩) (by simp) (by simp)).trans (World.cell?_alloc_at _ _ _ _ rfl)
  rw [hhas]
  clear ht2
  refine hK.out _ _ (p2) (fun hHeld => ?_)
  clear hK K
  try simp only [Act.put, ly1, ly2, ly3]
  refine tk (i := 8) (oi := ⟨some 17, _, _, _, _, _⟩) (v := ?v17x393) rfl (by kernel_rfl) (fun _ _ _ h => h) (by rfl) ?h17x393 (by assumption) ?r17x393
  case h17x393 => intro w' hSw; (try dsimp only [sbx] at hSw); go_simp; try with_reducible rfl
  try simp only [Act.put, ly1, ly2, ly3]
  refine wpAnyH_done (by kernel_rfl) ?_ _
  go_wp2_with fail
  refine wp_region_held_drew (S := (fun _ => True)) (by kernel_rfl) (trivial) (fun hHeld => ?_)
  refine tk (i := 0) (oi := ⟨some 18, _, _, _, _, _⟩) (v := ?v18x373) rfl (by kernel_rfl) (fun _ _ _ h => h) (by rfl) ?h18x373 (by assumption) ?r18x373
  case h18x373 => intro w' hSw; (try dsimp only [sbx] at hSw); go_simp; try with_reducible rfl
  try simp only [Act.put, ly1, ly2, ly3]
  refine tk (i := 1) (oi := ⟨some 19, _, _, _, _, _⟩) (v := ?v19x374) rfl (by kernel_rfl) (fun _ _ _ h => h) (by rfl) ?h19x374 (by assumption) ?r19x374
  case h19x374 => intro w' hSw; (try dsimp only [sbx] at hSw); go_simp; try with_reducible rfl
  try simp only [Act.put, ly1, ly2, ly3]
  refine tk (i := 2) (oi := ⟨some 20, _, _, _, _, _⟩) (v := ?v20x375) rfl (by kernel_rfl) (fun _ _ _ h => h) (by rfl) ?h20x375 (by assumption) ?r20x375
  case h20x375 => intro w' hSw; (try dsimp only [sbx] at hSw); go_simp; try with_reducible rfl
  try simp only [Act.put, ly1, ly2, ly3]
  refine tk (i := 3) (oi := ⟨some 21, _, _, _, _, _⟩) (v := ?v21x376) rfl (by kernel_rfl) (fun _ _ _ h => h) (by rfl) ?h21x376 (by assumption) ?r21x376
  case h21x376 => intro w' hSw; (try dsimp only [sbx] at hSw); go_simp; try with_reducible rfl
  try simp only [Act.put, ly1, ly2, ly3]
  refine wpAnyH_ready (rs := [4]) (by kernel_rfl) (by simp) ?_
  refine AllReadyH.cons (o := ⟨some 22, _, _, _, _, _⟩) rfl (fun K hK => ?_) AllReadyH.nil
  rw [if_pos (by rfl)]
  go_simp
  refine (Calls.mono (build_any B b mb m nx _ _ (HW.out _ (t2.trans (ref.Touch.refl _ _).drew)).p hz HF.out h64 k HKE.out (by omega) hk4 (fun w' x t => HTB.out w' x (t2.drew.trans t))) ?_)
  rintro e w3 hq
  rcases hq with ⟨h0, _⟩ | ⟨kb0, n0, c0, rfl, ⟨hq1, hq2, hq3, hq4, hq5⟩, hst, ht3⟩
  · have := blockLen_pos m.mem k (by simpa using hx)
    omega
  have t3 : ref.Touch [] w w3 := t2.drew.trans ht3
  have l2 : w.heap.size ≤ w2.heap.size := t2.size
  have hq5' : w2.heap.size ≤ kb0 := hq5
  have T23 : Hid (ref.Touch [] w2 w3) := ref.Touch.trans (ref.Touch.refl _ _).drew ht3
  have hv3 : SlotV B (sb :: b :: mb :: ref.sblk vE) m.mem ((k : Int), (n0 : Int)) (.slice (some ⟨kb0, 0, none⟩) n0 c0) w3 := Or.inr ⟨kb0, n0, c0, rfl, hq2, hq3, rfl, hq4, by have := HBS.out; omega, fun hc => by have := HXL.out kb0 hc; omega, ⟨k0, by omega, by omega, by have := blockLen_in m.mem 8 k (by omega) (n0 - 1) (by omega); rw [show ((n0 - 1 : Nat) : Int) = (n0 : Int) - 1 by omega] at this; exact this⟩, hst⟩
  have HV3 : Hid _ := hv3
  clear ht3 hst hv3 hq5
  refine hK.out _ _ (trivial) (fun hHeld => ?_)
  clear hK K
  try simp only [Act.put, ly1, ly2, ly3]
  refine wpAnyH_ready (rs := [5]) (by kernel_rfl) (by simp) ?_
  refine AllReadyH.cons (o := ⟨some 23, _, _, _, _, _⟩) rfl (fun K hK => ?_) AllReadyH.nil
  rw [if_pos (by rfl)]
  go_simp
  refine (Calls.mono (keep_n B E b mb sb m nx vE vA _ (HW.out _ t3) hz hn0 k n0 kb0 c0 (by omega) hq3 u0 u1 ar1 bt0 bt1 (by rw [hq1]; omega) HV3.out) ?_)
  rintro e w4 ⟨rfl, hp4, ht4, hsv4⟩
  rw [hq1] at hp4
  clear hsv4
  have P4 : Hid (PW B E b mb sb { m with slots := fun i => if i = (k / 4 % m.nslots) then ((k : Int), (blockLen m.mem 8 k)) else m.slots i, used := m.used + (blockLen m.mem 8 k), built := m.built + 1 } nx vE vA w4) := hp4
  have T4 : Hid (ref.Touch [b, sb] w3 w4) := ht4
  clear hp4 ht4
  refine hK.out _ _ (trivial) (fun hHeld => ?_)
  clear hK K
  try simp only [Act.put, ly1, ly2, ly3]
  refine wpAnyH_done (by kernel_rfl) ?_ _
  go_wp2_with fail
  have lw3 : w.heap.size ≤ w3.heap.size := t3.size
  have HTH4 : Hid (w4.there w.heap.size 0 2) := there_t (n := 2) (there_t (n := 2) HTH2.out (Nat.succ_pos 1) (T23.out) (by simp)) (Nat.succ_pos 1) T4.out (by simp; omega)
  clear hq1 hq2 hq3 hq4 hq5' HV3
  obtain ⟨g, hr, hgg⟩ := P4.out.c.row hn
  obtain ⟨g1, g2⟩ := hgg (k / 4 % m.nslots) (Nat.mod_lt _ hn0)
  have es : (({ m with slots := fun i => if i = (k / 4 % m.nslots) then ((k : Int), (blockLen m.mem 8 k)) else m.slots i, used := m.used + (blockLen m.mem 8 k), built := m.built + 1 } : M).slots (k / 4 % m.nslots)) = ((k : Int), (blockLen m.mem 8 k)) := by show (if (k / 4 % m.nslots) = (k / 4 % m.nslots) then _ else _) = _; rw [if_pos rfl]
  rw [es] at g1 g2
  rcases g2 with ⟨e1, _⟩ | ⟨kb, n, c, e1, e2, e3, e4, e5, e7, e8, e9, e10⟩
  · have h0 : (blockLen m.mem 8 k) = 0 := congrArg Prod.snd e1
    have := blockLen_pos m.mem k (by simpa using hx)
    omega
  have cp := hr.pcs (k / 4 % m.nslots) (Nat.mod_lt _ hn0)
  have cv := hr.vs (k / 4 % m.nslots) (Nat.mod_lt _ hn0)
  rw [g1] at cp
  rw [e4] at cv
  have HBK : Hid (BlkAt B (sb :: b :: mb :: ref.sblk vE) m.mem k kb n c w4) := ⟨e1.symm, e2, e3, e5, e7, e8, e10⟩
  have HK4 : Hid (∀ w', ref.Touch [] w4 w' → PW B E b mb sb { m with slots := fun i => if i = (k / 4 % m.nslots) then ((k : Int), (blockLen m.mem 8 k)) else m.slots i, used := m.used + (blockLen m.mem 8 k), built := m.built + 1 } nx vE vA w') := fun w' t => P4.out.quiet hz t
  have HR4 : Hid (w4.cell? ⟨sb, (k / 4 % m.nslots) * 2, none⟩ = some (.int .u32 (k : Int)) ∧ w4.cell? ⟨sb, (k / 4 % m.nslots) * 2 + 1, none⟩ = some (.slice (some ⟨kb, 0, none⟩) n c) ∧ sb < w4.heap.size) := ⟨cp, cv, P4.out.ls⟩
  clear hr hgg g1 e1 e2 e3 e4 e5 e7 e8 e9 e10 cp cv es
  have HS4 : Hid (∀ w', ref.Touch [] w4 w' → (fun w' => w'.cell? ⟨b, 33, none⟩ = some (.int .u32 (k : Int)) ∧ w'.cell? ⟨b, 40, none⟩ = some (.slice (some ⟨sb, 0, none⟩) m.nslots m.nslots) ∧ w'.cell? ⟨sb, (k / 4 % m.nslots) * 2, none⟩ = some (.int .u32 (k : Int)) ∧ w'.cell? ⟨sb, (k / 4 % m.nslots) * 2 + 1, none⟩ = some (.slice (some ⟨kb, 0, none⟩) n c)) w') := fun w' t => by
    have q := HK4.out w' t
    have cs := q.ct.cS
    rw [slotsV, if_neg hn] at cs
    exact ⟨(q.p.cells 33 (by decide) (by decide)).trans (by rw [← HKE.out]; rfl), cs, (t.cell (p := ⟨sb, (k / 4 % m.nslots) * 2, none⟩) HR4.out.2.2 (by simp)).trans HR4.out.1, (t.cell (p := ⟨sb, (k / 4 % m.nslots) * 2 + 1, none⟩) HR4.out.2.2 (by simp)).trans HR4.out.2.1⟩
  have HS4b : Hid (∀ w', ref.Touch [w.heap.size] w4 w' → (fun w' => w'.cell? ⟨b, 33, none⟩ = some (.int .u32 (k : Int)) ∧ w'.cell? ⟨b, 40, none⟩ = some (.slice (some ⟨sb, 0, none⟩) m.nslots m.nslots) ∧ w'.cell? ⟨sb, (k / 4 % m.nslots) * 2, none⟩ = some (.int .u32 (k : Int)) ∧ w'.cell? ⟨sb, (k / 4 % m.nslots) * 2 + 1, none⟩ = some (.slice (some ⟨kb, 0, none⟩) n c)) w') := fun w' t => by
    have q := HS4.out w4 (ref.Touch.refl _ _)
    have lbn : b < w4.heap.size := World.block_lt_of_cell? _ _ q.1
    have nb : b ∉ [w.heap.size] := by simp; omega
    have ns : sb ∉ [w.heap.size] := by simp; omega
    exact ⟨(t.cell (p := ⟨b, 33, none⟩) lbn nb).trans q.1, (t.cell (p := ⟨b, 40, none⟩) lbn nb).trans q.2.1, (t.cell (p := ⟨sb, (k / 4 % m.nslots) * 2, none⟩) HR4.out.2.2 ns).trans q.2.2.1, (t.cell (p := ⟨sb, (k / 4 % m.nslots) * 2 + 1, none⟩) HR4.out.2.2 ns).trans q.2.2.2⟩
  refine wp_region_held_drew (S := (fun w' => w'.cell? ⟨b, 33, none⟩ = some (.int .u32 (k : Int)) ∧ w'.cell? ⟨b, 40, none⟩ = some (.slice (some ⟨sb, 0, none⟩) m.nslots m.nslots) ∧ w'.cell? ⟨sb, (k / 4 % m.nslots) * 2, none⟩ = some (.int .u32 (k : Int)) ∧ w'.cell? ⟨sb, (k / 4 % m.nslots) * 2 + 1, none⟩ = some (.slice (some ⟨kb, 0, none⟩) n c))) (by kernel_rfl) (HS4.out _ (ref.Touch.refl _ _).drew) (fun hHeld => ?_)
  refine tk (i := 0) (oi := ⟨some 24, _, _, _, _, _⟩) (v := ?v24x377) rfl (by kernel_rfl) (fun _ _ _ h => h) (by rfl) ?h24x377 (by assumption) ?r24x377
  case h24x377 => intro w' hSw; (try dsimp only [sbx] at hSw); go_simp; try with_reducible rfl
  try simp only [Act.put, ly1, ly2, ly3]
  refine tk (i := 1) (oi := ⟨some 25, _, _, _, _, _⟩) (v := ?v25x378) rfl (by kernel_rfl) (fun _ _ _ h => h) (by rfl) ?h25x378 (by assumption) ?r25x378
  case h25x378 => intro w' hSw; (try dsimp only [sbx] at hSw); go_simp; try with_reducible rfl
  try simp only [Act.put, ly1, ly2, ly3]
  refine tk (i := 2) (oi := ⟨some 26, _, _, _, _, _⟩) (v := ?v26x379) rfl (by kernel_rfl) (fun _ _ _ h => h) (by rfl) ?h26x379 (by assumption) ?r26x379
  case h26x379 => intro w' hSw; (try dsimp only [sbx] at hSw); go_simp; try with_reducible rfl
  try simp only [Act.put, ly1, ly2, ly3]
  refine tk (i := 3) (oi := ⟨some 27, _, _, _, _, _⟩) (v := ?v27x380) rfl (by kernel_rfl) (fun _ _ _ h => h) (by rfl) ?h27x380 (by assumption) ?r27x380
  case h27x380 => intro w' hSw; (try dsimp only [sbx] at hSw); go_simp; try with_reducible rfl
  try simp only [Act.put, ly1, ly2, ly3]
  refine tk (i := 4) (oi := ⟨some 28, _, _, _, _, _⟩) (v := ?v28x381) rfl (by kernel_rfl) (fun _ _ _ h => h) (by rfl) ?h28x381 (by assumption) ?r28x381
  case h28x381 => intro w' hSw; (try dsimp only [sbx] at hSw); go_simp; try with_reducible rfl
  try simp only [Act.put, ly1, ly2, ly3]
  refine tk (i := 5) (oi := ⟨some 29, _, _, _, _, _⟩) (v := ?v29x382) rfl (by kernel_rfl) (fun _ _ _ h => h) (by rfl) ?h29x382 (by assumption) ?r29x382
  case h29x382 => intro w' hSw; (try dsimp only [sbx] at hSw); go_simp; try with_reducible rfl
  try simp only [Act.put, ly1, ly2, ly3]
  refine tk (i := 6) (oi := ⟨some 30, _, _, _, _, _⟩) (v := ?v30x383) rfl (by kernel_rfl) (fun _ _ _ h => h) (by rfl) ?h30x383 (by assumption) ?r30x383
  case h30x383 => intro w' hSw; (try dsimp only [sbx] at hSw); go_simp; try with_reducible rfl
  try simp only [Act.put, ly1, ly2, ly3]
  refine wpAnyH_ready (rs := [7]) (by kernel_rfl) (by simp) ?_
  refine AllReadyH.cons (o := ⟨some 31, _, _, _, _, _⟩) rfl (fun K hK => ?_) AllReadyH.nil
  rw [if_pos (by rfl)]
  go_simp
  refine (Calls.mono (slot_any b sb m.nslots _ hn0 HLE.out hHeld.2.1 k (by omega)) ?_)
  rintro e w6 ⟨rfl, ht6⟩
  have t6 : ref.Touch [] w4 w6 := ref.Touch.trans (ref.Touch.refl _ _).drew ht6
  have h6 : (fun w' => w'.cell? ⟨b, 33, none⟩ = some (.int .u32 (k : Int)) ∧ w'.cell? ⟨b, 40, none⟩ = some (.slice (some ⟨sb, 0, none⟩) m.nslots m.nslots) ∧ w'.cell? ⟨sb, (k / 4 % m.nslots) * 2, none⟩ = some (.int .u32 (k : Int)) ∧ w'.cell? ⟨sb, (k / 4 % m.nslots) * 2 + 1, none⟩ = some (.slice (some ⟨kb, 0, none⟩) n c)) w6 := HS4.out _ t6
  clear ht6
  refine hK.out _ _ h6 (fun hHeld => ?_)
  clear hK K
  try simp only [Act.put, ly1, ly2, ly3]
  refine tk (i := 8) (oi := ⟨some 32, _, _, _, _, _⟩) (v := ?v32x384) rfl (by kernel_rfl) (fun _ _ _ h => h) (by rfl) ?h32x384 (by assumption) ?r32x384
  case h32x384 => intro w' hSw; (try dsimp only [sbx] at hSw); go_simp; try with_reducible rfl
  try simp only [Act.put, ly1, ly2, ly3]
  refine tk (i := 9) (oi := ⟨some 33, _, _, _, _, _⟩) (v := ?v33x385) rfl (by kernel_rfl) (fun _ _ _ h => h) (by rfl) ?h33x385 (by assumption) ?r33x385
  case h33x385 => intro w' hSw; (try dsimp only [sbx] at hSw); go_simp; try with_reducible rfl
  try simp only [Act.put, ly1, ly2, ly3]
  refine wpAnyH_ready (rs := [10]) (by kernel_rfl) (by simp) ?_
  refine AllReadyH.cons (o := ⟨none, _, _, _, _, _⟩) rfl (fun K hK => ?_) AllReadyH.nil
  rw [if_pos (by rfl)]
  refine wp_store_mid _ _ _ rfl w.heap.size 0 #[Value.int .u32 (k : Int), Value.slice (some ⟨kb, 0, none⟩) n c] rfl rfl (by exact there_t (n := 2) HTH4.out (Nat.succ_pos 1) t6 (by simp)) info_bl (by simp [Value.oneCell']) ?_
  generalize h9 : World.setCells _ w.heap.size 0 (Array.toList #[Value.int .u32 (k : Int), Value.slice (some ⟨kb, 0, none⟩) n c]) = w9
  have T9 : Hid (ref.Touch [w.heap.size] w4 w9) := by rw [← h9]; exact touch_setsP (by simp) _ _ _ _ (t6.mono (by simp))
  have R9 : Hid (w9.rangeAt w.heap.size 0 (Array.toList #[Value.int .u32 (k : Int), Value.slice (some ⟨kb, 0, none⟩) n c])) := by rw [← h9]; exact World.rangeAt_setCells_same _ _ _ _ (there_t (n := 2) HTH4.out (Nat.succ_pos 1) t6 (by simp))
  have h9s : (fun w' => w'.cell? ⟨b, 33, none⟩ = some (.int .u32 (k : Int)) ∧ w'.cell? ⟨b, 40, none⟩ = some (.slice (some ⟨sb, 0, none⟩) m.nslots m.nslots) ∧ w'.cell? ⟨sb, (k / 4 % m.nslots) * 2, none⟩ = some (.int .u32 (k : Int)) ∧ w'.cell? ⟨sb, (k / 4 % m.nslots) * 2 + 1, none⟩ = some (.slice (some ⟨kb, 0, none⟩) n c)) w9 := HS4b.out _ T9.out
  clear h9
  refine hK.out _ _ h9s (fun hHeld9 => ?_)
  clear hK K
  try simp only [Act.put, ly1, ly2, ly3]
  refine wpAnyH_done (by kernel_rfl) ?_ _
  go_wp2_with fail
  refine bodyPost_ret (results_c Tryz.results73 _ _ _ w.heap.size (Array.toList #[Value.int .u32 (k : Int), Value.slice (some ⟨kb, 0, none⟩) n c]) (by rfl) _ R9.out Tryz.underlying116 rfl info_bl) rfl ?_
  have t4 : ref.Touch [b, sb] w w4 := (t3.mono (by simp)).trans T4.out
  have t9 : ref.Touch [b, sb] w w9 := tnewP t4 T9.out (by simp)
  obtain ⟨q1, q2, q3, q4, q5, q6, q7⟩ := HBK.out
  have lg2 : w.heap.size < w2.heap.size := World.block_lt_of_cell? _ _ HC2.out
  have hc4 : w4.cell? ⟨w.heap.size, 0, none⟩ = some (.int .u32 0) := (T4.out.cell (p := ⟨w.heap.size, 0, none⟩) (Nat.lt_of_lt_of_le lg2 T23.out.size) (by simp; omega)).trans ((T23.out.cell (p := ⟨w.heap.size, 0, none⟩) lg2 (by simp)).trans HC2.out)
  have nkb : kb ≠ w.heap.size := fun e => by
    subst e
    have := q7.2 0 q2 0 (by decide)
    simp [hc4, stepC] at this
  have p9 : PW B E b mb sb { m with slots := fun i => if i = (k / 4 % m.nslots) then ((k : Int), (blockLen m.mem 8 k)) else m.slots i, used := m.used + (blockLen m.mem 8 k), built := m.built + 1 } nx vE vA w9 := P4.out.late hz T9.out hc4 HBS.out (by omega) (by omega) (by omega) (fun hc => by have := HXL.out _ (List.mem_cons_of_mem _ (List.mem_cons_of_mem _ (List.mem_cons_of_mem _ hc))); omega)
  refine ⟨kb, n, c, rfl, p9, ⟨q1, q2, q3, q4, q5, q6, q7.touch q2 T9.out (by simpa using nkb)⟩, t9⟩
set_option maxHeartbeats 1000000 in
theorem find_f (B E b mb sb : Nat) (m : M) (nx : Int) (vE vA : Value) (w : World) (h : PW B E b mb sb m nx vE vA w) (hg : MGood m) (hn0 : 0 < m.nslots) (k : Nat) (hk : m.pc = k) (hs : SInv m) (ha : (k : Int) % 4 = 0) (hl : lies m k 4 = true) (hT : ∀ w' x, ref.Touch [] w w' → decodes.Tabs w' x) (hc : ¬ ((m.slots (k / 4 % m.nslots)).1 = k ∧ ¬ (m.slots (k / 4 % m.nslots)).2 = 0)) (hx : ¬ opn (ld m.mem k 4) = -1) (u0 : 0 ≤ m.used) (u1 : m.used ≤ 256) (ar1 : m.arena ≤ 256) (bt0 : 0 ≤ m.built) (bt1 : m.built ≤ 5000) (hfull : m.arena < m.used + blockLen m.mem 8 k) :
    Calls Tryz.prog 73 #[.pointer (some ⟨b, 0, none⟩)] w fun e w' => ∃ kb n c : Nat, e = .returned (.agg #[.int .u32 (k : Int), .slice (some ⟨kb, 0, none⟩) n c]) ∧ PW B E b mb sb { m with slots := fun i => if i = (k / 4 % m.nslots) then ((k : Int), (blockLen m.mem 8 k)) else (0, 0), used := (blockLen m.mem 8 k), built := m.built + 1 } nx vE vA w' ∧ BlkAt B (sb :: b :: mb :: ref.sblk vE) m.mem k kb n c w' ∧ ref.Touch [b, sb] w w' := by
  have HKE : Hid (m.pc = k) := hk
  have hz : 0 < m.size := hg.pos
  have hf := hg.fine
  have hn : m.nslots ≠ 0 := by omega
  have lb := h.lb
  have ls := h.ls
  have k1 : (k : Int) ≤ 4294967295 := by have := hf.pc.2; omega
  have k0 : (0 : Int) ≤ (k : Int) := by omega
  have HW : Hid (∀ w', ref.Touch [] w w' → PW B E b mb sb m nx vE vA w') := fun w' t => h.quiet hz t
  have HHt : Hid (∀ w', ref.Touch [] (w.alloc (.cells #[Value.int .u32 0, Value.slice none 0 0] 116)) w' → PAt B b mb m nx (PX m sb vE vA) w') := fun w' t => (h.quiet hz (((ref.Touch.refl _ _).alloc _).trans t)).p
  have HF : Hid (Fine m) := hf
  have HG : Hid (MGood m) := hg
  have cpc : (w.alloc (.cells #[Value.int .u32 0, Value.slice none 0 0] 116)).cell? ⟨b, 33, none⟩ = some (.int .u32 (k : Int)) := ((HHt.out _ (ref.Touch.refl _ _)).cells 33 (by decide) (by decide)).trans (by rw [← HKE.out]; rfl)
  have z5 := hf.size
  have h64 := hs.s64
  have hk4 : k + 4 ≤ m.size := by simp [lies] at hl; omega
  have HTB : Hid (∀ w' x, ref.Touch [] w w' → decodes.Tabs w' x) := hT
  have HLE : Hid (m.nslots ≤ 64) := h.c.le
  have lm : mb < w.heap.size := World.block_lt_of_cell? _ _ (h.p.bytes 0 hz)
  have HXL : Hid (∀ i, i ∈ sb :: b :: mb :: ref.sblk vE → i < w.heap.size) := fun i hi => by
    simp at hi
    rcases hi with q | q | q | q
    · omega
    · omega
    · omega
    · exact (ref.own_lt h.evs i q).2
  have HBS : Hid (B ≤ w.heap.size) := h.bs
  have hhas : decide ((m.slots (k / 4 % m.nslots)).1 = (k : Int) ∧ ¬ (m.slots (k / 4 % m.nslots)).2 = 0) = false := by simp only [hc, decide_false]
  clear h hf hg hs hT hc hk
  go_enter Tryz.func73, Tryz.ntmps73
  go_wp2_with (first | (go_at_call 60; refine (Calls.mono (guard4_ok B b mb m nx _ _ (HHt.out _ (by repeat' (first | with_reducible exact tR _ _ | with_reducible apply tD | with_reducible apply tN | assumption))) (k : Int) 3 4 k0 k1 HF.out.size ha hl) ?_); rintro e w' ⟨rfl, hw'⟩; subst w'))
  refine wp_region_held_drew (S := (fun w' => w'.cell? ⟨b, 33, none⟩ = some (.int .u32 (k : Int)))) (by kernel_rfl) (cpc) (fun hHeld => ?_)
  refine tk (i := 0) (oi := ⟨some 9, _, _, _, _, _⟩) (v := ?v9x407) rfl (by kernel_rfl) (fun _ _ _ h => h) (by rfl) ?h9x407 (by assumption) ?r9x407
  case h9x407 => intro w' hSw; (try dsimp only [sbx] at hSw); go_simp; try with_reducible rfl
  try simp only [Act.put, ly1, ly2, ly3]
  refine tk (i := 1) (oi := ⟨some 10, _, _, _, _, _⟩) (v := ?v10x408) rfl (by kernel_rfl) (fun _ _ _ h => h) (by rfl) ?h10x408 (by assumption) ?r10x408
  case h10x408 => intro w' hSw; (try dsimp only [sbx] at hSw); go_simp; try with_reducible rfl
  try simp only [Act.put, ly1, ly2, ly3]
  refine tk (i := 2) (oi := ⟨some 11, _, _, _, _, _⟩) (v := ?v11x409) rfl (by kernel_rfl) (fun _ _ _ h => h) (by rfl) ?h11x409 (by assumption) ?r11x409
  case h11x409 => intro w' hSw; (try dsimp only [sbx] at hSw); go_simp; try with_reducible rfl
  try simp only [Act.put, ly1, ly2, ly3]
  refine tk (i := 3) (oi := ⟨some 12, _, _, _, _, _⟩) (v := ?v12x410) rfl (by kernel_rfl) (fun _ _ _ h => h) (by rfl) ?h12x410 (by assumption) ?r12x410
  case h12x410 => intro w' hSw; (try dsimp only [sbx] at hSw); go_simp; try with_reducible rfl
  try simp only [Act.put, ly1, ly2, ly3]
  refine tk (i := 4) (oi := ⟨some 13, _, _, _, _, _⟩) (v := ?v13x411) rfl (by kernel_rfl) (fun _ _ _ h => h) (by rfl) ?h13x411 (by assumption) ?r13x411
  case h13x411 => intro w' hSw; (try dsimp only [sbx] at hSw); go_simp; try with_reducible rfl
  try simp only [Act.put, ly1, ly2, ly3]
  refine tk (i := 5) (oi := ⟨some 14, _, _, _, _, _⟩) (v := ?v14x412) rfl (by kernel_rfl) (fun _ _ _ h => h) (by rfl) ?h14x412 (by assumption) ?r14x412
  case h14x412 => intro w' hSw; (try dsimp only [sbx] at hSw); go_simp; try with_reducible rfl
  try simp only [Act.put, ly1, ly2, ly3]
  refine tk (i := 6) (oi := ⟨some 15, _, _, _, _, _⟩) (v := ?v15x413) rfl (by kernel_rfl) (fun _ _ _ h => h) (by rfl) ?h15x413 (by assumption) ?r15x413
  case h15x413 => intro w' hSw; (try dsimp only [sbx] at hSw); go_simp; try with_reducible rfl
  try simp only [Act.put, ly1, ly2, ly3]
  refine wpAnyH_ready (rs := [7]) (by kernel_rfl) (by simp) ?_
  refine AllReadyH.cons (o := ⟨some 16, _, _, _, _, _⟩) rfl (fun K hK => ?_) AllReadyH.nil
  rw [if_pos (by rfl)]
  go_simp
  refine (Calls.mono (has_any B b mb sb _ m nx _ _ (HW.out _ (by repeat' (first | with_reducible exact ref.Touch.refl _ _ | with_reducible apply ref.Touch.drew | with_reducible apply ref.Touch.drewN | with_reducible apply ref.Touch.alloc | assumption))).ct hn0 k (by omega)) ?_)
  rintro e w2 ⟨rfl, ht2⟩
  have t2 : ref.Touch [] w w2 := ref.Touch.trans (by repeat' (first | with_reducible exact ref.Touch.refl _ _ | with_reducible apply ref.Touch.drew | with_reducible apply ref.Touch.drewN | with_reducible apply ref.Touch.alloc | assumption)) ht2
  have p2 : w2.cell? ⟨b, 33, none⟩ = some (.int .u32 (k : Int)) := ((HW.out _ t2).p.cells 33 (by decide) (by decide)).trans (by rw [← HKE.out]; rfl)
  have HTH2 : Hid (w2.there w.heap.size 0 2) := there_t (there_new w #[Value.int .u32 0, Value.slice none 0 0] 116) (Nat.succ_pos 1) (ref.Touch.trans (S := []) (by repeat' (first | with_reducible exact ref.Touch.refl _ _ | with_reducible apply ref.Touch.drew | with_reducible apply ref.Touch.drewN | with_reducible apply ref.Touch.alloc | assumption)) ht2) (by simp)
  have HC2 : Hid (w2.cell? ⟨w.heap.size, 0, none⟩ = some (.int .u32 0)) := (ref.Touch.cell (S := []) (ref.Touch.trans (S := []) (u := (w.alloc (.cells #[Value.int .u32 0, Value.slice none 0 0] 116))) (by repeat' (first | with_reducible exact ref.Touch.refl _ _ | with_reducible apply ref.Touch.drew | with_reducible apply ref.Touch.drewN | with_reducible apply ref.Touch.alloc | assumption)) ht2) (p := ⟨w.heap.size, 0, none⟩) (by simp) (by simp)).trans (World.cell?_alloc_at _ _ _ _ rfl)
  rw [hhas]
  clear ht2
  refine hK.out _ _ (p2) (fun hHeld => ?_)
  clear hK K
  try simp only [Act.put, ly1, ly2, ly3]
  refine tk (i := 8) (oi := ⟨some 17, _, _, _, _, _⟩) (v := ?v17x414) rfl (by kernel_rfl) (fun _ _ _ h => h) (by rfl) ?h17x414 (by assumption) ?r17x414
  case h17x414 => intro w' hSw; (try dsimp only [sbx] at hSw); go_simp; try with_reducible rfl
  try simp only [Act.put, ly1, ly2, ly3]
  refine wpAnyH_done (by kernel_rfl) ?_ _
  go_wp2_with fail
  refine wp_region_held_drew (S := (fun _ => True)) (by kernel_rfl) (trivial) (fun hHeld => ?_)
  refine tk (i := 0) (oi := ⟨some 18, _, _, _, _, _⟩) (v := ?v18x394) rfl (by kernel_rfl) (fun _ _ _ h => h) (by rfl) ?h18x394 (by assumption) ?r18x394
  case h18x394 => intro w' hSw; (try dsimp only [sbx] at hSw); go_simp; try with_reducible rfl
  try simp only [Act.put, ly1, ly2, ly3]
  refine tk (i := 1) (oi := ⟨some 19, _, _, _, _, _⟩) (v := ?v19x395) rfl (by kernel_rfl) (fun _ _ _ h => h) (by rfl) ?h19x395 (by assumption) ?r19x395
  case h19x395 => intro w' hSw; (try dsimp only [sbx] at hSw); go_simp; try with_reducible rfl
  try simp only [Act.put, ly1, ly2, ly3]
  refine tk (i := 2) (oi := ⟨some 20, _, _, _, _, _⟩) (v := ?v20x396) rfl (by kernel_rfl) (fun _ _ _ h => h) (by rfl) ?h20x396 (by assumption) ?r20x396
  case h20x396 => intro w' hSw; (try dsimp only [sbx] at hSw); go_simp; try with_reducible rfl
  try simp only [Act.put, ly1, ly2, ly3]
  refine tk (i := 3) (oi := ⟨some 21, _, _, _, _, _⟩) (v := ?v21x397) rfl (by kernel_rfl) (fun _ _ _ h => h) (by rfl) ?h21x397 (by assumption) ?r21x397
  case h21x397 => intro w' hSw; (try dsimp only [sbx] at hSw); go_simp; try with_reducible rfl
  try simp only [Act.put, ly1, ly2, ly3]
  refine wpAnyH_ready (rs := [4]) (by kernel_rfl) (by simp) ?_
  refine AllReadyH.cons (o := ⟨some 22, _, _, _, _, _⟩) rfl (fun K hK => ?_) AllReadyH.nil
  rw [if_pos (by rfl)]
  go_simp
  refine (Calls.mono (build_any B b mb m nx _ _ (HW.out _ (t2.trans (ref.Touch.refl _ _).drew)).p hz HF.out h64 k HKE.out (by omega) hk4 (fun w' x t => HTB.out w' x (t2.drew.trans t))) ?_)
  rintro e w3 hq
  rcases hq with ⟨h0, _⟩ | ⟨kb0, n0, c0, rfl, ⟨hq1, hq2, hq3, hq4, hq5⟩, hst, ht3⟩
  · have := blockLen_pos m.mem k (by simpa using hx)
    omega
  have t3 : ref.Touch [] w w3 := t2.drew.trans ht3
  have l2 : w.heap.size ≤ w2.heap.size := t2.size
  have hq5' : w2.heap.size ≤ kb0 := hq5
  have T23 : Hid (ref.Touch [] w2 w3) := ref.Touch.trans (ref.Touch.refl _ _).drew ht3
  have hv3 : SlotV B (sb :: b :: mb :: ref.sblk vE) m.mem ((k : Int), (n0 : Int)) (.slice (some ⟨kb0, 0, none⟩) n0 c0) w3 := Or.inr ⟨kb0, n0, c0, rfl, hq2, hq3, rfl, hq4, by have := HBS.out; omega, fun hc => by have := HXL.out kb0 hc; omega, ⟨k0, by omega, by omega, by have := blockLen_in m.mem 8 k (by omega) (n0 - 1) (by omega); rw [show ((n0 - 1 : Nat) : Int) = (n0 : Int) - 1 by omega] at this; exact this⟩, hst⟩
  have HV3 : Hid _ := hv3
  clear ht3 hst hv3 hq5
  refine hK.out _ _ (trivial) (fun hHeld => ?_)
  clear hK K
  try simp only [Act.put, ly1, ly2, ly3]
  refine wpAnyH_ready (rs := [5]) (by kernel_rfl) (by simp) ?_
  refine AllReadyH.cons (o := ⟨some 23, _, _, _, _, _⟩) rfl (fun K hK => ?_) AllReadyH.nil
  rw [if_pos (by rfl)]
  go_simp
  refine (Calls.mono (keep_f B E b mb sb m nx vE vA _ (HW.out _ t3) hz hn0 k n0 kb0 c0 (by omega) hq3 u0 u1 ar1 bt0 bt1 (by rw [hq1]; omega) HV3.out) ?_)
  rintro e w4 ⟨rfl, hp4, ht4, hsv4⟩
  rw [hq1] at hp4
  clear hsv4
  have P4 : Hid (PW B E b mb sb { m with slots := fun i => if i = (k / 4 % m.nslots) then ((k : Int), (blockLen m.mem 8 k)) else (0, 0), used := (blockLen m.mem 8 k), built := m.built + 1 } nx vE vA w4) := hp4
  have T4 : Hid (ref.Touch [b, sb] w3 w4) := ht4
  clear hp4 ht4
  refine hK.out _ _ (trivial) (fun hHeld => ?_)
  clear hK K
  try simp only [Act.put, ly1, ly2, ly3]
  refine wpAnyH_done (by kernel_rfl) ?_ _
  go_wp2_with fail
  have lw3 : w.heap.size ≤ w3.heap.size := t3.size
  have HTH4 : Hid (w4.there w.heap.size 0 2) := there_t (n := 2) (there_t (n := 2) HTH2.out (Nat.succ_pos 1) (T23.out) (by simp)) (Nat.succ_pos 1) T4.out (by simp; omega)
  clear hq1 hq2 hq3 hq4 hq5' HV3
  obtain ⟨g, hr, hgg⟩ := P4.out.c.row hn
  obtain ⟨g1, g2⟩ := hgg (k / 4 % m.nslots) (Nat.mod_lt _ hn0)
  have es : (({ m with slots := fun i => if i = (k / 4 % m.nslots) then ((k : Int), (blockLen m.mem 8 k)) else (0, 0), used := (blockLen m.mem 8 k), built := m.built + 1 } : M).slots (k / 4 % m.nslots)) = ((k : Int), (blockLen m.mem 8 k)) := by show (if (k / 4 % m.nslots) = (k / 4 % m.nslots) then _ else _) = _; rw [if_pos rfl]
  rw [es] at g1 g2
  rcases g2 with ⟨e1, _⟩ | ⟨kb, n, c, e1, e2, e3, e4, e5, e7, e8, e9, e10⟩
  · have h0 : (blockLen m.mem 8 k) = 0 := congrArg Prod.snd e1
    have := blockLen_pos m.mem k (by simpa using hx)
    omega
  have cp := hr.pcs (k / 4 % m.nslots) (Nat.mod_lt _ hn0)
  have cv := hr.vs (k / 4 % m.nslots) (Nat.mod_lt _ hn0)
  rw [g1] at cp
  rw [e4] at cv
  have HBK : Hid (BlkAt B (sb :: b :: mb :: ref.sblk vE) m.mem k kb n c w4) := ⟨e1.symm, e2, e3, e5, e7, e8, e10⟩
  have HK4 : Hid (∀ w', ref.Touch [] w4 w' → PW B E b mb sb { m with slots := fun i => if i = (k / 4 % m.nslots) then ((k : Int), (blockLen m.mem 8 k)) else (0, 0), used := (blockLen m.mem 8 k), built := m.built + 1 } nx vE vA w') := fun w' t => P4.out.quiet hz t
  have HR4 : Hid (w4.cell? ⟨sb, (k / 4 % m.nslots) * 2, none⟩ = some (.int .u32 (k : Int)) ∧ w4.cell? ⟨sb, (k / 4 % m.nslots) * 2 + 1, none⟩ = some (.slice (some ⟨kb, 0, none⟩) n c) ∧ sb < w4.heap.size) := ⟨cp, cv, P4.out.ls⟩
  clear hr hgg g1 e1 e2 e3 e4 e5 e7 e8 e9 e10 cp cv es
  have HS4 : Hid (∀ w', ref.Touch [] w4 w' → (fun w' => w'.cell? ⟨b, 33, none⟩ = some (.int .u32 (k : Int)) ∧ w'.cell? ⟨b, 40, none⟩ = some (.slice (some ⟨sb, 0, none⟩) m.nslots m.nslots) ∧ w'.cell? ⟨sb, (k / 4 % m.nslots) * 2, none⟩ = some (.int .u32 (k : Int)) ∧ w'.cell? ⟨sb, (k / 4 % m.nslots) * 2 + 1, none⟩ = some (.slice (some ⟨kb, 0, none⟩) n c)) w') := fun w' t => by
    have q := HK4.out w' t
    have cs := q.ct.cS
    rw [slotsV, if_neg hn] at cs
    exact ⟨(q.p.cells 33 (by decide) (by decide)).trans (by rw [← HKE.out]; rfl), cs, (t.cell (p := ⟨sb, (k / 4 % m.nslots) * 2, none⟩) HR4.out.2.2 (by simp)).trans HR4.out.1, (t.cell (p := ⟨sb, (k / 4 % m.nslots) * 2 + 1, none⟩) HR4.out.2.2 (by simp)).trans HR4.out.2.1⟩
  have HS4b : Hid (∀ w', ref.Touch [w.heap.size] w4 w' → (fun w' => w'.cell? ⟨b, 33, none⟩ = some (.int .u32 (k : Int)) ∧ w'.cell? ⟨b, 40, none⟩ = some (.slice (some ⟨sb, 0, none⟩) m.nslots m.nslots) ∧ w'.cell? ⟨sb, (k / 4 % m.nslots) * 2, none⟩ = some (.int .u32 (k : Int)) ∧ w'.cell? ⟨sb, (k / 4 % m.nslots) * 2 + 1, none⟩ = some (.slice (some ⟨kb, 0, none⟩) n c)) w') := fun w' t => by
    have q := HS4.out w4 (ref.Touch.refl _ _)
    have lbn : b < w4.heap.size := World.block_lt_of_cell? _ _ q.1
    have nb : b ∉ [w.heap.size] := by simp; omega
    have ns : sb ∉ [w.heap.size] := by simp; omega
    exact ⟨(t.cell (p := ⟨b, 33, none⟩) lbn nb).trans q.1, (t.cell (p := ⟨b, 40, none⟩) lbn nb).trans q.2.1, (t.cell (p := ⟨sb, (k / 4 % m.nslots) * 2, none⟩) HR4.out.2.2 ns).trans q.2.2.1, (t.cell (p := ⟨sb, (k / 4 % m.nslots) * 2 + 1, none⟩) HR4.out.2.2 ns).trans q.2.2.2⟩
  refine wp_region_held_drew (S := (fun w' => w'.cell? ⟨b, 33, none⟩ = some (.int .u32 (k : Int)) ∧ w'.cell? ⟨b, 40, none⟩ = some (.slice (some ⟨sb, 0, none⟩) m.nslots m.nslots) ∧ w'.cell? ⟨sb, (k / 4 % m.nslots) * 2, none⟩ = some (.int .u32 (k : Int)) ∧ w'.cell? ⟨sb, (k / 4 % m.nslots) * 2 + 1, none⟩ = some (.slice (some ⟨kb, 0, none⟩) n c))) (by kernel_rfl) (HS4.out _ (ref.Touch.refl _ _).drew) (fun hHeld => ?_)
  refine tk (i := 0) (oi := ⟨some 24, _, _, _, _, _⟩) (v := ?v24x398) rfl (by kernel_rfl) (fun _ _ _ h => h) (by rfl) ?h24x398 (by assumption) ?r24x398
  case h24x398 => intro w' hSw; (try dsimp only [sbx] at hSw); go_simp; try with_reducible rfl
  try simp only [Act.put, ly1, ly2, ly3]
  refine tk (i := 1) (oi := ⟨some 25, _, _, _, _, _⟩) (v := ?v25x399) rfl (by kernel_rfl) (fun _ _ _ h => h) (by rfl) ?h25x399 (by assumption) ?r25x399
  case h25x399 => intro w' hSw; (try dsimp only [sbx] at hSw); go_simp; try with_reducible rfl
  try simp only [Act.put, ly1, ly2, ly3]
  refine tk (i := 2) (oi := ⟨some 26, _, _, _, _, _⟩) (v := ?v26x400) rfl (by kernel_rfl) (fun _ _ _ h => h) (by rfl) ?h26x400 (by assumption) ?r26x400
  case h26x400 => intro w' hSw; (try dsimp only [sbx] at hSw); go_simp; try with_reducible rfl
  try simp only [Act.put, ly1, ly2, ly3]
  refine tk (i := 3) (oi := ⟨some 27, _, _, _, _, _⟩) (v := ?v27x401) rfl (by kernel_rfl) (fun _ _ _ h => h) (by rfl) ?h27x401 (by assumption) ?r27x401
  case h27x401 => intro w' hSw; (try dsimp only [sbx] at hSw); go_simp; try with_reducible rfl
  try simp only [Act.put, ly1, ly2, ly3]
  refine tk (i := 4) (oi := ⟨some 28, _, _, _, _, _⟩) (v := ?v28x402) rfl (by kernel_rfl) (fun _ _ _ h => h) (by rfl) ?h28x402 (by assumption) ?r28x402
  case h28x402 => intro w' hSw; (try dsimp only [sbx] at hSw); go_simp; try with_reducible rfl
  try simp only [Act.put, ly1, ly2, ly3]
  refine tk (i := 5) (oi := ⟨some 29, _, _, _, _, _⟩) (v := ?v29x403) rfl (by kernel_rfl) (fun _ _ _ h => h) (by rfl) ?h29x403 (by assumption) ?r29x403
  case h29x403 => intro w' hSw; (try dsimp only [sbx] at hSw); go_simp; try with_reducible rfl
  try simp only [Act.put, ly1, ly2, ly3]
  refine tk (i := 6) (oi := ⟨some 30, _, _, _, _, _⟩) (v := ?v30x404) rfl (by kernel_rfl) (fun _ _ _ h => h) (by rfl) ?h30x404 (by assumption) ?r30x404
  case h30x404 => intro w' hSw; (try dsimp only [sbx] at hSw); go_simp; try with_reducible rfl
  try simp only [Act.put, ly1, ly2, ly3]
  refine wpAnyH_ready (rs := [7]) (by kernel_rfl) (by simp) ?_
  refine AllReadyH.cons (o := ⟨some 31, _, _, _, _, _⟩) rfl (fun K hK => ?_) AllReadyH.nil
  rw [if_pos (by rfl)]
  go_simp
  refine (Calls.mono (slot_any b sb m.nslots _ hn0 HLE.out hHeld.2.1 k (by omega)) ?_)
  rintro e w6 ⟨rfl, ht6⟩
  have t6 : ref.Touch [] w4 w6 := ref.Touch.trans (ref.Touch.refl _ _).drew ht6
  have h6 : (fun w' => w'.cell? ⟨b, 33, none⟩ = some (.int .u32 (k : Int)) ∧ w'.cell? ⟨b, 40, none⟩ = some (.slice (some ⟨sb, 0, none⟩) m.nslots m.nslots) ∧ w'.cell? ⟨sb, (k / 4 % m.nslots) * 2, none⟩ = some (.int .u32 (k : Int)) ∧ w'.cell? ⟨sb, (k / 4 % m.nslots) * 2 + 1, none⟩ = some (.slice (some ⟨kb, 0, none⟩) n c)) w6 := HS4.out _ t6
  clear ht6
  refine hK.out _ _ h6 (fun hHeld => ?_)
  clear hK K
  try simp only [Act.put, ly1, ly2, ly3]
  refine tk (i := 8) (oi := ⟨some 32, _, _, _, _, _⟩) (v := ?v32x405) rfl (by kernel_rfl) (fun _ _ _ h => h) (by rfl) ?h32x405 (by assumption) ?r32x405
  case h32x405 => intro w' hSw; (try dsimp only [sbx] at hSw); go_simp; try with_reducible rfl
  try simp only [Act.put, ly1, ly2, ly3]
  refine tk (i := 9) (oi := ⟨some 33, _, _, _, _, _⟩) (v := ?v33x406) rfl (by kernel_rfl) (fun _ _ _ h => h) (by rfl) ?h33x406 (by assumption) ?r33x406
  case h33x406 => intro w' hSw; (try dsimp only [sbx] at hSw); go_simp; try with_reducible rfl
  try simp only [Act.put, ly1, ly2, ly3]
  refine wpAnyH_ready (rs := [10]) (by kernel_rfl) (by simp) ?_
  refine AllReadyH.cons (o := ⟨none, _, _, _, _, _⟩) rfl (fun K hK => ?_) AllReadyH.nil
  rw [if_pos (by rfl)]
  refine wp_store_mid _ _ _ rfl w.heap.size 0 #[Value.int .u32 (k : Int), Value.slice (some ⟨kb, 0, none⟩) n c] rfl rfl (by exact there_t (n := 2) HTH4.out (Nat.succ_pos 1) t6 (by simp)) info_bl (by simp [Value.oneCell']) ?_
  generalize h9 : World.setCells _ w.heap.size 0 (Array.toList #[Value.int .u32 (k : Int), Value.slice (some ⟨kb, 0, none⟩) n c]) = w9
  have T9 : Hid (ref.Touch [w.heap.size] w4 w9) := by rw [← h9]; exact touch_setsP (by simp) _ _ _ _ (t6.mono (by simp))
  have R9 : Hid (w9.rangeAt w.heap.size 0 (Array.toList #[Value.int .u32 (k : Int), Value.slice (some ⟨kb, 0, none⟩) n c])) := by rw [← h9]; exact World.rangeAt_setCells_same _ _ _ _ (there_t (n := 2) HTH4.out (Nat.succ_pos 1) t6 (by simp))
  have h9s : (fun w' => w'.cell? ⟨b, 33, none⟩ = some (.int .u32 (k : Int)) ∧ w'.cell? ⟨b, 40, none⟩ = some (.slice (some ⟨sb, 0, none⟩) m.nslots m.nslots) ∧ w'.cell? ⟨sb, (k / 4 % m.nslots) * 2, none⟩ = some (.int .u32 (k : Int)) ∧ w'.cell? ⟨sb, (k / 4 % m.nslots) * 2 + 1, none⟩ = some (.slice (some ⟨kb, 0, none⟩) n c)) w9 := HS4b.out _ T9.out
  clear h9
  refine hK.out _ _ h9s (fun hHeld9 => ?_)
  clear hK K
  try simp only [Act.put, ly1, ly2, ly3]
  refine wpAnyH_done (by kernel_rfl) ?_ _
  go_wp2_with fail
  refine bodyPost_ret (results_c Tryz.results73 _ _ _ w.heap.size (Array.toList #[Value.int .u32 (k : Int), Value.slice (some ⟨kb, 0, none⟩) n c]) (by rfl) _ R9.out Tryz.underlying116 rfl info_bl) rfl ?_
  have t4 : ref.Touch [b, sb] w w4 := (t3.mono (by simp)).trans T4.out
  have t9 : ref.Touch [b, sb] w w9 := tnewP t4 T9.out (by simp)
  obtain ⟨q1, q2, q3, q4, q5, q6, q7⟩ := HBK.out
  have lg2 : w.heap.size < w2.heap.size := World.block_lt_of_cell? _ _ HC2.out
  have hc4 : w4.cell? ⟨w.heap.size, 0, none⟩ = some (.int .u32 0) := (T4.out.cell (p := ⟨w.heap.size, 0, none⟩) (Nat.lt_of_lt_of_le lg2 T23.out.size) (by simp; omega)).trans ((T23.out.cell (p := ⟨w.heap.size, 0, none⟩) lg2 (by simp)).trans HC2.out)
  have nkb : kb ≠ w.heap.size := fun e => by
    subst e
    have := q7.2 0 q2 0 (by decide)
    simp [hc4, stepC] at this
  have p9 : PW B E b mb sb { m with slots := fun i => if i = (k / 4 % m.nslots) then ((k : Int), (blockLen m.mem 8 k)) else (0, 0), used := (blockLen m.mem 8 k), built := m.built + 1 } nx vE vA w9 := P4.out.late hz T9.out hc4 HBS.out (by omega) (by omega) (by omega) (fun hc => by have := HXL.out _ (List.mem_cons_of_mem _ (List.mem_cons_of_mem _ (List.mem_cons_of_mem _ hc))); omega)
  refine ⟨kb, n, c, rfl, p9, ⟨q1, q2, q3, q4, q5, q6, q7.touch q2 T9.out (by simpa using nkb)⟩, t9⟩
end Go.Proofs.YtmogjicompmkkaaGreatDoor.prog
