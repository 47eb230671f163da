import Derived.Test.YtakcncahkdfknaaGreatDoorGm
import Derived.Test.YtakcncahkdfknaaGreatDoorGj
namespace Go.Proofs.YtakcncahkdfknaaGreatDoor.prog
open Go.ChangeShapes Go.WideShapes Go.ChangeAt Go.RowKit Go.Proofs.YtakcncahkdfknaaGreatDoor.nums Go.Proofs.YtakcncahkdfknaaGreatDoor.dnums Go.Proofs.YtakcncahkdfknaaGreatDoor.mach

set_option linter.unusedVariables false
set_option linter.unusedSimpArgs false
attribute [local go_sem ↓] Go.wp_at_zero Go.wp_at_succ
def CP (B E b mb : Nat) (m : M) (nx : Int) (vE : Value) (w : World) (e : Ending) (w' : World) : Prop := e = .returned (.tuple #[]) ∧ ∃ vE' vA', PW B E b mb m nx vE' vA' w' ∧ ref.Touch (b :: mb :: ref.sblk vE) w w'
def CX (B E b mb : Nat) (m : M) (nx : Int) (vE : Value) (w : World) (e : Ending) (w' : World) : Prop := e = .panicked (trapV 1) ∧ ∃ vE' vA', PW B E b mb m nx vE' vA' w' ∧ ref.Touch (b :: mb :: ref.sblk vE) w w'
set_option maxRecDepth 10000 in
theorem cw_fa (B E b mb : Nat) (m : M) (nx : Int) (vE vA : Value) (w : World) (h : PW B E b mb m nx vE vA w) (hz : 0 < m.size) (hf : Fine m) (hsz : m.evs.length ≤ 2000) (hl : lies m (m.regs 11) (m.regs 12) = false) : Calls Tryz.prog 95 #[.pointer (some ⟨b, 0, none⟩)] w (CP B E b mb (setReg m 10 4294967282) nx vE w) := by
  have HH : Hid (PW B E b mb m nx vE vA w) := h
  have HF : Hid (Fine m) := hf
  have z1 := hf.size
  clear h hf
  go_enter Tryz.func95, Tryz.ntmps95
  go_wp2_with (first | (go_at_call 106; refine (Calls.mono (span_fa B b mb m nx _ _ HH.out.p HF.out hl) ?_); rintro e w1 ⟨rfl, ht1⟩; have H1 : Hid (PW B E b mb m nx vE vA w1) := HH.out.quiet hz ht1; have T1 : Hid (ref.Touch [] w w1) := ht1; clear ht1) | (go_at_call 86; refine (Calls.mono (set_any B b mb m nx _ _ H1.out.p 10 4294967282 (by decide) (by decide)) ?_); rintro e w2 ⟨rfl, hp2, ht2⟩; have H2 : Hid (PW B E b mb (setReg m 10 4294967282) nx vE vA w2) := H1.out.step (by rw [show (setReg m 10 4294967282).low = m.low from rfl]; exact hp2) (ht2.mono (by simp)) rfl rfl; have T2 : Hid (ref.Touch [b] _ w2) := ht2; clear hp2 ht2))
  refine bodyPost_ret (results_none rfl _ _ _) rfl ?_
  exact ⟨rfl, _, _, H2.out, (T1.out.mono (by simp)).trans (T2.out.mono (by simp))⟩
set_option maxRecDepth 10000 in
theorem cw_ok (B E b mb : Nat) (m : M) (nx : Int) (vE vA : Value) (w : World) (h : PW B E b mb m nx vE vA w) (hz : 0 < m.size) (hf : Fine m) (hsz : m.evs.length ≤ 2000) (k j : Nat) (hk : m.regs 11 = k) (hj : m.regs 12 = j) (hkj : k + j ≤ m.size) : Calls Tryz.prog 95 #[.pointer (some ⟨b, 0, none⟩)] w (CP B E b mb (setReg { m with evs := m.evs ++ [⟨64, (j : Int), ref.memD m.mem k j⟩] } 10 j) nx vE w) := by
  have HH : Hid (PW B E b mb m nx vE vA w) := h
  have HF : Hid (Fine m) := hf
  have z1 := hf.size
  have HF2 : Hid (Fine m) := hf
  clear h hf
  go_enter Tryz.func95, Tryz.ntmps95
  go_wp2_with (first | (go_at_call 106; refine (Calls.mono (span_ok B b mb m nx _ _ HH.out.p HF.out k j hk hj hkj) ?_); rintro e w1 ⟨o, c, rfl, ho, hjc, hc5, ht1⟩; have H1 : Hid (PW B E b mb m nx vE vA w1) := HH.out.quiet hz ht1; have T1 : Hid (ref.Touch [] w w1) := ht1; have HO : Hid (0 < j → o = k) := ho; clear ht1 ho; have HO2 : Hid (0 < j → o = k) := HO.out) | (go_at_call 107; refine (Calls.mono (ansB_any B E b mb m nx vE vA _ H1.out hz HF2.out hsz 64 k o j c (by show _ ≤ m.size; omega) HO2.out) ?_); rintro e w5 ⟨rfl, vE5, hp5, ht5⟩; have H5 : Hid (PW B E b mb (setReg { m with evs := m.evs ++ [⟨64, ((j : Nat) : Int), ref.memD (m).mem k j⟩] } 10 ((j : Nat) : Int)) nx vE5 vA w5) := hp5; have T5 : Hid (ref.Touch (b :: ref.sblk vE) _ w5) := ht5; clear hp5 ht5))
  go_end0
  exact ⟨rfl, _, _, H5.out, (T1.out.mono (by simp)).trans (T5.out.mono (by simp; intro i hi; exact Or.inr (Or.inr hi)))⟩
set_option maxRecDepth 10000 in
theorem cr_fa (B E b mb : Nat) (m : M) (nx : Int) (vE vA : Value) (w : World) (h : PW B E b mb m nx vE vA w) (hz : 0 < m.size) (hf : Fine m) (hsz : m.evs.length ≤ 2000) (hl : lies m (m.regs 11) (m.regs 12) = false) : Calls Tryz.prog 96 #[.pointer (some ⟨b, 0, none⟩)] w (CP B E b mb (setReg m 10 4294967282) nx vE w) := by
  have HH : Hid (PW B E b mb m nx vE vA w) := h
  have HF : Hid (Fine m) := hf
  have z1 := hf.size
  clear h hf
  go_enter Tryz.func96, Tryz.ntmps96
  go_wp2_with (first | (go_at_call 106; refine (Calls.mono (span_fa B b mb m nx _ _ HH.out.p HF.out hl) ?_); rintro e w1 ⟨rfl, ht1⟩; have H1 : Hid (PW B E b mb m nx vE vA w1) := HH.out.quiet hz ht1; have T1 : Hid (ref.Touch [] w w1) := ht1; clear ht1) | (go_at_call 86; refine (Calls.mono (set_any B b mb m nx _ _ H1.out.p 10 4294967282 (by decide) (by decide)) ?_); rintro e w2 ⟨rfl, hp2, ht2⟩; have H2 : Hid (PW B E b mb (setReg m 10 4294967282) nx vE vA w2) := H1.out.step (by rw [show (setReg m 10 4294967282).low = m.low from rfl]; exact hp2) (ht2.mono (by simp)) rfl rfl; have T2 : Hid (ref.Touch [b] _ w2) := ht2; clear hp2 ht2))
  refine bodyPost_ret (results_none rfl _ _ _) rfl ?_
  exact ⟨rfl, _, _, H2.out, (T1.out.mono (by simp)).trans (T2.out.mono (by simp))⟩
set_option maxRecDepth 10000 in
theorem cr_A (B E b mb : Nat) (m : M) (nx : Int) (vE vA : Value) (w : World) (h : PW B E b mb m nx vE vA w) (hz : 0 < m.size) (hf : Fine m) (hsz : m.evs.length ≤ 2000) (k j : Nat) (hk : m.regs 11 = k) (hj : m.regs 12 = j) (hkj : k + j ≤ m.size) (ha : m.ans = []) (t : ByteArray) (ht : t = ((⟨#[]⟩ : ByteArray)).extract 0 (min ((⟨#[]⟩ : ByteArray)).size j)) : Calls Tryz.prog 96 #[.pointer (some ⟨b, 0, none⟩)] w (CP B E b mb (setReg { { m with mem := put m.mem k t } with evs := m.evs ++ [⟨63, (t.size : Int), t⟩] } 10 t.size) nx vE w) := by
  have HH : Hid (PW B E b mb m nx vE vA w) := h
  have HF : Hid (Fine m) := hf
  have z1 := hf.size
  have HTE : Hid (t = ((⟨#[]⟩ : ByteArray)).extract 0 (min ((⟨#[]⟩ : ByteArray)).size j)) := ht
  have htj : t.size ≤ j := by rw [ht]; simp; omega
  have HF2 : Hid (Fine { m with mem := put m.mem k t }) := ⟨hf.regs, hf.zero, put_bd _ hf.mem _ _, hf.size, hf.pc, hf.brk, hf.low, hf.steps, hf.fuel, hf.within⟩
  clear ht
  clear h hf
  go_enter Tryz.func96, Tryz.ntmps96
  go_wp2_with (first | (go_at_call 106; refine (Calls.mono (span_ok B b mb m nx _ _ HH.out.p HF.out k j hk hj hkj) ?_); rintro e w1 ⟨o, c, rfl, ho, hjc, hc5, ht1⟩; have H1 : Hid (PW B E b mb m nx vE vA w1) := HH.out.quiet hz ht1; have T1 : Hid (ref.Touch [] w w1) := ht1; have HO : Hid (0 < j → o = k) := ho; clear ht1 ho) | (go_at_call 108; refine (Calls.mono (nextA_nil B E b mb m nx vE vA _ H1.out ha) ?_); rintro e w3 ⟨rfl, hw3⟩; have H3 : Hid (PW B E b mb m nx vE vA w3) := (by rw [hw3]; exact H1.out); have T3 : Hid (ref.Touch [b] w1 w3) := (by rw [hw3]; exact ref.Touch.refl _ _); clear hw3; obtain ⟨w4, hw4⟩ : ∃ w4, w4 = w3.setCells mb k (ref.strCells t) := ⟨_, rfl⟩; have hrun : ∀ ty, (Builtin.copy_ #[49, 9] ty #[.slice (some ⟨mb, o, none⟩) j c, .string (⟨#[]⟩ : ByteArray)]).run Tryz.prog w3 = .ok (goInt t.size) w4 := (fun ty => (by rw [hw4, HTE.out]; exact copy_p B b mb m nx _ w3 H3.out.p z1 k o j c (⟨#[]⟩ : ByteArray) hkj HO.out ty)); have H4 : Hid (PW B E b mb { m with mem := put m.mem k t } nx vE vA w4) := (by rw [hw4]; exact H3.out.step (H3.out.p.puts k t (by show _ ≤ m.size; omega)) (touch_sets (by simp) _ _ _ _ (ref.Touch.refl _ _)) rfl rfl); have T4 : Hid (ref.Touch [mb] w3 w4) := (by rw [hw4]; exact touch_sets (by simp) _ _ _ _ (ref.Touch.refl _ _)); have HO2 : Hid (0 < t.size → o = k) := (fun hp => HO.out (by omega)); have q9 : (t.size : Int) ≤ (c : Int) := (by omega); have q8 : (0 : Int) ≤ (t.size : Int) := (by omega); clear hw4) | (go_at_call 107; refine (Calls.mono (ansB_any B E b mb { m with mem := put m.mem k t } nx vE vA _ H4.out hz HF2.out hsz 63 k o t.size c (by show _ ≤ m.size; omega) HO2.out) ?_); rintro e w5 ⟨rfl, vE5, hp5, ht5⟩; have H5 : Hid (PW B E b mb (setReg { { m with mem := put m.mem k t } with evs := m.evs ++ [⟨63, ((t.size : Nat) : Int), ref.memD ({ m with mem := put m.mem k t }).mem k t.size⟩] } 10 ((t.size : Nat) : Int)) nx vE5 vA w5) := hp5; have T5 : Hid (ref.Touch (b :: ref.sblk vE) _ w5) := ht5; clear hp5 ht5))
  go_end0
  have e := memD_put m.mem k t
  have h5 := H5.out
  rw [e] at h5
  exact ⟨rfl, _, _, h5, (((T1.out.mono (by simp)).trans (T3.out.mono (by simp))).trans (T4.out.mono (by simp))).trans (T5.out.mono (by simp; intro i hi; exact Or.inr (Or.inr hi)))⟩
set_option maxRecDepth 10000 in
theorem cr_B (B E b mb : Nat) (m : M) (nx : Int) (vE vA : Value) (w : World) (h : PW B E b mb m nx vE vA w) (hz : 0 < m.size) (hf : Fine m) (hsz : m.evs.length ≤ 2000) (k j : Nat) (hk : m.regs 11 = k) (hj : m.regs 12 = j) (hkj : k + j ≤ m.size) (s : ByteArray) (rest : List ByteArray) (ha : m.ans = s :: rest) (t : ByteArray) (ht : t = (s).extract 0 (min (s).size j)) : Calls Tryz.prog 96 #[.pointer (some ⟨b, 0, none⟩)] w (CP B E b mb (setReg { { m with ans := rest, mem := put m.mem k t } with evs := m.evs ++ [⟨63, (t.size : Int), t⟩] } 10 t.size) nx vE w) := by
  have HH : Hid (PW B E b mb m nx vE vA w) := h
  have HF : Hid (Fine m) := hf
  have z1 := hf.size
  have HTE : Hid (t = (s).extract 0 (min (s).size j)) := ht
  have htj : t.size ≤ j := by rw [ht]; simp; omega
  have HF2 : Hid (Fine { m with ans := rest, mem := put m.mem k t }) := ⟨hf.regs, hf.zero, put_bd _ hf.mem _ _, hf.size, hf.pc, hf.brk, hf.low, hf.steps, hf.fuel, hf.within⟩
  clear ht
  clear h hf
  go_enter Tryz.func96, Tryz.ntmps96
  go_wp2_with (first | (go_at_call 106; refine (Calls.mono (span_ok B b mb m nx _ _ HH.out.p HF.out k j hk hj hkj) ?_); rintro e w1 ⟨o, c, rfl, ho, hjc, hc5, ht1⟩; have H1 : Hid (PW B E b mb m nx vE vA w1) := HH.out.quiet hz ht1; have T1 : Hid (ref.Touch [] w w1) := ht1; have HO : Hid (0 < j → o = k) := ho; clear ht1 ho) | (go_at_call 108; refine (Calls.mono (nextA_cons B E b mb m nx vE vA _ H1.out s rest ha) ?_); rintro e w3 ⟨rfl, vA3, hp3, ht3⟩; have H3 : Hid (PW B E b mb { m with ans := rest } nx vE vA3 w3) := hp3; have T3 : Hid (ref.Touch [b] w1 w3) := ht3; clear hp3 ht3; obtain ⟨w4, hw4⟩ : ∃ w4, w4 = w3.setCells mb k (ref.strCells t) := ⟨_, rfl⟩; have hrun : ∀ ty, (Builtin.copy_ #[49, 9] ty #[.slice (some ⟨mb, o, none⟩) j c, .string s]).run Tryz.prog w3 = .ok (goInt t.size) w4 := (fun ty => (by rw [hw4, HTE.out]; exact copy_p B b mb { m with ans := rest } nx _ w3 H3.out.p z1 k o j c s hkj HO.out ty)); have H4 : Hid (PW B E b mb { m with ans := rest, mem := put m.mem k t } nx vE vA3 w4) := (by rw [hw4]; exact H3.out.step (H3.out.p.puts k t (by show _ ≤ m.size; omega)) (touch_sets (by simp) _ _ _ _ (ref.Touch.refl _ _)) rfl rfl); have T4 : Hid (ref.Touch [mb] w3 w4) := (by rw [hw4]; exact touch_sets (by simp) _ _ _ _ (ref.Touch.refl _ _)); have HO2 : Hid (0 < t.size → o = k) := (fun hp => HO.out (by omega)); have q9 : (t.size : Int) ≤ (c : Int) := (by omega); have q8 : (0 : Int) ≤ (t.size : Int) := (by omega); clear hw4) | (go_at_call 107; refine (Calls.mono (ansB_any B E b mb { m with ans := rest, mem := put m.mem k t } nx vE vA3 _ H4.out hz HF2.out hsz 63 k o t.size c (by show _ ≤ m.size; omega) HO2.out) ?_); rintro e w5 ⟨rfl, vE5, hp5, ht5⟩; have H5 : Hid (PW B E b mb (setReg { { m with ans := rest, mem := put m.mem k t } with evs := m.evs ++ [⟨63, ((t.size : Nat) : Int), ref.memD ({ m with ans := rest, mem := put m.mem k t }).mem k t.size⟩] } 10 ((t.size : Nat) : Int)) nx vE5 vA3 w5) := hp5; have T5 : Hid (ref.Touch (b :: ref.sblk vE) _ w5) := ht5; clear hp5 ht5))
  go_end0
  have e := memD_put m.mem k t
  have h5 := H5.out
  rw [e] at h5
  exact ⟨rfl, _, _, h5, (((T1.out.mono (by simp)).trans (T3.out.mono (by simp))).trans (T4.out.mono (by simp))).trans (T5.out.mono (by simp; intro i hi; exact Or.inr (Or.inr hi)))⟩
set_option maxRecDepth 10000 in
theorem cb_y (B E b mb : Nat) (m : M) (nx : Int) (vE vA : Value) (w : World) (h : PW B E b mb m nx vE vA w) (hz : 0 < m.size) (hf : Fine m) (hsz : m.evs.length ≤ 2000) (hb1 : m.low ≤ m.regs 10) (hb2 : m.regs 10 ≤ m.size) : Calls Tryz.prog 97 #[.pointer (some ⟨b, 0, none⟩)] w (CP B E b mb (setReg { m with brk := m.regs 10 } 10 (m.regs 10)) nx vE w) := by
  have HH : Hid (PW B E b mb m nx vE vA w) := h
  have HF : Hid (Fine m) := hf
  have z1 := hf.size
  have c10 : w.cell? ⟨b, 10, none⟩ = some (.int .u32 (m.regs 10)) := h.p.reg 10 (by decide)
  have cL := h.cL
  have cda := h.p.data
  have cB : w.cell? ⟨b, 36, none⟩ = some (.int .u32 m.brk) := h.p.cells 36 (by decide) (by decide)
  have fB := h.p.free 36
  have s0 := (hf.regs 10).1
  have s1 := (hf.regs 10).2
  have l0 := hf.low.1
  have l1 := hf.low.2
  have H1 : Hid (PW B E b mb { m with brk := m.regs 10 } nx vE vA (w.setCell ⟨b, 36, none⟩ (.int .u32 (m.regs 10)))) := h.step (at_brk B b mb m nx _ w h.p (m.regs 10)) ((ref.Touch.refl _ _).setCell (by simp) _) rfl rfl
  clear h hf
  go_enter Tryz.func97, Tryz.ntmps97
  go_wp2_with (first | (go_at_call 86; refine (Calls.mono (set_any B b mb { m with brk := m.regs 10 } nx _ _ H1.out.p 10 (m.regs 10) (by decide) (by decide)) ?_); rintro e w2 ⟨rfl, hp2, ht2⟩; have H2 : Hid (PW B E b mb (setReg { m with brk := m.regs 10 } 10 (m.regs 10)) nx vE vA w2) := H1.out.step (by rw [show (setReg { m with brk := m.regs 10 } 10 (m.regs 10)).low = m.low from rfl]; exact hp2) (ht2.mono (by simp)) rfl rfl; have T2 : Hid (ref.Touch [b] _ w2) := ht2; clear hp2 ht2))
  go_end0
  exact ⟨rfl, _, _, H2.out, ((ref.Touch.refl _ _).setCell (by simp) _).trans (T2.out.mono (by simp))⟩
set_option maxRecDepth 10000 in
theorem cb_n1 (B E b mb : Nat) (m : M) (nx : Int) (vE vA : Value) (w : World) (h : PW B E b mb m nx vE vA w) (hz : 0 < m.size) (hf : Fine m) (hsz : m.evs.length ≤ 2000) (hb : ¬ m.low ≤ m.regs 10) : Calls Tryz.prog 97 #[.pointer (some ⟨b, 0, none⟩)] w (CP B E b mb (setReg m 10 m.brk) nx vE w) := by
  have HH : Hid (PW B E b mb m nx vE vA w) := h
  have HF : Hid (Fine m) := hf
  have z1 := hf.size
  have c10 : w.cell? ⟨b, 10, none⟩ = some (.int .u32 (m.regs 10)) := h.p.reg 10 (by decide)
  have cL := h.cL
  have cda := h.p.data
  have cB : w.cell? ⟨b, 36, none⟩ = some (.int .u32 m.brk) := h.p.cells 36 (by decide) (by decide)
  have fB := h.p.free 36
  have s0 := (hf.regs 10).1
  have s1 := (hf.regs 10).2
  have l0 := hf.low.1
  have l1 := hf.low.2
  clear h hf
  go_enter Tryz.func97, Tryz.ntmps97
  go_wp2_with (first | (go_at_call 86; refine (Calls.mono (set_any B b mb m nx _ _ HH.out.p 10 m.brk (by decide) (by decide)) ?_); rintro e w2 ⟨rfl, hp2, ht2⟩; have H2 : Hid (PW B E b mb (setReg m 10 m.brk) nx vE vA w2) := HH.out.step (by rw [show (setReg m 10 m.brk).low = m.low from rfl]; exact hp2) (ht2.mono (by simp)) rfl rfl; have T2 : Hid (ref.Touch [b] _ w2) := ht2; clear hp2 ht2))
  go_end0
  exact ⟨rfl, _, _, H2.out, T2.out.mono (by simp)⟩
set_option maxRecDepth 10000 in
theorem cb_n2 (B E b mb : Nat) (m : M) (nx : Int) (vE vA : Value) (w : World) (h : PW B E b mb m nx vE vA w) (hz : 0 < m.size) (hf : Fine m) (hsz : m.evs.length ≤ 2000) (hb1 : m.low ≤ m.regs 10) (hb : ¬ m.regs 10 ≤ m.size) : Calls Tryz.prog 97 #[.pointer (some ⟨b, 0, none⟩)] w (CP B E b mb (setReg m 10 m.brk) nx vE w) := by
  have HH : Hid (PW B E b mb m nx vE vA w) := h
  have HF : Hid (Fine m) := hf
  have z1 := hf.size
  have c10 : w.cell? ⟨b, 10, none⟩ = some (.int .u32 (m.regs 10)) := h.p.reg 10 (by decide)
  have cL := h.cL
  have cda := h.p.data
  have cB : w.cell? ⟨b, 36, none⟩ = some (.int .u32 m.brk) := h.p.cells 36 (by decide) (by decide)
  have fB := h.p.free 36
  have s0 := (hf.regs 10).1
  have s1 := (hf.regs 10).2
  have l0 := hf.low.1
  have l1 := hf.low.2
  clear h hf
  go_enter Tryz.func97, Tryz.ntmps97
  go_wp2_with (first | (go_at_call 86; refine (Calls.mono (set_any B b mb m nx _ _ HH.out.p 10 m.brk (by decide) (by decide)) ?_); rintro e w2 ⟨rfl, hp2, ht2⟩; have H2 : Hid (PW B E b mb (setReg m 10 m.brk) nx vE vA w2) := HH.out.step (by rw [show (setReg m 10 m.brk).low = m.low from rfl]; exact hp2) (ht2.mono (by simp)) rfl rfl; have T2 : Hid (ref.Touch [b] _ w2) := ht2; clear hp2 ht2))
  go_end0
  exact ⟨rfl, _, _, H2.out, T2.out.mono (by simp)⟩
set_option maxRecDepth 10000 in
theorem cx_any (B E b mb : Nat) (m : M) (nx : Int) (vE vA : Value) (w : World) (h : PW B E b mb m nx vE vA w) (hz : 0 < m.size) (hf : Fine m) (hsz : m.evs.length ≤ 2000) (hlt : m.steps < m.fuel) : Calls Tryz.prog 98 #[.pointer (some ⟨b, 0, none⟩)] w (CX B E b mb (stop { m with evs := m.evs ++ [⟨93, m.regs 10, (⟨#[]⟩ : ByteArray)⟩], steps := m.steps + 1 } 1) nx vE w) := by
  have HH : Hid (PW B E b mb m nx vE vA w) := h
  have c10 : w.cell? ⟨b, 10, none⟩ = some (.int .u32 (m.regs 10)) := h.p.reg 10 (by decide)
  have st0 := hf.steps
  have st1 : m.steps < 2000 := by have := hf.fuel.2; omega
  clear h hf
  go_enter Tryz.func98, Tryz.ntmps98
  go_wp2_with (first | (go_at_call 109; refine (Calls.mono (tell_any B E b mb m nx vE vA _ HH.out hz hsz 93 (m.regs 10) (⟨#[]⟩ : ByteArray)) ?_); rintro e w1 ⟨rfl, vE1, hp1, ht1⟩; have H1 : Hid (PW B E b mb { m with evs := m.evs ++ [⟨93, m.regs 10, (⟨#[]⟩ : ByteArray)⟩] } nx vE1 vA w1) := hp1; have T1 : Hid (ref.Touch (b :: ref.sblk vE) w w1) := ht1; have cS : w1.cell? ⟨b, 39, none⟩ = some (.int .i64 m.steps) := hp1.p.cells 39 (by decide) (by decide); have fS := hp1.p.free 39; clear hp1 ht1) | (go_at_call 32; refine (end_any 1 _).mono ?_; rintro e w' ⟨rfl, hw'⟩; subst w'))
  have h2 : PW B E b mb { m with evs := m.evs ++ [⟨93, m.regs 10, (⟨#[]⟩ : ByteArray)⟩], steps := m.steps + 1 } nx vE1 vA (w1.setCell ⟨b, 39, none⟩ (.int .i64 (m.steps + 1))) := H1.out.step (at_steps B b mb { m with evs := m.evs ++ [⟨93, m.regs 10, (⟨#[]⟩ : ByteArray)⟩] } nx _ w1 H1.out.p (m.steps + 1)) ((ref.Touch.refl _ _).setCell (by simp) _) rfl rfl
  exact ⟨rfl, rfl, _, _, h2.congr rfl rfl rfl rfl rfl rfl rfl rfl rfl, (T1.out.mono (by simp; intro i hi; exact Or.inr (Or.inr hi))).setCell (by simp) _⟩
end Go.Proofs.YtakcncahkdfknaaGreatDoor.prog

namespace Go.Proofs.YtakcncahkdfknaaGreatDoor.prog
open Go.ChangeShapes Go.WideShapes Go.ChangeAt Go.RowKit Go.Proofs.YtakcncahkdfknaaGreatDoor.nums Go.Proofs.YtakcncahkdfknaaGreatDoor.dnums Go.Proofs.YtakcncahkdfknaaGreatDoor.mach

set_option linter.unusedVariables false
set_option linter.unusedSimpArgs false
theorem wrote_f (X : M) (a n : Int) : (wrote X a n).regs = X.regs ∧ (wrote X a n).pc = X.pc ∧ (wrote X a n).brk = X.brk ∧ (wrote X a n).steps = X.steps ∧ (wrote X a n).mem = X.mem ∧ (wrote X a n).size = X.size ∧ (wrote X a n).low = X.low ∧ (wrote X a n).ans = X.ans := by
  unfold wrote; by_cases e : n = 0
  · rw [if_pos e]; exact ⟨rfl, rfl, rfl, rfl, rfl, rfl, rfl, rfl⟩
  · rw [if_neg e]; exact ⟨rfl, rfl, rfl, rfl, rfl, rfl, rfl, rfl⟩
set_option maxRecDepth 10000 in
theorem c_w0 (B E b mb : Nat) (m : M) (nx : Int) (vE vA : Value) (w : World) (h : PW B E b mb m nx vE vA w) (hz : 0 < m.size) (hf : Fine m) (hsz : m.evs.length ≤ 2000) (k1 : m.regs 17 = 64) (hl : lies m (m.regs 11) (m.regs 12) = false) : Calls Tryz.prog 64 #[.pointer (some ⟨b, 0, none⟩), .agg #[.int .i64 46, .int .i64 0, .int .i64 0, .int .i64 0, .int .i32 0]] w (CP B E b mb (setReg m 10 4294967282) nx vE w) := by
  have HH : Hid (PW B E b mb m nx vE vA (w.alloc (.cells #[.int .i64 46, .int .i64 0, .int .i64 0, .int .i64 0, .int .i32 0] 67))) := h.quiet hz ((ref.Touch.refl _ _).alloc _)
  have HF : Hid (Fine m) := hf
  have c17 : (w.alloc (.cells #[.int .i64 46, .int .i64 0, .int .i64 0, .int .i64 0, .int .i32 0] 67)).cell? ⟨b, 17, none⟩ = some (.int .u32 (m.regs 17)) := HH.out.p.reg 17 (by decide)
  have s0 := (hf.regs 17).1
  have s1 := (hf.regs 17).2
  rw [k1] at c17
  clear h hf
  go_enter Tryz.func64, Tryz.ntmps64
  go_wp2_with (first | (go_at_call 95; refine (Calls.mono (cw_fa B E b mb m nx vE vA _ HH.out hz HF.out hsz hl) ?_); rintro e w1 ⟨rfl, vE1, vA1, hp1, ht1⟩; have H1 : Hid (PW B E b mb (setReg m 10 4294967282) nx vE1 vA1 w1) := hp1; have T1 : Hid (ref.Touch (b :: mb :: ref.sblk vE) (w.alloc (.cells #[.int .i64 46, .int .i64 0, .int .i64 0, .int .i64 0, .int .i32 0] 67)) w1) := ht1; clear hp1 ht1))
  go_end0
  exact ⟨rfl, _, _, H1.out, ((ref.Touch.refl _ _).alloc _).trans T1.out⟩
set_option maxRecDepth 10000 in
theorem c_w1 (B E b mb : Nat) (m : M) (nx : Int) (vE vA : Value) (w : World) (h : PW B E b mb m nx vE vA w) (hz : 0 < m.size) (hf : Fine m) (hsz : m.evs.length ≤ 2000) (k1 : m.regs 17 = 64) (k j : Nat) (hk : m.regs 11 = k) (hj : m.regs 12 = j) (hkj : k + j ≤ m.size) : Calls Tryz.prog 64 #[.pointer (some ⟨b, 0, none⟩), .agg #[.int .i64 46, .int .i64 0, .int .i64 0, .int .i64 0, .int .i32 0]] w (CP B E b mb (setReg { m with evs := m.evs ++ [⟨64, (j : Int), ref.memD m.mem k j⟩] } 10 j) nx vE w) := by
  have HH : Hid (PW B E b mb m nx vE vA (w.alloc (.cells #[.int .i64 46, .int .i64 0, .int .i64 0, .int .i64 0, .int .i32 0] 67))) := h.quiet hz ((ref.Touch.refl _ _).alloc _)
  have HF : Hid (Fine m) := hf
  have c17 : (w.alloc (.cells #[.int .i64 46, .int .i64 0, .int .i64 0, .int .i64 0, .int .i32 0] 67)).cell? ⟨b, 17, none⟩ = some (.int .u32 (m.regs 17)) := HH.out.p.reg 17 (by decide)
  have s0 := (hf.regs 17).1
  have s1 := (hf.regs 17).2
  rw [k1] at c17
  clear h hf
  go_enter Tryz.func64, Tryz.ntmps64
  go_wp2_with (first | (go_at_call 95; refine (Calls.mono (cw_ok B E b mb m nx vE vA _ HH.out hz HF.out hsz k j hk hj hkj) ?_); rintro e w1 ⟨rfl, vE1, vA1, hp1, ht1⟩; have H1 : Hid (PW B E b mb (setReg { m with evs := m.evs ++ [⟨64, (j : Int), ref.memD m.mem k j⟩] } 10 j) nx vE1 vA1 w1) := hp1; have T1 : Hid (ref.Touch (b :: mb :: ref.sblk vE) (w.alloc (.cells #[.int .i64 46, .int .i64 0, .int .i64 0, .int .i64 0, .int .i32 0] 67)) w1) := ht1; clear hp1 ht1))
  go_end0
  exact ⟨rfl, _, _, H1.out, ((ref.Touch.refl _ _).alloc _).trans T1.out⟩
set_option maxRecDepth 10000 in
theorem c_r0 (B E b mb : Nat) (m : M) (nx : Int) (vE vA : Value) (w : World) (h : PW B E b mb m nx vE vA w) (hz : 0 < m.size) (hf : Fine m) (hsz : m.evs.length ≤ 2000) (k1 : m.regs 17 = 63) (hl : lies m (m.regs 11) (m.regs 12) = false) : Calls Tryz.prog 64 #[.pointer (some ⟨b, 0, none⟩), .agg #[.int .i64 46, .int .i64 0, .int .i64 0, .int .i64 0, .int .i32 0]] w (CP B E b mb (setReg m 10 4294967282) nx vE w) := by
  have HH : Hid (PW B E b mb m nx vE vA (w.alloc (.cells #[.int .i64 46, .int .i64 0, .int .i64 0, .int .i64 0, .int .i32 0] 67))) := h.quiet hz ((ref.Touch.refl _ _).alloc _)
  have HF : Hid (Fine m) := hf
  have c17 : (w.alloc (.cells #[.int .i64 46, .int .i64 0, .int .i64 0, .int .i64 0, .int .i32 0] 67)).cell? ⟨b, 17, none⟩ = some (.int .u32 (m.regs 17)) := HH.out.p.reg 17 (by decide)
  have s0 := (hf.regs 17).1
  have s1 := (hf.regs 17).2
  rw [k1] at c17
  clear h hf
  go_enter Tryz.func64, Tryz.ntmps64
  go_wp2_with (first | (go_at_call 96; refine (Calls.mono (cr_fa B E b mb m nx vE vA _ HH.out hz HF.out hsz hl) ?_); rintro e w1 ⟨rfl, vE1, vA1, hp1, ht1⟩; have H1 : Hid (PW B E b mb (setReg m 10 4294967282) nx vE1 vA1 w1) := hp1; have T1 : Hid (ref.Touch (b :: mb :: ref.sblk vE) (w.alloc (.cells #[.int .i64 46, .int .i64 0, .int .i64 0, .int .i64 0, .int .i32 0] 67)) w1) := ht1; clear hp1 ht1))
  go_end0
  exact ⟨rfl, _, _, H1.out, ((ref.Touch.refl _ _).alloc _).trans T1.out⟩
set_option maxRecDepth 10000 in
theorem c_rA (B E b mb : Nat) (m : M) (nx : Int) (vE vA : Value) (w : World) (h : PW B E b mb m nx vE vA w) (hz : 0 < m.size) (hf : Fine m) (hsz : m.evs.length ≤ 2000) (k1 : m.regs 17 = 63) (k j : Nat) (hk : m.regs 11 = k) (hj : m.regs 12 = j) (hkj : k + j ≤ m.size) (ha : m.ans = []) (t : ByteArray) (ht : t = (⟨#[]⟩ : ByteArray).extract 0 (min (⟨#[]⟩ : ByteArray).size j)) : Calls Tryz.prog 64 #[.pointer (some ⟨b, 0, none⟩), .agg #[.int .i64 46, .int .i64 0, .int .i64 0, .int .i64 0, .int .i32 0]] w (CP B E b mb (setReg { { m with mem := put m.mem k t } with evs := m.evs ++ [⟨63, (t.size : Int), t⟩] } 10 t.size) nx vE w) := by
  have HH : Hid (PW B E b mb m nx vE vA (w.alloc (.cells #[.int .i64 46, .int .i64 0, .int .i64 0, .int .i64 0, .int .i32 0] 67))) := h.quiet hz ((ref.Touch.refl _ _).alloc _)
  have HF : Hid (Fine m) := hf
  have c17 : (w.alloc (.cells #[.int .i64 46, .int .i64 0, .int .i64 0, .int .i64 0, .int .i32 0] 67)).cell? ⟨b, 17, none⟩ = some (.int .u32 (m.regs 17)) := HH.out.p.reg 17 (by decide)
  have s0 := (hf.regs 17).1
  have s1 := (hf.regs 17).2
  rw [k1] at c17
  clear h hf
  go_enter Tryz.func64, Tryz.ntmps64
  go_wp2_with (first | (go_at_call 96; refine (Calls.mono (cr_A B E b mb m nx vE vA _ HH.out hz HF.out hsz k j hk hj hkj ha t ht) ?_); rintro e w1 ⟨rfl, vE1, vA1, hp1, ht1⟩; have H1 : Hid (PW B E b mb (setReg { { m with mem := put m.mem k t } with evs := m.evs ++ [⟨63, (t.size : Int), t⟩] } 10 t.size) nx vE1 vA1 w1) := hp1; have T1 : Hid (ref.Touch (b :: mb :: ref.sblk vE) (w.alloc (.cells #[.int .i64 46, .int .i64 0, .int .i64 0, .int .i64 0, .int .i32 0] 67)) w1) := ht1; clear hp1 ht1))
  go_end0
  exact ⟨rfl, _, _, H1.out, ((ref.Touch.refl _ _).alloc _).trans T1.out⟩
set_option maxRecDepth 10000 in
theorem c_rB (B E b mb : Nat) (m : M) (nx : Int) (vE vA : Value) (w : World) (h : PW B E b mb m nx vE vA w) (hz : 0 < m.size) (hf : Fine m) (hsz : m.evs.length ≤ 2000) (k1 : m.regs 17 = 63) (k j : Nat) (hk : m.regs 11 = k) (hj : m.regs 12 = j) (hkj : k + j ≤ m.size) (s : ByteArray) (rest : List ByteArray) (ha : m.ans = s :: rest) (t : ByteArray) (ht : t = s.extract 0 (min s.size j)) : Calls Tryz.prog 64 #[.pointer (some ⟨b, 0, none⟩), .agg #[.int .i64 46, .int .i64 0, .int .i64 0, .int .i64 0, .int .i32 0]] w (CP B E b mb (setReg { { m with ans := rest, mem := put m.mem k t } with evs := m.evs ++ [⟨63, (t.size : Int), t⟩] } 10 t.size) nx vE w) := by
  have HH : Hid (PW B E b mb m nx vE vA (w.alloc (.cells #[.int .i64 46, .int .i64 0, .int .i64 0, .int .i64 0, .int .i32 0] 67))) := h.quiet hz ((ref.Touch.refl _ _).alloc _)
  have HF : Hid (Fine m) := hf
  have c17 : (w.alloc (.cells #[.int .i64 46, .int .i64 0, .int .i64 0, .int .i64 0, .int .i32 0] 67)).cell? ⟨b, 17, none⟩ = some (.int .u32 (m.regs 17)) := HH.out.p.reg 17 (by decide)
  have s0 := (hf.regs 17).1
  have s1 := (hf.regs 17).2
  rw [k1] at c17
  clear h hf
  go_enter Tryz.func64, Tryz.ntmps64
  go_wp2_with (first | (go_at_call 96; refine (Calls.mono (cr_B B E b mb m nx vE vA _ HH.out hz HF.out hsz k j hk hj hkj s rest ha t ht) ?_); rintro e w1 ⟨rfl, vE1, vA1, hp1, ht1⟩; have H1 : Hid (PW B E b mb (setReg { { m with ans := rest, mem := put m.mem k t } with evs := m.evs ++ [⟨63, (t.size : Int), t⟩] } 10 t.size) nx vE1 vA1 w1) := hp1; have T1 : Hid (ref.Touch (b :: mb :: ref.sblk vE) (w.alloc (.cells #[.int .i64 46, .int .i64 0, .int .i64 0, .int .i64 0, .int .i32 0] 67)) w1) := ht1; clear hp1 ht1))
  go_end0
  exact ⟨rfl, _, _, H1.out, ((ref.Touch.refl _ _).alloc _).trans T1.out⟩
set_option maxRecDepth 10000 in
theorem c_by (B E b mb : Nat) (m : M) (nx : Int) (vE vA : Value) (w : World) (h : PW B E b mb m nx vE vA w) (hz : 0 < m.size) (hf : Fine m) (hsz : m.evs.length ≤ 2000) (k1 : m.regs 17 = 214) (hb1 : m.low ≤ m.regs 10) (hb2 : m.regs 10 ≤ m.size) : Calls Tryz.prog 64 #[.pointer (some ⟨b, 0, none⟩), .agg #[.int .i64 46, .int .i64 0, .int .i64 0, .int .i64 0, .int .i32 0]] w (CP B E b mb (setReg { m with brk := m.regs 10 } 10 (m.regs 10)) nx vE w) := by
  have HH : Hid (PW B E b mb m nx vE vA (w.alloc (.cells #[.int .i64 46, .int .i64 0, .int .i64 0, .int .i64 0, .int .i32 0] 67))) := h.quiet hz ((ref.Touch.refl _ _).alloc _)
  have HF : Hid (Fine m) := hf
  have c17 : (w.alloc (.cells #[.int .i64 46, .int .i64 0, .int .i64 0, .int .i64 0, .int .i32 0] 67)).cell? ⟨b, 17, none⟩ = some (.int .u32 (m.regs 17)) := HH.out.p.reg 17 (by decide)
  have s0 := (hf.regs 17).1
  have s1 := (hf.regs 17).2
  rw [k1] at c17
  clear h hf
  go_enter Tryz.func64, Tryz.ntmps64
  go_wp2_with (first | (go_at_call 97; refine (Calls.mono (cb_y B E b mb m nx vE vA _ HH.out hz HF.out hsz hb1 hb2) ?_); rintro e w1 ⟨rfl, vE1, vA1, hp1, ht1⟩; have H1 : Hid (PW B E b mb (setReg { m with brk := m.regs 10 } 10 (m.regs 10)) nx vE1 vA1 w1) := hp1; have T1 : Hid (ref.Touch (b :: mb :: ref.sblk vE) (w.alloc (.cells #[.int .i64 46, .int .i64 0, .int .i64 0, .int .i64 0, .int .i32 0] 67)) w1) := ht1; clear hp1 ht1))
  go_end0
  exact ⟨rfl, _, _, H1.out, ((ref.Touch.refl _ _).alloc _).trans T1.out⟩
set_option maxRecDepth 10000 in
theorem c_bn1 (B E b mb : Nat) (m : M) (nx : Int) (vE vA : Value) (w : World) (h : PW B E b mb m nx vE vA w) (hz : 0 < m.size) (hf : Fine m) (hsz : m.evs.length ≤ 2000) (k1 : m.regs 17 = 214) (hb : ¬ m.low ≤ m.regs 10) : Calls Tryz.prog 64 #[.pointer (some ⟨b, 0, none⟩), .agg #[.int .i64 46, .int .i64 0, .int .i64 0, .int .i64 0, .int .i32 0]] w (CP B E b mb (setReg m 10 m.brk) nx vE w) := by
  have HH : Hid (PW B E b mb m nx vE vA (w.alloc (.cells #[.int .i64 46, .int .i64 0, .int .i64 0, .int .i64 0, .int .i32 0] 67))) := h.quiet hz ((ref.Touch.refl _ _).alloc _)
  have HF : Hid (Fine m) := hf
  have c17 : (w.alloc (.cells #[.int .i64 46, .int .i64 0, .int .i64 0, .int .i64 0, .int .i32 0] 67)).cell? ⟨b, 17, none⟩ = some (.int .u32 (m.regs 17)) := HH.out.p.reg 17 (by decide)
  have s0 := (hf.regs 17).1
  have s1 := (hf.regs 17).2
  rw [k1] at c17
  clear h hf
  go_enter Tryz.func64, Tryz.ntmps64
  go_wp2_with (first | (go_at_call 97; refine (Calls.mono (cb_n1 B E b mb m nx vE vA _ HH.out hz HF.out hsz hb) ?_); rintro e w1 ⟨rfl, vE1, vA1, hp1, ht1⟩; have H1 : Hid (PW B E b mb (setReg m 10 m.brk) nx vE1 vA1 w1) := hp1; have T1 : Hid (ref.Touch (b :: mb :: ref.sblk vE) (w.alloc (.cells #[.int .i64 46, .int .i64 0, .int .i64 0, .int .i64 0, .int .i32 0] 67)) w1) := ht1; clear hp1 ht1))
  go_end0
  exact ⟨rfl, _, _, H1.out, ((ref.Touch.refl _ _).alloc _).trans T1.out⟩
set_option maxRecDepth 10000 in
theorem c_bn2 (B E b mb : Nat) (m : M) (nx : Int) (vE vA : Value) (w : World) (h : PW B E b mb m nx vE vA w) (hz : 0 < m.size) (hf : Fine m) (hsz : m.evs.length ≤ 2000) (k1 : m.regs 17 = 214) (hb1 : m.low ≤ m.regs 10) (hb : ¬ m.regs 10 ≤ m.size) : Calls Tryz.prog 64 #[.pointer (some ⟨b, 0, none⟩), .agg #[.int .i64 46, .int .i64 0, .int .i64 0, .int .i64 0, .int .i32 0]] w (CP B E b mb (setReg m 10 m.brk) nx vE w) := by
  have HH : Hid (PW B E b mb m nx vE vA (w.alloc (.cells #[.int .i64 46, .int .i64 0, .int .i64 0, .int .i64 0, .int .i32 0] 67))) := h.quiet hz ((ref.Touch.refl _ _).alloc _)
  have HF : Hid (Fine m) := hf
  have c17 : (w.alloc (.cells #[.int .i64 46, .int .i64 0, .int .i64 0, .int .i64 0, .int .i32 0] 67)).cell? ⟨b, 17, none⟩ = some (.int .u32 (m.regs 17)) := HH.out.p.reg 17 (by decide)
  have s0 := (hf.regs 17).1
  have s1 := (hf.regs 17).2
  rw [k1] at c17
  clear h hf
  go_enter Tryz.func64, Tryz.ntmps64
  go_wp2_with (first | (go_at_call 97; refine (Calls.mono (cb_n2 B E b mb m nx vE vA _ HH.out hz HF.out hsz hb1 hb) ?_); rintro e w1 ⟨rfl, vE1, vA1, hp1, ht1⟩; have H1 : Hid (PW B E b mb (setReg m 10 m.brk) nx vE1 vA1 w1) := hp1; have T1 : Hid (ref.Touch (b :: mb :: ref.sblk vE) (w.alloc (.cells #[.int .i64 46, .int .i64 0, .int .i64 0, .int .i64 0, .int .i32 0] 67)) w1) := ht1; clear hp1 ht1))
  go_end0
  exact ⟨rfl, _, _, H1.out, ((ref.Touch.refl _ _).alloc _).trans T1.out⟩
set_option maxRecDepth 10000 in
theorem c_x (B E b mb : Nat) (m : M) (nx : Int) (vE vA : Value) (w : World) (h : PW B E b mb m nx vE vA w) (hz : 0 < m.size) (hf : Fine m) (hsz : m.evs.length ≤ 2000) (k1 : m.regs 17 = 93) (hlt : m.steps < m.fuel) : Calls Tryz.prog 64 #[.pointer (some ⟨b, 0, none⟩), .agg #[.int .i64 46, .int .i64 0, .int .i64 0, .int .i64 0, .int .i32 0]] w (CX B E b mb (stop { m with evs := m.evs ++ [⟨93, m.regs 10, (⟨#[]⟩ : ByteArray)⟩], steps := m.steps + 1 } 1) nx vE w) := by
  have HH : Hid (PW B E b mb m nx vE vA (w.alloc (.cells #[.int .i64 46, .int .i64 0, .int .i64 0, .int .i64 0, .int .i32 0] 67))) := h.quiet hz ((ref.Touch.refl _ _).alloc _)
  have HF : Hid (Fine m) := hf
  have c17 : (w.alloc (.cells #[.int .i64 46, .int .i64 0, .int .i64 0, .int .i64 0, .int .i32 0] 67)).cell? ⟨b, 17, none⟩ = some (.int .u32 (m.regs 17)) := HH.out.p.reg 17 (by decide)
  have s0 := (hf.regs 17).1
  have s1 := (hf.regs 17).2
  rw [k1] at c17
  clear h hf
  go_enter Tryz.func64, Tryz.ntmps64
  go_wp2_with (first | (go_at_call 98; refine (Calls.mono (cx_any B E b mb m nx vE vA _ HH.out hz HF.out hsz hlt) ?_); rintro e w1 ⟨rfl, vE1, vA1, hp1, ht1⟩; have H1 : Hid (PW B E b mb (stop { m with evs := m.evs ++ [⟨93, m.regs 10, (⟨#[]⟩ : ByteArray)⟩], steps := m.steps + 1 } 1) nx vE1 vA1 w1) := hp1; have T1 : Hid (ref.Touch (b :: mb :: ref.sblk vE) (w.alloc (.cells #[.int .i64 46, .int .i64 0, .int .i64 0, .int .i64 0, .int .i32 0] 67)) w1) := ht1; clear hp1 ht1))
  exact ⟨rfl, rfl, _, _, H1.out, ((ref.Touch.refl _ _).alloc _).trans T1.out⟩
set_option maxRecDepth 10000 in
theorem c_no (B E b mb : Nat) (m : M) (nx : Int) (vE vA : Value) (w : World) (h : PW B E b mb m nx vE vA w) (hz : 0 < m.size) (hf : Fine m) (hsz : m.evs.length ≤ 2000) (d1 : ¬ m.regs 17 = 93) (d2 : ¬ m.regs 17 = 64) (d3 : ¬ m.regs 17 = 63) (d4 : ¬ m.regs 17 = 214) : Calls Tryz.prog 64 #[.pointer (some ⟨b, 0, none⟩), .agg #[.int .i64 46, .int .i64 0, .int .i64 0, .int .i64 0, .int .i32 0]] w (CP B E b mb (setReg m 10 4294967258) nx vE w) := by
  have HH : Hid (PW B E b mb m nx vE vA (w.alloc (.cells #[.int .i64 46, .int .i64 0, .int .i64 0, .int .i64 0, .int .i32 0] 67))) := h.quiet hz ((ref.Touch.refl _ _).alloc _)
  have c17 : (w.alloc (.cells #[.int .i64 46, .int .i64 0, .int .i64 0, .int .i64 0, .int .i32 0] 67)).cell? ⟨b, 17, none⟩ = some (.int .u32 (m.regs 17)) := HH.out.p.reg 17 (by decide)
  clear h hf
  go_enter Tryz.func64, Tryz.ntmps64
  go_wp2_with (first | (go_at_call 86; refine (Calls.mono (set_any B b mb m nx _ _ HH.out.p 10 4294967258 (by decide) (by decide)) ?_); rintro e w2 ⟨rfl, hp2, ht2⟩; have H2 : Hid (PW B E b mb (setReg m 10 4294967258) nx vE vA w2) := HH.out.step (by rw [show (setReg m 10 4294967258).low = m.low from rfl]; exact hp2) (ht2.mono (by simp)) rfl rfl; have T2 : Hid (ref.Touch [b] _ w2) := ht2; clear hp2 ht2))
  go_end0
  exact ⟨rfl, _, _, H2.out, ((ref.Touch.refl _ _).alloc _).trans (T2.out.mono (by simp))⟩
theorem CP.congr {B E b mb : Nat} {m m' : M} {nx : Int} {vE : Value} {w : World} {e : Ending} {w' : World} (h : CP B E b mb m nx vE w e w') (e1 : m'.regs = m.regs) (e2 : m'.pc = m.pc) (e3 : m'.brk = m.brk) (e4 : m'.steps = m.steps) (e5 : m'.mem = m.mem) (e6 : m'.size = m.size) (e7 : m'.low = m.low) (e8 : m'.evs = m.evs) (e9 : m'.ans = m.ans) : CP B E b mb m' nx vE w e w' := by
  obtain ⟨h1, vE', vA', h2, h3⟩ := h
  exact ⟨h1, vE', vA', h2.congr e1 e2 e3 e4 e5 e6 e7 e8 e9, h3⟩
theorem setReg_10 (m : M) (v : Int) : setReg m 10 v = { m with regs := fun i => if i = 10 then v else m.regs i } := if_neg (by decide)
/-- Any call but the exit. -/
theorem call_p (B E b mb : Nat) (m : M) (nx : Int) (vE vA : Value) (w : World) (h : PW B E b mb m nx vE vA w) (hz : 0 < m.size) (hf : Fine m) (hsz : m.evs.length ≤ 2000) (c93 : ¬ m.regs 17 = 93) : Calls Tryz.prog 64 #[.pointer (some ⟨b, 0, none⟩), .agg #[.int .i64 46, .int .i64 0, .int .i64 0, .int .i64 0, .int .i32 0]] w (CP B E b mb (ref.ecd m) nx vE w) := by
  have p0 := (hf.regs 11).1
  have n0 := (hf.regs 12).1
  obtain ⟨k, hk⟩ : ∃ k : Nat, m.regs 11 = k := ⟨(m.regs 11).toNat, by omega⟩
  obtain ⟨j, hj⟩ : ∃ j : Nat, m.regs 12 = j := ⟨(m.regs 12).toNat, by omega⟩
  unfold ref.ecd
  dsimp only
  rw [if_neg c93]
  by_cases c64 : m.regs 17 = 64
  · rw [if_pos c64]
    cases hl : lies m (m.regs 11) (m.regs 12) with
    | false => rw [if_neg (by decide)]; exact c_w0 B E b mb m nx vE vA w h hz hf hsz c64 hl
    | true =>
      rw [if_pos rfl]
      have hkj : k + j ≤ m.size := by simp [lies, hk, hj] at hl; omega
      rw [hk, hj, Int.toNat_natCast, Int.toNat_natCast]
      exact c_w1 B E b mb m nx vE vA w h hz hf hsz c64 k j hk hj hkj
  rw [if_neg c64]
  by_cases c63 : m.regs 17 = 63
  · rw [if_pos c63]
    cases hl : lies m (m.regs 11) (m.regs 12) with
    | false => rw [if_neg (by decide)]; exact c_r0 B E b mb m nx vE vA w h hz hf hsz c63 hl
    | true =>
      rw [if_pos rfl]
      have hkj : k + j ≤ m.size := by simp [lies, hk, hj] at hl; omega
      rw [hk, hj, Int.toNat_natCast, Int.toNat_natCast]
      cases ha : m.ans with
      | nil =>
        rw [List.headD_nil, List.tail_nil]
        refine (c_rA B E b mb m nx vE vA w h hz hf hsz c63 k j hk hj hkj ha _ rfl).mono (fun e w' hc => hc.congr ?_ ?_ ?_ ?_ ?_ ?_ ?_ ?_ ?_)
        all_goals (obtain ⟨f1, f2, f3, f4, f5, f6, f7, f8⟩ := wrote_f { m with mem := put m.mem k (ByteArray.empty.extract 0 (min ByteArray.empty.size j)), ans := [] } k (ByteArray.empty.extract 0 (min ByteArray.empty.size j)).size; simp only [setReg_10])
        · rw [f1]; rfl
        · exact f2
        · exact f3
        · exact f4
        · exact f5
        · exact f6
        · exact f7
        · rfl
        · exact f8.trans ha.symm
      | cons s rest =>
        rw [List.headD_cons, List.tail_cons]
        refine (c_rB B E b mb m nx vE vA w h hz hf hsz c63 k j hk hj hkj s rest ha _ rfl).mono (fun e w' hc => hc.congr ?_ ?_ ?_ ?_ ?_ ?_ ?_ ?_ ?_)
        all_goals (obtain ⟨f1, f2, f3, f4, f5, f6, f7, f8⟩ := wrote_f { m with mem := put m.mem k (s.extract 0 (min s.size j)), ans := rest } k (s.extract 0 (min s.size j)).size; simp only [setReg_10])
        · rw [f1]
        · exact f2
        · exact f3
        · exact f4
        · exact f5
        · exact f6
        · exact f7
        · exact f8
  rw [if_neg c63]
  by_cases c214 : m.regs 17 = 214
  · rw [if_pos c214]
    by_cases hb : m.low ≤ m.regs 10 ∧ m.regs 10 ≤ m.size
    · rw [if_pos hb]
      exact c_by B E b mb m nx vE vA w h hz hf hsz c214 hb.1 hb.2
    · rw [if_neg hb]
      by_cases h1 : m.low ≤ m.regs 10
      · exact c_bn2 B E b mb m nx vE vA w h hz hf hsz c214 h1 (fun h2 => hb ⟨h1, h2⟩)
      · exact c_bn1 B E b mb m nx vE vA w h hz hf hsz c214 h1
  rw [if_neg c214]
  exact c_no B E b mb m nx vE vA w h hz hf hsz c93 c64 c63 c214
def DoQ (B E b mb : Nat) (m : M) (vE : Value) (x : Int) (w : World) (e : Ending) (w' : World) : Prop :=
  ((exec m x).ended = false ∧ e = .returned (.tuple #[]) ∧ ∃ nx' vE' vA', PW B E b mb (exec m x) nx' vE' vA' w' ∧ ref.Touch (b :: mb :: ref.sblk vE) w w') ∨
  ((exec m x).ended = true ∧ e = .panicked (trapV (exec m x).out) ∧ ∃ nx' vE' vA', PW B E b mb (exec m x) nx' vE' vA' w' ∧ ref.Touch (b :: mb :: ref.sblk vE) w w')
set_option maxRecDepth 10000 in
theorem do_c93 (B E b mb : Nat) (m : M) (nx : Int) (vE vA : Value) (w : World) (h : PW B E b mb m nx vE vA w) (hz : 0 < m.size) (hf : Fine m) (hsz : m.evs.length ≤ 2000) (hlt : m.steps < m.fuel) (k1 : m.regs 17 = 93) :
    Calls Tryz.prog 20 #[.pointer (some ⟨b, 0, none⟩), .agg #[.func (.func 64) #[] #[], .int .i64 46, .int .i64 0, .int .i64 0, .int .i64 0, .int .i32 0]] w fun e w' => e = .panicked (trapV 1) ∧ ∃ vE' vA', PW B E b mb (stop { m with evs := m.evs ++ [⟨93, m.regs 10, (⟨#[]⟩ : ByteArray)⟩], steps := m.steps + 1 } 1) ((m.pc + 4) % 4294967296) vE' vA' w' ∧ ref.Touch (b :: mb :: ref.sblk vE) w w' := by
  have hcf := cf_64
  have lb : b < w.heap.size := h.lb
  have HN : Hid (PW B E b mb m ((m.pc + 4) % 4294967296) vE vA ((w.setCell ⟨b, 34, none⟩ (.int .u32 ((m.pc + 4) % 4294967296))).alloc (.cells #[.func (.func 64) #[] #[], .int .i64 46, .int .i64 0, .int .i64 0, .int .i64 0, .int .i32 0] 69))) := h.step ((at_next B b mb m nx _ _ h.p _).other ((ref.Touch.refl [] _).alloc _) (by simp) (by simp) hz) (((ref.Touch.refl _ _).setCell (by simp) _).alloc _) rfl rfl
  have HT0 : Hid (ref.Touch [b] w ((w.setCell ⟨b, 34, none⟩ (.int .u32 ((m.pc + 4) % 4294967296))).alloc (.cells #[.func (.func 64) #[] #[], .int .i64 46, .int .i64 0, .int .i64 0, .int .i64 0, .int .i32 0] 69))) := ((ref.Touch.refl _ _).setCell (by simp) _).alloc _
  have cpc : w.cell? ⟨b, 33, none⟩ = some (.int .u32 m.pc) := h.p.cells 33 (by decide) (by decide)
  obtain ⟨u, cn⟩ := h.p.there 34 (by decide)
  have fn_ := h.p.free 34
  have HF : Hid (Fine m) := hf
  have st0 := hf.steps
  have st1 : m.steps < 2000 := by have := hf.fuel.2; omega
  clear h hf
  go_enter Tryz.func20, Tryz.ntmps20
  go_wp2_with fail
  refine (Calls.mono (c_x B E b mb m ((m.pc + 4) % 4294967296) vE vA _ HN.out hz HF.out hsz k1 hlt) ?_)
  rintro e w9 ⟨rfl, vE9, vA9, hp9, ht9⟩
  exact ⟨rfl, rfl, _, _, hp9, (HT0.out.mono (by simp)).trans ht9⟩
set_option maxRecDepth 10000 in
theorem do_cnx (B E b mb : Nat) (m : M) (nx : Int) (vE vA : Value) (w : World) (h : PW B E b mb m nx vE vA w) (hz : 0 < m.size) (hf : Fine m) (hsz : m.evs.length ≤ 2000) (hlt : m.steps < m.fuel) (k1 : ¬ m.regs 17 = 93) :
    Calls Tryz.prog 20 #[.pointer (some ⟨b, 0, none⟩), .agg #[.func (.func 64) #[] #[], .int .i64 46, .int .i64 0, .int .i64 0, .int .i64 0, .int .i32 0]] w fun e w' => e = .returned (.tuple #[]) ∧ ∃ vE' vA', PW B E b mb (next (ref.ecd m)) ((m.pc + 4) % 4294967296) vE' vA' w' ∧ ref.Touch (b :: mb :: ref.sblk vE) w w' := by
  have hcf := cf_64
  have lb : b < w.heap.size := h.lb
  have HN : Hid (PW B E b mb m ((m.pc + 4) % 4294967296) vE vA ((w.setCell ⟨b, 34, none⟩ (.int .u32 ((m.pc + 4) % 4294967296))).alloc (.cells #[.func (.func 64) #[] #[], .int .i64 46, .int .i64 0, .int .i64 0, .int .i64 0, .int .i32 0] 69))) := h.step ((at_next B b mb m nx _ _ h.p _).other ((ref.Touch.refl [] _).alloc _) (by simp) (by simp) hz) (((ref.Touch.refl _ _).setCell (by simp) _).alloc _) rfl rfl
  have HT0 : Hid (ref.Touch [b] w ((w.setCell ⟨b, 34, none⟩ (.int .u32 ((m.pc + 4) % 4294967296))).alloc (.cells #[.func (.func 64) #[] #[], .int .i64 46, .int .i64 0, .int .i64 0, .int .i64 0, .int .i32 0] 69))) := ((ref.Touch.refl _ _).setCell (by simp) _).alloc _
  have cpc : w.cell? ⟨b, 33, none⟩ = some (.int .u32 m.pc) := h.p.cells 33 (by decide) (by decide)
  obtain ⟨u, cn⟩ := h.p.there 34 (by decide)
  have fn_ := h.p.free 34
  have HF : Hid (Fine m) := hf
  have st0 := hf.steps
  have st1 : m.steps < 2000 := by have := hf.fuel.2; omega
  clear h hf
  go_enter Tryz.func20, Tryz.ntmps20
  go_wp2_with fail
  refine (Calls.mono (call_p B E b mb m ((m.pc + 4) % 4294967296) vE vA _ HN.out hz HF.out hsz k1) ?_)
  rintro e w9 ⟨rfl, vE9, vA9, hp9, ht9⟩
  obtain ⟨x1, x2, x3⟩ := ref.ecd_pc m k1
  have h2 : PW B E b mb { (ref.ecd m) with pc := ((m.pc + 4) % 4294967296), steps := (ref.ecd m).steps + 1 } ((m.pc + 4) % 4294967296) vE9 vA9 ((w9.setCell ⟨b, 33, none⟩ (.int .u32 ((m.pc + 4) % 4294967296))).setCell ⟨b, 39, none⟩ (.int .i64 ((ref.ecd m).steps + 1))) := hp9.step (at_steps B b mb { (ref.ecd m) with pc := ((m.pc + 4) % 4294967296) } ((m.pc + 4) % 4294967296) _ _ (at_pc B b mb (ref.ecd m) ((m.pc + 4) % 4294967296) _ w9 hp9.p ((m.pc + 4) % 4294967296)) _) (((ref.Touch.refl _ _).setCell (by simp) _).setCell (by simp) _) rfl rfl
  have HA : Hid (PW B E b mb (next (ref.ecd m)) ((m.pc + 4) % 4294967296) vE9 vA9 ((w9.setCell ⟨b, 33, none⟩ (.int .u32 ((m.pc + 4) % 4294967296))).setCell ⟨b, 39, none⟩ (.int .i64 (m.steps + 1)))) := by
    rw [x2] at h2
    exact h2.congr rfl (by show ((ref.ecd m).pc + 4) % 4294967296 = _; rw [x1]) rfl (by show (ref.ecd m).steps + 1 = _; rw [x2]) rfl rfl rfl rfl rfl
  have HT : Hid (ref.Touch (b :: mb :: ref.sblk vE) w ((w9.setCell ⟨b, 33, none⟩ (.int .u32 ((m.pc + 4) % 4294967296))).setCell ⟨b, 39, none⟩ (.int .i64 (m.steps + 1)))) := (((HT0.out.mono (by simp)).trans ht9).setCell (by simp) _).setCell (by simp) _
  have c1 : w9.cell? ⟨b, 34, none⟩ = some (.int .u32 ((m.pc + 4) % 4294967296)) := hp9.p.cells 34 (by decide) (by decide)
  have c2 : w9.cell? ⟨b, 39, none⟩ = some (.int .i64 m.steps) := (hp9.p.cells 39 (by decide) (by decide)).trans (by rw [← x2]; rfl)
  obtain ⟨u3, c3⟩ := hp9.p.there 33 (by decide)
  have g1 := hp9.p.free 33
  have g2 := hp9.p.free 39
  clear hp9 ht9 h2 x1 x2 x3
  go_wp2_with fail
  go_end0
  exact ⟨rfl, _, _, HA.out, HT.out⟩
/-- Every instruction. -/
theorem do_all (B E b mb : Nat) (m : M) (nx : Int) (vE vA : Value) (w : World) (h : PW B E b mb m nx vE vA w) (hg : MGood m) (hlt : m.steps < m.fuel) (hen : m.ended = false) (x : Int) (x0 : 0 ≤ x) (x1 : x ≤ 4294967295) (hx : ¬ opn x = -1) :
    Calls Tryz.prog 20 #[.pointer (some ⟨b, 0, none⟩), .agg #[(.func (.func (kofx (opn x))) #[] #[]), .int .i64 (opn x), .int .i64 (qRd x), .int .i64 (qR1 x), .int .i64 (qR2 x), .int .i32 (imm x)]] w (DoQ B E b mb m vE x w) := by
  have hsz : m.evs.length ≤ 2000 := by have := hg.evs; have := hg.fine.fuel.2; omega
  by_cases c : opn x = 46
  · have ex := ref.ex_call m x c
    obtain rfl := opn_46 x c
    rw [show opn 115 = 46 by decide, show qRd 115 = 0 by decide, show qR1 115 = 0 by decide, show qR2 115 = 0 by decide, show imm 115 = 0 by decide, show kofx 46 = 64 by decide]
    by_cases k : m.regs 17 = 93
    · have e2 : exec m 115 = stop { m with evs := m.evs ++ [⟨93, m.regs 10, (⟨#[]⟩ : ByteArray)⟩], steps := m.steps + 1 } 1 := by rw [ex, ref.ecall_ecd, if_pos k, ref.ecd_93 m k]; rfl
      refine (do_c93 B E b mb m nx vE vA w h hg.pos hg.fine hsz hlt k).mono ?_
      rintro e w' ⟨rfl, vE', vA', q1, q2⟩
      exact Or.inr ⟨by rw [e2]; rfl, by rw [e2]; rfl, _, vE', vA', by rw [e2]; exact q1, q2⟩
    · have e2 : exec m 115 = next (ref.ecd m) := by rw [ex, ref.ecall_ecd, if_neg k]
      refine (do_cnx B E b mb m nx vE vA w h hg.pos hg.fine hsz hlt k).mono ?_
      rintro e w' ⟨rfl, vE', vA', q1, q2⟩
      exact Or.inl ⟨by rw [e2]; exact (ref.ecd_pc m k).2.2.trans hen, rfl, _, vE', vA', by rw [e2]; exact q1, q2⟩
  · refine (do_exec B b mb m nx (vX3 m.low vE vA) w h.p hg.pos hg.fine hlt hen x x0 x1 hx c).mono ?_
    obtain ⟨r1, r2, r3, r4⟩ := Rows.exec m x c
    have el : (exec m x).low = m.low := congrArg Prod.snd (Fx.exec m x).2.2.1
    rintro e w' (⟨q0, rfl, nx', q1, q2⟩ | ⟨q0, rfl, nx', q1, q2⟩)
    · exact Or.inl ⟨q0, rfl, nx', vE, vA, h.step (by rw [el]; exact q1) q2 r1 r2, q2.mono (by simp)⟩
    · exact Or.inr ⟨q0, rfl, nx', vE, vA, h.step (by rw [el]; exact q1) q2 r1 r2, q2.mono (by simp)⟩
end Go.Proofs.YtakcncahkdfknaaGreatDoor.prog
