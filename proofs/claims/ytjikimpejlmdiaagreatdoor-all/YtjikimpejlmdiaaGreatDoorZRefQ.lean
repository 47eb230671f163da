import Derived.Test.YtjikimpejlmdiaaGreatDoorZRefX
set_option maxHeartbeats 4000000
set_option linter.unusedVariables false
set_option linter.unusedSimpArgs false
set_option maxRecDepth 10000
namespace Go.Proofs.YtjikimpejlmdiaaGreatDoor
theorem XQ0{p:Prop}(h:p:=by
 have HW:Hid (∀n,RefAt B b mb m vE vA vS vB (w.drewN n)):=fun n=>h.draws n
 have HF:Hid (Fine m):=hf
 have c10:w.cell? ⟨b,12,none⟩=some (.int .u32 (m.regs 10)):=h.reg 10 dC
 have c11:w.cell? ⟨b,13,none⟩=some (.int .u32 (m.regs 11)):=h.reg 11 dC
 have c12:w.cell? ⟨b,14,none⟩=some (.int .u32 (m.regs 12)):=h.reg 12 dC
 have c17:w.cell? ⟨b,19,none⟩=some (.int .u32 (m.regs 17)):=h.reg 17 dC
 have cbr:w.cell? ⟨b,34,none⟩=some (.int .u32 m.brk):=h.cells 34 dC dC
 have clo:w.cell? ⟨b,40,none⟩=some (.int .u32 m.low):=h.cells 40 dC dC
 have cda:=h.data
 have f12:=h.free 12
 have f34:=h.free 34
 have p0:=(hf.regs 11).1
 have p1:=(hf.regs 11).2
 have n0:=(hf.regs 12).1
 have n1:=(hf.regs 12).2
 have s0:=(hf.regs 10).1
 have s1:=(hf.regs 10).2
 have z1:=hf.size
 have l0:=hf.low.1
 have l1:=hf.low.2
 have HA:Hid (RefAt B b mb (setReg m 10 4294967282) vE vA vS vB (w.setCell ⟨b,12,none⟩ (.int .u32 4294967282))):=at_reg h 10 4294967282 dC dC
 clear h hf
 go_enter Tryz.func81,Tryz.ntmps81
 go_wp2_with (first|(go_at_call 51;refine(lies_any (HW.out 0) (m.regs 11) (m.regs 12) p0 p1 n0 n1 HF.out.size).mono ?_;rintro e w' ⟨rfl,rfl⟩))
 first|go_end0|refine bodyPost_ret (results_none rfl _ _ _) rfl ?_
 exact⟨rfl,HA.out,(Touch.refl _ _).setCell sP _⟩):p:=h
theorem XQ1{p:Prop}(h:p:=by
 go_enter Tryz.func81,Tryz.ntmps81
 go_wp2_with (first|(go_at_call 51;refine(lies_any (HW.out 0) (m.regs 11) (m.regs 12) p0 p1 n0 n1 HF.out.size).mono ?_;rintro e w' ⟨rfl,rfl⟩))
 go_region
 all_goals go_wp2_with fail
 all_goals go_end0
 all_goals exact⟨rfl,HA.out,(Touch.refl _ _).drew.setCell sP _⟩):p:=h
namespace ref
open ChangeShapes WideShapes ChangeAt RowKit nums dnums mach
theorem call_nosys{B b mb:Nat}{m:M}{vE vA vS vB:Value}{w:World}(h:RefAt B b mb m vE vA vS vB w)(hz:0<m.size)(hf:Fine m)(k1:¬m.regs 17=93)(k2:¬m.regs 17=64)(k3:¬m.regs 17=63)(k4:¬m.regs 17=214):
  Calls Tryz.prog 81 #[.pointer (some ⟨b,0,none⟩)] w fun e w'=>e=.returned (.tuple #[])/\RefAt B b mb (setReg m 10 4294967258) vE vA vS vB w'/\Touch [b] w w':=by
 have HW:Hid (∀n,RefAt B b mb m vE vA vS vB (w.drewN n)):=fun n=>h.draws n
 have HF:Hid (Fine m):=hf
 have c10:w.cell? ⟨b,12,none⟩=some (.int .u32 (m.regs 10)):=h.reg 10 dC
 have c11:w.cell? ⟨b,13,none⟩=some (.int .u32 (m.regs 11)):=h.reg 11 dC
 have c12:w.cell? ⟨b,14,none⟩=some (.int .u32 (m.regs 12)):=h.reg 12 dC
 have c17:w.cell? ⟨b,19,none⟩=some (.int .u32 (m.regs 17)):=h.reg 17 dC
 have cbr:w.cell? ⟨b,34,none⟩=some (.int .u32 m.brk):=h.cells 34 dC dC
 have clo:w.cell? ⟨b,40,none⟩=some (.int .u32 m.low):=h.cells 40 dC dC
 have cda:=h.data
 have f12:=h.free 12
 have f34:=h.free 34
 have p0:=(hf.regs 11).1
 have p1:=(hf.regs 11).2
 have n0:=(hf.regs 12).1
 have n1:=(hf.regs 12).2
 have s0:=(hf.regs 10).1
 have s1:=(hf.regs 10).2
 have z1:=hf.size
 have l0:=hf.low.1
 have l1:=hf.low.2
 have HA:Hid (RefAt B b mb (setReg m 10 4294967258) vE vA vS vB (w.setCell ⟨b,12,none⟩ (.int .u32 4294967258))):=at_reg h 10 4294967258 dC dC
 clear h hf
 go_enter Tryz.func81,Tryz.ntmps81
 go_wp2_with (first|(go_at_call 51;refine(lies_any (HW.out 0) (m.regs 11) (m.regs 12) p0 p1 n0 n1 HF.out.size).mono ?_;rintro e w' ⟨rfl,rfl⟩))
 first|go_end0|refine bodyPost_ret (results_none rfl _ _ _) rfl ?_
 exact⟨rfl,HA.out,(Touch.refl _ _).setCell sP _⟩
theorem call_f64{B b mb:Nat}{m:M}{vE vA vS vB:Value}{w:World}(h:RefAt B b mb m vE vA vS vB w)(hz:0<m.size)(hf:Fine m)(k1:m.regs 17=64)(hl:lies m (m.regs 11) (m.regs 12)=false):
  Calls Tryz.prog 81 #[.pointer (some ⟨b,0,none⟩)] w fun e w'=>e=.returned (.tuple #[])/\RefAt B b mb (setReg m 10 4294967282) vE vA vS vB w'/\Touch [b] w w':=by
 exact XQ0
theorem call_f63{B b mb:Nat}{m:M}{vE vA vS vB:Value}{w:World}(h:RefAt B b mb m vE vA vS vB w)(hz:0<m.size)(hf:Fine m)(k1:m.regs 17=63)(hl:lies m (m.regs 11) (m.regs 12)=false):
  Calls Tryz.prog 81 #[.pointer (some ⟨b,0,none⟩)] w fun e w'=>e=.returned (.tuple #[])/\RefAt B b mb (setReg m 10 4294967282) vE vA vS vB w'/\Touch [b] w w':=by
 exact XQ0
theorem at_brk{B b mb:Nat}{m:M}{vE vA vS vB:Value}{w:World}(h:RefAt B b mb m vE vA vS vB w)(v:Int):RefAt B b mb {m with brk:=v } vE vA vS vB (w.setCell ⟨b,34,none⟩ (.int .u32 v)):=
 h.upd (m':={m with brk:=v }) (vE':=vE) (vA':=vA) (vS':=vS) (vB':=vB) 34 dC dC _ rfl rfl (fun i hi h39=>Or.elim (Decidable.em (i=34)) (fun e=>by subst e;simp[lay]) (fun e=>by simp[lay,e]))
theorem call_brk_n{B b mb:Nat}{m:M}{vE vA vS vB:Value}{w:World}(h:RefAt B b mb m vE vA vS vB w)(hz:0<m.size)(hf:Fine m)(k1:m.regs 17=214)(hk:¬(m.low<=m.regs 10/\m.regs 10<=m.size)):
  Calls Tryz.prog 81 #[.pointer (some ⟨b,0,none⟩)] w fun e w'=>e=.returned (.tuple #[])/\RefAt B b mb (setReg m 10 m.brk) vE vA vS vB w'/\Touch [b] w w':=by
 have HW:Hid (∀n,RefAt B b mb m vE vA vS vB (w.drewN n)):=fun n=>h.draws n
 have HF:Hid (Fine m):=hf
 have c10:w.cell? ⟨b,12,none⟩=some (.int .u32 (m.regs 10)):=h.reg 10 dC
 have c11:w.cell? ⟨b,13,none⟩=some (.int .u32 (m.regs 11)):=h.reg 11 dC
 have c12:w.cell? ⟨b,14,none⟩=some (.int .u32 (m.regs 12)):=h.reg 12 dC
 have c17:w.cell? ⟨b,19,none⟩=some (.int .u32 (m.regs 17)):=h.reg 17 dC
 have cbr:w.cell? ⟨b,34,none⟩=some (.int .u32 m.brk):=h.cells 34 dC dC
 have clo:w.cell? ⟨b,40,none⟩=some (.int .u32 m.low):=h.cells 40 dC dC
 have cda:=h.data
 have f12:=h.free 12
 have f34:=h.free 34
 have p0:=(hf.regs 11).1
 have p1:=(hf.regs 11).2
 have n0:=(hf.regs 12).1
 have n1:=(hf.regs 12).2
 have s0:=(hf.regs 10).1
 have s1:=(hf.regs 10).2
 have z1:=hf.size
 have l0:=hf.low.1
 have l1:=hf.low.2
 have HA:Hid (RefAt B b mb (setReg m 10 m.brk) vE vA vS vB ((w.drew.setCell ⟨b,12,none⟩ (.int .u32 m.brk)))):=at_reg (h.draws 1) 10 m.brk dC dC
 clear h hf
 by_cases y:m.low<=m.regs 10
 ·have y2:(m.size:Int)<m.regs 10:=by omega
  have y3:decide (m.regs 10<=m.size)=false:=by simp;omega
  clear hk
  exact XQ1
 ·have y2:m.regs 10<m.low:=by omega
  have y3:decide (m.low<=m.regs 10)=false:=by simp;omega
  clear hk
  exact XQ1
theorem call_brk_y{B b mb:Nat}{m:M}{vE vA vS vB:Value}{w:World}(h:RefAt B b mb m vE vA vS vB w)(hz:0<m.size)(hf:Fine m)(k1:m.regs 17=214)(y1:m.low<=m.regs 10)(y2:m.regs 10<=m.size):
  Calls Tryz.prog 81 #[.pointer (some ⟨b,0,none⟩)] w fun e w'=>e=.returned (.tuple #[])/\RefAt B b mb (setReg {m with brk:=m.regs 10 } 10 (m.regs 10)) vE vA vS vB w'/\Touch [b] w w':=by
 have HW:Hid (∀n,RefAt B b mb m vE vA vS vB (w.drewN n)):=fun n=>h.draws n
 have HF:Hid (Fine m):=hf
 have c10:w.cell? ⟨b,12,none⟩=some (.int .u32 (m.regs 10)):=h.reg 10 dC
 have c11:w.cell? ⟨b,13,none⟩=some (.int .u32 (m.regs 11)):=h.reg 11 dC
 have c12:w.cell? ⟨b,14,none⟩=some (.int .u32 (m.regs 12)):=h.reg 12 dC
 have c17:w.cell? ⟨b,19,none⟩=some (.int .u32 (m.regs 17)):=h.reg 17 dC
 have cbr:w.cell? ⟨b,34,none⟩=some (.int .u32 m.brk):=h.cells 34 dC dC
 have clo:w.cell? ⟨b,40,none⟩=some (.int .u32 m.low):=h.cells 40 dC dC
 have cda:=h.data
 have f12:=h.free 12
 have f34:=h.free 34
 have p0:=(hf.regs 11).1
 have p1:=(hf.regs 11).2
 have n0:=(hf.regs 12).1
 have n1:=(hf.regs 12).2
 have s0:=(hf.regs 10).1
 have s1:=(hf.regs 10).2
 have z1:=hf.size
 have l0:=hf.low.1
 have l1:=hf.low.2
 have HA:Hid (RefAt B b mb (setReg {m with brk:=m.regs 10 } 10 (m.regs 10)) vE vA vS vB (((w.setCell ⟨b,34,none⟩ (.int .u32 (m.regs 10))).drew.setCell ⟨b,12,none⟩ (.int .u32 (m.regs 10))))):=@at_reg B b mb {m with brk:=m.regs 10 } vE vA vS vB _ ((at_brk h (m.regs 10)).draws 1) 10 (m.regs 10) dC dC
 have y3:decide (m.low<=m.regs 10)=true:=by simpa using y1
 have y4:decide (m.regs 10<=m.size)=true:=by simpa using y2
 clear h hf
 go_enter Tryz.func81,Tryz.ntmps81
 go_wp2_with (first|(go_at_call 51;refine(lies_any (HW.out 0) (m.regs 11) (m.regs 12) p0 p1 n0 n1 HF.out.size).mono ?_;rintro e w' ⟨rfl,rfl⟩))
 go_region
 all_goals go_wp2_with fail
 all_goals go_end0
 all_goals exact⟨rfl,HA.out,((Touch.refl _ _).setCell sP _).drew.setCell sP _⟩
end ref
end Go.Proofs.YtjikimpejlmdiaaGreatDoor
