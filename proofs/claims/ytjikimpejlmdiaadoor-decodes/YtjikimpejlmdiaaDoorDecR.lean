import Derived.Test.YtjikimpejlmdiaaDoorDecR1
import Derived.Test.YtjikimpejlmdiaaDoorDecR2
import Derived.Test.YtjikimpejlmdiaaDoorDecR3
import Derived.Test.YtjikimpejlmdiaaDoorDecR4
namespace Go.Proofs.YtjikimpejlmdiaaDoor.decodes
open Go.ChangeShapes Go.WideShapes Go.ChangeAt Go.RowKit Go.Proofs.YtjikimpejlmdiaaDoor.dnums
set_option linter.unusedVariables false
set_option linter.unusedSimpArgs false
set_option maxRecDepth 10000 in
set_option maxHeartbeats 1000000 in
theorem ref_other (x : Int) (h0 : 0 ≤ x) (h1 : x ≤ 4294967295) (n55 : ¬ opc x = 55) (n23 : ¬ opc x = 23) (n111 : ¬ opc x = 111) (n103 : ¬ opc x = 103) (n99 : ¬ opc x = 99) (n3 : ¬ opc x = 3) (n35 : ¬ opc x = 35) (n19 : ¬ opc x = 19) (n51 : ¬ opc x = 51) (n15 : ¬ opc x = 15) (n115 : ¬ opc x = 115) (w : World) :
    Calls Tryd.prog 5 #[.int .u32 x] w fun e w' => e = .returned (dec x) ∧ Below w.heap.size w w' := by
  have e1 := fe_11_7 x h0 h1
  have e2 := fe_14_12 x h0 h1
  have e3 := fe_19_15 x h0 h1
  have e4 := fe_24_20 x h0 h1
  have e5 := fe_31_25 x h0 h1
  have e6 := fe_6_0 x h0 h1
  have e7 := fe_31_20 x h0 h1
  have e8 := sI x h0 h1
  have b0 := (i20_bd x h0 h1).1
  have b1 := (i20_bd x h0 h1).2
  have c1 := (rdf_bd x).1
  have c2 := (rdf_bd x).2
  have c3 := (f3_bd x).1
  have c4 := (f3_bd x).2
  have c5 := (r1_bd x).1
  have c6 := (r1_bd x).2
  have c7 := (r2_bd x).1
  have c8 := (r2_bd x).2
  have c9 := (f7_bd x h0 h1).1
  have c10 := (f7_bd x h0 h1).2
  have HD : Hid (dec x = no) := dec_no x (by simp [opn, n55, n23, n111, n103, n99, n3, n35, n19, n51, n15, n115])
  go_enter Tryd.func5, Tryd.ntmps5
  go_wp2_with (first | (go_at_call 7; refine (rb_any _ _ _ h0 h1 (by decide) _).mono ?_; rintro e w' ⟨rfl, nq, rfl⟩) | (go_at_call_of 8 (Value.int IntKind.u32 (i20 x)); refine (sg_any (i20 x) 12 (by decide) (i20_bd x h0 h1).1 (i20_bd x h0 h1).2 _).mono ?_; rintro e w' ⟨rfl, rfl⟩))
  refine bodyPost_ret (v := dec x) ?_ rfl ⟨rfl, ?_⟩
  · rw [HD.out]; simp [results, Tryd.results5, go_sem, no]
  · (repeat' (first | with_reducible exact Below.refl _ _ | with_reducible apply below_drewN | with_reducible apply Below.drew | with_reducible apply Below.alloc | with_reducible apply Below.setCell)) <;> (first | (simp; done) | (simp; omega))
theorem dref_any (x : Int) (h0 : 0 ≤ x) (h1 : x ≤ 4294967295) (w : World) :
    Calls Tryd.prog 5 #[.int .u32 x] w fun e w' => e = .returned (dec x) ∧ Below w.heap.size w w' := by
  by_cases n55 : opc x = 55
  · exact ref_37 x h0 h1 n55 w
  by_cases n23 : opc x = 23
  · exact ref_17 x h0 h1 n23 w
  by_cases n111 : opc x = 111
  · exact ref_6F x h0 h1 n111 w
  by_cases n103 : opc x = 103
  · exact ref_67 x h0 h1 n103 w
  by_cases n99 : opc x = 99
  · exact ref_63 x h0 h1 n99 w
  by_cases n3 : opc x = 3
  · exact ref_03 x h0 h1 n3 w
  by_cases n35 : opc x = 35
  · exact ref_23 x h0 h1 n35 w
  by_cases n19 : opc x = 19
  · by_cases m1 : f3 x = 1
    · by_cases k0 : f7 x = 0
      · exact ref_slli x h0 h1 n19 m1 k0 w
      · exact ref_sh1 x h0 h1 n19 m1 k0 w
    by_cases m5 : f3 x = 5
    · by_cases k0 : f7 x = 0
      · exact ref_srli x h0 h1 n19 m5 k0 w
      by_cases k32 : f7 x = 32
      · exact ref_srai x h0 h1 n19 m5 k32 w
      · exact ref_sh5 x h0 h1 n19 m5 k0 k32 w
    exact ref_13 x h0 h1 n19 m1 m5 w
  by_cases n51 : opc x = 51
  · by_cases k0 : f7 x = 0
    · exact ref_330 x h0 h1 n51 k0 w
    by_cases k1 : f7 x = 1
    · exact ref_331 x h0 h1 n51 k1 w
    by_cases k32 : f7 x = 32
    · exact ref_3320 x h0 h1 n51 k32 w
    exact ref_33_no x h0 h1 n51 k0 k1 k32 w
  by_cases n15 : opc x = 15
  · exact ref_0F x h0 h1 n15 w
  by_cases n115 : opc x = 115
  · by_cases x1 : x = 115
    · subst x1; exact ref_ecall w
    by_cases x2 : x = 1048691
    · subst x2; exact ref_ebreak w
    exact ref_73_no x h0 h1 n115 x1 x2 w
  exact ref_other x h0 h1 n55 n23 n111 n103 n99 n3 n35 n19 n51 n15 n115 w
end Go.Proofs.YtjikimpejlmdiaaDoor.decodes
