import Derived.Test.YtjikimpejlmdiaaDoorDecA
import Derived.WalkSmall
import Derived.Deep.RegionWith
namespace Go.Proofs.YtjikimpejlmdiaaDoor.decodes
open Go.ChangeShapes Go.WideShapes Go.ChangeAt Go.RowKit Go.Proofs.YtjikimpejlmdiaaDoor.dnums
set_option linter.unusedVariables false
set_option linter.unusedSimpArgs false
set_option maxRecDepth 10000 in
set_option maxHeartbeats 1000000 in
theorem ref_37 (x : Int) (h0 : 0 ≤ x) (h1 : x ≤ 4294967295) (hop : opc x = 55) (w : World) :
    Calls Tryd.prog 5 #[.int .u32 x] w fun e w' => e = .returned (dec x) ∧ Below w.heap.size w w' := by
  have e1 := fe_11_7 x h0 h1
  have e2 := fe_14_12 x h0 h1
  have e3 := fe_19_15 x h0 h1
  have e4 := fe_24_20 x h0 h1
  have e5 := fe_31_25 x h0 h1
  have e6 := (fe_6_0 x h0 h1).trans hop
  have e7 := fe_31_20 x h0 h1
  have e8 := sI x h0 h1
  have b0 := (i20_bd x h0 h1).1
  have b1 := (i20_bd x h0 h1).2
  have c1 := (rdf_bd x).1
  have c2 := (rdf_bd x).2
  have c3 := (f3_bd x).1
  have c4 := (f3_bd x).2
  have c5 := (r1_bd x).1
  have c6 := (r1_bd x).2
  have c7 := (r2_bd x).1
  have c8 := (r2_bd x).2
  have c9 := (f7_bd x h0 h1).1
  have c10 := (f7_bd x h0 h1).2
  have HD : Hid (dec x = ins 0 (rdf x) 0 0 (immU x)) := dec_ins x _ _ _ _ _ (by simp [opn, hop]) (by decide) (by simp [hasRd, hop]) (by simp [hasR1, hop]) (by simp [hasR2, hop]) (by simp [imm, hop])
  have o1 := oU x h0 h1
  go_enter Tryd.func5, Tryd.ntmps5
  go_wp2_with (first | (go_at_call 7; refine (rb_any _ _ _ h0 h1 (by decide) _).mono ?_; rintro e w' ⟨rfl, nq, rfl⟩) | (go_at_call_of 8 (Value.int IntKind.u32 (i20 x)); refine (sg_any (i20 x) 12 (by decide) (i20_bd x h0 h1).1 (i20_bd x h0 h1).2 _).mono ?_; rintro e w' ⟨rfl, rfl⟩))
  refine bodyPost_ret (v := dec x) ?_ rfl ⟨rfl, ?_⟩
  · rw [HD.out]; simp [results, Tryd.results5, go_sem, ins]
  · (repeat' (first | with_reducible exact Below.refl _ _ | with_reducible apply below_drewN | with_reducible apply Below.drew | with_reducible apply Below.alloc | with_reducible apply Below.setCell)) <;> (first | (simp; done) | (simp; omega))
set_option maxRecDepth 10000 in
set_option maxHeartbeats 1000000 in
theorem ref_17 (x : Int) (h0 : 0 ≤ x) (h1 : x ≤ 4294967295) (hop : opc x = 23) (w : World) :
    Calls Tryd.prog 5 #[.int .u32 x] w fun e w' => e = .returned (dec x) ∧ Below w.heap.size w w' := by
  have e1 := fe_11_7 x h0 h1
  have e2 := fe_14_12 x h0 h1
  have e3 := fe_19_15 x h0 h1
  have e4 := fe_24_20 x h0 h1
  have e5 := fe_31_25 x h0 h1
  have e6 := (fe_6_0 x h0 h1).trans hop
  have e7 := fe_31_20 x h0 h1
  have e8 := sI x h0 h1
  have b0 := (i20_bd x h0 h1).1
  have b1 := (i20_bd x h0 h1).2
  have c1 := (rdf_bd x).1
  have c2 := (rdf_bd x).2
  have c3 := (f3_bd x).1
  have c4 := (f3_bd x).2
  have c5 := (r1_bd x).1
  have c6 := (r1_bd x).2
  have c7 := (r2_bd x).1
  have c8 := (r2_bd x).2
  have c9 := (f7_bd x h0 h1).1
  have c10 := (f7_bd x h0 h1).2
  have HD : Hid (dec x = ins 1 (rdf x) 0 0 (immU x)) := dec_ins x _ _ _ _ _ (by simp [opn, hop]) (by decide) (by simp [hasRd, hop]) (by simp [hasR1, hop]) (by simp [hasR2, hop]) (by simp [imm, hop])
  have o1 := oU x h0 h1
  go_enter Tryd.func5, Tryd.ntmps5
  go_wp2_with (first | (go_at_call 7; refine (rb_any _ _ _ h0 h1 (by decide) _).mono ?_; rintro e w' ⟨rfl, nq, rfl⟩) | (go_at_call_of 8 (Value.int IntKind.u32 (i20 x)); refine (sg_any (i20 x) 12 (by decide) (i20_bd x h0 h1).1 (i20_bd x h0 h1).2 _).mono ?_; rintro e w' ⟨rfl, rfl⟩))
  refine bodyPost_ret (v := dec x) ?_ rfl ⟨rfl, ?_⟩
  · rw [HD.out]; simp [results, Tryd.results5, go_sem, ins]
  · (repeat' (first | with_reducible exact Below.refl _ _ | with_reducible apply below_drewN | with_reducible apply Below.drew | with_reducible apply Below.alloc | with_reducible apply Below.setCell)) <;> (first | (simp; done) | (simp; omega))
set_option maxRecDepth 10000 in
set_option maxHeartbeats 1000000 in
theorem ref_6F (x : Int) (h0 : 0 ≤ x) (h1 : x ≤ 4294967295) (hop : opc x = 111) (w : World) :
    Calls Tryd.prog 5 #[.int .u32 x] w fun e w' => e = .returned (dec x) ∧ Below w.heap.size w w' := by
  have e1 := fe_11_7 x h0 h1
  have e2 := fe_14_12 x h0 h1
  have e3 := fe_19_15 x h0 h1
  have e4 := fe_24_20 x h0 h1
  have e5 := fe_31_25 x h0 h1
  have e6 := (fe_6_0 x h0 h1).trans hop
  have e7 := fe_31_20 x h0 h1
  have e8 := sI x h0 h1
  have b0 := (i20_bd x h0 h1).1
  have b1 := (i20_bd x h0 h1).2
  have c1 := (rdf_bd x).1
  have c2 := (rdf_bd x).2
  have c3 := (f3_bd x).1
  have c4 := (f3_bd x).2
  have c5 := (r1_bd x).1
  have c6 := (r1_bd x).2
  have c7 := (r2_bd x).1
  have c8 := (r2_bd x).2
  have c9 := (f7_bd x h0 h1).1
  have c10 := (f7_bd x h0 h1).2
  have HD : Hid (dec x = ins 2 (rdf x) 0 0 (immJ x)) := dec_ins x _ _ _ _ _ (by simp [opn, hop]) (by decide) (by simp [hasRd, hop]) (by simp [hasR1, hop]) (by simp [hasR2, hop]) (by simp [imm, hop])
  have o1 := oJ x h0 h1
  have o2 := sJ x h0 h1
  go_enter Tryd.func5, Tryd.ntmps5
  go_wp2_with (first | (go_at_call 7; refine (rb_any _ _ _ h0 h1 (by decide) _).mono ?_; rintro e w' ⟨rfl, nq, rfl⟩) | (go_at_call_of 8 (Value.int IntKind.u32 (i20 x)); refine (sg_any (i20 x) 12 (by decide) (i20_bd x h0 h1).1 (i20_bd x h0 h1).2 _).mono ?_; rintro e w' ⟨rfl, rfl⟩) | (go_at_call_of 8 (Value.int IntKind.u32 (vJ x)); refine (sg_any (vJ x) 21 (by decide) (vJ_bd x h0 h1).1 (vJ_bd x h0 h1).2 _).mono ?_; rintro e w' ⟨rfl, rfl⟩))
  refine bodyPost_ret (v := dec x) ?_ rfl ⟨rfl, ?_⟩
  · rw [HD.out]; simp [results, Tryd.results5, go_sem, ins]
  · (repeat' (first | with_reducible exact Below.refl _ _ | with_reducible apply below_drewN | with_reducible apply Below.drew | with_reducible apply Below.alloc | with_reducible apply Below.setCell)) <;> (first | (simp; done) | (simp; omega))
set_option maxRecDepth 10000 in
set_option maxHeartbeats 1000000 in
theorem ref_ecall (w : World) :
    Calls Tryd.prog 5 #[.int .u32 115] w fun e w' => e = .returned (dec 115) ∧ Below w.heap.size w w' := by
  have h0 : (0 : Int) ≤ 115 := by decide
  have h1 : (115 : Int) ≤ 4294967295 := by decide
  have hop : opc 115 = 115 := by decide
  have e1 := fe_11_7 115 h0 h1
  have e2 := fe_14_12 115 h0 h1
  have e3 := fe_19_15 115 h0 h1
  have e4 := fe_24_20 115 h0 h1
  have e5 := fe_31_25 115 h0 h1
  have e6 := (fe_6_0 115 h0 h1).trans hop
  have e7 := fe_31_20 115 h0 h1
  have e8 := sI 115 h0 h1
  have b0 := (i20_bd 115 h0 h1).1
  have b1 := (i20_bd 115 h0 h1).2
  have c1 := (rdf_bd 115).1
  have c2 := (rdf_bd 115).2
  have c3 := (f3_bd 115).1
  have c4 := (f3_bd 115).2
  have c5 := (r1_bd 115).1
  have c6 := (r1_bd 115).2
  have c7 := (r2_bd 115).1
  have c8 := (r2_bd 115).2
  have c9 := (f7_bd 115 h0 h1).1
  have c10 := (f7_bd 115 h0 h1).2
  have HD : Hid (dec 115 = ins 46 0 0 0 0) := dec_ins 115 _ _ _ _ _ (by simp [opn, hop]) (by decide) (by simp [hasRd, hop]) (by simp [hasR1, hop]) (by simp [hasR2, hop]) (by simp [imm, hop])
  go_enter Tryd.func5, Tryd.ntmps5
  go_wp2_with (first | (go_at_call 7; refine (rb_any _ _ _ h0 h1 (by decide) _).mono ?_; rintro e w' ⟨rfl, nq, rfl⟩) | (go_at_call_of 8 (Value.int IntKind.u32 (i20 115)); refine (sg_any (i20 115) 12 (by decide) (i20_bd 115 h0 h1).1 (i20_bd 115 h0 h1).2 _).mono ?_; rintro e w' ⟨rfl, rfl⟩))
  refine bodyPost_ret (v := dec 115) ?_ rfl ⟨rfl, ?_⟩
  · rw [HD.out]; simp [results, Tryd.results5, go_sem, ins]
  · (repeat' (first | with_reducible exact Below.refl _ _ | with_reducible apply below_drewN | with_reducible apply Below.drew | with_reducible apply Below.alloc | with_reducible apply Below.setCell)) <;> (first | (simp; done) | (simp; omega))
set_option maxRecDepth 10000 in
set_option maxHeartbeats 1000000 in
theorem ref_ebreak (w : World) :
    Calls Tryd.prog 5 #[.int .u32 1048691] w fun e w' => e = .returned (dec 1048691) ∧ Below w.heap.size w w' := by
  have h0 : (0 : Int) ≤ 1048691 := by decide
  have h1 : (1048691 : Int) ≤ 4294967295 := by decide
  have hop : opc 1048691 = 115 := by decide
  have e1 := fe_11_7 1048691 h0 h1
  have e2 := fe_14_12 1048691 h0 h1
  have e3 := fe_19_15 1048691 h0 h1
  have e4 := fe_24_20 1048691 h0 h1
  have e5 := fe_31_25 1048691 h0 h1
  have e6 := (fe_6_0 1048691 h0 h1).trans hop
  have e7 := fe_31_20 1048691 h0 h1
  have e8 := sI 1048691 h0 h1
  have b0 := (i20_bd 1048691 h0 h1).1
  have b1 := (i20_bd 1048691 h0 h1).2
  have c1 := (rdf_bd 1048691).1
  have c2 := (rdf_bd 1048691).2
  have c3 := (f3_bd 1048691).1
  have c4 := (f3_bd 1048691).2
  have c5 := (r1_bd 1048691).1
  have c6 := (r1_bd 1048691).2
  have c7 := (r2_bd 1048691).1
  have c8 := (r2_bd 1048691).2
  have c9 := (f7_bd 1048691 h0 h1).1
  have c10 := (f7_bd 1048691 h0 h1).2
  have HD : Hid (dec 1048691 = ins 47 0 0 0 0) := dec_ins 1048691 _ _ _ _ _ (by simp [opn, hop]) (by decide) (by simp [hasRd, hop]) (by simp [hasR1, hop]) (by simp [hasR2, hop]) (by simp [imm, hop])
  go_enter Tryd.func5, Tryd.ntmps5
  go_wp2_with (first | (go_at_call 7; refine (rb_any _ _ _ h0 h1 (by decide) _).mono ?_; rintro e w' ⟨rfl, nq, rfl⟩) | (go_at_call_of 8 (Value.int IntKind.u32 (i20 1048691)); refine (sg_any (i20 1048691) 12 (by decide) (i20_bd 1048691 h0 h1).1 (i20_bd 1048691 h0 h1).2 _).mono ?_; rintro e w' ⟨rfl, rfl⟩))
  refine bodyPost_ret (v := dec 1048691) ?_ rfl ⟨rfl, ?_⟩
  · rw [HD.out]; simp [results, Tryd.results5, go_sem, ins]
  · (repeat' (first | with_reducible exact Below.refl _ _ | with_reducible apply below_drewN | with_reducible apply Below.drew | with_reducible apply Below.alloc | with_reducible apply Below.setCell)) <;> (first | (simp; done) | (simp; omega))
set_option maxRecDepth 10000 in
set_option maxHeartbeats 1000000 in
theorem ref_73_no (x : Int) (h0 : 0 ≤ x) (h1 : x ≤ 4294967295) (hop : opc x = 115) (hx : ¬ x = 115) (hy : ¬ x = 1048691) (w : World) :
    Calls Tryd.prog 5 #[.int .u32 x] w fun e w' => e = .returned (dec x) ∧ Below w.heap.size w w' := by
  have e1 := fe_11_7 x h0 h1
  have e2 := fe_14_12 x h0 h1
  have e3 := fe_19_15 x h0 h1
  have e4 := fe_24_20 x h0 h1
  have e5 := fe_31_25 x h0 h1
  have e6 := (fe_6_0 x h0 h1).trans hop
  have e7 := fe_31_20 x h0 h1
  have e8 := sI x h0 h1
  have b0 := (i20_bd x h0 h1).1
  have b1 := (i20_bd x h0 h1).2
  have c1 := (rdf_bd x).1
  have c2 := (rdf_bd x).2
  have c3 := (f3_bd x).1
  have c4 := (f3_bd x).2
  have c5 := (r1_bd x).1
  have c6 := (r1_bd x).2
  have c7 := (r2_bd x).1
  have c8 := (r2_bd x).2
  have c9 := (f7_bd x h0 h1).1
  have c10 := (f7_bd x h0 h1).2
  have HD : Hid (dec x = no) := dec_no x (by simp [opn, hop, hx, hy])
  go_enter Tryd.func5, Tryd.ntmps5
  go_wp2_with (first | (go_at_call 7; refine (rb_any _ _ _ h0 h1 (by decide) _).mono ?_; rintro e w' ⟨rfl, nq, rfl⟩) | (go_at_call_of 8 (Value.int IntKind.u32 (i20 x)); refine (sg_any (i20 x) 12 (by decide) (i20_bd x h0 h1).1 (i20_bd x h0 h1).2 _).mono ?_; rintro e w' ⟨rfl, rfl⟩))
  refine bodyPost_ret (v := dec x) ?_ rfl ⟨rfl, ?_⟩
  · rw [HD.out]; simp [results, Tryd.results5, go_sem, no]
  · (repeat' (first | with_reducible exact Below.refl _ _ | with_reducible apply below_drewN | with_reducible apply Below.drew | with_reducible apply Below.alloc | with_reducible apply Below.setCell)) <;> (first | (simp; done) | (simp; omega))
end Go.Proofs.YtjikimpejlmdiaaDoor.decodes
