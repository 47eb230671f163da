import Derived.Test.YtjikimpejlmdiaaDoorDecT
namespace Go.Proofs.YtjikimpejlmdiaaDoor.decodes
open Go.ChangeShapes Go.WideShapes Go.ChangeAt Go.RowKit Go.Proofs.YtjikimpejlmdiaaDoor.dnums
set_option linter.unusedVariables false
set_option linter.unusedSimpArgs false
set_option maxRecDepth 10000 in
set_option maxHeartbeats 1000000 in
theorem ref_330_hit (x : Int) (h0 : 0 ≤ x) (h1 : x ≤ 4294967295) (hop : opc x = 51) (hm : f7 x = 0) (hh : ¬ at8 T330 x = -1) (w : World) :
    Calls Tryd.prog 5 #[.int .u32 x] w fun e w' => e = .returned (dec x) ∧ Below w.heap.size w w' := by
  have e1 := fe_11_7 x h0 h1
  have e2 := fe_14_12 x h0 h1
  have e3 := fe_19_15 x h0 h1
  have e4 := fe_24_20 x h0 h1
  have e5 := fe_31_25 x h0 h1
  have e6 := (fe_6_0 x h0 h1).trans hop
  have e7 := fe_31_20 x h0 h1
  have e8 := sI x h0 h1
  have b0 := (i20_bd x h0 h1).1
  have b1 := (i20_bd x h0 h1).2
  have c1 := (rdf_bd x).1
  have c2 := (rdf_bd x).2
  have c3 := (f3_bd x).1
  have c4 := (f3_bd x).2
  have c5 := (r1_bd x).1
  have c6 := (r1_bd x).2
  have c7 := (r2_bd x).1
  have c8 := (r2_bd x).2
  have c9 := (f7_bd x h0 h1).1
  have c10 := (f7_bd x h0 h1).2
  have HD : Hid (dec x = ins (at8 T330 x) (rdf x) (r1 x) (r2 x) 0) := dec_ins x _ _ _ _ _ (by simp [opn, hop, hm]) hh (by simp [hasRd, hop]) (by simp [hasR1, hop]) (by simp [hasR2, hop]) (by simp [imm, hop, hm])
  have HH : Hid (_ ∧ _ ∧ _) := hit_T330 x hh
  clear hh
  go_enter Tryd.func5, Tryd.ntmps5
  go_wp2_with (first | (go_at_call 7; refine (rb_any _ _ _ h0 h1 (by decide) _).mono ?_; rintro e w' ⟨rfl, nq, rfl⟩) | (go_at_call_of 8 (Value.int IntKind.u32 (i20 x)); refine (sg_any (i20 x) 12 (by decide) (i20_bd x h0 h1).1 (i20_bd x h0 h1).2 _).mono ?_; rintro e w' ⟨rfl, rfl⟩))
  refine (one_hit (w.heap.size + 1 + 1) 8 8 (f3 x) (at8 T330 x) 0 (rdf x) (r1 x) (r2 x) 0 c3 ?g1 c4 ?g2 _ ?g3 ?g4).mono ?_
  case g1 => have := HH.out.1; omega
  case g2 => exact HH.out.2.2
  case g3 => simp
  case g4 => rw [World.cell?_alloc_at _ _ _ _ (by simp)]; exact HH.out.2.1
  rintro e w' ⟨rfl, rfl⟩
  unfold ins
  go_wp2_with fail
  refine bodyPost_ret (v := dec x) ?_ rfl ⟨rfl, ?_⟩
  · rw [HD.out]; simp [results, Tryd.results5, go_sem, ins]
  · (repeat' (first | with_reducible exact Below.refl _ _ | with_reducible apply below_drewN | with_reducible apply Below.drew | with_reducible apply Below.alloc | with_reducible apply Below.setCell)) <;> (first | (simp; done) | (simp; omega))
theorem ref_330 (x : Int) (h0 : 0 ≤ x) (h1 : x ≤ 4294967295) (hop : opc x = 51) (hm : f7 x = 0) (w : World) :
    Calls Tryd.prog 5 #[.int .u32 x] w fun e w' => e = .returned (dec x) ∧ Below w.heap.size w w' :=
  ref_330_hit x h0 h1 hop hm (all_T330 x) w
set_option maxRecDepth 10000 in
set_option maxHeartbeats 1000000 in
theorem ref_331_hit (x : Int) (h0 : 0 ≤ x) (h1 : x ≤ 4294967295) (hop : opc x = 51) (hm : f7 x = 1) (hh : ¬ at8 T331 x = -1) (w : World) :
    Calls Tryd.prog 5 #[.int .u32 x] w fun e w' => e = .returned (dec x) ∧ Below w.heap.size w w' := by
  have e1 := fe_11_7 x h0 h1
  have e2 := fe_14_12 x h0 h1
  have e3 := fe_19_15 x h0 h1
  have e4 := fe_24_20 x h0 h1
  have e5 := fe_31_25 x h0 h1
  have e6 := (fe_6_0 x h0 h1).trans hop
  have e7 := fe_31_20 x h0 h1
  have e8 := sI x h0 h1
  have b0 := (i20_bd x h0 h1).1
  have b1 := (i20_bd x h0 h1).2
  have c1 := (rdf_bd x).1
  have c2 := (rdf_bd x).2
  have c3 := (f3_bd x).1
  have c4 := (f3_bd x).2
  have c5 := (r1_bd x).1
  have c6 := (r1_bd x).2
  have c7 := (r2_bd x).1
  have c8 := (r2_bd x).2
  have c9 := (f7_bd x h0 h1).1
  have c10 := (f7_bd x h0 h1).2
  have HD : Hid (dec x = ins (at8 T331 x) (rdf x) (r1 x) (r2 x) 0) := dec_ins x _ _ _ _ _ (by simp [opn, hop, hm]) hh (by simp [hasRd, hop]) (by simp [hasR1, hop]) (by simp [hasR2, hop]) (by simp [imm, hop, hm])
  have HH : Hid (_ ∧ _ ∧ _) := hit_T331 x hh
  clear hh
  go_enter Tryd.func5, Tryd.ntmps5
  go_wp2_with (first | (go_at_call 7; refine (rb_any _ _ _ h0 h1 (by decide) _).mono ?_; rintro e w' ⟨rfl, nq, rfl⟩) | (go_at_call_of 8 (Value.int IntKind.u32 (i20 x)); refine (sg_any (i20 x) 12 (by decide) (i20_bd x h0 h1).1 (i20_bd x h0 h1).2 _).mono ?_; rintro e w' ⟨rfl, rfl⟩))
  refine (one_hit (w.heap.size + 1 + 1) 8 8 (f3 x) (at8 T331 x) 0 (rdf x) (r1 x) (r2 x) 0 c3 ?g1 c4 ?g2 _ ?g3 ?g4).mono ?_
  case g1 => have := HH.out.1; omega
  case g2 => exact HH.out.2.2
  case g3 => simp
  case g4 => rw [World.cell?_alloc_at _ _ _ _ (by simp)]; exact HH.out.2.1
  rintro e w' ⟨rfl, rfl⟩
  unfold ins
  go_wp2_with fail
  refine bodyPost_ret (v := dec x) ?_ rfl ⟨rfl, ?_⟩
  · rw [HD.out]; simp [results, Tryd.results5, go_sem, ins]
  · (repeat' (first | with_reducible exact Below.refl _ _ | with_reducible apply below_drewN | with_reducible apply Below.drew | with_reducible apply Below.alloc | with_reducible apply Below.setCell)) <;> (first | (simp; done) | (simp; omega))
theorem ref_331 (x : Int) (h0 : 0 ≤ x) (h1 : x ≤ 4294967295) (hop : opc x = 51) (hm : f7 x = 1) (w : World) :
    Calls Tryd.prog 5 #[.int .u32 x] w fun e w' => e = .returned (dec x) ∧ Below w.heap.size w w' :=
  ref_331_hit x h0 h1 hop hm (all_T331 x) w
set_option maxRecDepth 10000 in
set_option maxHeartbeats 1000000 in
theorem ref_3320_hit (x : Int) (h0 : 0 ≤ x) (h1 : x ≤ 4294967295) (hop : opc x = 51) (hm : f7 x = 32) (hh : ¬ at8 T3320 x = -1) (w : World) :
    Calls Tryd.prog 5 #[.int .u32 x] w fun e w' => e = .returned (dec x) ∧ Below w.heap.size w w' := by
  have e1 := fe_11_7 x h0 h1
  have e2 := fe_14_12 x h0 h1
  have e3 := fe_19_15 x h0 h1
  have e4 := fe_24_20 x h0 h1
  have e5 := fe_31_25 x h0 h1
  have e6 := (fe_6_0 x h0 h1).trans hop
  have e7 := fe_31_20 x h0 h1
  have e8 := sI x h0 h1
  have b0 := (i20_bd x h0 h1).1
  have b1 := (i20_bd x h0 h1).2
  have c1 := (rdf_bd x).1
  have c2 := (rdf_bd x).2
  have c3 := (f3_bd x).1
  have c4 := (f3_bd x).2
  have c5 := (r1_bd x).1
  have c6 := (r1_bd x).2
  have c7 := (r2_bd x).1
  have c8 := (r2_bd x).2
  have c9 := (f7_bd x h0 h1).1
  have c10 := (f7_bd x h0 h1).2
  have HD : Hid (dec x = ins (at8 T3320 x) (rdf x) (r1 x) (r2 x) 0) := dec_ins x _ _ _ _ _ (by simp [opn, hop, hm]) hh (by simp [hasRd, hop]) (by simp [hasR1, hop]) (by simp [hasR2, hop]) (by simp [imm, hop, hm])
  have HH : Hid (_ ∧ _ ∧ _) := hit_T3320 x hh
  clear hh
  go_enter Tryd.func5, Tryd.ntmps5
  go_wp2_with (first | (go_at_call 7; refine (rb_any _ _ _ h0 h1 (by decide) _).mono ?_; rintro e w' ⟨rfl, nq, rfl⟩) | (go_at_call_of 8 (Value.int IntKind.u32 (i20 x)); refine (sg_any (i20 x) 12 (by decide) (i20_bd x h0 h1).1 (i20_bd x h0 h1).2 _).mono ?_; rintro e w' ⟨rfl, rfl⟩))
  refine (one_hit (w.heap.size + 1 + 1) 6 6 (f3 x) (at8 T3320 x) 0 (rdf x) (r1 x) (r2 x) 0 c3 ?g1 c4 ?g2 _ ?g3 ?g4).mono ?_
  case g1 => have := HH.out.1; omega
  case g2 => exact HH.out.2.2
  case g3 => simp
  case g4 => rw [World.cell?_alloc_at _ _ _ _ (by simp)]; exact HH.out.2.1
  rintro e w' ⟨rfl, rfl⟩
  unfold ins
  go_wp2_with fail
  refine bodyPost_ret (v := dec x) ?_ rfl ⟨rfl, ?_⟩
  · rw [HD.out]; simp [results, Tryd.results5, go_sem, ins]
  · (repeat' (first | with_reducible exact Below.refl _ _ | with_reducible apply below_drewN | with_reducible apply Below.drew | with_reducible apply Below.alloc | with_reducible apply Below.setCell)) <;> (first | (simp; done) | (simp; omega))
set_option maxRecDepth 10000 in
set_option maxHeartbeats 1000000 in
theorem ref_3320_no (x : Int) (h0 : 0 ≤ x) (h1 : x ≤ 4294967295) (hop : opc x = 51) (hm : f7 x = 32) (hh : at8 T3320 x = -1) (w : World) :
    Calls Tryd.prog 5 #[.int .u32 x] w fun e w' => e = .returned (dec x) ∧ Below w.heap.size w w' := by
  have e1 := fe_11_7 x h0 h1
  have e2 := fe_14_12 x h0 h1
  have e3 := fe_19_15 x h0 h1
  have e4 := fe_24_20 x h0 h1
  have e5 := fe_31_25 x h0 h1
  have e6 := (fe_6_0 x h0 h1).trans hop
  have e7 := fe_31_20 x h0 h1
  have e8 := sI x h0 h1
  have b0 := (i20_bd x h0 h1).1
  have b1 := (i20_bd x h0 h1).2
  have c1 := (rdf_bd x).1
  have c2 := (rdf_bd x).2
  have c3 := (f3_bd x).1
  have c4 := (f3_bd x).2
  have c5 := (r1_bd x).1
  have c6 := (r1_bd x).2
  have c7 := (r2_bd x).1
  have c8 := (r2_bd x).2
  have c9 := (f7_bd x h0 h1).1
  have c10 := (f7_bd x h0 h1).2
  have HD : Hid (dec x = no) := dec_no x (by simp [opn, hop, hm, hh])
  have HH : Hid (_ ∨ _) := no_T3320 x hh
  clear hh
  go_enter Tryd.func5, Tryd.ntmps5
  go_wp2_with (first | (go_at_call 7; refine (rb_any _ _ _ h0 h1 (by decide) _).mono ?_; rintro e w' ⟨rfl, nq, rfl⟩) | (go_at_call_of 8 (Value.int IntKind.u32 (i20 x)); refine (sg_any (i20 x) 12 (by decide) (i20_bd x h0 h1).1 (i20_bd x h0 h1).2 _).mono ?_; rintro e w' ⟨rfl, rfl⟩))
  refine (one_no (w.heap.size + 1 + 1) 6 6 (f3 x) 0 (rdf x) (r1 x) (r2 x) 0 c3 c4 _ ?g3 ?g4).mono ?_
  case g3 => simp
  case g4 => rw [World.cell?_alloc_at _ _ _ _ (by simp)]; exact HH.out
  rintro e w' ⟨rfl, rfl⟩
  unfold no
  go_wp2_with fail
  refine bodyPost_ret (v := dec x) ?_ rfl ⟨rfl, ?_⟩
  · rw [HD.out]; simp [results, Tryd.results5, go_sem, no]
  · (repeat' (first | with_reducible exact Below.refl _ _ | with_reducible apply below_drewN | with_reducible apply Below.drew | with_reducible apply Below.alloc | with_reducible apply Below.setCell)) <;> (first | (simp; done) | (simp; omega))
theorem ref_3320 (x : Int) (h0 : 0 ≤ x) (h1 : x ≤ 4294967295) (hop : opc x = 51) (hm : f7 x = 32) (w : World) :
    Calls Tryd.prog 5 #[.int .u32 x] w fun e w' => e = .returned (dec x) ∧ Below w.heap.size w w' := by
  by_cases hh : at8 T3320 x = -1
  · exact ref_3320_no x h0 h1 hop hm hh w
  · exact ref_3320_hit x h0 h1 hop hm hh w
set_option maxRecDepth 10000 in
set_option maxHeartbeats 1000000 in
theorem ref_33_no (x : Int) (h0 : 0 ≤ x) (h1 : x ≤ 4294967295) (hop : opc x = 51) (hm : ¬ f7 x = 0) (hn : ¬ f7 x = 1) (hk : ¬ f7 x = 32) (w : World) :
    Calls Tryd.prog 5 #[.int .u32 x] w fun e w' => e = .returned (dec x) ∧ Below w.heap.size w w' := by
  have e1 := fe_11_7 x h0 h1
  have e2 := fe_14_12 x h0 h1
  have e3 := fe_19_15 x h0 h1
  have e4 := fe_24_20 x h0 h1
  have e5 := fe_31_25 x h0 h1
  have e6 := (fe_6_0 x h0 h1).trans hop
  have e7 := fe_31_20 x h0 h1
  have e8 := sI x h0 h1
  have b0 := (i20_bd x h0 h1).1
  have b1 := (i20_bd x h0 h1).2
  have c1 := (rdf_bd x).1
  have c2 := (rdf_bd x).2
  have c3 := (f3_bd x).1
  have c4 := (f3_bd x).2
  have c5 := (r1_bd x).1
  have c6 := (r1_bd x).2
  have c7 := (r2_bd x).1
  have c8 := (r2_bd x).2
  have c9 := (f7_bd x h0 h1).1
  have c10 := (f7_bd x h0 h1).2
  have HD : Hid (dec x = no) := dec_no x (by simp [opn, hop, hm, hn, hk])
  go_enter Tryd.func5, Tryd.ntmps5
  go_wp2_with (first | (go_at_call 7; refine (rb_any _ _ _ h0 h1 (by decide) _).mono ?_; rintro e w' ⟨rfl, nq, rfl⟩) | (go_at_call_of 8 (Value.int IntKind.u32 (i20 x)); refine (sg_any (i20 x) 12 (by decide) (i20_bd x h0 h1).1 (i20_bd x h0 h1).2 _).mono ?_; rintro e w' ⟨rfl, rfl⟩))
  refine bodyPost_ret (v := dec x) ?_ rfl ⟨rfl, ?_⟩
  · rw [HD.out]; simp [results, Tryd.results5, go_sem, no]
  · (repeat' (first | with_reducible exact Below.refl _ _ | with_reducible apply below_drewN | with_reducible apply Below.drew | with_reducible apply Below.alloc | with_reducible apply Below.setCell)) <;> (first | (simp; done) | (simp; omega))
set_option maxRecDepth 10000 in
set_option maxHeartbeats 1000000 in
theorem ref_0F_hit (x : Int) (h0 : 0 ≤ x) (h1 : x ≤ 4294967295) (hop : opc x = 15) (hh : ¬ at8 T0F x = -1) (w : World) :
    Calls Tryd.prog 5 #[.int .u32 x] w fun e w' => e = .returned (dec x) ∧ Below w.heap.size w w' := by
  have e1 := fe_11_7 x h0 h1
  have e2 := fe_14_12 x h0 h1
  have e3 := fe_19_15 x h0 h1
  have e4 := fe_24_20 x h0 h1
  have e5 := fe_31_25 x h0 h1
  have e6 := (fe_6_0 x h0 h1).trans hop
  have e7 := fe_31_20 x h0 h1
  have e8 := sI x h0 h1
  have b0 := (i20_bd x h0 h1).1
  have b1 := (i20_bd x h0 h1).2
  have c1 := (rdf_bd x).1
  have c2 := (rdf_bd x).2
  have c3 := (f3_bd x).1
  have c4 := (f3_bd x).2
  have c5 := (r1_bd x).1
  have c6 := (r1_bd x).2
  have c7 := (r2_bd x).1
  have c8 := (r2_bd x).2
  have c9 := (f7_bd x h0 h1).1
  have c10 := (f7_bd x h0 h1).2
  have HD : Hid (dec x = ins (at8 T0F x) 0 0 0 0) := dec_ins x _ _ _ _ _ (by simp [opn, hop]) hh (by simp [hasRd, hop]) (by simp [hasR1, hop]) (by simp [hasR2, hop]) (by simp [imm, hop])
  have HH : Hid (_ ∧ _ ∧ _) := hit_T0F x hh
  clear hh
  go_enter Tryd.func5, Tryd.ntmps5
  go_wp2_with (first | (go_at_call 7; refine (rb_any _ _ _ h0 h1 (by decide) _).mono ?_; rintro e w' ⟨rfl, nq, rfl⟩) | (go_at_call_of 8 (Value.int IntKind.u32 (i20 x)); refine (sg_any (i20 x) 12 (by decide) (i20_bd x h0 h1).1 (i20_bd x h0 h1).2 _).mono ?_; rintro e w' ⟨rfl, rfl⟩))
  refine (one_hit (w.heap.size + 1) 2 2 (f3 x) (at8 T0F x) 0 0 0 0 0 c3 ?g1 c4 ?g2 _ ?g3 ?g4).mono ?_
  case g1 => have := HH.out.1; omega
  case g2 => exact HH.out.2.2
  case g3 => simp
  case g4 => rw [World.cell?_alloc_at _ _ _ _ (by simp)]; exact HH.out.2.1
  rintro e w' ⟨rfl, rfl⟩
  unfold ins
  go_wp2_with fail
  refine bodyPost_ret (v := dec x) ?_ rfl ⟨rfl, ?_⟩
  · rw [HD.out]; simp [results, Tryd.results5, go_sem, ins]
  · (repeat' (first | with_reducible exact Below.refl _ _ | with_reducible apply below_drewN | with_reducible apply Below.drew | with_reducible apply Below.alloc | with_reducible apply Below.setCell)) <;> (first | (simp; done) | (simp; omega))
set_option maxRecDepth 10000 in
set_option maxHeartbeats 1000000 in
theorem ref_0F_no (x : Int) (h0 : 0 ≤ x) (h1 : x ≤ 4294967295) (hop : opc x = 15) (hh : at8 T0F x = -1) (w : World) :
    Calls Tryd.prog 5 #[.int .u32 x] w fun e w' => e = .returned (dec x) ∧ Below w.heap.size w w' := by
  have e1 := fe_11_7 x h0 h1
  have e2 := fe_14_12 x h0 h1
  have e3 := fe_19_15 x h0 h1
  have e4 := fe_24_20 x h0 h1
  have e5 := fe_31_25 x h0 h1
  have e6 := (fe_6_0 x h0 h1).trans hop
  have e7 := fe_31_20 x h0 h1
  have e8 := sI x h0 h1
  have b0 := (i20_bd x h0 h1).1
  have b1 := (i20_bd x h0 h1).2
  have c1 := (rdf_bd x).1
  have c2 := (rdf_bd x).2
  have c3 := (f3_bd x).1
  have c4 := (f3_bd x).2
  have c5 := (r1_bd x).1
  have c6 := (r1_bd x).2
  have c7 := (r2_bd x).1
  have c8 := (r2_bd x).2
  have c9 := (f7_bd x h0 h1).1
  have c10 := (f7_bd x h0 h1).2
  have HD : Hid (dec x = no) := dec_no x (by simp [opn, hop, hh])
  have HH : Hid (_ ∨ _) := no_T0F x hh
  clear hh
  go_enter Tryd.func5, Tryd.ntmps5
  go_wp2_with (first | (go_at_call 7; refine (rb_any _ _ _ h0 h1 (by decide) _).mono ?_; rintro e w' ⟨rfl, nq, rfl⟩) | (go_at_call_of 8 (Value.int IntKind.u32 (i20 x)); refine (sg_any (i20 x) 12 (by decide) (i20_bd x h0 h1).1 (i20_bd x h0 h1).2 _).mono ?_; rintro e w' ⟨rfl, rfl⟩))
  refine (one_no (w.heap.size + 1) 2 2 (f3 x) 0 0 0 0 0 c3 c4 _ ?g3 ?g4).mono ?_
  case g3 => simp
  case g4 => rw [World.cell?_alloc_at _ _ _ _ (by simp)]; exact HH.out
  rintro e w' ⟨rfl, rfl⟩
  unfold no
  go_wp2_with fail
  refine bodyPost_ret (v := dec x) ?_ rfl ⟨rfl, ?_⟩
  · rw [HD.out]; simp [results, Tryd.results5, go_sem, no]
  · (repeat' (first | with_reducible exact Below.refl _ _ | with_reducible apply below_drewN | with_reducible apply Below.drew | with_reducible apply Below.alloc | with_reducible apply Below.setCell)) <;> (first | (simp; done) | (simp; omega))
theorem ref_0F (x : Int) (h0 : 0 ≤ x) (h1 : x ≤ 4294967295) (hop : opc x = 15) (w : World) :
    Calls Tryd.prog 5 #[.int .u32 x] w fun e w' => e = .returned (dec x) ∧ Below w.heap.size w w' := by
  by_cases hh : at8 T0F x = -1
  · exact ref_0F_no x h0 h1 hop hh w
  · exact ref_0F_hit x h0 h1 hop hh w
end Go.Proofs.YtjikimpejlmdiaaDoor.decodes
