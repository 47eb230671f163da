import Derived.Test.YtjikimpejlmdiaaDoorDecT
namespace Go.Proofs.YtjikimpejlmdiaaDoor.decodes
open Go.ChangeShapes Go.WideShapes Go.ChangeAt Go.RowKit Go.Proofs.YtjikimpejlmdiaaDoor.dnums
set_option linter.unusedVariables false
set_option linter.unusedSimpArgs false
set_option maxRecDepth 10000 in
set_option maxHeartbeats 1000000 in
theorem ref_67_hit (x : Int) (h0 : 0 ≤ x) (h1 : x ≤ 4294967295) (hop : opc x = 103) (hh : ¬ at8 T67 x = -1) (w : World) :
    Calls Tryd.prog 5 #[.int .u32 x] w fun e w' => e = .returned (dec x) ∧ Below w.heap.size w w' := by
  have e1 := fe_11_7 x h0 h1
  have e2 := fe_14_12 x h0 h1
  have e3 := fe_19_15 x h0 h1
  have e4 := fe_24_20 x h0 h1
  have e5 := fe_31_25 x h0 h1
  have e6 := (fe_6_0 x h0 h1).trans hop
  have e7 := fe_31_20 x h0 h1
  have e8 := sI x h0 h1
  have b0 := (i20_bd x h0 h1).1
  have b1 := (i20_bd x h0 h1).2
  have c1 := (rdf_bd x).1
  have c2 := (rdf_bd x).2
  have c3 := (f3_bd x).1
  have c4 := (f3_bd x).2
  have c5 := (r1_bd x).1
  have c6 := (r1_bd x).2
  have c7 := (r2_bd x).1
  have c8 := (r2_bd x).2
  have c9 := (f7_bd x h0 h1).1
  have c10 := (f7_bd x h0 h1).2
  have HD : Hid (dec x = ins (at8 T67 x) (rdf x) (r1 x) 0 (immI x)) := dec_ins x _ _ _ _ _ (by simp [opn, hop]) hh (by simp [hasRd, hop]) (by simp [hasR1, hop]) (by simp [hasR2, hop]) (by simp [imm, hop])
  have HH : Hid (_ ∧ _ ∧ _) := hit_T67 x hh
  clear hh
  go_enter Tryd.func5, Tryd.ntmps5
  go_wp2_with (first | (go_at_call 7; refine (rb_any _ _ _ h0 h1 (by decide) _).mono ?_; rintro e w' ⟨rfl, nq, rfl⟩) | (go_at_call_of 8 (Value.int IntKind.u32 (i20 x)); refine (sg_any (i20 x) 12 (by decide) (i20_bd x h0 h1).1 (i20_bd x h0 h1).2 _).mono ?_; rintro e w' ⟨rfl, rfl⟩))
  refine (one_hit (w.heap.size + 1) 1 1 (f3 x) (at8 T67 x) 0 (rdf x) (r1 x) 0 (immI x) c3 ?g1 c4 ?g2 _ ?g3 ?g4).mono ?_
  case g1 => have := HH.out.1; omega
  case g2 => exact HH.out.2.2
  case g3 => simp
  case g4 => rw [World.cell?_alloc_at _ _ _ _ (by simp)]; exact HH.out.2.1
  rintro e w' ⟨rfl, rfl⟩
  unfold ins
  go_wp2_with fail
  refine bodyPost_ret (v := dec x) ?_ rfl ⟨rfl, ?_⟩
  · rw [HD.out]; simp [results, Tryd.results5, go_sem, ins]
  · (repeat' (first | with_reducible exact Below.refl _ _ | with_reducible apply below_drewN | with_reducible apply Below.drew | with_reducible apply Below.alloc | with_reducible apply Below.setCell)) <;> (first | (simp; done) | (simp; omega))
set_option maxRecDepth 10000 in
set_option maxHeartbeats 1000000 in
theorem ref_67_no (x : Int) (h0 : 0 ≤ x) (h1 : x ≤ 4294967295) (hop : opc x = 103) (hh : at8 T67 x = -1) (w : World) :
    Calls Tryd.prog 5 #[.int .u32 x] w fun e w' => e = .returned (dec x) ∧ Below w.heap.size w w' := by
  have e1 := fe_11_7 x h0 h1
  have e2 := fe_14_12 x h0 h1
  have e3 := fe_19_15 x h0 h1
  have e4 := fe_24_20 x h0 h1
  have e5 := fe_31_25 x h0 h1
  have e6 := (fe_6_0 x h0 h1).trans hop
  have e7 := fe_31_20 x h0 h1
  have e8 := sI x h0 h1
  have b0 := (i20_bd x h0 h1).1
  have b1 := (i20_bd x h0 h1).2
  have c1 := (rdf_bd x).1
  have c2 := (rdf_bd x).2
  have c3 := (f3_bd x).1
  have c4 := (f3_bd x).2
  have c5 := (r1_bd x).1
  have c6 := (r1_bd x).2
  have c7 := (r2_bd x).1
  have c8 := (r2_bd x).2
  have c9 := (f7_bd x h0 h1).1
  have c10 := (f7_bd x h0 h1).2
  have HD : Hid (dec x = no) := dec_no x (by simp [opn, hop, hh])
  have HH : Hid (_ ∨ _) := no_T67 x hh
  clear hh
  go_enter Tryd.func5, Tryd.ntmps5
  go_wp2_with (first | (go_at_call 7; refine (rb_any _ _ _ h0 h1 (by decide) _).mono ?_; rintro e w' ⟨rfl, nq, rfl⟩) | (go_at_call_of 8 (Value.int IntKind.u32 (i20 x)); refine (sg_any (i20 x) 12 (by decide) (i20_bd x h0 h1).1 (i20_bd x h0 h1).2 _).mono ?_; rintro e w' ⟨rfl, rfl⟩))
  refine (one_no (w.heap.size + 1) 1 1 (f3 x) 0 (rdf x) (r1 x) 0 (immI x) c3 c4 _ ?g3 ?g4).mono ?_
  case g3 => simp
  case g4 => rw [World.cell?_alloc_at _ _ _ _ (by simp)]; exact HH.out
  rintro e w' ⟨rfl, rfl⟩
  unfold no
  go_wp2_with fail
  refine bodyPost_ret (v := dec x) ?_ rfl ⟨rfl, ?_⟩
  · rw [HD.out]; simp [results, Tryd.results5, go_sem, no]
  · (repeat' (first | with_reducible exact Below.refl _ _ | with_reducible apply below_drewN | with_reducible apply Below.drew | with_reducible apply Below.alloc | with_reducible apply Below.setCell)) <;> (first | (simp; done) | (simp; omega))
theorem ref_67 (x : Int) (h0 : 0 ≤ x) (h1 : x ≤ 4294967295) (hop : opc x = 103) (w : World) :
    Calls Tryd.prog 5 #[.int .u32 x] w fun e w' => e = .returned (dec x) ∧ Below w.heap.size w w' := by
  by_cases hh : at8 T67 x = -1
  · exact ref_67_no x h0 h1 hop hh w
  · exact ref_67_hit x h0 h1 hop hh w
set_option maxRecDepth 10000 in
set_option maxHeartbeats 1000000 in
theorem ref_63_hit (x : Int) (h0 : 0 ≤ x) (h1 : x ≤ 4294967295) (hop : opc x = 99) (hh : ¬ at8 T63 x = -1) (w : World) :
    Calls Tryd.prog 5 #[.int .u32 x] w fun e w' => e = .returned (dec x) ∧ Below w.heap.size w w' := by
  have e1 := fe_11_7 x h0 h1
  have e2 := fe_14_12 x h0 h1
  have e3 := fe_19_15 x h0 h1
  have e4 := fe_24_20 x h0 h1
  have e5 := fe_31_25 x h0 h1
  have e6 := (fe_6_0 x h0 h1).trans hop
  have e7 := fe_31_20 x h0 h1
  have e8 := sI x h0 h1
  have b0 := (i20_bd x h0 h1).1
  have b1 := (i20_bd x h0 h1).2
  have c1 := (rdf_bd x).1
  have c2 := (rdf_bd x).2
  have c3 := (f3_bd x).1
  have c4 := (f3_bd x).2
  have c5 := (r1_bd x).1
  have c6 := (r1_bd x).2
  have c7 := (r2_bd x).1
  have c8 := (r2_bd x).2
  have c9 := (f7_bd x h0 h1).1
  have c10 := (f7_bd x h0 h1).2
  have HD : Hid (dec x = ins (at8 T63 x) 0 (r1 x) (r2 x) (immB x)) := dec_ins x _ _ _ _ _ (by simp [opn, hop]) hh (by simp [hasRd, hop]) (by simp [hasR1, hop]) (by simp [hasR2, hop]) (by simp [imm, hop])
  have HH : Hid (_ ∧ _ ∧ _) := hit_T63 x hh
  clear hh
  have o1 := oB x h0 h1
  have o2 := sB x h0 h1
  go_enter Tryd.func5, Tryd.ntmps5
  go_wp2_with (first | (go_at_call 7; refine (rb_any _ _ _ h0 h1 (by decide) _).mono ?_; rintro e w' ⟨rfl, nq, rfl⟩) | (go_at_call_of 8 (Value.int IntKind.u32 (i20 x)); refine (sg_any (i20 x) 12 (by decide) (i20_bd x h0 h1).1 (i20_bd x h0 h1).2 _).mono ?_; rintro e w' ⟨rfl, rfl⟩) | (go_at_call_of 8 (Value.int IntKind.u32 (vB x)); refine (sg_any (vB x) 13 (by decide) (vB_bd x h0 h1).1 (vB_bd x h0 h1).2 _).mono ?_; rintro e w' ⟨rfl, rfl⟩))
  refine (one_hit (w.heap.size + 1) 8 8 (f3 x) (at8 T63 x) 0 0 (r1 x) (r2 x) (immB x) c3 ?g1 c4 ?g2 _ ?g3 ?g4).mono ?_
  case g1 => have := HH.out.1; omega
  case g2 => exact HH.out.2.2
  case g3 => simp
  case g4 => rw [World.cell?_alloc_at _ _ _ _ (by simp)]; exact HH.out.2.1
  rintro e w' ⟨rfl, rfl⟩
  unfold ins
  go_wp2_with fail
  refine bodyPost_ret (v := dec x) ?_ rfl ⟨rfl, ?_⟩
  · rw [HD.out]; simp [results, Tryd.results5, go_sem, ins]
  · (repeat' (first | with_reducible exact Below.refl _ _ | with_reducible apply below_drewN | with_reducible apply Below.drew | with_reducible apply Below.alloc | with_reducible apply Below.setCell)) <;> (first | (simp; done) | (simp; omega))
set_option maxRecDepth 10000 in
set_option maxHeartbeats 1000000 in
theorem ref_63_no (x : Int) (h0 : 0 ≤ x) (h1 : x ≤ 4294967295) (hop : opc x = 99) (hh : at8 T63 x = -1) (w : World) :
    Calls Tryd.prog 5 #[.int .u32 x] w fun e w' => e = .returned (dec x) ∧ Below w.heap.size w w' := by
  have e1 := fe_11_7 x h0 h1
  have e2 := fe_14_12 x h0 h1
  have e3 := fe_19_15 x h0 h1
  have e4 := fe_24_20 x h0 h1
  have e5 := fe_31_25 x h0 h1
  have e6 := (fe_6_0 x h0 h1).trans hop
  have e7 := fe_31_20 x h0 h1
  have e8 := sI x h0 h1
  have b0 := (i20_bd x h0 h1).1
  have b1 := (i20_bd x h0 h1).2
  have c1 := (rdf_bd x).1
  have c2 := (rdf_bd x).2
  have c3 := (f3_bd x).1
  have c4 := (f3_bd x).2
  have c5 := (r1_bd x).1
  have c6 := (r1_bd x).2
  have c7 := (r2_bd x).1
  have c8 := (r2_bd x).2
  have c9 := (f7_bd x h0 h1).1
  have c10 := (f7_bd x h0 h1).2
  have HD : Hid (dec x = no) := dec_no x (by simp [opn, hop, hh])
  have HH : Hid (_ ∨ _) := no_T63 x hh
  clear hh
  have o1 := oB x h0 h1
  have o2 := sB x h0 h1
  go_enter Tryd.func5, Tryd.ntmps5
  go_wp2_with (first | (go_at_call 7; refine (rb_any _ _ _ h0 h1 (by decide) _).mono ?_; rintro e w' ⟨rfl, nq, rfl⟩) | (go_at_call_of 8 (Value.int IntKind.u32 (i20 x)); refine (sg_any (i20 x) 12 (by decide) (i20_bd x h0 h1).1 (i20_bd x h0 h1).2 _).mono ?_; rintro e w' ⟨rfl, rfl⟩) | (go_at_call_of 8 (Value.int IntKind.u32 (vB x)); refine (sg_any (vB x) 13 (by decide) (vB_bd x h0 h1).1 (vB_bd x h0 h1).2 _).mono ?_; rintro e w' ⟨rfl, rfl⟩))
  refine (one_no (w.heap.size + 1) 8 8 (f3 x) 0 0 (r1 x) (r2 x) (immB x) c3 c4 _ ?g3 ?g4).mono ?_
  case g3 => simp
  case g4 => rw [World.cell?_alloc_at _ _ _ _ (by simp)]; exact HH.out
  rintro e w' ⟨rfl, rfl⟩
  unfold no
  go_wp2_with fail
  refine bodyPost_ret (v := dec x) ?_ rfl ⟨rfl, ?_⟩
  · rw [HD.out]; simp [results, Tryd.results5, go_sem, no]
  · (repeat' (first | with_reducible exact Below.refl _ _ | with_reducible apply below_drewN | with_reducible apply Below.drew | with_reducible apply Below.alloc | with_reducible apply Below.setCell)) <;> (first | (simp; done) | (simp; omega))
theorem ref_63 (x : Int) (h0 : 0 ≤ x) (h1 : x ≤ 4294967295) (hop : opc x = 99) (w : World) :
    Calls Tryd.prog 5 #[.int .u32 x] w fun e w' => e = .returned (dec x) ∧ Below w.heap.size w w' := by
  by_cases hh : at8 T63 x = -1
  · exact ref_63_no x h0 h1 hop hh w
  · exact ref_63_hit x h0 h1 hop hh w
set_option maxRecDepth 10000 in
set_option maxHeartbeats 1000000 in
theorem ref_03_hit (x : Int) (h0 : 0 ≤ x) (h1 : x ≤ 4294967295) (hop : opc x = 3) (hh : ¬ at8 T03 x = -1) (w : World) :
    Calls Tryd.prog 5 #[.int .u32 x] w fun e w' => e = .returned (dec x) ∧ Below w.heap.size w w' := by
  have e1 := fe_11_7 x h0 h1
  have e2 := fe_14_12 x h0 h1
  have e3 := fe_19_15 x h0 h1
  have e4 := fe_24_20 x h0 h1
  have e5 := fe_31_25 x h0 h1
  have e6 := (fe_6_0 x h0 h1).trans hop
  have e7 := fe_31_20 x h0 h1
  have e8 := sI x h0 h1
  have b0 := (i20_bd x h0 h1).1
  have b1 := (i20_bd x h0 h1).2
  have c1 := (rdf_bd x).1
  have c2 := (rdf_bd x).2
  have c3 := (f3_bd x).1
  have c4 := (f3_bd x).2
  have c5 := (r1_bd x).1
  have c6 := (r1_bd x).2
  have c7 := (r2_bd x).1
  have c8 := (r2_bd x).2
  have c9 := (f7_bd x h0 h1).1
  have c10 := (f7_bd x h0 h1).2
  have HD : Hid (dec x = ins (at8 T03 x) (rdf x) (r1 x) 0 (immI x)) := dec_ins x _ _ _ _ _ (by simp [opn, hop]) hh (by simp [hasRd, hop]) (by simp [hasR1, hop]) (by simp [hasR2, hop]) (by simp [imm, hop])
  have HH : Hid (_ ∧ _ ∧ _) := hit_T03 x hh
  clear hh
  go_enter Tryd.func5, Tryd.ntmps5
  go_wp2_with (first | (go_at_call 7; refine (rb_any _ _ _ h0 h1 (by decide) _).mono ?_; rintro e w' ⟨rfl, nq, rfl⟩) | (go_at_call_of 8 (Value.int IntKind.u32 (i20 x)); refine (sg_any (i20 x) 12 (by decide) (i20_bd x h0 h1).1 (i20_bd x h0 h1).2 _).mono ?_; rintro e w' ⟨rfl, rfl⟩))
  refine (one_hit (w.heap.size + 1) 6 6 (f3 x) (at8 T03 x) 0 (rdf x) (r1 x) 0 (immI x) c3 ?g1 c4 ?g2 _ ?g3 ?g4).mono ?_
  case g1 => have := HH.out.1; omega
  case g2 => exact HH.out.2.2
  case g3 => simp
  case g4 => rw [World.cell?_alloc_at _ _ _ _ (by simp)]; exact HH.out.2.1
  rintro e w' ⟨rfl, rfl⟩
  unfold ins
  go_wp2_with fail
  refine bodyPost_ret (v := dec x) ?_ rfl ⟨rfl, ?_⟩
  · rw [HD.out]; simp [results, Tryd.results5, go_sem, ins]
  · (repeat' (first | with_reducible exact Below.refl _ _ | with_reducible apply below_drewN | with_reducible apply Below.drew | with_reducible apply Below.alloc | with_reducible apply Below.setCell)) <;> (first | (simp; done) | (simp; omega))
set_option maxRecDepth 10000 in
set_option maxHeartbeats 1000000 in
theorem ref_03_no (x : Int) (h0 : 0 ≤ x) (h1 : x ≤ 4294967295) (hop : opc x = 3) (hh : at8 T03 x = -1) (w : World) :
    Calls Tryd.prog 5 #[.int .u32 x] w fun e w' => e = .returned (dec x) ∧ Below w.heap.size w w' := by
  have e1 := fe_11_7 x h0 h1
  have e2 := fe_14_12 x h0 h1
  have e3 := fe_19_15 x h0 h1
  have e4 := fe_24_20 x h0 h1
  have e5 := fe_31_25 x h0 h1
  have e6 := (fe_6_0 x h0 h1).trans hop
  have e7 := fe_31_20 x h0 h1
  have e8 := sI x h0 h1
  have b0 := (i20_bd x h0 h1).1
  have b1 := (i20_bd x h0 h1).2
  have c1 := (rdf_bd x).1
  have c2 := (rdf_bd x).2
  have c3 := (f3_bd x).1
  have c4 := (f3_bd x).2
  have c5 := (r1_bd x).1
  have c6 := (r1_bd x).2
  have c7 := (r2_bd x).1
  have c8 := (r2_bd x).2
  have c9 := (f7_bd x h0 h1).1
  have c10 := (f7_bd x h0 h1).2
  have HD : Hid (dec x = no) := dec_no x (by simp [opn, hop, hh])
  have HH : Hid (_ ∨ _) := no_T03 x hh
  clear hh
  go_enter Tryd.func5, Tryd.ntmps5
  go_wp2_with (first | (go_at_call 7; refine (rb_any _ _ _ h0 h1 (by decide) _).mono ?_; rintro e w' ⟨rfl, nq, rfl⟩) | (go_at_call_of 8 (Value.int IntKind.u32 (i20 x)); refine (sg_any (i20 x) 12 (by decide) (i20_bd x h0 h1).1 (i20_bd x h0 h1).2 _).mono ?_; rintro e w' ⟨rfl, rfl⟩))
  refine (one_no (w.heap.size + 1) 6 6 (f3 x) 0 (rdf x) (r1 x) 0 (immI x) c3 c4 _ ?g3 ?g4).mono ?_
  case g3 => simp
  case g4 => rw [World.cell?_alloc_at _ _ _ _ (by simp)]; exact HH.out
  rintro e w' ⟨rfl, rfl⟩
  unfold no
  go_wp2_with fail
  refine bodyPost_ret (v := dec x) ?_ rfl ⟨rfl, ?_⟩
  · rw [HD.out]; simp [results, Tryd.results5, go_sem, no]
  · (repeat' (first | with_reducible exact Below.refl _ _ | with_reducible apply below_drewN | with_reducible apply Below.drew | with_reducible apply Below.alloc | with_reducible apply Below.setCell)) <;> (first | (simp; done) | (simp; omega))
theorem ref_03 (x : Int) (h0 : 0 ≤ x) (h1 : x ≤ 4294967295) (hop : opc x = 3) (w : World) :
    Calls Tryd.prog 5 #[.int .u32 x] w fun e w' => e = .returned (dec x) ∧ Below w.heap.size w w' := by
  by_cases hh : at8 T03 x = -1
  · exact ref_03_no x h0 h1 hop hh w
  · exact ref_03_hit x h0 h1 hop hh w
set_option maxRecDepth 10000 in
set_option maxHeartbeats 1000000 in
theorem ref_23_hit (x : Int) (h0 : 0 ≤ x) (h1 : x ≤ 4294967295) (hop : opc x = 35) (hh : ¬ at8 T23 x = -1) (w : World) :
    Calls Tryd.prog 5 #[.int .u32 x] w fun e w' => e = .returned (dec x) ∧ Below w.heap.size w w' := by
  have e1 := fe_11_7 x h0 h1
  have e2 := fe_14_12 x h0 h1
  have e3 := fe_19_15 x h0 h1
  have e4 := fe_24_20 x h0 h1
  have e5 := fe_31_25 x h0 h1
  have e6 := (fe_6_0 x h0 h1).trans hop
  have e7 := fe_31_20 x h0 h1
  have e8 := sI x h0 h1
  have b0 := (i20_bd x h0 h1).1
  have b1 := (i20_bd x h0 h1).2
  have c1 := (rdf_bd x).1
  have c2 := (rdf_bd x).2
  have c3 := (f3_bd x).1
  have c4 := (f3_bd x).2
  have c5 := (r1_bd x).1
  have c6 := (r1_bd x).2
  have c7 := (r2_bd x).1
  have c8 := (r2_bd x).2
  have c9 := (f7_bd x h0 h1).1
  have c10 := (f7_bd x h0 h1).2
  have HD : Hid (dec x = ins (at8 T23 x) 0 (r1 x) (r2 x) (immS x)) := dec_ins x _ _ _ _ _ (by simp [opn, hop]) hh (by simp [hasRd, hop]) (by simp [hasR1, hop]) (by simp [hasR2, hop]) (by simp [imm, hop])
  have HH : Hid (_ ∧ _ ∧ _) := hit_T23 x hh
  clear hh
  have o1 := oS x h0 h1
  have o2 := sS x h0 h1
  go_enter Tryd.func5, Tryd.ntmps5
  go_wp2_with (first | (go_at_call 7; refine (rb_any _ _ _ h0 h1 (by decide) _).mono ?_; rintro e w' ⟨rfl, nq, rfl⟩) | (go_at_call_of 8 (Value.int IntKind.u32 (i20 x)); refine (sg_any (i20 x) 12 (by decide) (i20_bd x h0 h1).1 (i20_bd x h0 h1).2 _).mono ?_; rintro e w' ⟨rfl, rfl⟩) | (go_at_call_of 8 (Value.int IntKind.u32 (vS x)); refine (sg_any (vS x) 12 (by decide) (vS_bd x h0 h1).1 (vS_bd x h0 h1).2 _).mono ?_; rintro e w' ⟨rfl, rfl⟩))
  refine (one_hit (w.heap.size + 1) 3 3 (f3 x) (at8 T23 x) 0 0 (r1 x) (r2 x) (immS x) c3 ?g1 c4 ?g2 _ ?g3 ?g4).mono ?_
  case g1 => have := HH.out.1; omega
  case g2 => exact HH.out.2.2
  case g3 => simp
  case g4 => rw [World.cell?_alloc_at _ _ _ _ (by simp)]; exact HH.out.2.1
  rintro e w' ⟨rfl, rfl⟩
  unfold ins
  go_wp2_with fail
  refine bodyPost_ret (v := dec x) ?_ rfl ⟨rfl, ?_⟩
  · rw [HD.out]; simp [results, Tryd.results5, go_sem, ins]
  · (repeat' (first | with_reducible exact Below.refl _ _ | with_reducible apply below_drewN | with_reducible apply Below.drew | with_reducible apply Below.alloc | with_reducible apply Below.setCell)) <;> (first | (simp; done) | (simp; omega))
set_option maxRecDepth 10000 in
set_option maxHeartbeats 1000000 in
theorem ref_23_no (x : Int) (h0 : 0 ≤ x) (h1 : x ≤ 4294967295) (hop : opc x = 35) (hh : at8 T23 x = -1) (w : World) :
    Calls Tryd.prog 5 #[.int .u32 x] w fun e w' => e = .returned (dec x) ∧ Below w.heap.size w w' := by
  have e1 := fe_11_7 x h0 h1
  have e2 := fe_14_12 x h0 h1
  have e3 := fe_19_15 x h0 h1
  have e4 := fe_24_20 x h0 h1
  have e5 := fe_31_25 x h0 h1
  have e6 := (fe_6_0 x h0 h1).trans hop
  have e7 := fe_31_20 x h0 h1
  have e8 := sI x h0 h1
  have b0 := (i20_bd x h0 h1).1
  have b1 := (i20_bd x h0 h1).2
  have c1 := (rdf_bd x).1
  have c2 := (rdf_bd x).2
  have c3 := (f3_bd x).1
  have c4 := (f3_bd x).2
  have c5 := (r1_bd x).1
  have c6 := (r1_bd x).2
  have c7 := (r2_bd x).1
  have c8 := (r2_bd x).2
  have c9 := (f7_bd x h0 h1).1
  have c10 := (f7_bd x h0 h1).2
  have HD : Hid (dec x = no) := dec_no x (by simp [opn, hop, hh])
  have HH : Hid (_ ∨ _) := no_T23 x hh
  clear hh
  have o1 := oS x h0 h1
  have o2 := sS x h0 h1
  go_enter Tryd.func5, Tryd.ntmps5
  go_wp2_with (first | (go_at_call 7; refine (rb_any _ _ _ h0 h1 (by decide) _).mono ?_; rintro e w' ⟨rfl, nq, rfl⟩) | (go_at_call_of 8 (Value.int IntKind.u32 (i20 x)); refine (sg_any (i20 x) 12 (by decide) (i20_bd x h0 h1).1 (i20_bd x h0 h1).2 _).mono ?_; rintro e w' ⟨rfl, rfl⟩) | (go_at_call_of 8 (Value.int IntKind.u32 (vS x)); refine (sg_any (vS x) 12 (by decide) (vS_bd x h0 h1).1 (vS_bd x h0 h1).2 _).mono ?_; rintro e w' ⟨rfl, rfl⟩))
  refine (one_no (w.heap.size + 1) 3 3 (f3 x) 0 0 (r1 x) (r2 x) (immS x) c3 c4 _ ?g3 ?g4).mono ?_
  case g3 => simp
  case g4 => rw [World.cell?_alloc_at _ _ _ _ (by simp)]; exact HH.out
  rintro e w' ⟨rfl, rfl⟩
  unfold no
  go_wp2_with fail
  refine bodyPost_ret (v := dec x) ?_ rfl ⟨rfl, ?_⟩
  · rw [HD.out]; simp [results, Tryd.results5, go_sem, no]
  · (repeat' (first | with_reducible exact Below.refl _ _ | with_reducible apply below_drewN | with_reducible apply Below.drew | with_reducible apply Below.alloc | with_reducible apply Below.setCell)) <;> (first | (simp; done) | (simp; omega))
theorem ref_23 (x : Int) (h0 : 0 ≤ x) (h1 : x ≤ 4294967295) (hop : opc x = 35) (w : World) :
    Calls Tryd.prog 5 #[.int .u32 x] w fun e w' => e = .returned (dec x) ∧ Below w.heap.size w w' := by
  by_cases hh : at8 T23 x = -1
  · exact ref_23_no x h0 h1 hop hh w
  · exact ref_23_hit x h0 h1 hop hh w
end Go.Proofs.YtjikimpejlmdiaaDoor.decodes
