import Derived.Test.YtjikimpejlmdiaaDoorDecT
namespace Go.Proofs.YtjikimpejlmdiaaDoor.decodes
open Go.ChangeShapes Go.WideShapes Go.ChangeAt Go.RowKit Go.Proofs.YtjikimpejlmdiaaDoor.dnums
set_option linter.unusedVariables false
set_option linter.unusedSimpArgs false
set_option maxRecDepth 10000 in
set_option maxHeartbeats 1000000 in
theorem ref_13_hit (x : Int) (h0 : 0 ≤ x) (h1 : x ≤ 4294967295) (hop : opc x = 19) (hm : ¬ f3 x = 1) (hn : ¬ f3 x = 5) (hh : ¬ at8 T13 x = -1) (w : World) :
    Calls Tryd.prog 5 #[.int .u32 x] w fun e w' => e = .returned (dec x) ∧ Below w.heap.size w w' := by
  have e1 := fe_11_7 x h0 h1
  have e2 := fe_14_12 x h0 h1
  have e3 := fe_19_15 x h0 h1
  have e4 := fe_24_20 x h0 h1
  have e5 := fe_31_25 x h0 h1
  have e6 := (fe_6_0 x h0 h1).trans hop
  have e7 := fe_31_20 x h0 h1
  have e8 := sI x h0 h1
  have b0 := (i20_bd x h0 h1).1
  have b1 := (i20_bd x h0 h1).2
  have c1 := (rdf_bd x).1
  have c2 := (rdf_bd x).2
  have c3 := (f3_bd x).1
  have c4 := (f3_bd x).2
  have c5 := (r1_bd x).1
  have c6 := (r1_bd x).2
  have c7 := (r2_bd x).1
  have c8 := (r2_bd x).2
  have c9 := (f7_bd x h0 h1).1
  have c10 := (f7_bd x h0 h1).2
  have HD : Hid (dec x = ins (at8 T13 x) (rdf x) (r1 x) 0 (immI x)) := dec_ins x _ _ _ _ _ (by simp [opn, hop, hm, hn]) hh (by simp [hasRd, hop]) (by simp [hasR1, hop]) (by simp [hasR2, hop]) (by simp [imm, hop, hm, hn])
  have HH : Hid (_ ∧ _ ∧ _) := hit_T13 x hh
  clear hh
  have hm2 : (f3 x == 1) = false := by simpa using hm
  have hn2 : (f3 x == 5) = false := by simpa using hn
  go_enter Tryd.func5, Tryd.ntmps5
  go_wp2_with (first | (go_at_call 7; refine (rb_any _ _ _ h0 h1 (by decide) _).mono ?_; rintro e w' ⟨rfl, nq, rfl⟩) | (go_at_call_of 8 (Value.int IntKind.u32 (i20 x)); refine (sg_any (i20 x) 12 (by decide) (i20_bd x h0 h1).1 (i20_bd x h0 h1).2 _).mono ?_; rintro e w' ⟨rfl, rfl⟩))
  refine (one_hit (w.heap.size + 1) 8 8 (f3 x) (at8 T13 x) 0 (rdf x) (r1 x) 0 (immI x) c3 ?g1 c4 ?g2 _ ?g3 ?g4).mono ?_
  case g1 => have := HH.out.1; omega
  case g2 => exact HH.out.2.2
  case g3 => simp
  case g4 => rw [World.cell?_alloc_at _ _ _ _ (by simp)]; exact HH.out.2.1
  rintro e w' ⟨rfl, rfl⟩
  unfold ins
  go_wp2_with fail
  refine bodyPost_ret (v := dec x) ?_ rfl ⟨rfl, ?_⟩
  · rw [HD.out]; simp [results, Tryd.results5, go_sem, ins]
  · (repeat' (first | with_reducible exact Below.refl _ _ | with_reducible apply below_drewN | with_reducible apply Below.drew | with_reducible apply Below.alloc | with_reducible apply Below.setCell)) <;> (first | (simp; done) | (simp; omega))
set_option maxRecDepth 10000 in
set_option maxHeartbeats 1000000 in
theorem ref_13_no (x : Int) (h0 : 0 ≤ x) (h1 : x ≤ 4294967295) (hop : opc x = 19) (hm : ¬ f3 x = 1) (hn : ¬ f3 x = 5) (hh : at8 T13 x = -1) (w : World) :
    Calls Tryd.prog 5 #[.int .u32 x] w fun e w' => e = .returned (dec x) ∧ Below w.heap.size w w' := by
  have e1 := fe_11_7 x h0 h1
  have e2 := fe_14_12 x h0 h1
  have e3 := fe_19_15 x h0 h1
  have e4 := fe_24_20 x h0 h1
  have e5 := fe_31_25 x h0 h1
  have e6 := (fe_6_0 x h0 h1).trans hop
  have e7 := fe_31_20 x h0 h1
  have e8 := sI x h0 h1
  have b0 := (i20_bd x h0 h1).1
  have b1 := (i20_bd x h0 h1).2
  have c1 := (rdf_bd x).1
  have c2 := (rdf_bd x).2
  have c3 := (f3_bd x).1
  have c4 := (f3_bd x).2
  have c5 := (r1_bd x).1
  have c6 := (r1_bd x).2
  have c7 := (r2_bd x).1
  have c8 := (r2_bd x).2
  have c9 := (f7_bd x h0 h1).1
  have c10 := (f7_bd x h0 h1).2
  have HD : Hid (dec x = no) := dec_no x (by simp [opn, hop, hm, hn, hh])
  have HH : Hid (_ ∨ _) := no_T13 x hh
  clear hh
  have hm2 : (f3 x == 1) = false := by simpa using hm
  have hn2 : (f3 x == 5) = false := by simpa using hn
  go_enter Tryd.func5, Tryd.ntmps5
  go_wp2_with (first | (go_at_call 7; refine (rb_any _ _ _ h0 h1 (by decide) _).mono ?_; rintro e w' ⟨rfl, nq, rfl⟩) | (go_at_call_of 8 (Value.int IntKind.u32 (i20 x)); refine (sg_any (i20 x) 12 (by decide) (i20_bd x h0 h1).1 (i20_bd x h0 h1).2 _).mono ?_; rintro e w' ⟨rfl, rfl⟩))
  refine (one_no (w.heap.size + 1) 8 8 (f3 x) 0 (rdf x) (r1 x) 0 (immI x) c3 c4 _ ?g3 ?g4).mono ?_
  case g3 => simp
  case g4 => rw [World.cell?_alloc_at _ _ _ _ (by simp)]; exact HH.out
  rintro e w' ⟨rfl, rfl⟩
  unfold no
  go_wp2_with fail
  refine bodyPost_ret (v := dec x) ?_ rfl ⟨rfl, ?_⟩
  · rw [HD.out]; simp [results, Tryd.results5, go_sem, no]
  · (repeat' (first | with_reducible exact Below.refl _ _ | with_reducible apply below_drewN | with_reducible apply Below.drew | with_reducible apply Below.alloc | with_reducible apply Below.setCell)) <;> (first | (simp; done) | (simp; omega))
theorem ref_13 (x : Int) (h0 : 0 ≤ x) (h1 : x ≤ 4294967295) (hop : opc x = 19) (hm : ¬ f3 x = 1) (hn : ¬ f3 x = 5) (w : World) :
    Calls Tryd.prog 5 #[.int .u32 x] w fun e w' => e = .returned (dec x) ∧ Below w.heap.size w w' := by
  by_cases hh : at8 T13 x = -1
  · exact ref_13_no x h0 h1 hop hm hn hh w
  · exact ref_13_hit x h0 h1 hop hm hn hh w
set_option maxRecDepth 10000 in
set_option maxHeartbeats 1000000 in
theorem ref_slli (x : Int) (h0 : 0 ≤ x) (h1 : x ≤ 4294967295) (hop : opc x = 19) (hm : f3 x = 1) (hn : f7 x = 0) (w : World) :
    Calls Tryd.prog 5 #[.int .u32 x] w fun e w' => e = .returned (dec x) ∧ Below w.heap.size w w' := by
  have e1 := fe_11_7 x h0 h1
  have e2 := fe_14_12 x h0 h1
  have e3 := fe_19_15 x h0 h1
  have e4 := fe_24_20 x h0 h1
  have e5 := fe_31_25 x h0 h1
  have e6 := (fe_6_0 x h0 h1).trans hop
  have e7 := fe_31_20 x h0 h1
  have e8 := sI x h0 h1
  have b0 := (i20_bd x h0 h1).1
  have b1 := (i20_bd x h0 h1).2
  have c1 := (rdf_bd x).1
  have c2 := (rdf_bd x).2
  have c3 := (f3_bd x).1
  have c4 := (f3_bd x).2
  have c5 := (r1_bd x).1
  have c6 := (r1_bd x).2
  have c7 := (r2_bd x).1
  have c8 := (r2_bd x).2
  have c9 := (f7_bd x h0 h1).1
  have c10 := (f7_bd x h0 h1).2
  have HD : Hid (dec x = ins 24 (rdf x) (r1 x) 0 (r2 x)) := dec_ins x _ _ _ _ _ (by simp [opn, hop, sh, hm, hn]) (by decide) (by simp [hasRd, hop]) (by simp [hasR1, hop]) (by simp [hasR2, hop]) (by simp [imm, hop, sh, hm, hn])
  go_enter Tryd.func5, Tryd.ntmps5
  go_wp2_with (first | (go_at_call 7; refine (rb_any _ _ _ h0 h1 (by decide) _).mono ?_; rintro e w' ⟨rfl, nq, rfl⟩) | (go_at_call_of 8 (Value.int IntKind.u32 (i20 x)); refine (sg_any (i20 x) 12 (by decide) (i20_bd x h0 h1).1 (i20_bd x h0 h1).2 _).mono ?_; rintro e w' ⟨rfl, rfl⟩))
  refine (one_hit (w.heap.size + 1) 7 7 1 24 0 (rdf x) (r1 x) 0 (r2 x) (by decide) (by decide) (by decide) (by decide) _ ?g3 ?g4).mono ?_
  case g3 => simp
  case g4 => rw [World.cell?_alloc_at _ _ _ _ (by simp)]; rfl
  rintro e w' ⟨rfl, rfl⟩
  unfold ins
  go_wp2_with fail
  refine bodyPost_ret (v := dec x) ?_ rfl ⟨rfl, ?_⟩
  · rw [HD.out]; simp [results, Tryd.results5, go_sem, ins]
  · (repeat' (first | with_reducible exact Below.refl _ _ | with_reducible apply below_drewN | with_reducible apply Below.drew | with_reducible apply Below.alloc | with_reducible apply Below.setCell)) <;> (first | (simp; done) | (simp; omega))
set_option maxRecDepth 10000 in
set_option maxHeartbeats 1000000 in
theorem ref_srli (x : Int) (h0 : 0 ≤ x) (h1 : x ≤ 4294967295) (hop : opc x = 19) (hm : f3 x = 5) (hn : f7 x = 0) (w : World) :
    Calls Tryd.prog 5 #[.int .u32 x] w fun e w' => e = .returned (dec x) ∧ Below w.heap.size w w' := by
  have e1 := fe_11_7 x h0 h1
  have e2 := fe_14_12 x h0 h1
  have e3 := fe_19_15 x h0 h1
  have e4 := fe_24_20 x h0 h1
  have e5 := fe_31_25 x h0 h1
  have e6 := (fe_6_0 x h0 h1).trans hop
  have e7 := fe_31_20 x h0 h1
  have e8 := sI x h0 h1
  have b0 := (i20_bd x h0 h1).1
  have b1 := (i20_bd x h0 h1).2
  have c1 := (rdf_bd x).1
  have c2 := (rdf_bd x).2
  have c3 := (f3_bd x).1
  have c4 := (f3_bd x).2
  have c5 := (r1_bd x).1
  have c6 := (r1_bd x).2
  have c7 := (r2_bd x).1
  have c8 := (r2_bd x).2
  have c9 := (f7_bd x h0 h1).1
  have c10 := (f7_bd x h0 h1).2
  have HD : Hid (dec x = ins 25 (rdf x) (r1 x) 0 (r2 x)) := dec_ins x _ _ _ _ _ (by simp [opn, hop, sh, hm, hn]) (by decide) (by simp [hasRd, hop]) (by simp [hasR1, hop]) (by simp [hasR2, hop]) (by simp [imm, hop, sh, hm, hn])
  go_enter Tryd.func5, Tryd.ntmps5
  go_wp2_with (first | (go_at_call 7; refine (rb_any _ _ _ h0 h1 (by decide) _).mono ?_; rintro e w' ⟨rfl, nq, rfl⟩) | (go_at_call_of 8 (Value.int IntKind.u32 (i20 x)); refine (sg_any (i20 x) 12 (by decide) (i20_bd x h0 h1).1 (i20_bd x h0 h1).2 _).mono ?_; rintro e w' ⟨rfl, rfl⟩))
  refine (one_hit (w.heap.size + 1) 7 7 5 25 0 (rdf x) (r1 x) 0 (r2 x) (by decide) (by decide) (by decide) (by decide) _ ?g3 ?g4).mono ?_
  case g3 => simp
  case g4 => rw [World.cell?_alloc_at _ _ _ _ (by simp)]; rfl
  rintro e w' ⟨rfl, rfl⟩
  unfold ins
  go_wp2_with fail
  refine bodyPost_ret (v := dec x) ?_ rfl ⟨rfl, ?_⟩
  · rw [HD.out]; simp [results, Tryd.results5, go_sem, ins]
  · (repeat' (first | with_reducible exact Below.refl _ _ | with_reducible apply below_drewN | with_reducible apply Below.drew | with_reducible apply Below.alloc | with_reducible apply Below.setCell)) <;> (first | (simp; done) | (simp; omega))
set_option maxRecDepth 10000 in
set_option maxHeartbeats 1000000 in
theorem ref_srai (x : Int) (h0 : 0 ≤ x) (h1 : x ≤ 4294967295) (hop : opc x = 19) (hm : f3 x = 5) (hn : f7 x = 32) (w : World) :
    Calls Tryd.prog 5 #[.int .u32 x] w fun e w' => e = .returned (dec x) ∧ Below w.heap.size w w' := by
  have e1 := fe_11_7 x h0 h1
  have e2 := fe_14_12 x h0 h1
  have e3 := fe_19_15 x h0 h1
  have e4 := fe_24_20 x h0 h1
  have e5 := fe_31_25 x h0 h1
  have e6 := (fe_6_0 x h0 h1).trans hop
  have e7 := fe_31_20 x h0 h1
  have e8 := sI x h0 h1
  have b0 := (i20_bd x h0 h1).1
  have b1 := (i20_bd x h0 h1).2
  have c1 := (rdf_bd x).1
  have c2 := (rdf_bd x).2
  have c3 := (f3_bd x).1
  have c4 := (f3_bd x).2
  have c5 := (r1_bd x).1
  have c6 := (r1_bd x).2
  have c7 := (r2_bd x).1
  have c8 := (r2_bd x).2
  have c9 := (f7_bd x h0 h1).1
  have c10 := (f7_bd x h0 h1).2
  have HD : Hid (dec x = ins 26 (rdf x) (r1 x) 0 (r2 x)) := dec_ins x _ _ _ _ _ (by simp [opn, hop, sh, hm, hn]) (by decide) (by simp [hasRd, hop]) (by simp [hasR1, hop]) (by simp [hasR2, hop]) (by simp [imm, hop, sh, hm, hn])
  go_enter Tryd.func5, Tryd.ntmps5
  go_wp2_with (first | (go_at_call 7; refine (rb_any _ _ _ h0 h1 (by decide) _).mono ?_; rintro e w' ⟨rfl, nq, rfl⟩) | (go_at_call_of 8 (Value.int IntKind.u32 (i20 x)); refine (sg_any (i20 x) 12 (by decide) (i20_bd x h0 h1).1 (i20_bd x h0 h1).2 _).mono ?_; rintro e w' ⟨rfl, rfl⟩))
  refine (one_hit (w.heap.size + 1) 7 7 6 26 0 (rdf x) (r1 x) 0 (r2 x) (by decide) (by decide) (by decide) (by decide) _ ?g3 ?g4).mono ?_
  case g3 => simp
  case g4 => rw [World.cell?_alloc_at _ _ _ _ (by simp)]; rfl
  rintro e w' ⟨rfl, rfl⟩
  unfold ins
  go_wp2_with fail
  refine bodyPost_ret (v := dec x) ?_ rfl ⟨rfl, ?_⟩
  · rw [HD.out]; simp [results, Tryd.results5, go_sem, ins]
  · (repeat' (first | with_reducible exact Below.refl _ _ | with_reducible apply below_drewN | with_reducible apply Below.drew | with_reducible apply Below.alloc | with_reducible apply Below.setCell)) <;> (first | (simp; done) | (simp; omega))
set_option maxRecDepth 10000 in
set_option maxHeartbeats 1000000 in
theorem ref_sh1 (x : Int) (h0 : 0 ≤ x) (h1 : x ≤ 4294967295) (hop : opc x = 19) (hm : f3 x = 1) (hn : ¬ f7 x = 0) (w : World) :
    Calls Tryd.prog 5 #[.int .u32 x] w fun e w' => e = .returned (dec x) ∧ Below w.heap.size w w' := by
  have e1 := fe_11_7 x h0 h1
  have e2 := fe_14_12 x h0 h1
  have e3 := fe_19_15 x h0 h1
  have e4 := fe_24_20 x h0 h1
  have e5 := fe_31_25 x h0 h1
  have e6 := (fe_6_0 x h0 h1).trans hop
  have e7 := fe_31_20 x h0 h1
  have e8 := sI x h0 h1
  have b0 := (i20_bd x h0 h1).1
  have b1 := (i20_bd x h0 h1).2
  have c1 := (rdf_bd x).1
  have c2 := (rdf_bd x).2
  have c3 := (f3_bd x).1
  have c4 := (f3_bd x).2
  have c5 := (r1_bd x).1
  have c6 := (r1_bd x).2
  have c7 := (r2_bd x).1
  have c8 := (r2_bd x).2
  have c9 := (f7_bd x h0 h1).1
  have c10 := (f7_bd x h0 h1).2
  have HD : Hid (dec x = no) := dec_no x (by simp [opn, hop, sh, hm, hn])
  go_enter Tryd.func5, Tryd.ntmps5
  go_wp2_with (first | (go_at_call 7; refine (rb_any _ _ _ h0 h1 (by decide) _).mono ?_; rintro e w' ⟨rfl, nq, rfl⟩) | (go_at_call_of 8 (Value.int IntKind.u32 (i20 x)); refine (sg_any (i20 x) 12 (by decide) (i20_bd x h0 h1).1 (i20_bd x h0 h1).2 _).mono ?_; rintro e w' ⟨rfl, rfl⟩))
  refine bodyPost_ret (v := dec x) ?_ rfl ⟨rfl, ?_⟩
  · rw [HD.out]; simp [results, Tryd.results5, go_sem, no]
  · (repeat' (first | with_reducible exact Below.refl _ _ | with_reducible apply below_drewN | with_reducible apply Below.drew | with_reducible apply Below.alloc | with_reducible apply Below.setCell)) <;> (first | (simp; done) | (simp; omega))
set_option maxRecDepth 10000 in
set_option maxHeartbeats 1000000 in
theorem ref_sh5 (x : Int) (h0 : 0 ≤ x) (h1 : x ≤ 4294967295) (hop : opc x = 19) (hm : f3 x = 5) (hn : ¬ f7 x = 0) (hk : ¬ f7 x = 32) (w : World) :
    Calls Tryd.prog 5 #[.int .u32 x] w fun e w' => e = .returned (dec x) ∧ Below w.heap.size w w' := by
  have e1 := fe_11_7 x h0 h1
  have e2 := fe_14_12 x h0 h1
  have e3 := fe_19_15 x h0 h1
  have e4 := fe_24_20 x h0 h1
  have e5 := fe_31_25 x h0 h1
  have e6 := (fe_6_0 x h0 h1).trans hop
  have e7 := fe_31_20 x h0 h1
  have e8 := sI x h0 h1
  have b0 := (i20_bd x h0 h1).1
  have b1 := (i20_bd x h0 h1).2
  have c1 := (rdf_bd x).1
  have c2 := (rdf_bd x).2
  have c3 := (f3_bd x).1
  have c4 := (f3_bd x).2
  have c5 := (r1_bd x).1
  have c6 := (r1_bd x).2
  have c7 := (r2_bd x).1
  have c8 := (r2_bd x).2
  have c9 := (f7_bd x h0 h1).1
  have c10 := (f7_bd x h0 h1).2
  have HD : Hid (dec x = no) := dec_no x (by simp [opn, hop, sh, hm, hn, hk])
  go_enter Tryd.func5, Tryd.ntmps5
  go_wp2_with (first | (go_at_call 7; refine (rb_any _ _ _ h0 h1 (by decide) _).mono ?_; rintro e w' ⟨rfl, nq, rfl⟩) | (go_at_call_of 8 (Value.int IntKind.u32 (i20 x)); refine (sg_any (i20 x) 12 (by decide) (i20_bd x h0 h1).1 (i20_bd x h0 h1).2 _).mono ?_; rintro e w' ⟨rfl, rfl⟩))
  refine bodyPost_ret (v := dec x) ?_ rfl ⟨rfl, ?_⟩
  · rw [HD.out]; simp [results, Tryd.results5, go_sem, no]
  · (repeat' (first | with_reducible exact Below.refl _ _ | with_reducible apply below_drewN | with_reducible apply Below.drew | with_reducible apply Below.alloc | with_reducible apply Below.setCell)) <;> (first | (simp; done) | (simp; omega))
end Go.Proofs.YtjikimpejlmdiaaDoor.decodes
