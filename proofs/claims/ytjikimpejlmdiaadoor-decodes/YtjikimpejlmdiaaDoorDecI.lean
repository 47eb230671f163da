import Derived.Test.YtjikimpejlmdiaaDoorDecM
import Derived.WalkSmall
import Derived.Deep.RegionWith
namespace Go.Proofs.YtjikimpejlmdiaaDoor.decodes
open Go.ChangeShapes Go.WideShapes Go.ChangeAt Go.RowKit Go.Proofs.YtjikimpejlmdiaaDoor.dnums
set_option linter.unusedVariables false
set_option linter.unusedSimpArgs false
set_option maxRecDepth 10000 in
set_option maxHeartbeats 1000000 in
theorem in_37 (x : Int) (h0 : 0 ≤ x) (h1 : x ≤ 4294967295) (hop : opc x = 55) (w : World) :
    Calls Tryd.prog 10 #[.int .u32 x] w fun e w' => e = .returned (raw x) ∧ Below w.heap.size w w' := by
  have c3 := (f3_bd x).1
  have c4 := (f3_bd x).2
  have HD : Hid (raw x = .agg #[.int .i64 0, .int .i64 (rdf x), .int .i64 0, .int .i64 0, .int .i32 (immU x)]) := raw_is x _ _ _ _ _ (by simp [opn, hop]) (by simp [qRd, hasRd, hop]) (by simp [qR1, hasR1, hop]) (by simp [qR2, hasR2, hop]) (by simp [imm, hop])
  go_enter Tryd.func10, Tryd.ntmps10
  go_wp2_with (first | (go_at_call 11; refine (l_opcode x h0 h1 _).mono ?_; rintro e w' ⟨rfl, rfl⟩) | (go_at_call 12; refine (l_rd x h0 h1 _).mono ?_; rintro e w' ⟨rfl, rfl⟩) | (go_at_call 16; refine (l_rs1 x h0 h1 _).mono ?_; rintro e w' ⟨rfl, rfl⟩) | (go_at_call 19; refine (l_rs2 x h0 h1 _).mono ?_; rintro e w' ⟨rfl, rfl⟩) | (go_at_call 18; refine (l_funct3 x h0 h1 _).mono ?_; rintro e w' ⟨rfl, rfl⟩) | (go_at_call 13; refine (l_immediateU x h0 h1 _).mono ?_; rintro e w' ⟨rfl, rfl⟩) | (go_at_call 17; refine (l_immediateI x h0 h1 _).mono ?_; rintro e w' ⟨rfl, rfl⟩) | (go_at_call 14; refine (l_immediateJ x h0 h1 _).mono ?_; rintro e w' ⟨rfl, rfl⟩) | (go_at_call 20; refine (l_immediateB x h0 h1 _).mono ?_; rintro e w' ⟨rfl, rfl⟩) | (go_at_call 21; refine (l_immediateS x h0 h1 _).mono ?_; rintro e w' ⟨rfl, rfl⟩))
  all_goals
    refine bodyPost_ret (v := raw x) ?_ rfl ⟨rfl, ?_⟩
    · rw [HD.out]; simp [results, Tryd.results10, go_sem]
    · (repeat' (first | with_reducible exact Below.refl _ _ | with_reducible apply below_drewN | with_reducible apply Below.drew | with_reducible apply Below.alloc | with_reducible apply Below.setCell)) <;> (first | (simp; done) | (simp; omega))
set_option maxRecDepth 10000 in
set_option maxHeartbeats 1000000 in
theorem in_17 (x : Int) (h0 : 0 ≤ x) (h1 : x ≤ 4294967295) (hop : opc x = 23) (w : World) :
    Calls Tryd.prog 10 #[.int .u32 x] w fun e w' => e = .returned (raw x) ∧ Below w.heap.size w w' := by
  have c3 := (f3_bd x).1
  have c4 := (f3_bd x).2
  have HD : Hid (raw x = .agg #[.int .i64 1, .int .i64 (rdf x), .int .i64 0, .int .i64 0, .int .i32 (immU x)]) := raw_is x _ _ _ _ _ (by simp [opn, hop]) (by simp [qRd, hasRd, hop]) (by simp [qR1, hasR1, hop]) (by simp [qR2, hasR2, hop]) (by simp [imm, hop])
  go_enter Tryd.func10, Tryd.ntmps10
  go_wp2_with (first | (go_at_call 11; refine (l_opcode x h0 h1 _).mono ?_; rintro e w' ⟨rfl, rfl⟩) | (go_at_call 12; refine (l_rd x h0 h1 _).mono ?_; rintro e w' ⟨rfl, rfl⟩) | (go_at_call 16; refine (l_rs1 x h0 h1 _).mono ?_; rintro e w' ⟨rfl, rfl⟩) | (go_at_call 19; refine (l_rs2 x h0 h1 _).mono ?_; rintro e w' ⟨rfl, rfl⟩) | (go_at_call 18; refine (l_funct3 x h0 h1 _).mono ?_; rintro e w' ⟨rfl, rfl⟩) | (go_at_call 13; refine (l_immediateU x h0 h1 _).mono ?_; rintro e w' ⟨rfl, rfl⟩) | (go_at_call 17; refine (l_immediateI x h0 h1 _).mono ?_; rintro e w' ⟨rfl, rfl⟩) | (go_at_call 14; refine (l_immediateJ x h0 h1 _).mono ?_; rintro e w' ⟨rfl, rfl⟩) | (go_at_call 20; refine (l_immediateB x h0 h1 _).mono ?_; rintro e w' ⟨rfl, rfl⟩) | (go_at_call 21; refine (l_immediateS x h0 h1 _).mono ?_; rintro e w' ⟨rfl, rfl⟩))
  all_goals
    refine bodyPost_ret (v := raw x) ?_ rfl ⟨rfl, ?_⟩
    · rw [HD.out]; simp [results, Tryd.results10, go_sem]
    · (repeat' (first | with_reducible exact Below.refl _ _ | with_reducible apply below_drewN | with_reducible apply Below.drew | with_reducible apply Below.alloc | with_reducible apply Below.setCell)) <;> (first | (simp; done) | (simp; omega))
set_option maxRecDepth 10000 in
set_option maxHeartbeats 1000000 in
theorem in_6F (x : Int) (h0 : 0 ≤ x) (h1 : x ≤ 4294967295) (hop : opc x = 111) (w : World) :
    Calls Tryd.prog 10 #[.int .u32 x] w fun e w' => e = .returned (raw x) ∧ Below w.heap.size w w' := by
  have c3 := (f3_bd x).1
  have c4 := (f3_bd x).2
  have HD : Hid (raw x = .agg #[.int .i64 2, .int .i64 (rdf x), .int .i64 0, .int .i64 0, .int .i32 (immJ x)]) := raw_is x _ _ _ _ _ (by simp [opn, hop]) (by simp [qRd, hasRd, hop]) (by simp [qR1, hasR1, hop]) (by simp [qR2, hasR2, hop]) (by simp [imm, hop])
  go_enter Tryd.func10, Tryd.ntmps10
  go_wp2_with (first | (go_at_call 11; refine (l_opcode x h0 h1 _).mono ?_; rintro e w' ⟨rfl, rfl⟩) | (go_at_call 12; refine (l_rd x h0 h1 _).mono ?_; rintro e w' ⟨rfl, rfl⟩) | (go_at_call 16; refine (l_rs1 x h0 h1 _).mono ?_; rintro e w' ⟨rfl, rfl⟩) | (go_at_call 19; refine (l_rs2 x h0 h1 _).mono ?_; rintro e w' ⟨rfl, rfl⟩) | (go_at_call 18; refine (l_funct3 x h0 h1 _).mono ?_; rintro e w' ⟨rfl, rfl⟩) | (go_at_call 13; refine (l_immediateU x h0 h1 _).mono ?_; rintro e w' ⟨rfl, rfl⟩) | (go_at_call 17; refine (l_immediateI x h0 h1 _).mono ?_; rintro e w' ⟨rfl, rfl⟩) | (go_at_call 14; refine (l_immediateJ x h0 h1 _).mono ?_; rintro e w' ⟨rfl, rfl⟩) | (go_at_call 20; refine (l_immediateB x h0 h1 _).mono ?_; rintro e w' ⟨rfl, rfl⟩) | (go_at_call 21; refine (l_immediateS x h0 h1 _).mono ?_; rintro e w' ⟨rfl, rfl⟩))
  all_goals
    refine bodyPost_ret (v := raw x) ?_ rfl ⟨rfl, ?_⟩
    · rw [HD.out]; simp [results, Tryd.results10, go_sem]
    · (repeat' (first | with_reducible exact Below.refl _ _ | with_reducible apply below_drewN | with_reducible apply Below.drew | with_reducible apply Below.alloc | with_reducible apply Below.setCell)) <;> (first | (simp; done) | (simp; omega))
set_option maxRecDepth 10000 in
set_option maxHeartbeats 1000000 in
theorem in_67y (x : Int) (h0 : 0 ≤ x) (h1 : x ≤ 4294967295) (hop : opc x = 103) (h : f3 x = 0) (w : World) :
    Calls Tryd.prog 10 #[.int .u32 x] w fun e w' => e = .returned (raw x) ∧ Below w.heap.size w w' := by
  have c3 := (f3_bd x).1
  have c4 := (f3_bd x).2
  have HD : Hid (raw x = .agg #[.int .i64 3, .int .i64 (rdf x), .int .i64 (r1 x), .int .i64 0, .int .i32 (immI x)]) := raw_is x _ _ _ _ _ (by simp [opn, hop, (b67 x).1 h]) (by simp [qRd, hasRd, hop]) (by simp [qR1, hasR1, hop]) (by simp [qR2, hasR2, hop]) (by simp [imm, hop, (b67 x).1 h])
  go_enter Tryd.func10, Tryd.ntmps10
  go_wp2_with (first | (go_at_call 11; refine (l_opcode x h0 h1 _).mono ?_; rintro e w' ⟨rfl, rfl⟩) | (go_at_call 12; refine (l_rd x h0 h1 _).mono ?_; rintro e w' ⟨rfl, rfl⟩) | (go_at_call 16; refine (l_rs1 x h0 h1 _).mono ?_; rintro e w' ⟨rfl, rfl⟩) | (go_at_call 19; refine (l_rs2 x h0 h1 _).mono ?_; rintro e w' ⟨rfl, rfl⟩) | (go_at_call 18; refine (l_funct3 x h0 h1 _).mono ?_; rintro e w' ⟨rfl, rfl⟩) | (go_at_call 13; refine (l_immediateU x h0 h1 _).mono ?_; rintro e w' ⟨rfl, rfl⟩) | (go_at_call 17; refine (l_immediateI x h0 h1 _).mono ?_; rintro e w' ⟨rfl, rfl⟩) | (go_at_call 14; refine (l_immediateJ x h0 h1 _).mono ?_; rintro e w' ⟨rfl, rfl⟩) | (go_at_call 20; refine (l_immediateB x h0 h1 _).mono ?_; rintro e w' ⟨rfl, rfl⟩) | (go_at_call 21; refine (l_immediateS x h0 h1 _).mono ?_; rintro e w' ⟨rfl, rfl⟩) | (go_at_call 15; refine (jump_y x h0 h1 h _).mono ?_; rintro e w' ⟨rfl, rfl⟩))
  all_goals
    refine bodyPost_ret (v := raw x) ?_ rfl ⟨rfl, ?_⟩
    · rw [HD.out]; simp [results, Tryd.results10, go_sem]
    · (repeat' (first | with_reducible exact Below.refl _ _ | with_reducible apply below_drewN | with_reducible apply Below.drew | with_reducible apply Below.alloc | with_reducible apply Below.setCell)) <;> (first | (simp; done) | (simp; omega))
set_option maxRecDepth 10000 in
set_option maxHeartbeats 1000000 in
theorem in_67n (x : Int) (h0 : 0 ≤ x) (h1 : x ≤ 4294967295) (hop : opc x = 103) (h : ¬ f3 x = 0) (w : World) :
    Calls Tryd.prog 10 #[.int .u32 x] w fun e w' => e = .returned (raw x) ∧ Below w.heap.size w w' := by
  have c3 := (f3_bd x).1
  have c4 := (f3_bd x).2
  have HD : Hid (raw x = .agg #[.int .i64 (-1), .int .i64 (rdf x), .int .i64 (r1 x), .int .i64 0, .int .i32 (immI x)]) := raw_is x _ _ _ _ _ (by simp [opn, hop, (b67 x).2 h]) (by simp [qRd, hasRd, hop]) (by simp [qR1, hasR1, hop]) (by simp [qR2, hasR2, hop]) (by simp [imm, hop, (b67 x).2 h])
  go_enter Tryd.func10, Tryd.ntmps10
  go_wp2_with (first | (go_at_call 11; refine (l_opcode x h0 h1 _).mono ?_; rintro e w' ⟨rfl, rfl⟩) | (go_at_call 12; refine (l_rd x h0 h1 _).mono ?_; rintro e w' ⟨rfl, rfl⟩) | (go_at_call 16; refine (l_rs1 x h0 h1 _).mono ?_; rintro e w' ⟨rfl, rfl⟩) | (go_at_call 19; refine (l_rs2 x h0 h1 _).mono ?_; rintro e w' ⟨rfl, rfl⟩) | (go_at_call 18; refine (l_funct3 x h0 h1 _).mono ?_; rintro e w' ⟨rfl, rfl⟩) | (go_at_call 13; refine (l_immediateU x h0 h1 _).mono ?_; rintro e w' ⟨rfl, rfl⟩) | (go_at_call 17; refine (l_immediateI x h0 h1 _).mono ?_; rintro e w' ⟨rfl, rfl⟩) | (go_at_call 14; refine (l_immediateJ x h0 h1 _).mono ?_; rintro e w' ⟨rfl, rfl⟩) | (go_at_call 20; refine (l_immediateB x h0 h1 _).mono ?_; rintro e w' ⟨rfl, rfl⟩) | (go_at_call 21; refine (l_immediateS x h0 h1 _).mono ?_; rintro e w' ⟨rfl, rfl⟩) | (go_at_call 15; refine (jump_n x h0 h1 h _).mono ?_; rintro e w' ⟨rfl, rfl⟩))
  all_goals
    refine bodyPost_ret (v := raw x) ?_ rfl ⟨rfl, ?_⟩
    · rw [HD.out]; simp [results, Tryd.results10, go_sem]
    · (repeat' (first | with_reducible exact Below.refl _ _ | with_reducible apply below_drewN | with_reducible apply Below.drew | with_reducible apply Below.alloc | with_reducible apply Below.setCell)) <;> (first | (simp; done) | (simp; omega))
set_option maxRecDepth 10000 in
set_option maxHeartbeats 1000000 in
theorem in_0Fy (x : Int) (h0 : 0 ≤ x) (h1 : x ≤ 4294967295) (hop : opc x = 15) (h : f3 x ≤ 1) (w : World) :
    Calls Tryd.prog 10 #[.int .u32 x] w fun e w' => e = .returned (raw x) ∧ Below w.heap.size w w' := by
  have c3 := (f3_bd x).1
  have c4 := (f3_bd x).2
  have HD : Hid (raw x = .agg #[.int .i64 45, .int .i64 0, .int .i64 0, .int .i64 0, .int .i32 0]) := raw_is x _ _ _ _ _ (by simp [opn, hop, (b0F x).1 h]) (by simp [qRd, hasRd, hop]) (by simp [qR1, hasR1, hop]) (by simp [qR2, hasR2, hop]) (by simp [imm, hop, (b0F x).1 h])
  go_enter Tryd.func10, Tryd.ntmps10
  go_wp2_with (first | (go_at_call 11; refine (l_opcode x h0 h1 _).mono ?_; rintro e w' ⟨rfl, rfl⟩) | (go_at_call 12; refine (l_rd x h0 h1 _).mono ?_; rintro e w' ⟨rfl, rfl⟩) | (go_at_call 16; refine (l_rs1 x h0 h1 _).mono ?_; rintro e w' ⟨rfl, rfl⟩) | (go_at_call 19; refine (l_rs2 x h0 h1 _).mono ?_; rintro e w' ⟨rfl, rfl⟩) | (go_at_call 18; refine (l_funct3 x h0 h1 _).mono ?_; rintro e w' ⟨rfl, rfl⟩) | (go_at_call 13; refine (l_immediateU x h0 h1 _).mono ?_; rintro e w' ⟨rfl, rfl⟩) | (go_at_call 17; refine (l_immediateI x h0 h1 _).mono ?_; rintro e w' ⟨rfl, rfl⟩) | (go_at_call 14; refine (l_immediateJ x h0 h1 _).mono ?_; rintro e w' ⟨rfl, rfl⟩) | (go_at_call 20; refine (l_immediateB x h0 h1 _).mono ?_; rintro e w' ⟨rfl, rfl⟩) | (go_at_call 21; refine (l_immediateS x h0 h1 _).mono ?_; rintro e w' ⟨rfl, rfl⟩) | (go_at_call 24; refine (fence_y x h0 h1 h _).mono ?_; rintro e w' ⟨rfl, rfl⟩))
  all_goals
    refine bodyPost_ret (v := raw x) ?_ rfl ⟨rfl, ?_⟩
    · rw [HD.out]; simp [results, Tryd.results10, go_sem]
    · (repeat' (first | with_reducible exact Below.refl _ _ | with_reducible apply below_drewN | with_reducible apply Below.drew | with_reducible apply Below.alloc | with_reducible apply Below.setCell)) <;> (first | (simp; done) | (simp; omega))
set_option maxRecDepth 10000 in
set_option maxHeartbeats 1000000 in
theorem in_0Fn (x : Int) (h0 : 0 ≤ x) (h1 : x ≤ 4294967295) (hop : opc x = 15) (h : 1 < f3 x) (w : World) :
    Calls Tryd.prog 10 #[.int .u32 x] w fun e w' => e = .returned (raw x) ∧ Below w.heap.size w w' := by
  have c3 := (f3_bd x).1
  have c4 := (f3_bd x).2
  have HD : Hid (raw x = .agg #[.int .i64 (-1), .int .i64 0, .int .i64 0, .int .i64 0, .int .i32 0]) := raw_is x _ _ _ _ _ (by simp [opn, hop, (b0F x).2 h]) (by simp [qRd, hasRd, hop]) (by simp [qR1, hasR1, hop]) (by simp [qR2, hasR2, hop]) (by simp [imm, hop, (b0F x).2 h])
  go_enter Tryd.func10, Tryd.ntmps10
  go_wp2_with (first | (go_at_call 11; refine (l_opcode x h0 h1 _).mono ?_; rintro e w' ⟨rfl, rfl⟩) | (go_at_call 12; refine (l_rd x h0 h1 _).mono ?_; rintro e w' ⟨rfl, rfl⟩) | (go_at_call 16; refine (l_rs1 x h0 h1 _).mono ?_; rintro e w' ⟨rfl, rfl⟩) | (go_at_call 19; refine (l_rs2 x h0 h1 _).mono ?_; rintro e w' ⟨rfl, rfl⟩) | (go_at_call 18; refine (l_funct3 x h0 h1 _).mono ?_; rintro e w' ⟨rfl, rfl⟩) | (go_at_call 13; refine (l_immediateU x h0 h1 _).mono ?_; rintro e w' ⟨rfl, rfl⟩) | (go_at_call 17; refine (l_immediateI x h0 h1 _).mono ?_; rintro e w' ⟨rfl, rfl⟩) | (go_at_call 14; refine (l_immediateJ x h0 h1 _).mono ?_; rintro e w' ⟨rfl, rfl⟩) | (go_at_call 20; refine (l_immediateB x h0 h1 _).mono ?_; rintro e w' ⟨rfl, rfl⟩) | (go_at_call 21; refine (l_immediateS x h0 h1 _).mono ?_; rintro e w' ⟨rfl, rfl⟩) | (go_at_call 24; refine (fence_n x h0 h1 h _).mono ?_; rintro e w' ⟨rfl, rfl⟩))
  all_goals
    refine bodyPost_ret (v := raw x) ?_ rfl ⟨rfl, ?_⟩
    · rw [HD.out]; simp [results, Tryd.results10, go_sem]
    · (repeat' (first | with_reducible exact Below.refl _ _ | with_reducible apply below_drewN | with_reducible apply Below.drew | with_reducible apply Below.alloc | with_reducible apply Below.setCell)) <;> (first | (simp; done) | (simp; omega))
set_option maxRecDepth 10000 in
set_option maxHeartbeats 1000000 in
theorem in_73n (x : Int) (h0 : 0 ≤ x) (h1 : x ≤ 4294967295) (hop : opc x = 115) (h : ¬ x = 115) (h2 : ¬ x = 1048691) (w : World) :
    Calls Tryd.prog 10 #[.int .u32 x] w fun e w' => e = .returned (raw x) ∧ Below w.heap.size w w' := by
  have c3 := (f3_bd x).1
  have c4 := (f3_bd x).2
  have HD : Hid (raw x = .agg #[.int .i64 (-1), .int .i64 0, .int .i64 0, .int .i64 0, .int .i32 0]) := raw_is x _ _ _ _ _ (by simp [opn, hop, h, h2]) (by simp [qRd, hasRd, hop]) (by simp [qR1, hasR1, hop]) (by simp [qR2, hasR2, hop]) (by simp [imm, hop, h, h2])
  go_enter Tryd.func10, Tryd.ntmps10
  go_wp2_with (first | (go_at_call 11; refine (l_opcode x h0 h1 _).mono ?_; rintro e w' ⟨rfl, rfl⟩) | (go_at_call 12; refine (l_rd x h0 h1 _).mono ?_; rintro e w' ⟨rfl, rfl⟩) | (go_at_call 16; refine (l_rs1 x h0 h1 _).mono ?_; rintro e w' ⟨rfl, rfl⟩) | (go_at_call 19; refine (l_rs2 x h0 h1 _).mono ?_; rintro e w' ⟨rfl, rfl⟩) | (go_at_call 18; refine (l_funct3 x h0 h1 _).mono ?_; rintro e w' ⟨rfl, rfl⟩) | (go_at_call 13; refine (l_immediateU x h0 h1 _).mono ?_; rintro e w' ⟨rfl, rfl⟩) | (go_at_call 17; refine (l_immediateI x h0 h1 _).mono ?_; rintro e w' ⟨rfl, rfl⟩) | (go_at_call 14; refine (l_immediateJ x h0 h1 _).mono ?_; rintro e w' ⟨rfl, rfl⟩) | (go_at_call 20; refine (l_immediateB x h0 h1 _).mono ?_; rintro e w' ⟨rfl, rfl⟩) | (go_at_call 21; refine (l_immediateS x h0 h1 _).mono ?_; rintro e w' ⟨rfl, rfl⟩) | (go_at_call 25; refine (system_n x h0 h1 h h2 _).mono ?_; rintro e w' ⟨rfl, rfl⟩))
  all_goals
    refine bodyPost_ret (v := raw x) ?_ rfl ⟨rfl, ?_⟩
    · rw [HD.out]; simp [results, Tryd.results10, go_sem]
    · (repeat' (first | with_reducible exact Below.refl _ _ | with_reducible apply below_drewN | with_reducible apply Below.drew | with_reducible apply Below.alloc | with_reducible apply Below.setCell)) <;> (first | (simp; done) | (simp; omega))
set_option maxRecDepth 10000 in
set_option maxHeartbeats 1000000 in
theorem in_ecall (w : World) :
    Calls Tryd.prog 10 #[.int .u32 115] w fun e w' => e = .returned (raw 115) ∧ Below w.heap.size w w' := by
  have h0 : (0 : Int) ≤ 115 := by decide
  have h1 : (115 : Int) ≤ 4294967295 := by decide
  have hop : opc 115 = 115 := by decide
  have c3 := (f3_bd 115).1
  have c4 := (f3_bd 115).2
  have HD : Hid (raw 115 = .agg #[.int .i64 46, .int .i64 0, .int .i64 0, .int .i64 0, .int .i32 0]) := raw_is 115 _ _ _ _ _ (by simp [opn, hop]) (by simp [qRd, hasRd, hop]) (by simp [qR1, hasR1, hop]) (by simp [qR2, hasR2, hop]) (by simp [imm, hop])
  go_enter Tryd.func10, Tryd.ntmps10
  go_wp2_with (first | (go_at_call 11; refine (l_opcode 115 h0 h1 _).mono ?_; rintro e w' ⟨rfl, rfl⟩) | (go_at_call 12; refine (l_rd 115 h0 h1 _).mono ?_; rintro e w' ⟨rfl, rfl⟩) | (go_at_call 16; refine (l_rs1 115 h0 h1 _).mono ?_; rintro e w' ⟨rfl, rfl⟩) | (go_at_call 19; refine (l_rs2 115 h0 h1 _).mono ?_; rintro e w' ⟨rfl, rfl⟩) | (go_at_call 18; refine (l_funct3 115 h0 h1 _).mono ?_; rintro e w' ⟨rfl, rfl⟩) | (go_at_call 13; refine (l_immediateU 115 h0 h1 _).mono ?_; rintro e w' ⟨rfl, rfl⟩) | (go_at_call 17; refine (l_immediateI 115 h0 h1 _).mono ?_; rintro e w' ⟨rfl, rfl⟩) | (go_at_call 14; refine (l_immediateJ 115 h0 h1 _).mono ?_; rintro e w' ⟨rfl, rfl⟩) | (go_at_call 20; refine (l_immediateB 115 h0 h1 _).mono ?_; rintro e w' ⟨rfl, rfl⟩) | (go_at_call 21; refine (l_immediateS 115 h0 h1 _).mono ?_; rintro e w' ⟨rfl, rfl⟩) | (go_at_call 25; refine (system_115 _).mono ?_; rintro e w' ⟨rfl, rfl⟩))
  all_goals
    refine bodyPost_ret (v := raw 115) ?_ rfl ⟨rfl, ?_⟩
    · rw [HD.out]; simp [results, Tryd.results10, go_sem]
    · (repeat' (first | with_reducible exact Below.refl _ _ | with_reducible apply below_drewN | with_reducible apply Below.drew | with_reducible apply Below.alloc | with_reducible apply Below.setCell)) <;> (first | (simp; done) | (simp; omega))
set_option maxRecDepth 10000 in
set_option maxHeartbeats 1000000 in
theorem in_ebreak (w : World) :
    Calls Tryd.prog 10 #[.int .u32 1048691] w fun e w' => e = .returned (raw 1048691) ∧ Below w.heap.size w w' := by
  have h0 : (0 : Int) ≤ 1048691 := by decide
  have h1 : (1048691 : Int) ≤ 4294967295 := by decide
  have hop : opc 1048691 = 115 := by decide
  have c3 := (f3_bd 1048691).1
  have c4 := (f3_bd 1048691).2
  have HD : Hid (raw 1048691 = .agg #[.int .i64 47, .int .i64 0, .int .i64 0, .int .i64 0, .int .i32 0]) := raw_is 1048691 _ _ _ _ _ (by simp [opn, hop]) (by simp [qRd, hasRd, hop]) (by simp [qR1, hasR1, hop]) (by simp [qR2, hasR2, hop]) (by simp [imm, hop])
  go_enter Tryd.func10, Tryd.ntmps10
  go_wp2_with (first | (go_at_call 11; refine (l_opcode 1048691 h0 h1 _).mono ?_; rintro e w' ⟨rfl, rfl⟩) | (go_at_call 12; refine (l_rd 1048691 h0 h1 _).mono ?_; rintro e w' ⟨rfl, rfl⟩) | (go_at_call 16; refine (l_rs1 1048691 h0 h1 _).mono ?_; rintro e w' ⟨rfl, rfl⟩) | (go_at_call 19; refine (l_rs2 1048691 h0 h1 _).mono ?_; rintro e w' ⟨rfl, rfl⟩) | (go_at_call 18; refine (l_funct3 1048691 h0 h1 _).mono ?_; rintro e w' ⟨rfl, rfl⟩) | (go_at_call 13; refine (l_immediateU 1048691 h0 h1 _).mono ?_; rintro e w' ⟨rfl, rfl⟩) | (go_at_call 17; refine (l_immediateI 1048691 h0 h1 _).mono ?_; rintro e w' ⟨rfl, rfl⟩) | (go_at_call 14; refine (l_immediateJ 1048691 h0 h1 _).mono ?_; rintro e w' ⟨rfl, rfl⟩) | (go_at_call 20; refine (l_immediateB 1048691 h0 h1 _).mono ?_; rintro e w' ⟨rfl, rfl⟩) | (go_at_call 21; refine (l_immediateS 1048691 h0 h1 _).mono ?_; rintro e w' ⟨rfl, rfl⟩) | (go_at_call 25; refine (system_1048691 _).mono ?_; rintro e w' ⟨rfl, rfl⟩))
  all_goals
    refine bodyPost_ret (v := raw 1048691) ?_ rfl ⟨rfl, ?_⟩
    · rw [HD.out]; simp [results, Tryd.results10, go_sem]
    · (repeat' (first | with_reducible exact Below.refl _ _ | with_reducible apply below_drewN | with_reducible apply Below.drew | with_reducible apply Below.alloc | with_reducible apply Below.setCell)) <;> (first | (simp; done) | (simp; omega))
set_option maxRecDepth 10000 in
set_option maxHeartbeats 1000000 in
theorem in_330 (x : Int) (h0 : 0 ≤ x) (h1 : x ≤ 4294967295) (hop : opc x = 51) (h : f7 x = 0) (w : World) (hz : 4 < w.heap.size) (hc : w.cell? ⟨4, (f3 x).toNat, none⟩ = some (.int .i64 (at8 T330 x))) :
    Calls Tryd.prog 10 #[.int .u32 x] w fun e w' => e = .returned (raw x) ∧ Below w.heap.size w w' := by
  have c3 := (f3_bd x).1
  have c4 := (f3_bd x).2
  have HD : Hid (raw x = .agg #[.int .i64 (at8 T330 x), .int .i64 (rdf x), .int .i64 (r1 x), .int .i64 (r2 x), .int .i32 0]) := raw_is x _ _ _ _ _ (by simp [opn, hop, h]) (by simp [qRd, hasRd, hop]) (by simp [qR1, hasR1, hop]) (by simp [qR2, hasR2, hop]) (by simp [imm, hop, h])
  have hcell : (w.alloc (.cells #[.int .i64 0, .int .i64 0, .int .i64 0, .int .i64 0, .int .i32 0] 25)).cell? ⟨4, (f3 x).toNat, none⟩ = some (.int .i64 (at8 T330 x)) := (World.cell?_alloc_lt w _ _ hz).trans hc
  go_enter Tryd.func10, Tryd.ntmps10
  go_wp2_with (first | (go_at_call 11; refine (l_opcode x h0 h1 _).mono ?_; rintro e w' ⟨rfl, rfl⟩) | (go_at_call 12; refine (l_rd x h0 h1 _).mono ?_; rintro e w' ⟨rfl, rfl⟩) | (go_at_call 16; refine (l_rs1 x h0 h1 _).mono ?_; rintro e w' ⟨rfl, rfl⟩) | (go_at_call 19; refine (l_rs2 x h0 h1 _).mono ?_; rintro e w' ⟨rfl, rfl⟩) | (go_at_call 18; refine (l_funct3 x h0 h1 _).mono ?_; rintro e w' ⟨rfl, rfl⟩) | (go_at_call 13; refine (l_immediateU x h0 h1 _).mono ?_; rintro e w' ⟨rfl, rfl⟩) | (go_at_call 17; refine (l_immediateI x h0 h1 _).mono ?_; rintro e w' ⟨rfl, rfl⟩) | (go_at_call 14; refine (l_immediateJ x h0 h1 _).mono ?_; rintro e w' ⟨rfl, rfl⟩) | (go_at_call 20; refine (l_immediateB x h0 h1 _).mono ?_; rintro e w' ⟨rfl, rfl⟩) | (go_at_call 21; refine (l_immediateS x h0 h1 _).mono ?_; rintro e w' ⟨rfl, rfl⟩) | (go_at_call 23; refine (reg_0 x h0 h1 h _ ?hcc).mono ?_; exact hcell; rintro e w' ⟨rfl, rfl⟩))
  all_goals
    refine bodyPost_ret (v := raw x) ?_ rfl ⟨rfl, ?_⟩
    · rw [HD.out]; simp [results, Tryd.results10, go_sem]
    · (repeat' (first | with_reducible exact Below.refl _ _ | with_reducible apply below_drewN | with_reducible apply Below.drew | with_reducible apply Below.alloc | with_reducible apply Below.setCell)) <;> (first | (simp; done) | (simp; omega))
set_option maxRecDepth 10000 in
set_option maxHeartbeats 1000000 in
theorem in_331 (x : Int) (h0 : 0 ≤ x) (h1 : x ≤ 4294967295) (hop : opc x = 51) (h : f7 x = 1) (w : World) (hz : 6 < w.heap.size) (hc : w.cell? ⟨6, (f3 x).toNat, none⟩ = some (.int .i64 (at8 T331 x))) :
    Calls Tryd.prog 10 #[.int .u32 x] w fun e w' => e = .returned (raw x) ∧ Below w.heap.size w w' := by
  have c3 := (f3_bd x).1
  have c4 := (f3_bd x).2
  have HD : Hid (raw x = .agg #[.int .i64 (at8 T331 x), .int .i64 (rdf x), .int .i64 (r1 x), .int .i64 (r2 x), .int .i32 0]) := raw_is x _ _ _ _ _ (by simp [opn, hop, h]) (by simp [qRd, hasRd, hop]) (by simp [qR1, hasR1, hop]) (by simp [qR2, hasR2, hop]) (by simp [imm, hop, h])
  have hcell : (w.alloc (.cells #[.int .i64 0, .int .i64 0, .int .i64 0, .int .i64 0, .int .i32 0] 25)).cell? ⟨6, (f3 x).toNat, none⟩ = some (.int .i64 (at8 T331 x)) := (World.cell?_alloc_lt w _ _ hz).trans hc
  go_enter Tryd.func10, Tryd.ntmps10
  go_wp2_with (first | (go_at_call 11; refine (l_opcode x h0 h1 _).mono ?_; rintro e w' ⟨rfl, rfl⟩) | (go_at_call 12; refine (l_rd x h0 h1 _).mono ?_; rintro e w' ⟨rfl, rfl⟩) | (go_at_call 16; refine (l_rs1 x h0 h1 _).mono ?_; rintro e w' ⟨rfl, rfl⟩) | (go_at_call 19; refine (l_rs2 x h0 h1 _).mono ?_; rintro e w' ⟨rfl, rfl⟩) | (go_at_call 18; refine (l_funct3 x h0 h1 _).mono ?_; rintro e w' ⟨rfl, rfl⟩) | (go_at_call 13; refine (l_immediateU x h0 h1 _).mono ?_; rintro e w' ⟨rfl, rfl⟩) | (go_at_call 17; refine (l_immediateI x h0 h1 _).mono ?_; rintro e w' ⟨rfl, rfl⟩) | (go_at_call 14; refine (l_immediateJ x h0 h1 _).mono ?_; rintro e w' ⟨rfl, rfl⟩) | (go_at_call 20; refine (l_immediateB x h0 h1 _).mono ?_; rintro e w' ⟨rfl, rfl⟩) | (go_at_call 21; refine (l_immediateS x h0 h1 _).mono ?_; rintro e w' ⟨rfl, rfl⟩) | (go_at_call 23; refine (reg_1 x h0 h1 h _ ?hcc).mono ?_; exact hcell; rintro e w' ⟨rfl, rfl⟩))
  all_goals
    refine bodyPost_ret (v := raw x) ?_ rfl ⟨rfl, ?_⟩
    · rw [HD.out]; simp [results, Tryd.results10, go_sem]
    · (repeat' (first | with_reducible exact Below.refl _ _ | with_reducible apply below_drewN | with_reducible apply Below.drew | with_reducible apply Below.alloc | with_reducible apply Below.setCell)) <;> (first | (simp; done) | (simp; omega))
set_option maxRecDepth 10000 in
set_option maxHeartbeats 1000000 in
theorem in_3320 (x : Int) (h0 : 0 ≤ x) (h1 : x ≤ 4294967295) (hop : opc x = 51) (h : f7 x = 32) (w : World) (hz : 5 < w.heap.size) (hc : w.cell? ⟨5, (f3 x).toNat, none⟩ = some (.int .i64 (at8 T3320 x))) :
    Calls Tryd.prog 10 #[.int .u32 x] w fun e w' => e = .returned (raw x) ∧ Below w.heap.size w w' := by
  have c3 := (f3_bd x).1
  have c4 := (f3_bd x).2
  have HD : Hid (raw x = .agg #[.int .i64 (at8 T3320 x), .int .i64 (rdf x), .int .i64 (r1 x), .int .i64 (r2 x), .int .i32 0]) := raw_is x _ _ _ _ _ (by simp [opn, hop, h]) (by simp [qRd, hasRd, hop]) (by simp [qR1, hasR1, hop]) (by simp [qR2, hasR2, hop]) (by simp [imm, hop, h])
  have hcell : (w.alloc (.cells #[.int .i64 0, .int .i64 0, .int .i64 0, .int .i64 0, .int .i32 0] 25)).cell? ⟨5, (f3 x).toNat, none⟩ = some (.int .i64 (at8 T3320 x)) := (World.cell?_alloc_lt w _ _ hz).trans hc
  go_enter Tryd.func10, Tryd.ntmps10
  go_wp2_with (first | (go_at_call 11; refine (l_opcode x h0 h1 _).mono ?_; rintro e w' ⟨rfl, rfl⟩) | (go_at_call 12; refine (l_rd x h0 h1 _).mono ?_; rintro e w' ⟨rfl, rfl⟩) | (go_at_call 16; refine (l_rs1 x h0 h1 _).mono ?_; rintro e w' ⟨rfl, rfl⟩) | (go_at_call 19; refine (l_rs2 x h0 h1 _).mono ?_; rintro e w' ⟨rfl, rfl⟩) | (go_at_call 18; refine (l_funct3 x h0 h1 _).mono ?_; rintro e w' ⟨rfl, rfl⟩) | (go_at_call 13; refine (l_immediateU x h0 h1 _).mono ?_; rintro e w' ⟨rfl, rfl⟩) | (go_at_call 17; refine (l_immediateI x h0 h1 _).mono ?_; rintro e w' ⟨rfl, rfl⟩) | (go_at_call 14; refine (l_immediateJ x h0 h1 _).mono ?_; rintro e w' ⟨rfl, rfl⟩) | (go_at_call 20; refine (l_immediateB x h0 h1 _).mono ?_; rintro e w' ⟨rfl, rfl⟩) | (go_at_call 21; refine (l_immediateS x h0 h1 _).mono ?_; rintro e w' ⟨rfl, rfl⟩) | (go_at_call 23; refine (reg_32 x h0 h1 h _ ?hcc).mono ?_; exact hcell; rintro e w' ⟨rfl, rfl⟩))
  all_goals
    refine bodyPost_ret (v := raw x) ?_ rfl ⟨rfl, ?_⟩
    · rw [HD.out]; simp [results, Tryd.results10, go_sem]
    · (repeat' (first | with_reducible exact Below.refl _ _ | with_reducible apply below_drewN | with_reducible apply Below.drew | with_reducible apply Below.alloc | with_reducible apply Below.setCell)) <;> (first | (simp; done) | (simp; omega))
set_option maxRecDepth 10000 in
set_option maxHeartbeats 1000000 in
theorem in_33n (x : Int) (h0 : 0 ≤ x) (h1 : x ≤ 4294967295) (hop : opc x = 51) (h : ¬ f7 x = 0) (h2 : ¬ f7 x = 1) (h3 : ¬ f7 x = 32) (w : World) :
    Calls Tryd.prog 10 #[.int .u32 x] w fun e w' => e = .returned (raw x) ∧ Below w.heap.size w w' := by
  have c3 := (f3_bd x).1
  have c4 := (f3_bd x).2
  have HD : Hid (raw x = .agg #[.int .i64 (-1), .int .i64 (rdf x), .int .i64 (r1 x), .int .i64 (r2 x), .int .i32 0]) := raw_is x _ _ _ _ _ (by simp [opn, hop, h, h2, h3]) (by simp [qRd, hasRd, hop]) (by simp [qR1, hasR1, hop]) (by simp [qR2, hasR2, hop]) (by simp [imm, hop, h, h2, h3])
  go_enter Tryd.func10, Tryd.ntmps10
  go_wp2_with (first | (go_at_call 11; refine (l_opcode x h0 h1 _).mono ?_; rintro e w' ⟨rfl, rfl⟩) | (go_at_call 12; refine (l_rd x h0 h1 _).mono ?_; rintro e w' ⟨rfl, rfl⟩) | (go_at_call 16; refine (l_rs1 x h0 h1 _).mono ?_; rintro e w' ⟨rfl, rfl⟩) | (go_at_call 19; refine (l_rs2 x h0 h1 _).mono ?_; rintro e w' ⟨rfl, rfl⟩) | (go_at_call 18; refine (l_funct3 x h0 h1 _).mono ?_; rintro e w' ⟨rfl, rfl⟩) | (go_at_call 13; refine (l_immediateU x h0 h1 _).mono ?_; rintro e w' ⟨rfl, rfl⟩) | (go_at_call 17; refine (l_immediateI x h0 h1 _).mono ?_; rintro e w' ⟨rfl, rfl⟩) | (go_at_call 14; refine (l_immediateJ x h0 h1 _).mono ?_; rintro e w' ⟨rfl, rfl⟩) | (go_at_call 20; refine (l_immediateB x h0 h1 _).mono ?_; rintro e w' ⟨rfl, rfl⟩) | (go_at_call 21; refine (l_immediateS x h0 h1 _).mono ?_; rintro e w' ⟨rfl, rfl⟩) | (go_at_call 23; refine (reg_n x h0 h1 h h2 h3 _).mono ?_; rintro e w' ⟨rfl, rfl⟩))
  all_goals
    refine bodyPost_ret (v := raw x) ?_ rfl ⟨rfl, ?_⟩
    · rw [HD.out]; simp [results, Tryd.results10, go_sem]
    · (repeat' (first | with_reducible exact Below.refl _ _ | with_reducible apply below_drewN | with_reducible apply Below.drew | with_reducible apply Below.alloc | with_reducible apply Below.setCell)) <;> (first | (simp; done) | (simp; omega))
set_option maxRecDepth 10000 in
set_option maxHeartbeats 1000000 in
theorem in_other (x : Int) (h0 : 0 ≤ x) (h1 : x ≤ 4294967295) (n55 : ¬ opc x = 55) (n23 : ¬ opc x = 23) (n111 : ¬ opc x = 111) (n103 : ¬ opc x = 103) (n99 : ¬ opc x = 99) (n3 : ¬ opc x = 3) (n35 : ¬ opc x = 35) (n19 : ¬ opc x = 19) (n51 : ¬ opc x = 51) (n15 : ¬ opc x = 15) (n115 : ¬ opc x = 115) (w : World) :
    Calls Tryd.prog 10 #[.int .u32 x] w fun e w' => e = .returned (raw x) ∧ Below w.heap.size w w' := by
  have c3 := (f3_bd x).1
  have c4 := (f3_bd x).2
  have HD : Hid (raw x = .agg #[.int .i64 (-1), .int .i64 0, .int .i64 0, .int .i64 0, .int .i32 0]) := raw_is x _ _ _ _ _ (by simp [opn, n55, n23, n111, n103, n99, n3, n35, n19, n51, n15, n115]) (by simp [qRd, hasRd, n55, n23, n111, n103, n99, n3, n35, n19, n51, n15, n115]) (by simp [qR1, hasR1, n55, n23, n111, n103, n99, n3, n35, n19, n51, n15, n115]) (by simp [qR2, hasR2, n55, n23, n111, n103, n99, n3, n35, n19, n51, n15, n115]) (by simp [imm, n55, n23, n111, n103, n99, n3, n35, n19, n51, n15, n115])
  go_enter Tryd.func10, Tryd.ntmps10
  go_wp2_with (first | (go_at_call 11; refine (l_opcode x h0 h1 _).mono ?_; rintro e w' ⟨rfl, rfl⟩) | (go_at_call 12; refine (l_rd x h0 h1 _).mono ?_; rintro e w' ⟨rfl, rfl⟩) | (go_at_call 16; refine (l_rs1 x h0 h1 _).mono ?_; rintro e w' ⟨rfl, rfl⟩) | (go_at_call 19; refine (l_rs2 x h0 h1 _).mono ?_; rintro e w' ⟨rfl, rfl⟩) | (go_at_call 18; refine (l_funct3 x h0 h1 _).mono ?_; rintro e w' ⟨rfl, rfl⟩) | (go_at_call 13; refine (l_immediateU x h0 h1 _).mono ?_; rintro e w' ⟨rfl, rfl⟩) | (go_at_call 17; refine (l_immediateI x h0 h1 _).mono ?_; rintro e w' ⟨rfl, rfl⟩) | (go_at_call 14; refine (l_immediateJ x h0 h1 _).mono ?_; rintro e w' ⟨rfl, rfl⟩) | (go_at_call 20; refine (l_immediateB x h0 h1 _).mono ?_; rintro e w' ⟨rfl, rfl⟩) | (go_at_call 21; refine (l_immediateS x h0 h1 _).mono ?_; rintro e w' ⟨rfl, rfl⟩))
  all_goals
    refine bodyPost_ret (v := raw x) ?_ rfl ⟨rfl, ?_⟩
    · rw [HD.out]; simp [results, Tryd.results10, go_sem]
    · (repeat' (first | with_reducible exact Below.refl _ _ | with_reducible apply below_drewN | with_reducible apply Below.drew | with_reducible apply Below.alloc | with_reducible apply Below.setCell)) <;> (first | (simp; done) | (simp; omega))
end Go.Proofs.YtjikimpejlmdiaaDoor.decodes
