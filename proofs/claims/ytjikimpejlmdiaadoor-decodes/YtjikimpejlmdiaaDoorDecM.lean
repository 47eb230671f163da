import Derived.Test.YtjikimpejlmdiaaDoorDecL
namespace Go.Proofs.YtjikimpejlmdiaaDoor.decodes
open Go.ChangeShapes Go.WideShapes Go.ChangeAt Go.RowKit Go.Proofs.YtjikimpejlmdiaaDoor.dnums
set_option linter.unusedVariables false
set_option linter.unusedSimpArgs false
theorem field20 (x : Int) (h0 : 0 ≤ x) (h1 : x ≤ 4294967295) (w : World) :
    Calls Tryd.prog 26 #[.int .u32 x, .int .u32 20, .int .u32 5] w fun e w' => e = .returned (.int .u32 (r2 x)) ∧ w' = w := by
  have e := p2 x h0 h1
  go_enter Tryd.func26, Tryd.ntmps26
  go_wp2
  go_ret
  exact ⟨rfl, rfl⟩
theorem b67 (x : Int) : (f3 x = 0 → at8 T67 x = 3) ∧ (¬ f3 x = 0 → at8 T67 x = -1) := by
  unfold at8
  rcases f3_all x with e | e | e | e | e | e | e | e <;> rw [e] <;> simp [T67]
theorem b0F (x : Int) : (f3 x ≤ 1 → at8 T0F x = 45) ∧ (1 < f3 x → at8 T0F x = -1) := by
  unfold at8
  rcases f3_all x with e | e | e | e | e | e | e | e <;> rw [e] <;> simp [T0F]
theorem jump_y (x : Int) (h0 : 0 ≤ x) (h1 : x ≤ 4294967295) (h : f3 x = 0) (w : World) :
    Calls Tryd.prog 15 #[.int .u32 x] w fun e w' => e = .returned (.int .i64 3) ∧ w' = w := by
  go_enter Tryd.func15, Tryd.ntmps15
  go_wp2_with (first | (go_at_call 18; refine (l_funct3 x h0 h1 _).mono ?_; rintro e w' ⟨rfl, rfl⟩) | (go_at_call 29; refine (l_funct7 x h0 h1 _).mono ?_; rintro e w' ⟨rfl, rfl⟩))
  go_ret
  exact ⟨rfl, rfl⟩
theorem jump_n (x : Int) (h0 : 0 ≤ x) (h1 : x ≤ 4294967295) (h : ¬ f3 x = 0) (w : World) :
    Calls Tryd.prog 15 #[.int .u32 x] w fun e w' => e = .returned (.int .i64 (-1)) ∧ w' = w := by
  go_enter Tryd.func15, Tryd.ntmps15
  go_wp2_with (first | (go_at_call 18; refine (l_funct3 x h0 h1 _).mono ?_; rintro e w' ⟨rfl, rfl⟩) | (go_at_call 29; refine (l_funct7 x h0 h1 _).mono ?_; rintro e w' ⟨rfl, rfl⟩))
  go_ret
  exact ⟨rfl, rfl⟩
theorem fence_y (x : Int) (h0 : 0 ≤ x) (h1 : x ≤ 4294967295) (h : f3 x ≤ 1) (w : World) :
    Calls Tryd.prog 24 #[.int .u32 x] w fun e w' => e = .returned (.int .i64 45) ∧ w' = w := by
  go_enter Tryd.func24, Tryd.ntmps24
  go_wp2_with (first | (go_at_call 18; refine (l_funct3 x h0 h1 _).mono ?_; rintro e w' ⟨rfl, rfl⟩) | (go_at_call 29; refine (l_funct7 x h0 h1 _).mono ?_; rintro e w' ⟨rfl, rfl⟩))
  go_ret
  exact ⟨rfl, rfl⟩
theorem fence_n (x : Int) (h0 : 0 ≤ x) (h1 : x ≤ 4294967295) (h : 1 < f3 x) (w : World) :
    Calls Tryd.prog 24 #[.int .u32 x] w fun e w' => e = .returned (.int .i64 (-1)) ∧ w' = w := by
  go_enter Tryd.func24, Tryd.ntmps24
  go_wp2_with (first | (go_at_call 18; refine (l_funct3 x h0 h1 _).mono ?_; rintro e w' ⟨rfl, rfl⟩) | (go_at_call 29; refine (l_funct7 x h0 h1 _).mono ?_; rintro e w' ⟨rfl, rfl⟩))
  go_ret
  exact ⟨rfl, rfl⟩
theorem system_n (x : Int) (h0 : 0 ≤ x) (h1 : x ≤ 4294967295) (h : ¬ x = 115) (h2 : ¬ x = 1048691) (w : World) :
    Calls Tryd.prog 25 #[.int .u32 x] w fun e w' => e = .returned (.int .i64 (-1)) ∧ w' = w := by
  go_enter Tryd.func25, Tryd.ntmps25
  go_wp2_with (first | (go_at_call 18; refine (l_funct3 x h0 h1 _).mono ?_; rintro e w' ⟨rfl, rfl⟩) | (go_at_call 29; refine (l_funct7 x h0 h1 _).mono ?_; rintro e w' ⟨rfl, rfl⟩))
  go_ret
  exact ⟨rfl, rfl⟩
theorem system_115 (w : World) :
    Calls Tryd.prog 25 #[.int .u32 115] w fun e w' => e = .returned (.int .i64 46) ∧ w' = w := by
  go_enter Tryd.func25, Tryd.ntmps25
  go_wp2
  go_ret
  exact ⟨rfl, rfl⟩
theorem system_1048691 (w : World) :
    Calls Tryd.prog 25 #[.int .u32 1048691] w fun e w' => e = .returned (.int .i64 47) ∧ w' = w := by
  go_enter Tryd.func25, Tryd.ntmps25
  go_wp2
  go_ret
  exact ⟨rfl, rfl⟩
theorem shift_10 (x : Int) (h0 : 0 ≤ x) (h1 : x ≤ 4294967295) (h : f3 x = 1) (h2 : f7 x = 0) (w : World) :
    Calls Tryd.prog 28 #[.int .u32 x] w fun e w' => e = .returned (.int .i64 24) ∧ w' = w := by
  go_enter Tryd.func28, Tryd.ntmps28
  go_wp2_with (first | (go_at_call 18; refine (l_funct3 x h0 h1 _).mono ?_; rintro e w' ⟨rfl, rfl⟩) | (go_at_call 29; refine (l_funct7 x h0 h1 _).mono ?_; rintro e w' ⟨rfl, rfl⟩))
  go_ret
  exact ⟨rfl, rfl⟩
theorem shift_1n (x : Int) (h0 : 0 ≤ x) (h1 : x ≤ 4294967295) (h : f3 x = 1) (h2 : ¬ f7 x = 0) (w : World) :
    Calls Tryd.prog 28 #[.int .u32 x] w fun e w' => e = .returned (.int .i64 (-1)) ∧ w' = w := by
  have b2 : (f7 x == 0) = false := by simpa using h2
  go_enter Tryd.func28, Tryd.ntmps28
  go_wp2_with (first | (go_at_call 18; refine (l_funct3 x h0 h1 _).mono ?_; rintro e w' ⟨rfl, rfl⟩) | (go_at_call 29; refine (l_funct7 x h0 h1 _).mono ?_; rintro e w' ⟨rfl, rfl⟩))
  go_ret
  exact ⟨rfl, rfl⟩
theorem shift_50 (x : Int) (h0 : 0 ≤ x) (h1 : x ≤ 4294967295) (h : f3 x = 5) (h2 : f7 x = 0) (w : World) :
    Calls Tryd.prog 28 #[.int .u32 x] w fun e w' => e = .returned (.int .i64 25) ∧ w' = w := by
  go_enter Tryd.func28, Tryd.ntmps28
  go_wp2_with (first | (go_at_call 18; refine (l_funct3 x h0 h1 _).mono ?_; rintro e w' ⟨rfl, rfl⟩) | (go_at_call 29; refine (l_funct7 x h0 h1 _).mono ?_; rintro e w' ⟨rfl, rfl⟩))
  go_ret
  exact ⟨rfl, rfl⟩
theorem shift_5t (x : Int) (h0 : 0 ≤ x) (h1 : x ≤ 4294967295) (h : f3 x = 5) (h2 : f7 x = 32) (w : World) :
    Calls Tryd.prog 28 #[.int .u32 x] w fun e w' => e = .returned (.int .i64 26) ∧ w' = w := by
  go_enter Tryd.func28, Tryd.ntmps28
  go_wp2_with (first | (go_at_call 18; refine (l_funct3 x h0 h1 _).mono ?_; rintro e w' ⟨rfl, rfl⟩) | (go_at_call 29; refine (l_funct7 x h0 h1 _).mono ?_; rintro e w' ⟨rfl, rfl⟩))
  go_ret
  exact ⟨rfl, rfl⟩
theorem shift_5n (x : Int) (h0 : 0 ≤ x) (h1 : x ≤ 4294967295) (h : f3 x = 5) (h2 : ¬ f7 x = 0) (h3 : ¬ f7 x = 32) (w : World) :
    Calls Tryd.prog 28 #[.int .u32 x] w fun e w' => e = .returned (.int .i64 (-1)) ∧ w' = w := by
  have b2 : (f7 x == 0) = false := by simpa using h2
  have b3 : (f7 x == 32) = false := by simpa using h3
  go_enter Tryd.func28, Tryd.ntmps28
  go_wp2_with (first | (go_at_call 18; refine (l_funct3 x h0 h1 _).mono ?_; rintro e w' ⟨rfl, rfl⟩) | (go_at_call 29; refine (l_funct7 x h0 h1 _).mono ?_; rintro e w' ⟨rfl, rfl⟩))
  go_ret
  exact ⟨rfl, rfl⟩
theorem reg_0 (x : Int) (h0 : 0 ≤ x) (h1 : x ≤ 4294967295) (h : f7 x = 0) (w : World) (hc : w.cell? ⟨4, (f3 x).toNat, none⟩ = some (.int .i64 (at8 T330 x))) :
    Calls Tryd.prog 23 #[.int .u32 x] w fun e w' => e = .returned (.int .i64 (at8 T330 x)) ∧ w' = w := by
  have c3 := (f3_bd x).1
  have c4 := (f3_bd x).2
  go_enter Tryd.func23, Tryd.ntmps23
  go_wp2_with (first | (go_at_call 18; refine (l_funct3 x h0 h1 _).mono ?_; rintro e w' ⟨rfl, rfl⟩) | (go_at_call 29; refine (l_funct7 x h0 h1 _).mono ?_; rintro e w' ⟨rfl, rfl⟩))
  go_ret
  exact ⟨rfl, rfl⟩
theorem reg_32 (x : Int) (h0 : 0 ≤ x) (h1 : x ≤ 4294967295) (h : f7 x = 32) (w : World) (hc : w.cell? ⟨5, (f3 x).toNat, none⟩ = some (.int .i64 (at8 T3320 x))) :
    Calls Tryd.prog 23 #[.int .u32 x] w fun e w' => e = .returned (.int .i64 (at8 T3320 x)) ∧ w' = w := by
  have c3 := (f3_bd x).1
  have c4 := (f3_bd x).2
  go_enter Tryd.func23, Tryd.ntmps23
  go_wp2_with (first | (go_at_call 18; refine (l_funct3 x h0 h1 _).mono ?_; rintro e w' ⟨rfl, rfl⟩) | (go_at_call 29; refine (l_funct7 x h0 h1 _).mono ?_; rintro e w' ⟨rfl, rfl⟩))
  go_ret
  exact ⟨rfl, rfl⟩
theorem reg_1 (x : Int) (h0 : 0 ≤ x) (h1 : x ≤ 4294967295) (h : f7 x = 1) (w : World) (hc : w.cell? ⟨6, (f3 x).toNat, none⟩ = some (.int .i64 (at8 T331 x))) :
    Calls Tryd.prog 23 #[.int .u32 x] w fun e w' => e = .returned (.int .i64 (at8 T331 x)) ∧ w' = w := by
  have c3 := (f3_bd x).1
  have c4 := (f3_bd x).2
  go_enter Tryd.func23, Tryd.ntmps23
  go_wp2_with (first | (go_at_call 18; refine (l_funct3 x h0 h1 _).mono ?_; rintro e w' ⟨rfl, rfl⟩) | (go_at_call 29; refine (l_funct7 x h0 h1 _).mono ?_; rintro e w' ⟨rfl, rfl⟩))
  go_ret
  exact ⟨rfl, rfl⟩
theorem reg_n (x : Int) (h0 : 0 ≤ x) (h1 : x ≤ 4294967295) (h : ¬ f7 x = 0) (h2 : ¬ f7 x = 1) (h3 : ¬ f7 x = 32) (w : World) :
    Calls Tryd.prog 23 #[.int .u32 x] w fun e w' => e = .returned (.int .i64 (-1)) ∧ w' = w := by
  go_enter Tryd.func23, Tryd.ntmps23
  go_wp2_with (first | (go_at_call 18; refine (l_funct3 x h0 h1 _).mono ?_; rintro e w' ⟨rfl, rfl⟩) | (go_at_call 29; refine (l_funct7 x h0 h1 _).mono ?_; rintro e w' ⟨rfl, rfl⟩))
  go_ret
  exact ⟨rfl, rfl⟩
end Go.Proofs.YtjikimpejlmdiaaDoor.decodes
