import Derived.Test.YtjikimpejlmdiaaDoorDecW1
import Derived.WalkSmall
import Derived.Deep.RegionHeld3
import Derived.Deep.DrawnRows
namespace Go.Proofs.YtjikimpejlmdiaaDoor.decodes
open Go.ChangeShapes Go.WideShapes Go.ChangeAt Go.RowKit Go.Proofs.YtjikimpejlmdiaaDoor.dnums
set_option linter.unusedVariables false
set_option linter.unusedSimpArgs false
attribute [local go_sem ↓] Go.wp_at_zero Go.wp_at_succ
set_option maxRecDepth 10000 in
set_option maxHeartbeats 2000000 in
theorem wi_10 (x : Int) (h0 : 0 ≤ x) (h1 : x ≤ 4294967295) (hop : opc x = 19) (h : f3 x = 1) (h2 : f7 x = 0) (w : World) (hz : 3 < w.heap.size) (hc : w.cell? ⟨3, (f3 x).toNat, none⟩ = some (.int .i64 (at8 T13 x))) :
    Calls Tryd.prog 22 #[.int .u32 x] w fun e w' => e = .returned (raw x) ∧ Below w.heap.size w w' := by
  have c3 := (f3_bd x).1
  have c4 := (f3_bd x).2
  have c7 := (r2_bd x).1
  have c8 := (r2_bd x).2
  have HD : Hid (raw x = .agg #[.int .i64 24, .int .i64 (rdf x), .int .i64 (r1 x), .int .i64 0, .int .i32 (r2 x)]) := raw_is x _ _ _ _ _ (by simp [opn, hop, sh, h, h2]) (by simp [qRd, hasRd, hop]) (by simp [qR1, hasR1, hop]) (by simp [qR2, hasR2, hop]) (by simp [imm, hop, sh, h, h2])
  have ht := (t13 x).1 (by omega)
  have hc1 : w.cell? ⟨3, 1, none⟩ = some (.int .i64 (-1)) := by rw [h, ht] at hc; exact hc
  clear hc ht
  have hne := World.new_ne w _ hc1
  have c5 : f3 x < 8 := by omega
  go_enter Tryd.func22, Tryd.ntmps22
  go_wp2_with (first | (go_at_call 11; refine (l_opcode x h0 h1 _).mono ?_; rintro e w' ⟨rfl, rfl⟩) | (go_at_call 12; refine (l_rd x h0 h1 _).mono ?_; rintro e w' ⟨rfl, rfl⟩) | (go_at_call 16; refine (l_rs1 x h0 h1 _).mono ?_; rintro e w' ⟨rfl, rfl⟩) | (go_at_call 19; refine (l_rs2 x h0 h1 _).mono ?_; rintro e w' ⟨rfl, rfl⟩) | (go_at_call 18; refine (l_funct3 x h0 h1 _).mono ?_; rintro e w' ⟨rfl, rfl⟩) | (go_at_call 13; refine (l_immediateU x h0 h1 _).mono ?_; rintro e w' ⟨rfl, rfl⟩) | (go_at_call 17; refine (l_immediateI x h0 h1 _).mono ?_; rintro e w' ⟨rfl, rfl⟩) | (go_at_call 14; refine (l_immediateJ x h0 h1 _).mono ?_; rintro e w' ⟨rfl, rfl⟩) | (go_at_call 20; refine (l_immediateB x h0 h1 _).mono ?_; rintro e w' ⟨rfl, rfl⟩) | (go_at_call 21; refine (l_immediateS x h0 h1 _).mono ?_; rintro e w' ⟨rfl, rfl⟩))
  go_region_held3 (fun w' => w'.cell? ⟨3, 1, none⟩ = some (.int .i64 (-1))) (go_keep) (first | (go_at_call 11; refine (l_opcode x h0 h1 _).mono ?_; rintro e w' ⟨rfl, rfl⟩) | (go_at_call 12; refine (l_rd x h0 h1 _).mono ?_; rintro e w' ⟨rfl, rfl⟩) | (go_at_call 16; refine (l_rs1 x h0 h1 _).mono ?_; rintro e w' ⟨rfl, rfl⟩) | (go_at_call 19; refine (l_rs2 x h0 h1 _).mono ?_; rintro e w' ⟨rfl, rfl⟩) | (go_at_call 18; refine (l_funct3 x h0 h1 _).mono ?_; rintro e w' ⟨rfl, rfl⟩) | (go_at_call 13; refine (l_immediateU x h0 h1 _).mono ?_; rintro e w' ⟨rfl, rfl⟩) | (go_at_call 17; refine (l_immediateI x h0 h1 _).mono ?_; rintro e w' ⟨rfl, rfl⟩) | (go_at_call 14; refine (l_immediateJ x h0 h1 _).mono ?_; rintro e w' ⟨rfl, rfl⟩) | (go_at_call 20; refine (l_immediateB x h0 h1 _).mono ?_; rintro e w' ⟨rfl, rfl⟩) | (go_at_call 21; refine (l_immediateS x h0 h1 _).mono ?_; rintro e w' ⟨rfl, rfl⟩))
  all_goals
    go_wp2_with (first | (go_at_call 18; refine (l_funct3 x h0 h1 _).mono ?_; rintro e w' ⟨rfl, rfl⟩) | (go_at_call 28; refine (shift_10 x h0 h1 h h2 _).mono ?_; rintro e w' ⟨rfl, rfl⟩) | (go_at_call 26; refine (field20 x h0 h1 _).mono ?_; rintro e w' ⟨rfl, rfl⟩))
    refine bodyPost_ret (v := raw x) ?_ rfl ⟨rfl, ?_⟩
    · rw [HD.out]; simp [results, Tryd.results22, go_sem]
    · (repeat' (first | with_reducible exact Below.refl _ _ | with_reducible apply below_drewN | with_reducible apply Below.drew | with_reducible apply Below.alloc | with_reducible apply Below.setCell)) <;> (first | (simp; done) | (simp; omega))
end Go.Proofs.YtjikimpejlmdiaaDoor.decodes
