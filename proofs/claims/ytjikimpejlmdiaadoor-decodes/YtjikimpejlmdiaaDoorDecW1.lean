import Derived.Test.YtjikimpejlmdiaaDoorDecM
import Derived.WalkSmall
import Derived.Deep.RegionHeld3
import Derived.Deep.DrawnRows
namespace Go.Proofs.YtjikimpejlmdiaaDoor.decodes
open Go.ChangeShapes Go.WideShapes Go.ChangeAt Go.RowKit Go.Proofs.YtjikimpejlmdiaaDoor.dnums
set_option linter.unusedVariables false
set_option linter.unusedSimpArgs false
attribute [local go_sem ↓] Go.wp_at_zero Go.wp_at_succ
theorem t13 (x : Int) : (f3 x = 1 ∨ f3 x = 5 → at8 T13 x = -1) ∧ (¬ f3 x = 1 → ¬ f3 x = 5 → ¬ at8 T13 x = -1) := by
  unfold at8
  rcases f3_all x with e | e | e | e | e | e | e | e <;> rw [e] <;> simp [T13]
set_option maxRecDepth 10000 in
set_option maxHeartbeats 2000000 in
theorem wi_plain (x : Int) (h0 : 0 ≤ x) (h1 : x ≤ 4294967295) (hop : opc x = 19) (hm : ¬ f3 x = 1) (hn : ¬ f3 x = 5) (w : World) (hz : 3 < w.heap.size) (hc : w.cell? ⟨3, (f3 x).toNat, none⟩ = some (.int .i64 (at8 T13 x))) :
    Calls Tryd.prog 22 #[.int .u32 x] w fun e w' => e = .returned (raw x) ∧ Below w.heap.size w w' := by
  have c3 := (f3_bd x).1
  have c4 := (f3_bd x).2
  have c7 := (r2_bd x).1
  have c8 := (r2_bd x).2
  have HD : Hid (raw x = .agg #[.int .i64 (at8 T13 x), .int .i64 (rdf x), .int .i64 (r1 x), .int .i64 0, .int .i32 (immI x)]) := raw_is x _ _ _ _ _ (by simp [opn, hop, hm, hn]) (by simp [qRd, hasRd, hop]) (by simp [qR1, hasR1, hop]) (by simp [qR2, hasR2, hop]) (by simp [imm, hop, hm, hn])
  have ht := (t13 x).2 hm hn
  have ht2 : (at8 T13 x == -1) = false := by simpa using ht
  have hne := World.new_ne w _ hc
  have c5 : f3 x < 8 := by omega
  go_enter Tryd.func22, Tryd.ntmps22
  go_wp2_with (first | (go_at_call 11; refine (l_opcode x h0 h1 _).mono ?_; rintro e w' ⟨rfl, rfl⟩) | (go_at_call 12; refine (l_rd x h0 h1 _).mono ?_; rintro e w' ⟨rfl, rfl⟩) | (go_at_call 16; refine (l_rs1 x h0 h1 _).mono ?_; rintro e w' ⟨rfl, rfl⟩) | (go_at_call 19; refine (l_rs2 x h0 h1 _).mono ?_; rintro e w' ⟨rfl, rfl⟩) | (go_at_call 18; refine (l_funct3 x h0 h1 _).mono ?_; rintro e w' ⟨rfl, rfl⟩) | (go_at_call 13; refine (l_immediateU x h0 h1 _).mono ?_; rintro e w' ⟨rfl, rfl⟩) | (go_at_call 17; refine (l_immediateI x h0 h1 _).mono ?_; rintro e w' ⟨rfl, rfl⟩) | (go_at_call 14; refine (l_immediateJ x h0 h1 _).mono ?_; rintro e w' ⟨rfl, rfl⟩) | (go_at_call 20; refine (l_immediateB x h0 h1 _).mono ?_; rintro e w' ⟨rfl, rfl⟩) | (go_at_call 21; refine (l_immediateS x h0 h1 _).mono ?_; rintro e w' ⟨rfl, rfl⟩))
  go_region_held3 (fun w' => w'.cell? ⟨3, (f3 x).toNat, none⟩ = some (.int .i64 (at8 T13 x))) (go_keep) (first | (go_at_call 11; refine (l_opcode x h0 h1 _).mono ?_; rintro e w' ⟨rfl, rfl⟩) | (go_at_call 12; refine (l_rd x h0 h1 _).mono ?_; rintro e w' ⟨rfl, rfl⟩) | (go_at_call 16; refine (l_rs1 x h0 h1 _).mono ?_; rintro e w' ⟨rfl, rfl⟩) | (go_at_call 19; refine (l_rs2 x h0 h1 _).mono ?_; rintro e w' ⟨rfl, rfl⟩) | (go_at_call 18; refine (l_funct3 x h0 h1 _).mono ?_; rintro e w' ⟨rfl, rfl⟩) | (go_at_call 13; refine (l_immediateU x h0 h1 _).mono ?_; rintro e w' ⟨rfl, rfl⟩) | (go_at_call 17; refine (l_immediateI x h0 h1 _).mono ?_; rintro e w' ⟨rfl, rfl⟩) | (go_at_call 14; refine (l_immediateJ x h0 h1 _).mono ?_; rintro e w' ⟨rfl, rfl⟩) | (go_at_call 20; refine (l_immediateB x h0 h1 _).mono ?_; rintro e w' ⟨rfl, rfl⟩) | (go_at_call 21; refine (l_immediateS x h0 h1 _).mono ?_; rintro e w' ⟨rfl, rfl⟩))
  all_goals
    go_wp2_with (first | (go_at_call 18; refine (l_funct3 x h0 h1 _).mono ?_; rintro e w' ⟨rfl, rfl⟩))
    refine bodyPost_ret (v := raw x) ?_ rfl ⟨rfl, ?_⟩
    · rw [HD.out]; simp [results, Tryd.results22, go_sem]
    · (repeat' (first | with_reducible exact Below.refl _ _ | with_reducible apply below_drewN | with_reducible apply Below.drew | with_reducible apply Below.alloc | with_reducible apply Below.setCell)) <;> (first | (simp; done) | (simp; omega))
end Go.Proofs.YtjikimpejlmdiaaDoor.decodes
