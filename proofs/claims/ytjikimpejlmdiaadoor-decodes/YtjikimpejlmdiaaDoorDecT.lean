import Derived.Test.YtjikimpejlmdiaaDoorDecA
import Derived.WalkSmall
import Derived.Deep.RegionWith
namespace Go.Proofs.YtjikimpejlmdiaaDoor.decodes
open Go.ChangeShapes Go.WideShapes Go.ChangeAt Go.RowKit Go.Proofs.YtjikimpejlmdiaaDoor.dnums
set_option linter.unusedVariables false
set_option linter.unusedSimpArgs false
theorem hit_T63 (x : Int) (h : ¬ at8 T63 x = -1) : f3 x < 8 ∧ (#[Value.int IntKind.i64 4, Value.int IntKind.i64 5, Value.int IntKind.i64 99, Value.int IntKind.i64 99, Value.int IntKind.i64 6, Value.int IntKind.i64 7, Value.int IntKind.i64 8, Value.int IntKind.i64 9] : Array Value)[(f3 x).toNat]? = some (.int .i64 (at8 T63 x)) ∧ ¬ at8 T63 x = 99 := by
  unfold at8 at h ⊢
  rcases f3_all x with e | e | e | e | e | e | e | e <;> rw [e] at h ⊢ <;> revert h <;> simp [T63]
theorem no_T63 (x : Int) (h : at8 T63 x = -1) : (8 : Int) ≤ f3 x ∨ (f3 x < 8 ∧ (#[Value.int IntKind.i64 4, Value.int IntKind.i64 5, Value.int IntKind.i64 99, Value.int IntKind.i64 99, Value.int IntKind.i64 6, Value.int IntKind.i64 7, Value.int IntKind.i64 8, Value.int IntKind.i64 9] : Array Value)[(f3 x).toNat]? = some (.int .i64 99)) := by
  unfold at8 at h
  rcases f3_all x with e | e | e | e | e | e | e | e <;> rw [e] at h ⊢ <;> revert h <;> simp [T63]
theorem hit_T03 (x : Int) (h : ¬ at8 T03 x = -1) : f3 x < 6 ∧ (#[Value.int IntKind.i64 10, Value.int IntKind.i64 11, Value.int IntKind.i64 12, Value.int IntKind.i64 99, Value.int IntKind.i64 13, Value.int IntKind.i64 14] : Array Value)[(f3 x).toNat]? = some (.int .i64 (at8 T03 x)) ∧ ¬ at8 T03 x = 99 := by
  unfold at8 at h ⊢
  rcases f3_all x with e | e | e | e | e | e | e | e <;> rw [e] at h ⊢ <;> revert h <;> simp [T03]
theorem no_T03 (x : Int) (h : at8 T03 x = -1) : (6 : Int) ≤ f3 x ∨ (f3 x < 6 ∧ (#[Value.int IntKind.i64 10, Value.int IntKind.i64 11, Value.int IntKind.i64 12, Value.int IntKind.i64 99, Value.int IntKind.i64 13, Value.int IntKind.i64 14] : Array Value)[(f3 x).toNat]? = some (.int .i64 99)) := by
  unfold at8 at h
  rcases f3_all x with e | e | e | e | e | e | e | e <;> rw [e] at h ⊢ <;> revert h <;> simp [T03]
theorem hit_T23 (x : Int) (h : ¬ at8 T23 x = -1) : f3 x < 3 ∧ (#[Value.int IntKind.i64 15, Value.int IntKind.i64 16, Value.int IntKind.i64 17] : Array Value)[(f3 x).toNat]? = some (.int .i64 (at8 T23 x)) ∧ ¬ at8 T23 x = 99 := by
  unfold at8 at h ⊢
  rcases f3_all x with e | e | e | e | e | e | e | e <;> rw [e] at h ⊢ <;> revert h <;> simp [T23]
theorem no_T23 (x : Int) (h : at8 T23 x = -1) : (3 : Int) ≤ f3 x ∨ (f3 x < 3 ∧ (#[Value.int IntKind.i64 15, Value.int IntKind.i64 16, Value.int IntKind.i64 17] : Array Value)[(f3 x).toNat]? = some (.int .i64 99)) := by
  unfold at8 at h
  rcases f3_all x with e | e | e | e | e | e | e | e <;> rw [e] at h ⊢ <;> revert h <;> simp [T23]
theorem hit_T13 (x : Int) (h : ¬ at8 T13 x = -1) : f3 x < 8 ∧ (#[Value.int IntKind.i64 18, Value.int IntKind.i64 99, Value.int IntKind.i64 19, Value.int IntKind.i64 20, Value.int IntKind.i64 21, Value.int IntKind.i64 99, Value.int IntKind.i64 22, Value.int IntKind.i64 23] : Array Value)[(f3 x).toNat]? = some (.int .i64 (at8 T13 x)) ∧ ¬ at8 T13 x = 99 := by
  unfold at8 at h ⊢
  rcases f3_all x with e | e | e | e | e | e | e | e <;> rw [e] at h ⊢ <;> revert h <;> simp [T13]
theorem no_T13 (x : Int) (h : at8 T13 x = -1) : (8 : Int) ≤ f3 x ∨ (f3 x < 8 ∧ (#[Value.int IntKind.i64 18, Value.int IntKind.i64 99, Value.int IntKind.i64 19, Value.int IntKind.i64 20, Value.int IntKind.i64 21, Value.int IntKind.i64 99, Value.int IntKind.i64 22, Value.int IntKind.i64 23] : Array Value)[(f3 x).toNat]? = some (.int .i64 99)) := by
  unfold at8 at h
  rcases f3_all x with e | e | e | e | e | e | e | e <;> rw [e] at h ⊢ <;> revert h <;> simp [T13]
theorem hit_T330 (x : Int) (h : ¬ at8 T330 x = -1) : f3 x < 8 ∧ (#[Value.int IntKind.i64 27, Value.int IntKind.i64 29, Value.int IntKind.i64 30, Value.int IntKind.i64 31, Value.int IntKind.i64 32, Value.int IntKind.i64 33, Value.int IntKind.i64 35, Value.int IntKind.i64 36] : Array Value)[(f3 x).toNat]? = some (.int .i64 (at8 T330 x)) ∧ ¬ at8 T330 x = 99 := by
  unfold at8 at h ⊢
  rcases f3_all x with e | e | e | e | e | e | e | e <;> rw [e] at h ⊢ <;> revert h <;> simp [T330]
theorem all_T330 (x : Int) : ¬ at8 T330 x = -1 := by
  unfold at8
  rcases f3_all x with e | e | e | e | e | e | e | e <;> rw [e] <;> simp [T330]
theorem hit_T331 (x : Int) (h : ¬ at8 T331 x = -1) : f3 x < 8 ∧ (#[Value.int IntKind.i64 37, Value.int IntKind.i64 38, Value.int IntKind.i64 39, Value.int IntKind.i64 40, Value.int IntKind.i64 41, Value.int IntKind.i64 42, Value.int IntKind.i64 43, Value.int IntKind.i64 44] : Array Value)[(f3 x).toNat]? = some (.int .i64 (at8 T331 x)) ∧ ¬ at8 T331 x = 99 := by
  unfold at8 at h ⊢
  rcases f3_all x with e | e | e | e | e | e | e | e <;> rw [e] at h ⊢ <;> revert h <;> simp [T331]
theorem all_T331 (x : Int) : ¬ at8 T331 x = -1 := by
  unfold at8
  rcases f3_all x with e | e | e | e | e | e | e | e <;> rw [e] <;> simp [T331]
theorem hit_T3320 (x : Int) (h : ¬ at8 T3320 x = -1) : f3 x < 6 ∧ (#[Value.int IntKind.i64 28, Value.int IntKind.i64 99, Value.int IntKind.i64 99, Value.int IntKind.i64 99, Value.int IntKind.i64 99, Value.int IntKind.i64 34] : Array Value)[(f3 x).toNat]? = some (.int .i64 (at8 T3320 x)) ∧ ¬ at8 T3320 x = 99 := by
  unfold at8 at h ⊢
  rcases f3_all x with e | e | e | e | e | e | e | e <;> rw [e] at h ⊢ <;> revert h <;> simp [T3320]
theorem no_T3320 (x : Int) (h : at8 T3320 x = -1) : (6 : Int) ≤ f3 x ∨ (f3 x < 6 ∧ (#[Value.int IntKind.i64 28, Value.int IntKind.i64 99, Value.int IntKind.i64 99, Value.int IntKind.i64 99, Value.int IntKind.i64 99, Value.int IntKind.i64 34] : Array Value)[(f3 x).toNat]? = some (.int .i64 99)) := by
  unfold at8 at h
  rcases f3_all x with e | e | e | e | e | e | e | e <;> rw [e] at h ⊢ <;> revert h <;> simp [T3320]
theorem hit_T0F (x : Int) (h : ¬ at8 T0F x = -1) : f3 x < 2 ∧ (#[Value.int IntKind.i64 45, Value.int IntKind.i64 45] : Array Value)[(f3 x).toNat]? = some (.int .i64 (at8 T0F x)) ∧ ¬ at8 T0F x = 99 := by
  unfold at8 at h ⊢
  rcases f3_all x with e | e | e | e | e | e | e | e <;> rw [e] at h ⊢ <;> revert h <;> simp [T0F]
theorem no_T0F (x : Int) (h : at8 T0F x = -1) : (2 : Int) ≤ f3 x ∨ (f3 x < 2 ∧ (#[Value.int IntKind.i64 45, Value.int IntKind.i64 45] : Array Value)[(f3 x).toNat]? = some (.int .i64 99)) := by
  unfold at8 at h
  rcases f3_all x with e | e | e | e | e | e | e | e <;> rw [e] at h ⊢ <;> revert h <;> simp [T0F]
theorem hit_T67 (x : Int) (h : ¬ at8 T67 x = -1) : f3 x < 1 ∧ (#[Value.int IntKind.i64 3] : Array Value)[(f3 x).toNat]? = some (.int .i64 (at8 T67 x)) ∧ ¬ at8 T67 x = 99 := by
  unfold at8 at h ⊢
  rcases f3_all x with e | e | e | e | e | e | e | e <;> rw [e] at h ⊢ <;> revert h <;> simp [T67]
theorem no_T67 (x : Int) (h : at8 T67 x = -1) : (1 : Int) ≤ f3 x ∨ (f3 x < 1 ∧ (#[Value.int IntKind.i64 3] : Array Value)[(f3 x).toNat]? = some (.int .i64 99)) := by
  unfold at8 at h
  rcases f3_all x with e | e | e | e | e | e | e | e <;> rw [e] at h ⊢ <;> revert h <;> simp [T67]
end Go.Proofs.YtjikimpejlmdiaaDoor.decodes
