import Derived.Test.YtjikimpejlmdiaaGreatDoorWGp
import Derived.Test.YtjikimpejlmdiaaGreatDoorWGa
import Derived.Deep.MidRow
set_option maxHeartbeats 4000000
set_option linter.unusedVariables false
set_option linter.unusedSimpArgs false
namespace Go.Proofs.YtjikimpejlmdiaaGreatDoor
namespace ref
open ChangeShapes WideShapes ChangeAt RowKit nums dnums mach
theorem good_start (pg : Int) (im : ByteArray) (ba en : Int) (ans : List ByteArray) (fu sl ar : Int) (bl : Bool) (ba0 : 0 <= ba) (en0 : 0 <= en) (en1 : en <= 4294967295) (h : wrong pg im ba fu sl ar bl = 0) : MGood (start pg im ba en ans fu sl ar bl) /\ 1 <= pg /\ pg <= 8 /\ (im.size : Int) <= pg * 64 /\ ba <= pg * 64 - im.size /\ 0 <= fu /\ fu <= 2000 := by
  unfold wrong at h
  by_cases c1 : pg < 1 \/ 8 < pg
  · rw [if_pos c1] at h; omega
  rw [if_neg c1] at h
  by_cases c2 : pg * 64 < im.size \/ pg * 64 - im.size < ba
  · rw [if_pos c2] at h; omega
  rw [if_neg c2] at h
  by_cases c3 : fu < 0 \/ 2000 < fu
  · rw [if_pos c3] at h; omega
  refine ⟨⟨⟨fun r => ?_, rfl, put_bd _ (fun i => ⟨by decide, by decide⟩) _ _, ?_, ⟨en0, en1⟩, ?_, ?_, ?_, ?_, ?_⟩, ?_, ?_, ?_⟩, by omega, by omega, by omega, by omega, by omega, by omega⟩
  · show (0 : Int) <= 0 /\ (0 : Int) <= 4294967295; omega
  · show (pg * 64).toNat <= 512; omega
  · show 0 <= ba + im.size /\ ba + im.size <= 4294967295; omega
  · show 0 <= ba + im.size /\ ba + im.size <= (((pg * 64).toNat : Nat) : Int); omega
  · show (0 : Int) <= 0; omega
  · show 0 <= fu /\ fu <= 2000; omega
  · show 0 <= fu; omega
  · show 0 < (pg * 64).toNat; omega
  · show ((([] : List Ev).length : Nat) : Int) <= 0; simp
  · show (0 : Int) <= 0 /\ (0 : Int) <= 4294967295; omega
end ref
namespace ref
open ChangeShapes WideShapes ChangeAt RowKit nums dnums mach
attribute [local go_sem ↓] Go.wp_at_zero Go.wp_at_succ
def rep0 : Array Value := #[.int .i64 0, .int .u32 0, .int .u32 0, .int .u32 0, .int .u32 0, .int .u32 0, .int .u32 0, .int .u32 0, .int .u32 0, .int .u32 0, .int .u32 0, .int .u32 0, .int .u32 0, .int .u32 0, .int .u32 0, .int .u32 0, .int .u32 0, .int .u32 0, .int .u32 0, .int .u32 0, .int .u32 0, .int .u32 0, .int .u32 0, .int .u32 0, .int .u32 0, .int .u32 0, .int .u32 0, .int .u32 0, .int .u32 0, .int .u32 0, .int .u32 0, .int .u32 0, .int .u32 0, .int .u32 0, .int .u32 0, .string ⟨#[]⟩, .slice none 0 0, .int .i64 0, .int .i64 0]
theorem rep0_one : rep0.all (·.oneCell') = true := by simp [rep0, Value.oneCell']
theorem info_rep : (Tryz.prog.info? 32).map (·.size) = some 39 := by kernel_rfl
theorem own_base {w : World} {B B' e size n : Nat} {v : Value} {xs : List Value} (h : w.ownsRow B e size v n xs) (hb : B' <= B) : w.ownsRow B' e size v n xs := by
  refine ⟨h.1, ?_⟩
  rcases h.2 with hn | ⟨g, cap, cur, rfl, hb2, rest⟩
  · exact .inl hn
  · exact .inr ⟨g, cap, cur, rfl, Nat.le_trans hb hb2, rest⟩
theorem two_new (w : World) (o1 o2 : Obj) : ((w.alloc o1).alloc o2).heap[w.heap.size + 1]? = some o2 := by
  have := heap_alloc_new (w.alloc o1) o2
  rwa [show (w.alloc o1).heap.size = w.heap.size + 1 from by simp] at this
theorem there_of {w w' : World} {g n : Nat} {cs : Array Value} {t : TypeId} (h : w.heap[g]? = some (.cells cs t (0, 0))) (hn : cs.size = n) (hk : w'.heap[g]? = w.heap[g]?) : w'.there g 0 n := fun j hj => by
  rw [h] at hk
  refine ⟨?_, ?_⟩
  · rw [cell_of_row w' g (0 + j) cs t (0, 0) hk]; simp; omega
  · unfold World.frozen?; simp [hk]
theorem mrun_start (pg : Int) (im : ByteArray) (ba en : Int) (ans : List ByteArray) (fu sl ar : Int) (ba0 : 0 <= ba) (en0 : 0 <= en) (en1 : en <= 4294967295) (h : wrong pg im ba fu sl ar false = 0) : MRun (start pg im ba en ans fu sl ar false) (start pg im ba en ans fu sl ar false) :=
  ⟨(good_start pg im ba en ans fu sl ar false ba0 en0 en1 h).1, rfl, Int.le_refl _, fun _ => Int.le_refl _, ⟨0, rfl⟩, rfl, rfl⟩
theorem there_below {w w' : World} {B g n : Nat} (h : w.there g 0 n) (hn : 0 < n) (hb : Below B w w') (hg : g < B) : w'.there g 0 n := fun j hj => by
  obtain ⟨h1, h2⟩ := h j hj
  have e := hb.block g hg
  exact ⟨by rw [World.cell?_of_block (w := w) (a := ⟨g, 0 + j, none⟩) e]; exact h1, by rw [World.frozen?_of_block (w := w) (a := ⟨g, 0 + j, none⟩) e]; exact h2⟩
theorem own_slice {w : World} {base e size n : Nat} {v : Value} {xs : List Value} (h : w.ownsRow base e size v n xs) : ∃ o k c, v = .slice o k c := by
  rcases h.2 with ⟨rfl, _⟩ | ⟨g, cap, cur, rfl, _⟩
  · exact ⟨_, _, _, rfl⟩
  · exact ⟨_, _, _, rfl⟩
theorem own_one {w : World} {base e size n : Nat} {v : Value} {xs : List Value} (h : w.ownsRow base e size v n xs) : v.oneCell' = true := by
  rcases h.2 with ⟨rfl, _⟩ | ⟨g, cap, cur, rfl, _⟩ <;> rfl
end ref
end Go.Proofs.YtjikimpejlmdiaaGreatDoor
