import Derived.Test.YtjikimpejlmdiaaGreatDoorWKpE
import Derived.OpenShut
import Derived.BigQuiet
import Derived.Deep.MidRow
import Derived.Deep.Cut
import Derived.Deep.CutRange
set_option maxHeartbeats 4000000
set_option linter.unusedVariables false
set_option linter.unusedSimpArgs false
set_option maxRecDepth 10000
namespace Go.Proofs.YtjikimpejlmdiaaGreatDoor
namespace keep
open IntWalk ChangeShapes WideShapes ChangeAt RowKit nums dnums mach
attribute [local go_sem ↓] Go.wp_at_zero Go.wp_at_succ
def chgC : List Int := [67117699, 5252131, 1049875, 1245971, 2098067, 4268955363, 1048691]
/-- The code, and so many zero bytes. -/
def padB (j : Nat) : ByteArray := ⟨(chgC.flatMap wordL ++ List.replicate j 0).toArray⟩
theorem pad_0 : padB 0 = textB chgC := by unfold padB textB; simp
theorem pad_size (j : Nat) : (padB j).size = 28 + j := by
  have : (chgC.flatMap wordL).length = 28 := rfl
  simp [padB, ByteArray.size, this]
theorem pad_succ (j : Nat) : padB j ++ ByteArray.mk #[0] = padB (j + 1) := by
  have := bytes_append (chgC.flatMap wordL ++ List.replicate j 0) [0]
  unfold padB
  rw [List.replicate_succ', <- List.append_assoc, <- this]
theorem chg_text (v : Int) : padB 36 ++ wordB (1299 + v * 1048576) = textB (chgL v) := by
  have e : padB 36 = textB (chgC ++ [0, 0, 0, 0, 0, 0, 0, 0, 0]) := by decide +kernel
  rw [e, text_snoc]; rfl
theorem or_flip (a b : Int) (a0 : 0 <= a) (a1 : a < 4294967296) (b0 : 0 <= b) (b1 : b < 4294967296) : bits BinOp.or IntKind.u32 a b = bits BinOp.or IntKind.u32 b a := by
  rw [u32_or a b a0 a1 b0 b1, u32_or b a b0 b1 a0 a1, Nat.or_comm]
theorem chg_w0 {v sl ar : Int} (b : Bool) (s0 : 1 <= sl) (s1 : sl <= 64) (r0 : 8 <= ar) (r1 : ar <= 256) : ref.wrong 2 (textB (chgL v)) 0 100 sl ar b = 0 := by
  have hs : (textB (chgL v)).size = 68 := text_size _
  unfold ref.wrong
  rw [hs, if_neg oM, if_neg oM, if_neg oM, if_neg oM]
theorem chg_i {v sl ar : Int} {m : M} {o er : Int} (v0 : 0 <= v) (v1 : v < 2048) (h : Res 2 (textB (chgL v)) 0 0 100 sl ar [] m o er) : er = 0 /\ m.regs 10 = v := by
  have hr := chg_run _ v v0 v1 (chg_start v sl ar v0 v1)
  rcases h with ⟨_, h1, h2, h3, h4⟩ | ⟨h0, _⟩
  · obtain ⟨k, hk⟩ := h1.reach
    rw [hk] at h2
    have e := run_one k 13 _ h2 hr.1
    exact ⟨h4, by rw [hk, e]; exact hr.2.2.1⟩
  · have hs : (textB (chgL v)).size = 68 := text_size _
    refine absurd ?_ h0
    unfold ref.wrong
    rw [hs, if_neg oM, if_neg oM, if_neg oM, if_neg (fun q => by cases q.1)]
theorem chg_r {v sl ar : Int} {m : M} {o er : Int} (v0 : 0 <= v) (v1 : v < 2048) (s0 : 1 <= sl) (s1 : sl <= 64) (r0 : 8 <= ar) (r1 : ar <= 256) (h : ResB 2 (textB (chgL v)) 0 0 100 sl ar [] m o er) : er = 0 /\ o = 9 /\ m.regs 10 = v /\ m.regs 6 = 2 /\ 3 <= m.built := by
  have hst := chg_start v sl ar v0 v1
  have hr := chg_run _ v v0 v1 hst
  have hbr := (prog.brun_start 2 (textB (chgL v)) 0 0 [] 100 sl ar dC dC dC (chg_w0 true s0 s1 r0 r1)).1
  have hc : core (ref.start 2 (textB (chgL v)) 0 0 [] 100 sl ar false) = core (ref.start 2 (textB (chgL v)) 0 0 [] 100 sl ar true) := start_core _ _ _ _ _ _ _ _ _ _ _ _
  have hsl : ∀ i, (ref.start 2 (textB (chgL v)) 0 0 [] 100 sl ar true).slots i = (0, 0) := fun _ => rfl
  have hcu : (ref.start 2 (textB (chgL v)) 0 0 [] 100 sl ar true).cur = (0, 0) := rfl
  have hbu : (ref.start 2 (textB (chgL v)) 0 0 [] 100 sl ar true).built = 0 := rfl
  rcases h with ⟨_, h1, h2, h3, h4⟩ | ⟨h0, _⟩
  · obtain ⟨k, hk⟩ := h1.reach
    rw [hk] at h2
    clear h1
    generalize ref.start 2 (textB (chgL v)) 0 0 [] 100 sl ar true = S at *
    generalize ref.start 2 (textB (chgL v)) 0 0 [] 100 sl ar false = S0 at *
    have ea := core_eq (runs_alike hc 13 k hr.1 h2)
    have hb := chg_built S0 S v v0 v1 hst hc hbr hsl hcu hbu 6
    have e13 : (run 13 S).ended = true := by
      have e : core (run 13 S0) = core (run 13 S) := by rw [core_run, hc, <- core_run]
      rw [<- (core_eq e).2.2.2.2.2.2.2.2.2]; exact hr.1
    have e2 := run_one k 13 S h2 e13
    refine ⟨h4, by rw [h3, hk, <- ea.1]; exact hr.2.1, by rw [hk, <- ea.2.2.1]; exact hr.2.2.1, by rw [hk, <- ea.2.2.1]; exact hr.2.2.2, ?_⟩
    rw [hk, e2]; exact hb
  · exact absurd (chg_w0 true s0 s1 r0 r1) h0
theorem chg_cell (k : Nat) (x : Int) (hk : chgC[k]? = some x) : (#[.int .u32 67117699, .int .u32 5252131, .int .u32 1049875, .int .u32 1245971, .int .u32 2098067, .int .u32 4268955363, .int .u32 1048691] : Array Value)[k]? = some (.int .u32 x) := by
  have h7 : k < 7 := (List.getElem?_eq_some_iff.1 hk).1
  have : k = 0 \/ k = 1 \/ k = 2 \/ k = 3 \/ k = 4 \/ k = 5 \/ k = 6 := by omega
  rcases this with rfl | rfl | rfl | rfl | rfl | rfl | rfl <;> (injection hk with hk; subst hk; rfl)
theorem changed_any (k s a : Int) (w : World) (wk : (Lit.int .i64 k).wf = true) (ws : (Lit.int .i64 s).wf = true) (wa : (Lit.int .i64 a).wf = true) (hT : ∀ w' x, Below w.heap.size w w' -> decodes.Tabs w' x) :
    Calls Tryz.prog 10 #[.int .i64 k, .int .i64 s, .int .i64 a] w fun e w' => e = .returned (.bool true) /\ Below w.heap.size w w' := by
  have HTB : Hid (∀ w' x, Below w.heap.size w w' -> decodes.Tabs w' x) := hT
  clear hT
  have bk := bounds_i64 wk
  have bs := bounds_i64 ws
  have ba := bounds_i64 wa
  go_enter Tryz.func10, Tryz.ntmps10
  go_upto_if 16 with fail
  go_cut [0] from 15 (fun s wx => (∃ z : Int, 0 <= z /\ z <= 9223372036854775807 /\ s = .int .i64 z) /\ wx = w)
  case first =>
    by_cases hneg : k < 0
    · go_wp2_with fail
      go_meet
      exact ⟨⟨-(k + 1), by omega, by omega, by first | rfl | (simp; done) | (congr 1; omega)⟩, rfl⟩
    · have hpos : 0 <= k := by omega
      go_wp2_with fail
      go_meet
      exact ⟨⟨k, by omega, by omega, rfl⟩, rfl⟩
  case rest =>
  obtain ⟨⟨k1, k10, k11, rfl⟩, hwc⟩ := hcut
  replace hwc := hwc.symm
  subst hwc
  go_upto_if 21 with fail
  go_cut [1] from 15 (fun s wx => (∃ z : Int, 0 <= z /\ z <= 9223372036854775807 /\ s = .int .i64 z) /\ wx = w)
  case first =>
    by_cases hneg : s < 0
    · go_wp2_with fail
      go_meet
      exact ⟨⟨-(s + 1), by omega, by omega, by first | rfl | (simp; done) | (congr 1; omega)⟩, rfl⟩
    · have hpos : 0 <= s := by omega
      go_wp2_with fail
      go_meet
      exact ⟨⟨s, by omega, by omega, rfl⟩, rfl⟩
  case rest =>
  obtain ⟨⟨s1, s10, s11, rfl⟩, hwc⟩ := hcut
  replace hwc := hwc.symm
  subst hwc
  go_upto_if 26 with fail
  go_cut [2] from 15 (fun s wx => (∃ z : Int, 0 <= z /\ z <= 9223372036854775807 /\ s = .int .i64 z) /\ wx = w)
  case first =>
    by_cases hneg : a < 0
    · go_wp2_with fail
      go_meet
      exact ⟨⟨-(a + 1), by omega, by omega, by first | rfl | (simp; done) | (congr 1; omega)⟩, rfl⟩
    · have hpos : 0 <= a := by omega
      go_wp2_with fail
      go_meet
      exact ⟨⟨a, by omega, by omega, rfl⟩, rfl⟩
  case rest =>
  obtain ⟨⟨a1, a10, a11, rfl⟩, hwc⟩ := hcut
  replace hwc := hwc.symm
  subst hwc
  go_wp2_with fail
  have c00 : ((w.alloc (.cells #[.int .i64 2, .string ⟨#[]⟩, .int .u32 0, .int .u32 0, .slice none 0 0, .int .i64 100, .int .i64 (1 + s1 % 64), .int .i64 (8 + a1 % 249)] 25)).alloc (.cells #[.int .u32 67117699, .int .u32 5252131, .int .u32 1049875, .int .u32 1245971, .int .u32 2098067, .int .u32 4268955363, .int .u32 1048691] 22)).cell? ⟨w.heap.size, 0, none⟩ = some (.int .i64 2) := by rw [World.cell?_alloc_past _ _ _ sP, World.cell?_alloc_at _ _ _ _ rfl]; rfl
  have c01 : ((w.alloc (.cells #[.int .i64 2, .string ⟨#[]⟩, .int .u32 0, .int .u32 0, .slice none 0 0, .int .i64 100, .int .i64 (1 + s1 % 64), .int .i64 (8 + a1 % 249)] 25)).alloc (.cells #[.int .u32 67117699, .int .u32 5252131, .int .u32 1049875, .int .u32 1245971, .int .u32 2098067, .int .u32 4268955363, .int .u32 1048691] 22)).cell? ⟨w.heap.size, 1, none⟩ = some (.string ⟨#[]⟩) := by rw [World.cell?_alloc_past _ _ _ sP, World.cell?_alloc_at _ _ _ _ rfl]; rfl
  have c02 : ((w.alloc (.cells #[.int .i64 2, .string ⟨#[]⟩, .int .u32 0, .int .u32 0, .slice none 0 0, .int .i64 100, .int .i64 (1 + s1 % 64), .int .i64 (8 + a1 % 249)] 25)).alloc (.cells #[.int .u32 67117699, .int .u32 5252131, .int .u32 1049875, .int .u32 1245971, .int .u32 2098067, .int .u32 4268955363, .int .u32 1048691] 22)).cell? ⟨w.heap.size, 2, none⟩ = some (.int .u32 0) := by rw [World.cell?_alloc_past _ _ _ sP, World.cell?_alloc_at _ _ _ _ rfl]; rfl
  have c03 : ((w.alloc (.cells #[.int .i64 2, .string ⟨#[]⟩, .int .u32 0, .int .u32 0, .slice none 0 0, .int .i64 100, .int .i64 (1 + s1 % 64), .int .i64 (8 + a1 % 249)] 25)).alloc (.cells #[.int .u32 67117699, .int .u32 5252131, .int .u32 1049875, .int .u32 1245971, .int .u32 2098067, .int .u32 4268955363, .int .u32 1048691] 22)).cell? ⟨w.heap.size, 3, none⟩ = some (.int .u32 0) := by rw [World.cell?_alloc_past _ _ _ sP, World.cell?_alloc_at _ _ _ _ rfl]; rfl
  have c04 : ((w.alloc (.cells #[.int .i64 2, .string ⟨#[]⟩, .int .u32 0, .int .u32 0, .slice none 0 0, .int .i64 100, .int .i64 (1 + s1 % 64), .int .i64 (8 + a1 % 249)] 25)).alloc (.cells #[.int .u32 67117699, .int .u32 5252131, .int .u32 1049875, .int .u32 1245971, .int .u32 2098067, .int .u32 4268955363, .int .u32 1048691] 22)).cell? ⟨w.heap.size, 4, none⟩ = some (.slice none 0 0) := by rw [World.cell?_alloc_past _ _ _ sP, World.cell?_alloc_at _ _ _ _ rfl]; rfl
  have c05 : ((w.alloc (.cells #[.int .i64 2, .string ⟨#[]⟩, .int .u32 0, .int .u32 0, .slice none 0 0, .int .i64 100, .int .i64 (1 + s1 % 64), .int .i64 (8 + a1 % 249)] 25)).alloc (.cells #[.int .u32 67117699, .int .u32 5252131, .int .u32 1049875, .int .u32 1245971, .int .u32 2098067, .int .u32 4268955363, .int .u32 1048691] 22)).cell? ⟨w.heap.size, 5, none⟩ = some (.int .i64 100) := by rw [World.cell?_alloc_past _ _ _ sP, World.cell?_alloc_at _ _ _ _ rfl]; rfl
  have c06 : ((w.alloc (.cells #[.int .i64 2, .string ⟨#[]⟩, .int .u32 0, .int .u32 0, .slice none 0 0, .int .i64 100, .int .i64 (1 + s1 % 64), .int .i64 (8 + a1 % 249)] 25)).alloc (.cells #[.int .u32 67117699, .int .u32 5252131, .int .u32 1049875, .int .u32 1245971, .int .u32 2098067, .int .u32 4268955363, .int .u32 1048691] 22)).cell? ⟨w.heap.size, 6, none⟩ = some (.int .i64 (1 + s1 % 64)) := by rw [World.cell?_alloc_past _ _ _ sP, World.cell?_alloc_at _ _ _ _ rfl]; rfl
  have c07 : ((w.alloc (.cells #[.int .i64 2, .string ⟨#[]⟩, .int .u32 0, .int .u32 0, .slice none 0 0, .int .i64 100, .int .i64 (1 + s1 % 64), .int .i64 (8 + a1 % 249)] 25)).alloc (.cells #[.int .u32 67117699, .int .u32 5252131, .int .u32 1049875, .int .u32 1245971, .int .u32 2098067, .int .u32 4268955363, .int .u32 1048691] 22)).cell? ⟨w.heap.size, 7, none⟩ = some (.int .i64 (8 + a1 % 249)) := by rw [World.cell?_alloc_past _ _ _ sP, World.cell?_alloc_at _ _ _ _ rfl]; rfl
  have f00 : ((w.alloc (.cells #[.int .i64 2, .string ⟨#[]⟩, .int .u32 0, .int .u32 0, .slice none 0 0, .int .i64 100, .int .i64 (1 + s1 % 64), .int .i64 (8 + a1 % 249)] 25)).alloc (.cells #[.int .u32 67117699, .int .u32 5252131, .int .u32 1049875, .int .u32 1245971, .int .u32 2098067, .int .u32 4268955363, .int .u32 1048691] 22)).frozen? ⟨w.heap.size, 1, none⟩ = false := by rw [World.frozen?_alloc_past _ _ _ sP]; exact World.frozen?_alloc_at _ _ _ _ rfl
  have HB0 : Hid (Below w.heap.size w ((w.alloc (.cells #[.int .i64 2, .string ⟨#[]⟩, .int .u32 0, .int .u32 0, .slice none 0 0, .int .i64 100, .int .i64 (1 + s1 % 64), .int .i64 (8 + a1 % 249)] 25)).alloc (.cells #[.int .u32 67117699, .int .u32 5252131, .int .u32 1049875, .int .u32 1245971, .int .u32 2098067, .int .u32 4268955363, .int .u32 1048691] 22))) := ((Below.refl _ _).alloc (Nat.le_refl _) _).alloc sP _
  refine (Calls.mono (text_any chgC dC dC (w.heap.size + 1) 7 ((w.alloc (.cells #[.int .i64 2, .string ⟨#[]⟩, .int .u32 0, .int .u32 0, .slice none 0 0, .int .i64 100, .int .i64 (1 + s1 % 64), .int .i64 (8 + a1 % 249)] 25)).alloc (.cells #[.int .u32 67117699, .int .u32 5252131, .int .u32 1049875, .int .u32 1245971, .int .u32 2098067, .int .u32 4268955363, .int .u32 1048691] 22)) (fun k x hk => ?_)) ?_)
  · rw [World.cell?_alloc_at _ _ _ _ sP]; exact chg_cell k x hk
  rintro e w2 ⟨rfl, ht⟩
  have c1 : w2.cell? ⟨w.heap.size, 0, none⟩ = some (.int .i64 2) := (ht.cell (p := ⟨w.heap.size, 0, none⟩) (World.block_lt_of_cell? _ _ c00) sP).trans c00
  have c2 : w2.cell? ⟨w.heap.size, 1, none⟩ = some (.string ⟨#[]⟩) := (ht.cell (p := ⟨w.heap.size, 1, none⟩) (World.block_lt_of_cell? _ _ c01) sP).trans c01
  have c3 : w2.cell? ⟨w.heap.size, 2, none⟩ = some (.int .u32 0) := (ht.cell (p := ⟨w.heap.size, 2, none⟩) (World.block_lt_of_cell? _ _ c02) sP).trans c02
  have c4 : w2.cell? ⟨w.heap.size, 3, none⟩ = some (.int .u32 0) := (ht.cell (p := ⟨w.heap.size, 3, none⟩) (World.block_lt_of_cell? _ _ c03) sP).trans c03
  have c5 : w2.cell? ⟨w.heap.size, 4, none⟩ = some (.slice none 0 0) := (ht.cell (p := ⟨w.heap.size, 4, none⟩) (World.block_lt_of_cell? _ _ c04) sP).trans c04
  have c6 : w2.cell? ⟨w.heap.size, 5, none⟩ = some (.int .i64 100) := (ht.cell (p := ⟨w.heap.size, 5, none⟩) (World.block_lt_of_cell? _ _ c05) sP).trans c05
  have c7 : w2.cell? ⟨w.heap.size, 6, none⟩ = some (.int .i64 (1 + s1 % 64)) := (ht.cell (p := ⟨w.heap.size, 6, none⟩) (World.block_lt_of_cell? _ _ c06) sP).trans c06
  have c8 : w2.cell? ⟨w.heap.size, 7, none⟩ = some (.int .i64 (8 + a1 % 249)) := (ht.cell (p := ⟨w.heap.size, 7, none⟩) (World.block_lt_of_cell? _ _ c07) sP).trans c07
  have f9 : w2.frozen? ⟨w.heap.size, 1, none⟩ = false := (ht.frozen (p := ⟨w.heap.size, 1, none⟩) (World.block_lt_of_cell? _ _ c00 : w.heap.size < _) sP).trans f00
  have HB10 : Hid (Below w.heap.size w w2) := below_touch HB0.out ht
  clear c00 c01 c02 c03 c04 c05 c06 c07 f00
  clear ht
  rw [<- pad_0]
  go_wp2_with fail
  go_loopw [9] (fun c wr => ∃ j : Nat, j <= 36 /\ c = .string (padB j) /\ wr = w2) (fun c _ => match c with | .string b => 64 - b.size | _ => 0)
  case atStart => exact ⟨0, by omega, rfl, rfl⟩
  case round =>
    obtain ⟨j, hj, rfl, hwr⟩ := hrel
    replace hwr := hwr.symm
    subst hwr
    have hsz : ((padB j).size : Int) = 28 + j := by rw [pad_size]; push_cast; rfl
    by_cases hlt : j < 36
    · have q1 : (28 : Int) + j < 64 := by omega
      have q2 : ¬ 9223372036854775807 < (padB j).size + (ByteArray.mk #[0]).size := by rw [pad_size]; show ¬ 9223372036854775807 < 28 + j + 1; omega
      go_wp2_with fail
      go_roundw
      case rel => exact ⟨j + 1, by omega, by rw [<- pad_succ], by first | trivial | rfl⟩
      case measure =>
        show 64 - (padB j ++ _).size < 64 - (padB j).size
        rw [pad_succ, pad_size, pad_size]; omega
    · have q1 : (64 : Int) <= 28 + j := by omega
      obtain rfl : j = 36 := by omega
      clear hsz hlt q1 hj
      have hs36 : ((padB 36).size : Int) = 64 := by rw [pad_size]; rfl
      have hor : bits BinOp.or IntKind.u32 1299 (k1 % 2048 * 1048576) = 1299 + k1 % 2048 * 1048576 := by rw [or_flip _ _ oM oM oM oM, or_add _ _ 11 oM oM oM oM oM oM]; omega
      go_wp2_with fail
      refine (Calls.mono (word_any (1299 + k1 % 2048 * 1048576) oM oM w2) ?_)
      rintro e w3 ⟨rfl, ht⟩
      have c11 : w3.cell? ⟨w.heap.size, 0, none⟩ = some (.int .i64 2) := (ht.cell (p := ⟨w.heap.size, 0, none⟩) (World.block_lt_of_cell? _ _ c1) sP).trans c1
      have c12 : w3.cell? ⟨w.heap.size, 1, none⟩ = some (.string ⟨#[]⟩) := (ht.cell (p := ⟨w.heap.size, 1, none⟩) (World.block_lt_of_cell? _ _ c2) sP).trans c2
      have c13 : w3.cell? ⟨w.heap.size, 2, none⟩ = some (.int .u32 0) := (ht.cell (p := ⟨w.heap.size, 2, none⟩) (World.block_lt_of_cell? _ _ c3) sP).trans c3
      have c14 : w3.cell? ⟨w.heap.size, 3, none⟩ = some (.int .u32 0) := (ht.cell (p := ⟨w.heap.size, 3, none⟩) (World.block_lt_of_cell? _ _ c4) sP).trans c4
      have c15 : w3.cell? ⟨w.heap.size, 4, none⟩ = some (.slice none 0 0) := (ht.cell (p := ⟨w.heap.size, 4, none⟩) (World.block_lt_of_cell? _ _ c5) sP).trans c5
      have c16 : w3.cell? ⟨w.heap.size, 5, none⟩ = some (.int .i64 100) := (ht.cell (p := ⟨w.heap.size, 5, none⟩) (World.block_lt_of_cell? _ _ c6) sP).trans c6
      have c17 : w3.cell? ⟨w.heap.size, 6, none⟩ = some (.int .i64 (1 + s1 % 64)) := (ht.cell (p := ⟨w.heap.size, 6, none⟩) (World.block_lt_of_cell? _ _ c7) sP).trans c7
      have c18 : w3.cell? ⟨w.heap.size, 7, none⟩ = some (.int .i64 (8 + a1 % 249)) := (ht.cell (p := ⟨w.heap.size, 7, none⟩) (World.block_lt_of_cell? _ _ c8) sP).trans c8
      have f19 : w3.frozen? ⟨w.heap.size, 1, none⟩ = false := (ht.frozen (p := ⟨w.heap.size, 1, none⟩) (World.block_lt_of_cell? _ _ c1 : w.heap.size < _) sP).trans f9
      have HB20 : Hid (Below w.heap.size w w3) := below_touch HB10.out ht
      clear c1 c2 c3 c4 c5 c6 c7 c8 f9
      clear ht
      have q3 : ¬ 9223372036854775807 < (padB 36).size + (wordB (1299 + k1 % 2048 * 1048576)).size := by rw [pad_size, word_size]; omega
      go_wp2_with fail
      rw [chg_text]
      have ts : ref.Touch [w.heap.size] w3 (w3.setCell ⟨w.heap.size, 1, none⟩ (.string (textB (chgL (k1 % 2048))))) := (ref.Touch.refl _ _).setCell sP _
      have HB9 : Hid (Below w.heap.size w (w3.setCell ⟨w.heap.size, 1, none⟩ (.string (textB (chgL (k1 % 2048)))))) := HB20.out.trans (ts.below HB20.out.size sP)
      have d0 : (w3.setCell ⟨w.heap.size, 1, none⟩ (.string (textB (chgL (k1 % 2048))))).cell? ⟨w.heap.size, 0, none⟩ = some (.int .i64 2) := (World.cell?_setCell_other _ _ _ _ (by intro e; injection e with _ e; omega)).trans c11
      have d1 : (w3.setCell ⟨w.heap.size, 1, none⟩ (.string (textB (chgL (k1 % 2048))))).cell? ⟨w.heap.size, 1, none⟩ = some (.string (textB (chgL (k1 % 2048)))) := World.cell?_setCell_same _ _ _ c12
      have d2 : (w3.setCell ⟨w.heap.size, 1, none⟩ (.string (textB (chgL (k1 % 2048))))).cell? ⟨w.heap.size, 2, none⟩ = some (.int .u32 0) := (World.cell?_setCell_other _ _ _ _ (by intro e; injection e with _ e; omega)).trans c13
      have d3 : (w3.setCell ⟨w.heap.size, 1, none⟩ (.string (textB (chgL (k1 % 2048))))).cell? ⟨w.heap.size, 3, none⟩ = some (.int .u32 0) := (World.cell?_setCell_other _ _ _ _ (by intro e; injection e with _ e; omega)).trans c14
      have d4 : (w3.setCell ⟨w.heap.size, 1, none⟩ (.string (textB (chgL (k1 % 2048))))).cell? ⟨w.heap.size, 4, none⟩ = some (.slice none 0 0) := (World.cell?_setCell_other _ _ _ _ (by intro e; injection e with _ e; omega)).trans c15
      have d5 : (w3.setCell ⟨w.heap.size, 1, none⟩ (.string (textB (chgL (k1 % 2048))))).cell? ⟨w.heap.size, 5, none⟩ = some (.int .i64 100) := (World.cell?_setCell_other _ _ _ _ (by intro e; injection e with _ e; omega)).trans c16
      have d6 : (w3.setCell ⟨w.heap.size, 1, none⟩ (.string (textB (chgL (k1 % 2048))))).cell? ⟨w.heap.size, 6, none⟩ = some (.int .i64 (1 + s1 % 64)) := (World.cell?_setCell_other _ _ _ _ (by intro e; injection e with _ e; omega)).trans c17
      have d7 : (w3.setCell ⟨w.heap.size, 1, none⟩ (.string (textB (chgL (k1 % 2048))))).cell? ⟨w.heap.size, 7, none⟩ = some (.int .i64 (8 + a1 % 249)) := (World.cell?_setCell_other _ _ _ _ (by intro e; injection e with _ e; omega)).trans c18
      clear ts c11 c12 c13 c14 c15 c16 c17 c18 f19
      generalize (w3.setCell ⟨w.heap.size, 1, none⟩ (.string (textB (chgL (k1 % 2048))))) = w4 at *
      refine (Calls.mono (run_res 2 (textB (chgL (k1 % 2048))) 0 0 100 (1 + s1 % 64) (8 + a1 % 249) [] dC dC dC dC (by rw [text_size]; show 4 * 17 <= 1048576; decide) (.slice none 0 0) w4 (ans_nil _) (fun w' x hb => HTB.out w' x (HB9.out.trans (hb.mono HB9.out.size)))) ?_)
      rintro e wa1 ⟨m1, o1, er1, v1, rfl, hres, how, hb⟩
      have HRES1 : Hid (ResB 2 (textB (chgL (k1 % 2048))) 0 0 100 (1 + s1 % 64) (8 + a1 % 249) [] m1 o1 er1) := hres
      have hto : ref.Touch [] w4 wa1 := ref.Touch.of_below hb
      have c101 : wa1.cell? ⟨w.heap.size, 0, none⟩ = some (.int .i64 2) := (hto.cell (p := ⟨w.heap.size, 0, none⟩) (World.block_lt_of_cell? _ _ d0) sP).trans d0
      have c102 : wa1.cell? ⟨w.heap.size, 1, none⟩ = some (.string (textB (chgL (k1 % 2048)))) := (hto.cell (p := ⟨w.heap.size, 1, none⟩) (World.block_lt_of_cell? _ _ d1) sP).trans d1
      have c103 : wa1.cell? ⟨w.heap.size, 2, none⟩ = some (.int .u32 0) := (hto.cell (p := ⟨w.heap.size, 2, none⟩) (World.block_lt_of_cell? _ _ d2) sP).trans d2
      have c104 : wa1.cell? ⟨w.heap.size, 3, none⟩ = some (.int .u32 0) := (hto.cell (p := ⟨w.heap.size, 3, none⟩) (World.block_lt_of_cell? _ _ d3) sP).trans d3
      have c105 : wa1.cell? ⟨w.heap.size, 4, none⟩ = some (.slice none 0 0) := (hto.cell (p := ⟨w.heap.size, 4, none⟩) (World.block_lt_of_cell? _ _ d4) sP).trans d4
      have c106 : wa1.cell? ⟨w.heap.size, 5, none⟩ = some (.int .i64 100) := (hto.cell (p := ⟨w.heap.size, 5, none⟩) (World.block_lt_of_cell? _ _ d5) sP).trans d5
      have c107 : wa1.cell? ⟨w.heap.size, 6, none⟩ = some (.int .i64 (1 + s1 % 64)) := (hto.cell (p := ⟨w.heap.size, 6, none⟩) (World.block_lt_of_cell? _ _ d6) sP).trans d6
      have c108 : wa1.cell? ⟨w.heap.size, 7, none⟩ = some (.int .i64 (8 + a1 % 249)) := (hto.cell (p := ⟨w.heap.size, 7, none⟩) (World.block_lt_of_cell? _ _ d7) sP).trans d7
      have HB109 : Hid (Below w.heap.size w wa1) := below_touch HB9.out hto
      clear d0 d1 d2 d3 d4 d5 d6 d7
      have HO1a : Hid (wa1.ownsRow w4.heap.size 52 3 v1 m1.evs.length (ref.evCells m1.evs)) := how
      have HV1 : Hid (v1.oneCell' = true) := ref.own_one how
      have HTH1 : Hid (∀ (cs : Array Value) (t : TypeId), cs.size = 39 -> (wa1.alloc (.cells cs t)).there wa1.heap.size 0 (prog.repP m1 o1 v1).size) := fun cs t hc => there_new wa1 cs t _ hc
      clear hres how hb hto
      go_wp2_with (first | (refine wpList_store_mid rfl 32 (.tmp 11) (.tmp 58) rfl wa1.heap.size 0 (prog.repP m1 o1 v1) rfl rfl (HTH1.out _ _ rfl) ref.info_rep (prog.repP_one m1 o1 v1 HV1.out) ?_; generalize hst : World.setCells _ wa1.heap.size 0 (prog.repP m1 o1 v1).toList = wb1; have ts : ref.Touch [] wa1 wb1 := (by rw [<- hst]; exact prog.touch_new _ _ _ _ ((ref.Touch.refl _ _).alloc _) (Nat.le_refl _)); have HRn1 : Hid (wb1.rangeAt wa1.heap.size 0 (prog.repP m1 o1 v1).toList) := (by rw [<- hst]; exact World.rangeAt_setCells_same _ _ _ _ (HTH1.out _ _ rfl)); have c110 : wb1.cell? ⟨w.heap.size, 0, none⟩ = some (.int .i64 2) := (ts.cell (p := ⟨w.heap.size, 0, none⟩) (World.block_lt_of_cell? _ _ c101) sP).trans c101; have c111 : wb1.cell? ⟨w.heap.size, 1, none⟩ = some (.string (textB (chgL (k1 % 2048)))) := (ts.cell (p := ⟨w.heap.size, 1, none⟩) (World.block_lt_of_cell? _ _ c102) sP).trans c102; have c112 : wb1.cell? ⟨w.heap.size, 2, none⟩ = some (.int .u32 0) := (ts.cell (p := ⟨w.heap.size, 2, none⟩) (World.block_lt_of_cell? _ _ c103) sP).trans c103; have c113 : wb1.cell? ⟨w.heap.size, 3, none⟩ = some (.int .u32 0) := (ts.cell (p := ⟨w.heap.size, 3, none⟩) (World.block_lt_of_cell? _ _ c104) sP).trans c104; have c114 : wb1.cell? ⟨w.heap.size, 4, none⟩ = some (.slice none 0 0) := (ts.cell (p := ⟨w.heap.size, 4, none⟩) (World.block_lt_of_cell? _ _ c105) sP).trans c105; have c115 : wb1.cell? ⟨w.heap.size, 5, none⟩ = some (.int .i64 100) := (ts.cell (p := ⟨w.heap.size, 5, none⟩) (World.block_lt_of_cell? _ _ c106) sP).trans c106; have c116 : wb1.cell? ⟨w.heap.size, 6, none⟩ = some (.int .i64 (1 + s1 % 64)) := (ts.cell (p := ⟨w.heap.size, 6, none⟩) (World.block_lt_of_cell? _ _ c107) sP).trans c107; have c117 : wb1.cell? ⟨w.heap.size, 7, none⟩ = some (.int .i64 (8 + a1 % 249)) := (ts.cell (p := ⟨w.heap.size, 7, none⟩) (World.block_lt_of_cell? _ _ c108) sP).trans c108; have HO118 : Hid (wb1.ownsRow w4.heap.size 52 3 v1 m1.evs.length (ref.evCells m1.evs)) := ref.own_touch HO1a.out ts sP; have HB119 : Hid (Below w.heap.size w wb1) := below_touch HB109.out ts; clear c101 c102 c103 c104 c105 c106 c107 c108; clear hst ts))
      refine (Calls.mono (interpret_res 2 (textB (chgL (k1 % 2048))) 0 0 100 (1 + s1 % 64) (8 + a1 % 249) [] dC dC dC dC (by rw [text_size]; show 4 * 17 <= 1048576; decide) (.slice none 0 0) wb1 (ans_nil _) (fun w' x hb => HTB.out w' x (HB119.out.trans (hb.mono HB119.out.size)))) ?_)
      rintro e wa2 ⟨m2, o2, er2, v2, rfl, hres, how, hb⟩
      have HRES2 : Hid (Res 2 (textB (chgL (k1 % 2048))) 0 0 100 (1 + s1 % 64) (8 + a1 % 249) [] m2 o2 er2) := hres
      have hto : ref.Touch [] wb1 wa2 := ref.Touch.of_below hb
      have c120 : wa2.cell? ⟨w.heap.size, 0, none⟩ = some (.int .i64 2) := (hto.cell (p := ⟨w.heap.size, 0, none⟩) (World.block_lt_of_cell? _ _ c110) sP).trans c110
      have c121 : wa2.cell? ⟨w.heap.size, 1, none⟩ = some (.string (textB (chgL (k1 % 2048)))) := (hto.cell (p := ⟨w.heap.size, 1, none⟩) (World.block_lt_of_cell? _ _ c111) sP).trans c111
      have c122 : wa2.cell? ⟨w.heap.size, 2, none⟩ = some (.int .u32 0) := (hto.cell (p := ⟨w.heap.size, 2, none⟩) (World.block_lt_of_cell? _ _ c112) sP).trans c112
      have c123 : wa2.cell? ⟨w.heap.size, 3, none⟩ = some (.int .u32 0) := (hto.cell (p := ⟨w.heap.size, 3, none⟩) (World.block_lt_of_cell? _ _ c113) sP).trans c113
      have c124 : wa2.cell? ⟨w.heap.size, 4, none⟩ = some (.slice none 0 0) := (hto.cell (p := ⟨w.heap.size, 4, none⟩) (World.block_lt_of_cell? _ _ c114) sP).trans c114
      have c125 : wa2.cell? ⟨w.heap.size, 5, none⟩ = some (.int .i64 100) := (hto.cell (p := ⟨w.heap.size, 5, none⟩) (World.block_lt_of_cell? _ _ c115) sP).trans c115
      have c126 : wa2.cell? ⟨w.heap.size, 6, none⟩ = some (.int .i64 (1 + s1 % 64)) := (hto.cell (p := ⟨w.heap.size, 6, none⟩) (World.block_lt_of_cell? _ _ c116) sP).trans c116
      have c127 : wa2.cell? ⟨w.heap.size, 7, none⟩ = some (.int .i64 (8 + a1 % 249)) := (hto.cell (p := ⟨w.heap.size, 7, none⟩) (World.block_lt_of_cell? _ _ c117) sP).trans c117
      have HR128 : Hid (wa2.rangeAt wa1.heap.size 0 (prog.repP m1 o1 v1).toList) := range_touch HRn1.out hto (World.block_lt_of_cell? _ _ (HRn1.out 0 _ rfl))
      have HO129 : Hid (wa2.ownsRow w4.heap.size 52 3 v1 m1.evs.length (ref.evCells m1.evs)) := ref.own_touch HO118.out hto sP
      have HB130 : Hid (Below w.heap.size w wa2) := below_touch HB119.out hto
      clear c110 c111 c112 c113 c114 c115 c116 c117
      have HO2a : Hid (wa2.ownsRow wb1.heap.size 52 3 v2 m2.evs.length (ref.evCells m2.evs)) := how
      have HV2 : Hid (v2.oneCell' = true) := ref.own_one how
      have HTH2 : Hid (∀ (cs : Array Value) (t : TypeId), cs.size = 39 -> (wa2.alloc (.cells cs t)).there wa2.heap.size 0 (prog.repP m2 o2 v2).size) := fun cs t hc => there_new wa2 cs t _ hc
      clear hres how hb hto
      obtain ⟨rfl, HF1⟩ : er1 = 0 /\ Hid _ := chg_r oM oM oM oM oM oM HRES1.out
      obtain ⟨rfl, HF2⟩ : er2 = 0 /\ Hid _ := chg_i oM oM HRES2.out
      go_wp2_with (first | (refine wpList_store_mid rfl 32 (.tmp 13) (.tmp 63) rfl wa2.heap.size 0 (prog.repP m2 o2 v2) rfl rfl (HTH2.out _ _ rfl) ref.info_rep (prog.repP_one m2 o2 v2 HV2.out) ?_; generalize hst : World.setCells _ wa2.heap.size 0 (prog.repP m2 o2 v2).toList = wb2; have ts : ref.Touch [] wa2 wb2 := (by rw [<- hst]; exact prog.touch_new _ _ _ _ ((ref.Touch.refl _ _).alloc _) (Nat.le_refl _)); have HRn2 : Hid (wb2.rangeAt wa2.heap.size 0 (prog.repP m2 o2 v2).toList) := (by rw [<- hst]; exact World.rangeAt_setCells_same _ _ _ _ (HTH2.out _ _ rfl)); have c131 : wb2.cell? ⟨w.heap.size, 0, none⟩ = some (.int .i64 2) := (ts.cell (p := ⟨w.heap.size, 0, none⟩) (World.block_lt_of_cell? _ _ c120) sP).trans c120; have c132 : wb2.cell? ⟨w.heap.size, 1, none⟩ = some (.string (textB (chgL (k1 % 2048)))) := (ts.cell (p := ⟨w.heap.size, 1, none⟩) (World.block_lt_of_cell? _ _ c121) sP).trans c121; have c133 : wb2.cell? ⟨w.heap.size, 2, none⟩ = some (.int .u32 0) := (ts.cell (p := ⟨w.heap.size, 2, none⟩) (World.block_lt_of_cell? _ _ c122) sP).trans c122; have c134 : wb2.cell? ⟨w.heap.size, 3, none⟩ = some (.int .u32 0) := (ts.cell (p := ⟨w.heap.size, 3, none⟩) (World.block_lt_of_cell? _ _ c123) sP).trans c123; have c135 : wb2.cell? ⟨w.heap.size, 4, none⟩ = some (.slice none 0 0) := (ts.cell (p := ⟨w.heap.size, 4, none⟩) (World.block_lt_of_cell? _ _ c124) sP).trans c124; have c136 : wb2.cell? ⟨w.heap.size, 5, none⟩ = some (.int .i64 100) := (ts.cell (p := ⟨w.heap.size, 5, none⟩) (World.block_lt_of_cell? _ _ c125) sP).trans c125; have c137 : wb2.cell? ⟨w.heap.size, 6, none⟩ = some (.int .i64 (1 + s1 % 64)) := (ts.cell (p := ⟨w.heap.size, 6, none⟩) (World.block_lt_of_cell? _ _ c126) sP).trans c126; have c138 : wb2.cell? ⟨w.heap.size, 7, none⟩ = some (.int .i64 (8 + a1 % 249)) := (ts.cell (p := ⟨w.heap.size, 7, none⟩) (World.block_lt_of_cell? _ _ c127) sP).trans c127; have HR139 : Hid (wb2.rangeAt wa1.heap.size 0 (prog.repP m1 o1 v1).toList) := range_touch HR128.out ts (World.block_lt_of_cell? _ _ (HR128.out 0 _ rfl)); have HO140 : Hid (wb2.ownsRow w4.heap.size 52 3 v1 m1.evs.length (ref.evCells m1.evs)) := ref.own_touch HO129.out ts sP; have HO141 : Hid (wb2.ownsRow wb1.heap.size 52 3 v2 m2.evs.length (ref.evCells m2.evs)) := ref.own_touch HO2a.out ts sP; have HB142 : Hid (Below w.heap.size w wb2) := below_touch HB130.out ts; clear c120 c121 c122 c123 c124 c125 c126 c127; clear hst ts; obtain ⟨y1, y2, y3, y4⟩ := HF1.out; have z1 := HF2.out; have p0 : wb2.cell? ⟨wa1.heap.size, 0, none⟩ = some (.int .i64 9) := (HR139.out 0 _ rfl).trans (by rw [<- y1]); have p12 : wb2.cell? ⟨wa1.heap.size, 12, none⟩ = some (.int .u32 (k1 % 2048)) := (HR139.out 12 _ rfl).trans (by rw [<- y2]); have p8 : wb2.cell? ⟨wa1.heap.size, 8, none⟩ = some (.int .u32 2) := (HR139.out 8 _ rfl).trans (by rw [<- y3]); have p38 : wb2.cell? ⟨wa1.heap.size, 38, none⟩ = some (.int .i64 m1.built) := HR139.out 38 _ rfl; have r12 : wb2.cell? ⟨wa2.heap.size, 12, none⟩ = some (.int .u32 (k1 % 2048)) := (HRn2.out 12 _ rfl).trans (by rw [<- z1])))
      go_ret
      exact ⟨rfl, HB142.out⟩
end keep
end Go.Proofs.YtjikimpejlmdiaaGreatDoor
