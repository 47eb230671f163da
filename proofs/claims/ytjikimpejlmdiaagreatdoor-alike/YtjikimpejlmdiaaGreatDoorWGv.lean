import Derived.Test.YtjikimpejlmdiaaGreatDoorWGb
import Derived.Test.YtjikimpejlmdiaaGreatDoorWGz
import Derived.BigQuiet
import Derived.Deep.DrawnRows
import Derived.Laws.IdiomStrings
import Derived.Test.YtjikimpejlmdiaaGreatDoorWGs
import Derived.Test.YtjikimpejlmdiaaGreatDoorWGx
import Derived.Deep.MidRow
set_option maxHeartbeats 4000000
set_option linter.unusedVariables false
set_option linter.unusedSimpArgs false
set_option maxRecDepth 10000
namespace Go.Proofs.YtjikimpejlmdiaaGreatDoor
namespace keep
open ChangeShapes WideShapes ChangeAt RowKit nums dnums mach
attribute [local go_sem ↓] Go.wp_at_zero Go.wp_at_succ
theorem conv_word (x : Int) (h0 : 0 <= x) (h1 : x <= 4294967295) (w : World) (T : TypeId) : (convert 74 9 (.slice (some ⟨w.heap.size, 0, none⟩) 4 4)).run Tryz.prog (w.alloc (.cells #[Value.int .u8 (x % 256), Value.int .u8 (x / 256 % 256), Value.int .u8 (x / 65536 % 256), Value.int .u8 (x / 16777216)] T)) = .ok (.string (wordB x)) (w.alloc (.cells #[Value.int .u8 (x % 256), Value.int .u8 (x / 256 % 256), Value.int .u8 (x / 65536 % 256), Value.int .u8 (x / 16777216)] T)) := by
  have := run_convert_bytes_back (P := Tryz.prog) (w.alloc (.cells #[Value.int .u8 (x % 256), Value.int .u8 (x / 256 % 256), Value.int .u8 (x / 65536 % 256), Value.int .u8 (x / 16777216)] T)) 74 9 5 ⟨w.heap.size, 0, none⟩ 4 (wordL x) Tryz.underlying74 Tryz.underlying5 Tryz.underlying9 (by
    intro i hi
    have hi4 : i < 4 := by simpa [wordL] using hi
    have e : (⟨w.heap.size, 0, none⟩ : Addr).add i = ⟨w.heap.size, i, none⟩ := by unfold Addr.add; by_cases z : i = 0 <;> simp [z]
    rw [e, World.cell?_alloc_at _ _ _ _ rfl]
    have : i = 0 \/ i = 1 \/ i = 2 \/ i = 3 := by omega
    rcases this with rfl | rfl | rfl | rfl <;> simp [wordL] <;> omega)
  simpa [wordB, wordL] using this
theorem word_any (x : Int) (h0 : 0 <= x) (h1 : x <= 4294967295) (w : World) : Calls Tryz.prog 26 #[.int .u32 x] w fun e w' => e = .returned (.string (wordB x)) /\ ref.Touch [] w w' := by
  have hc := conv_word x h0 h1
  go_enter Tryz.func26, Tryz.ntmps26
  go_wp2_with fail
  go_ret
  exact ⟨rfl, (ref.Touch.refl _ _).alloc _⟩
theorem bytes_append (a b : List UInt8) : (ByteArray.mk a.toArray) ++ (ByteArray.mk b.toArray) = ⟨(a ++ b).toArray⟩ := by
  apply ByteArray.ext
  simp [ByteArray.data_append]
theorem text_size (l : List Int) : (textB l).size = 4 * l.length := by
  have : (l.flatMap wordL).length = 4 * l.length := by
    induction l with
    | nil => rfl
    | cons x r ih => rw [List.flatMap_cons, List.length_append, ih]; simp [wordL]; omega
  simpa [textB, ByteArray.size] using this
theorem word_size (x : Int) : (wordB x).size = 4 := rfl
theorem text_snoc (l : List Int) (x : Int) : textB l ++ wordB x = textB (l ++ [x]) := by
  unfold textB wordB
  rw [bytes_append]
  simp
theorem text_any (l : List Int) (hl : l.length <= 100) (hb : ∀ x ∈ l, 0 <= x /\ x <= 4294967295) (g c : Nat) (w : World) (hr : ∀ k x, l[k]? = some x -> w.cell? ⟨g, k, none⟩ = some (.int .u32 x)) :
    Calls Tryz.prog 25 #[.slice (some ⟨g, 0, none⟩) l.length c] w fun e w' => e = .returned (.string (textB l)) /\ ref.Touch [] w w' := by
  have HR : Hid (∀ k x, l[k]? = some x -> w.cell? ⟨g, k, none⟩ = some (.int .u32 x)) := hr
  have HB : Hid (∀ x ∈ l, 0 <= x /\ x <= 4294967295) := hb
  clear hr hb
  go_enter Tryz.func25, Tryz.ntmps25
  go_wp2_with fail
  go_loopw [3, 4] (fun s i wr => ∃ k : Nat, k <= l.length /\ i = .int .i64 k /\ s = .string (textB (l.take k)) /\ ref.Touch [] w wr) (fun _ i _ => l.length - (intOf i).toNat)
  case atStart => exact ⟨0, by omega, rfl, rfl, ref.Touch.refl _ _⟩
  case round =>
    obtain ⟨k, hk, rfl, rfl, ht⟩ := hrel
    have HT : Hid (ref.Touch [] w wr) := ht
    by_cases hlt : k < l.length
    · obtain ⟨x, hx⟩ : ∃ x, l[k]? = some x := ⟨_, List.getElem?_eq_getElem hlt⟩
      have hc := HR.out k x hx
      have hc2 : wr.cell? ⟨g, k, none⟩ = some (.int .u32 x) := (ht.cell (p := ⟨g, k, none⟩) (World.block_lt_of_cell? _ _ hc) sP).trans hc
      have hxb := HB.out x (List.mem_of_getElem? hx)
      have q1 : (k : Int) < (l.length : Int) := by omega
      have q2 : ¬ 9223372036854775807 < (textB (List.take k l)).size + (wordB x).size := by rw [text_size, word_size, List.length_take]; omega
      clear ht hc
      go_wp2_with fail
      refine (Calls.mono (word_any x hxb.1 hxb.2 _) ?_)
      rintro e w1 ⟨rfl, ht1⟩
      have HT1 : Hid (ref.Touch [] wr w1) := ht1
      clear ht1
      go_wp2_with fail
      go_roundw
      case rel =>
        refine ⟨k + 1, by omega, by simp, ?_, HT.out.trans HT1.out⟩
        rw [List.take_add_one, hx]
        simp only [Option.toList_some]
        rw [<- text_snoc]
      case measure => simp [intOf]; omega
    · have q1 : (l.length : Int) <= (k : Int) := by omega
      have e : k = l.length := by omega
      clear ht
      go_wp2_with fail
      go_ret
      refine ⟨?_, HT.out⟩
      rw [e, List.take_length]
      rfl
/-- A row of texts in memory. -/
def RowAt (l : List ByteArray) (ad : Addr) (w : World) : Prop := ∀ k s, l[k]? = some s -> w.cell? (ad.add k) = some (.string s)
def Few (im : ByteArray) (l : List ByteArray) : Prop := im.size <= 1048576 /\ l.length <= 4096 /\ ∀ s, s ∈ l -> s.size <= 1048576
def FewQ (l : List ByteArray) (w : World) (e : Ending) (w' : World) : Prop := ∃ y : Bool, e = .returned (.bool y) /\ (y = true ↔ ∀ s, s ∈ l -> s.size <= 1048576) /\ ref.Touch [] w w'
theorem block_add (ad : Addr) (k : Nat) : (ad.add k).block = ad.block := by unfold Addr.add; by_cases z : k = 0 <;> simp [z]
theorem few_im (pg : Int) (im : ByteArray) (ba en fu sl ar : Int) (v : Value) (w : World) (h : ¬ im.size <= 1048576) : Calls Tryz.prog 23 #[.agg #[.int .i64 pg, .string im, .int .u32 ba, .int .u32 en, v, .int .i64 fu, .int .i64 sl, .int .i64 ar]] w fun e w' => e = .returned (.bool false) /\ ref.Touch [] w w' := by
  have d : decide (1048576 < (im.size : Int)) = true := by simp; omega
  go_enter Tryz.func23, Tryz.ntmps23
  go_wp2
  go_ret
  exact ⟨rfl, (ref.Touch.refl _ _).alloc _⟩
theorem few_ln (pg : Int) (im : ByteArray) (ba en fu sl ar : Int) (oa : Option Addr) (na ca : Nat) (w : World) (h : im.size <= 1048576) (h2 : ¬ na <= 4096) : Calls Tryz.prog 23 #[.agg #[.int .i64 pg, .string im, .int .u32 ba, .int .u32 en, .slice oa na ca, .int .i64 fu, .int .i64 sl, .int .i64 ar]] w fun e w' => e = .returned (.bool false) /\ ref.Touch [] w w' := by
  have d : decide (1048576 < (im.size : Int)) = false := by simp; omega
  have d2 : decide (4096 < (na : Int)) = true := by simp; omega
  go_enter Tryz.func23, Tryz.ntmps23
  go_wp2
  go_ret
  exact ⟨rfl, (ref.Touch.refl _ _).alloc _⟩
theorem few_row (pg : Int) (im : ByteArray) (ba en fu sl ar : Int) (ad : Addr) (l : List ByteArray) (ca : Nat) (w : World) (h : im.size <= 1048576) (h2 : l.length <= 4096) (hr : RowAt l ad w) (lad : 0 < l.length -> ad.block < w.heap.size) :
    Calls Tryz.prog 23 #[.agg #[.int .i64 pg, .string im, .int .u32 ba, .int .u32 en, .slice (some ad) l.length ca, .int .i64 fu, .int .i64 sl, .int .i64 ar]] w (FewQ l w) := by
  have d : decide (1048576 < (im.size : Int)) = false := by simp; omega
  have d2 : decide (4096 < (l.length : Int)) = false := by simp; omega
  have HR : Hid (RowAt l ad w) := hr
  clear hr
  go_enter Tryz.func23, Tryz.ntmps23
  go_wp2_with fail
  go_loopw [3] (fun i wr => ∃ k : Nat, k <= l.length /\ i = .int .i64 k /\ (∀ s, s ∈ l.take k -> s.size <= 1048576) /\ wr = (w.alloc (.cells #[.int .i64 pg, .string im, .int .u32 ba, .int .u32 en, .slice (some ad) l.length ca, .int .i64 fu, .int .i64 sl, .int .i64 ar] 25))) (fun i _ => l.length - (intOf i).toNat)
  case atStart => exact ⟨0, by omega, rfl, by simp, rfl⟩
  case round =>
    obtain ⟨k, hk, rfl, hs, rfl⟩ := hrel
    by_cases hlt : k < l.length
    · obtain ⟨s, hsk⟩ : ∃ s, l[k]? = some s := ⟨_, List.getElem?_eq_getElem hlt⟩
      have hc := HR.out k s hsk
      have lb : ad.block < w.heap.size := lad oM
      have hc2 : (w.alloc (.cells #[.int .i64 pg, .string im, .int .u32 ba, .int .u32 en, .slice (some ad) l.length ca, .int .i64 fu, .int .i64 sl, .int .i64 ar] 25)).cell? (ad.add k) = some (.string s) := (((ref.Touch.refl [] w).alloc _).cell (p := ad.add k) (by rw [block_add]; exact lb) sP).trans hc
      have q1 : (k : Int) < (l.length : Int) := by omega
      by_cases hz : s.size <= 1048576
      · have d3 : decide (1048576 < (s.size : Int)) = false := by simp; omega
        go_wp2_with fail
        go_roundw
        case rel =>
          refine ⟨k + 1, by omega, by simp, fun t ht => ?_, by first | trivial | rfl⟩
          rw [List.take_add_one, hsk] at ht
          simp at ht
          rcases ht with ht | rfl
          · exact hs t ht
          · exact hz
        case measure => simp [intOf]; omega
      · have d3 : decide (1048576 < (s.size : Int)) = true := by simp; omega
        go_wp2_with fail
        go_ret
        exact ⟨false, rfl, ⟨fun hf => (by cases hf), fun hf => absurd (hf s (List.mem_of_getElem? hsk)) hz⟩, (ref.Touch.refl _ _).alloc _⟩
    · have q1 : (l.length : Int) <= (k : Int) := by omega
      have e : k = l.length := by omega
      go_wp2_with fail
      go_ret
      refine ⟨true, rfl, ⟨fun _ s hs2 => hs s (by rw [e, List.take_length]; exact hs2), fun _ => rfl⟩, (ref.Touch.refl _ _).alloc _⟩
theorem few_nil (pg : Int) (im : ByteArray) (ba en fu sl ar : Int) (oa : Option Addr) (ca : Nat) (w : World) (h : im.size <= 1048576) : Calls Tryz.prog 23 #[.agg #[.int .i64 pg, .string im, .int .u32 ba, .int .u32 en, .slice oa 0 ca, .int .i64 fu, .int .i64 sl, .int .i64 ar]] w fun e w' => e = .returned (.bool true) /\ ref.Touch [] w w' := by
  have d : decide (1048576 < (im.size : Int)) = false := by simp; omega
  go_enter Tryz.func23, Tryz.ntmps23
  go_wp2_with fail
  go_loopw [3] (fun i wr => i = .int .i64 0 /\ wr = (w.alloc (.cells #[.int .i64 pg, .string im, .int .u32 ba, .int .u32 en, .slice oa 0 ca, .int .i64 fu, .int .i64 sl, .int .i64 ar] 25))) (fun i _ => 0)
  case atStart => exact ⟨rfl, rfl⟩
  case round =>
    obtain ⟨rfl, rfl⟩ := hrel
    go_wp2_with fail
    go_ret
    exact ⟨rfl, (ref.Touch.refl _ _).alloc _⟩
/-- The machine of the report beside an error. -/
def mz : M := { out := 0, pc := 0, regs := fun _ => 0, brk := 0, evs := [], steps := 0, built := 0, mem := fun _ => 0, size := 0, low := 0, ans := [], fuel := 0, ended := false, nslots := 0, slots := fun _ => (0, 0), arena := 0, used := 0, cur := (0, 0), done := 0, blocks := [] }
theorem rep_mz : ref.rep0 = prog.repP mz 0 (.slice none 0 0) := rfl
/-- What a setup comes to: the machine at the end, the outcome, the error. -/
def Res (pg : Int) (im : ByteArray) (ba en fu sl ar : Int) (ans : List ByteArray) (m : M) (o er : Int) : Prop := (ref.wrong pg im ba fu sl ar false = 0 /\ MRun (ref.start pg im ba en ans fu sl ar false) m /\ m.ended = true /\ o = m.out /\ er = 0) \/ (¬ ref.wrong pg im ba fu sl ar false = 0 /\ m = mz /\ o = 0 /\ er = ref.wrong pg im ba fu sl ar false)
theorem Res.one {pg : Int} {im : ByteArray} {ba en fu sl ar : Int} {ans : List ByteArray} {m m' : M} {o o' er er' : Int} (h : Res pg im ba en fu sl ar ans m o er) (h' : Res pg im ba en fu sl ar ans m' o' er') : m = m' /\ o = o' /\ er = er' := by
  rcases h with ⟨h0, h1, h2, h3, h4⟩ | ⟨h0, h1, h2, h3⟩
  · rcases h' with ⟨k0, k1, k2, k3, k4⟩ | ⟨k0, _⟩
    · obtain ⟨a, ha⟩ := h1.reach
      obtain ⟨b, hb⟩ := k1.reach
      have e : m = m' := by
        rw [ha, hb]
        exact run_one a b _ (by rw [<- ha]; exact h2) (by rw [<- hb]; exact k2)
      exact ⟨e, by rw [h3, k3, e], by rw [h4, k4]⟩
    · exact absurd h0 k0
  · rcases h' with ⟨k0, _⟩ | ⟨k0, k1, k2, k3⟩
    · exact absurd k0 h0
    · exact ⟨by rw [h1, k1], by rw [h2, k2], by rw [h3, k3]⟩
theorem Res.evs {pg : Int} {im : ByteArray} {ba en fu sl ar : Int} {ans : List ByteArray} {m : M} {o er : Int} (h : Res pg im ba en fu sl ar ans m o er) : m.evs.length <= 2000 := by
  rcases h with ⟨h0, h1, h2, h3, h4⟩ | ⟨h0, h1, h2, h3⟩
  · have := h1.good.evs
    have := h1.good.fine.within
    have := h1.good.fine.fuel.2
    omega
  · rw [h1]; exact Nat.zero_le _
theorem ans_slice {B : Nat} {l : List ByteArray} {vA : Value} {w : World} (h : ref.AnsAt B l vA w) : ∃ oa na ca, vA = .slice oa na ca := by
  obtain ⟨oa, cap, h1, _⟩ := h
  exact ⟨_, _, _, h1⟩
def IntQ (pg : Int) (im : ByteArray) (ba en fu sl ar : Int) (ans : List ByteArray) (w : World) (e : Ending) (w' : World) : Prop := ∃ m o er v1, e = .returned (.tuple #[.agg (prog.repP m o v1), .int .i64 er]) /\ Res pg im ba en fu sl ar ans m o er /\ w'.ownsRow w.heap.size 52 3 v1 m.evs.length (ref.evCells m.evs) /\ Below w.heap.size w w'
theorem interpret_res (pg : Int) (im : ByteArray) (ba en fu sl ar : Int) (ans : List ByteArray) (ba0 : 0 <= ba) (ba1 : ba <= 4294967295) (en0 : 0 <= en) (en1 : en <= 4294967295) (him : im.size <= 1048576) (vA : Value) (w : World) (ha : ref.AnsAt w.heap.size ans vA w) (hT : ∀ w' x, Below w.heap.size w w' -> decodes.Tabs w' x) :
    Calls Tryz.prog 14 #[.agg #[.int .i64 pg, .string im, .int .u32 ba, .int .u32 en, vA, .int .i64 fu, .int .i64 sl, .int .i64 ar]] w (IntQ pg im ba en fu sl ar ans w) := by
  obtain ⟨oa, na, ca, hv⟩ := ans_slice ha
  by_cases hw : ref.wrong pg im ba fu sl ar false = 0
  · refine (prog.interpret_ok pg im ba en vA fu sl ar ba0 ba1 him w oa na ca hv ans ha en0 en1 hw hT).mono ?_
    rintro e w' ⟨m, vE, rfl, h1, h2, h3, h4⟩
    exact ⟨m, m.out, 0, vE, rfl, Or.inl ⟨hw, h1, h2, rfl, rfl⟩, h3, h4⟩
  · refine (prog.interpret_err pg im ba en vA fu sl ar ba0 ba1 him w oa na ca hv hw).mono ?_
    rintro e w' ⟨rfl, h4⟩
    exact ⟨mz, 0, _, .slice none 0 0, by rw [rep_mz], Or.inr ⟨hw, rfl, rfl, rfl⟩, World.ownsRow_nil _ _ _ _, h4⟩
/-- A row of texts that an argument names. -/
def ArgAt (l : List ByteArray) (oa : Option Addr) (ca : Nat) (w : World) : Prop :=
  l.length <= ca /\ ca <= maxLen /\ ∀ k s, l[k]? = some s -> ∃ ad, oa = some ad /\ ad.block < w.heap.size /\ w.cell? (ad.add k) = some (.string s)
theorem ArgAt.below {l : List ByteArray} {oa : Option Addr} {ca : Nat} {w w' : World} (h : ArgAt l oa ca w) (hb : Below w.heap.size w w') : ArgAt l oa ca w' := by
  refine ⟨h.1, h.2.1, fun k s hk => ?_⟩
  obtain ⟨ad, h1, h2, h3⟩ := h.2.2 k s hk
  refine ⟨ad, h1, Nat.lt_of_lt_of_le h2 hb.size, ?_⟩
  rw [World.cell?_of_block (w := w) (hb.block (ad.add k).block (by rw [block_add]; exact h2))]; exact h3
theorem ArgAt.ans {im : ByteArray} {l : List ByteArray} {oa : Option Addr} {ca : Nat} {w : World} (h : ArgAt l oa ca w) (hf : Few im l) : ref.AnsAt w.heap.size l (.slice oa l.length ca) w :=
  ⟨oa, ca, rfl, h.1, hf.2.1, h.2.1, h.2.2, hf.2.2⟩
theorem ArgAt.row {l : List ByteArray} {oa : Option Addr} {ca : Nat} {w : World} (h : ArgAt l oa ca w) (hp : 0 < l.length) : ∃ ad, oa = some ad /\ RowAt l ad w /\ ad.block < w.heap.size := by
  obtain ⟨s, hs⟩ : ∃ s, l[0]? = some s := ⟨_, List.getElem?_eq_getElem hp⟩
  obtain ⟨ad, h1, h2, h3⟩ := h.2.2 0 s hs
  refine ⟨ad, h1, fun k t hk => ?_, h2⟩
  obtain ⟨ad', g1, g2, g3⟩ := h.2.2 k t hk
  rw [h1] at g1
  injection g1 with g1
  subst g1
  exact g3
def FewR (im : ByteArray) (l : List ByteArray) (w : World) (e : Ending) (w' : World) : Prop := ∃ y : Bool, e = .returned (.bool y) /\ (y = true -> Few im l) /\ ref.Touch [] w w'
theorem few_any (pg : Int) (im : ByteArray) (ba en fu sl ar : Int) (oa : Option Addr) (l : List ByteArray) (ca : Nat) (w : World) (h : ArgAt l oa ca w) : Calls Tryz.prog 23 #[.agg #[.int .i64 pg, .string im, .int .u32 ba, .int .u32 en, .slice oa l.length ca, .int .i64 fu, .int .i64 sl, .int .i64 ar]] w (FewR im l w) := by
  by_cases h1 : im.size <= 1048576
  · by_cases h2 : l.length <= 4096
    · by_cases hp : 0 < l.length
      · obtain ⟨ad, rfl, hr, hl⟩ := h.row hp
        refine (few_row pg im ba en fu sl ar ad l ca w h1 h2 hr (fun _ => hl)).mono ?_
        rintro e w' ⟨y, rfl, hy, ht⟩
        exact ⟨y, rfl, fun q => ⟨h1, h2, hy.1 q⟩, ht⟩
      · obtain rfl : l = [] := List.eq_nil_of_length_eq_zero oM
        refine (few_nil pg im ba en fu sl ar oa ca w h1).mono ?_
        rintro e w' ⟨rfl, ht⟩
        exact ⟨true, rfl, fun _ => ⟨h1, h2, by simp⟩, ht⟩
    · refine (few_ln pg im ba en fu sl ar oa l.length ca w h1 h2).mono ?_
      rintro e w' ⟨rfl, ht⟩
      exact ⟨false, rfl, fun q => (by cases q), ht⟩
  · refine (few_im pg im ba en fu sl ar (.slice oa l.length ca) w h1).mono ?_
    rintro e w' ⟨rfl, ht⟩
    exact ⟨false, rfl, fun q => (by cases q), ht⟩
theorem there_new (w : World) (cs : Array Value) (t : TypeId) (n : Nat) (hn : cs.size = n) : (w.alloc (.cells cs t)).there w.heap.size 0 n := ref.there_of (w := w.alloc (.cells cs t)) (heap_alloc_new w _) hn rfl
theorem range_touch {w w' : World} {g : Nat} {cs : List Value} (h : w.rangeAt g 0 cs) (t : ref.Touch [] w w') (hg : g < w.heap.size) : w'.rangeAt g 0 cs := fun j v hv => by
  rw [t.cell (p := ⟨g, 0 + j, none⟩) hg sP]; exact h j v hv
theorem below_touch {u w w' : World} (h : Below u.heap.size u w) (t : ref.Touch [] w w') : Below u.heap.size u w' := h.trans (t.below h.size sP)
/-- What a setup comes to in blocks: the machine at the end, the outcome, the error. -/
def ResB (pg : Int) (im : ByteArray) (ba en fu sl ar : Int) (ans : List ByteArray) (m : M) (o er : Int) : Prop := (ref.wrong pg im ba fu sl ar true = 0 /\ BRun (ref.start pg im ba en ans fu sl ar true) m /\ m.ended = true /\ o = m.out /\ er = 0) \/ (¬ ref.wrong pg im ba fu sl ar true = 0 /\ m = mz /\ o = 0 /\ er = ref.wrong pg im ba fu sl ar true)
theorem ResB.one {pg : Int} {im : ByteArray} {ba en fu sl ar : Int} {ans : List ByteArray} {m m' : M} {o o' er er' : Int} (h : ResB pg im ba en fu sl ar ans m o er) (h' : ResB pg im ba en fu sl ar ans m' o' er') : m = m' /\ o = o' /\ er = er' := by
  rcases h with ⟨h0, h1, h2, h3, h4⟩ | ⟨h0, h1, h2, h3⟩
  · rcases h' with ⟨k0, k1, k2, k3, k4⟩ | ⟨k0, _⟩
    · obtain ⟨a, ha⟩ := h1.reach
      obtain ⟨b, hb⟩ := k1.reach
      have e : m = m' := by
        rw [ha, hb]
        exact run_one a b _ (by rw [<- ha]; exact h2) (by rw [<- hb]; exact k2)
      exact ⟨e, by rw [h3, k3, e], by rw [h4, k4]⟩
    · exact absurd h0 k0
  · rcases h' with ⟨k0, _⟩ | ⟨k0, k1, k2, k3⟩
    · exact absurd k0 h0
    · exact ⟨by rw [h1, k1], by rw [h2, k2], by rw [h3, k3]⟩
theorem ResB.evs {pg : Int} {im : ByteArray} {ba en fu sl ar : Int} {ans : List ByteArray} {m : M} {o er : Int} (h : ResB pg im ba en fu sl ar ans m o er) : m.evs.length <= 2000 := by
  rcases h with ⟨h0, h1, h2, h3, h4⟩ | ⟨h0, h1, h2, h3⟩
  · have := h1.good.evs
    have := h1.good.fine.within
    have := h1.good.fine.fuel.2
    omega
  · rw [h1]; exact Nat.zero_le _
def RunQ (pg : Int) (im : ByteArray) (ba en fu sl ar : Int) (ans : List ByteArray) (w : World) (e : Ending) (w' : World) : Prop := ∃ m o er v1, e = .returned (.tuple #[.agg (prog.repP m o v1), .int .i64 er]) /\ ResB pg im ba en fu sl ar ans m o er /\ w'.ownsRow w.heap.size 52 3 v1 m.evs.length (ref.evCells m.evs) /\ Below w.heap.size w w'
theorem run_res (pg : Int) (im : ByteArray) (ba en fu sl ar : Int) (ans : List ByteArray) (ba0 : 0 <= ba) (ba1 : ba <= 4294967295) (en0 : 0 <= en) (en1 : en <= 4294967295) (him : im.size <= 1048576) (vA : Value) (w : World) (ha : ref.AnsAt w.heap.size ans vA w) (hT : ∀ w' x, Below w.heap.size w w' -> decodes.Tabs w' x) :
    Calls Tryz.prog 18 #[.agg #[.int .i64 pg, .string im, .int .u32 ba, .int .u32 en, vA, .int .i64 fu, .int .i64 sl, .int .i64 ar]] w (RunQ pg im ba en fu sl ar ans w) := by
  obtain ⟨oa, na, ca, hv⟩ := ans_slice ha
  by_cases hw : ref.wrong pg im ba fu sl ar true = 0
  · refine (prog.run_ok pg im ba en vA fu sl ar ba0 ba1 him w oa na ca hv ans ha en0 en1 hw hT).mono ?_
    rintro e w' ⟨m, vE, rfl, h1, h2, h3, h4⟩
    exact ⟨m, m.out, 0, vE, rfl, Or.inl ⟨hw, h1, h2, rfl, rfl⟩, h3, h4⟩
  · refine (prog.run_err pg im ba en vA fu sl ar ba0 ba1 him w oa na ca hv hw).mono ?_
    rintro e w' ⟨rfl, h4⟩
    exact ⟨mz, 0, _, .slice none 0 0, by rw [rep_mz], Or.inr ⟨hw, rfl, rfl, rfl⟩, World.ownsRow_nil _ _ _ _, h4⟩
theorem wrong_tf {pg : Int} {im : ByteArray} {ba fu sl ar sl' ar' : Int} (h : ¬ ref.wrong pg im ba fu sl' ar' false = 0) : ref.wrong pg im ba fu sl ar true = ref.wrong pg im ba fu sl' ar' false := by
  unfold ref.wrong at h ⊢
  by_cases c1 : pg < 1 \/ 8 < pg
  · rw [if_pos c1, if_pos c1]
  rw [if_neg c1] at h
  rw [if_neg c1, if_neg c1]
  by_cases c2 : pg * 64 < im.size \/ pg * 64 - im.size < ba
  · rw [if_pos c2, if_pos c2]
  rw [if_neg c2] at h
  rw [if_neg c2, if_neg c2]
  by_cases c3 : fu < 0 \/ 2000 < fu
  · rw [if_pos c3, if_pos c3]
  rw [if_neg c3] at h
  exact absurd (if_neg (fun q => by cases q.1)) h
theorem wrong_04 {pg : Int} {im : ByteArray} {ba fu sl ar sl' ar' : Int} (h : ref.wrong pg im ba fu sl' ar' false = 0) : ref.wrong pg im ba fu sl ar true = 0 \/ ref.wrong pg im ba fu sl ar true = 4 := by
  unfold ref.wrong at h ⊢
  by_cases c1 : pg < 1 \/ 8 < pg
  · rw [if_pos c1] at h; omega
  rw [if_neg c1] at h
  rw [if_neg c1]
  by_cases c2 : pg * 64 < im.size \/ pg * 64 - im.size < ba
  · rw [if_pos c2] at h; omega
  rw [if_neg c2] at h
  rw [if_neg c2]
  by_cases c3 : fu < 0 \/ 2000 < fu
  · rw [if_pos c3] at h; omega
  rw [if_neg c3] at h
  rw [if_neg c3]
  by_cases c4 : sl < 1 \/ 64 < sl \/ ar < 8 \/ 256 < ar
  · rw [if_pos ⟨rfl, c4⟩]; exact Or.inr rfl
  · rw [if_neg (fun q => c4 q.2)]; exact Or.inl rfl
theorem rep_reg (m : M) (o : Int) (vE : Value) (k : Nat) (hk : k < 32) : (prog.repP m o vE)[2 + k]? = some (.int .u32 (m.regs k)) := by
  have : k = 0 \/ k = 1 \/ k = 2 \/ k = 3 \/ k = 4 \/ k = 5 \/ k = 6 \/ k = 7 \/ k = 8 \/ k = 9 \/ k = 10 \/ k = 11 \/ k = 12 \/ k = 13 \/ k = 14 \/ k = 15 \/ k = 16 \/ k = 17 \/ k = 18 \/ k = 19 \/ k = 20 \/ k = 21 \/ k = 22 \/ k = 23 \/ k = 24 \/ k = 25 \/ k = 26 \/ k = 27 \/ k = 28 \/ k = 29 \/ k = 30 \/ k = 31 := by omega
  rcases this with rfl | rfl | rfl | rfl | rfl | rfl | rfl | rfl | rfl | rfl | rfl | rfl | rfl | rfl | rfl | rfl | rfl | rfl | rfl | rfl | rfl | rfl | rfl | rfl | rfl | rfl | rfl | rfl | rfl | rfl | rfl | rfl <;> rfl
/-- An event of a row. -/
theorem row_ev {w : World} {base : Nat} {v : Value} {l : List Ev} (h : w.ownsRow base 52 3 v l.length (ref.evCells l)) (k : Nat) (x : Ev) (hk : l[k]? = some x) :
    ∃ g c, v = .slice (some ⟨g, 0, none⟩) l.length c /\ w.cell? ⟨g, k * 3, none⟩ = some (.int .u32 x.call) /\ w.cell? ⟨g, k * 3 + 1, none⟩ = some (.int .u32 x.result) /\ w.cell? ⟨g, k * 3 + 2, none⟩ = some (.string x.data) := by
  have hl : k < l.length := (List.getElem?_eq_some_iff.1 hk).1
  rcases h.2 with ⟨h1, h0⟩ | ⟨g, cap, cur, hv, hb, hg, hn, hm, hs, ht⟩
  · omega
  · have cells : ∀ (l : List Ev) (k : Nat) (x : Ev), l[k]? = some x -> (ref.evCells l)[k * 3]? = some (.int .u32 x.call) /\ (ref.evCells l)[k * 3 + 1]? = some (.int .u32 x.result) /\ (ref.evCells l)[k * 3 + 2]? = some (.string x.data) := by
      intro l
      induction l with
      | nil => intro k x h; simp at h
      | cons y r ih =>
        intro k x h
        cases k with
        | zero => simp at h; subst h; simp [ref.evCells]
        | succ k =>
          have := ih k x (by simpa using h)
          have e : ref.evCells (y :: r) = [.int .u32 y.call, .int .u32 y.result, .string y.data] ++ ref.evCells r := by simp [ref.evCells]
          rw [e, show (k + 1) * 3 = k * 3 + 3 by omega]
          simpa using this
    obtain ⟨a1, a2, a3⟩ := cells l k x hk
    have get : ∀ j u, (ref.evCells l)[j]? = some u -> w.cell? ⟨g, j, none⟩ = some u := fun j u hu => by
      rw [cell_of_row w g j cur 52 (0, 0) hg]
      rw [<- ht, List.getElem?_take] at hu
      by_cases c : j < l.length * 3
      · rw [if_pos c] at hu; simpa using hu
      · rw [if_neg c] at hu; cases hu
    exact ⟨g, cap, hv, get _ _ a1, get _ _ a2, get _ _ a3⟩
theorem same_any (m : M) (bu bv o : Int) (v1 v2 : Value) (B1 B2 : Nat) (w : World) (h1 : w.ownsRow B1 52 3 v1 m.evs.length (ref.evCells m.evs)) (h2 : w.ownsRow B2 52 3 v2 m.evs.length (ref.evCells m.evs)) (hev : m.evs.length <= 2000) :
    Calls Tryz.prog 24 #[.agg (prog.repP { m with built := bu } o v1), .agg (prog.repP { m with built := bv } o v2)] w fun e w' => e = .returned (.bool true) /\ ref.Touch [] w w' := by
  have tW : ref.Touch [] w ((w.alloc (.cells (prog.repP { m with built := bu } o v1) 32)).alloc (.cells (prog.repP { m with built := bv } o v2) 32)) := ((ref.Touch.refl _ _).alloc _).alloc _
  have HO1 : Hid (w.ownsRow B1 52 3 v1 m.evs.length (ref.evCells m.evs)) := h1
  have HO2 : Hid (w.ownsRow B2 52 3 v2 m.evs.length (ref.evCells m.evs)) := h2
  have HT : Hid (ref.Touch [] w ((w.alloc (.cells (prog.repP { m with built := bu } o v1) 32)).alloc (.cells (prog.repP { m with built := bv } o v2) 32))) := tW
  obtain ⟨o1, n1, c1, hv1⟩ : ∃ o1 n1 c1, v1 = .slice o1 n1 c1 /\ n1 = m.evs.length := by
    rcases h1.2 with ⟨rfl, h0⟩ | ⟨g, cap, cur, rfl, _⟩
    · exact ⟨none, 0, 0, rfl, h0.symm⟩
    · exact ⟨_, _, _, rfl, rfl⟩
  obtain ⟨o2, n2, c2, hv2⟩ : ∃ o1 n1 c1, v2 = .slice o1 n1 c1 /\ n1 = m.evs.length := by
    rcases h2.2 with ⟨rfl, h0⟩ | ⟨g, cap, cur, rfl, _⟩
    · exact ⟨none, 0, 0, rfl, h0.symm⟩
    · exact ⟨_, _, _, rfl, rfl⟩
  obtain ⟨rfl, rfl⟩ := hv1
  obtain ⟨rfl, rfl⟩ := hv2
  have a0 : (prog.repP { m with built := bu } o (.slice o1 m.evs.length c1))[0]? = some (.int .i64 o) := rfl
  have b0 : (prog.repP { m with built := bv } o (.slice o2 m.evs.length c2))[0]? = some (.int .i64 o) := rfl
  have a1 : (prog.repP { m with built := bu } o (.slice o1 m.evs.length c1))[1]? = some (.int .u32 m.pc) := rfl
  have b1 : (prog.repP { m with built := bv } o (.slice o2 m.evs.length c2))[1]? = some (.int .u32 m.pc) := rfl
  have a34 : (prog.repP { m with built := bu } o (.slice o1 m.evs.length c1))[34]? = some (.int .u32 m.brk) := rfl
  have b34 : (prog.repP { m with built := bv } o (.slice o2 m.evs.length c2))[34]? = some (.int .u32 m.brk) := rfl
  have a35 : (prog.repP { m with built := bu } o (.slice o1 m.evs.length c1))[35]? = some (.string (ref.memD m.mem 0 m.size)) := rfl
  have b35 : (prog.repP { m with built := bv } o (.slice o2 m.evs.length c2))[35]? = some (.string (ref.memD m.mem 0 m.size)) := rfl
  have a36 : (prog.repP { m with built := bu } o (.slice o1 m.evs.length c1))[36]? = some ((.slice o1 m.evs.length c1)) := rfl
  have b36 : (prog.repP { m with built := bv } o (.slice o2 m.evs.length c2))[36]? = some ((.slice o2 m.evs.length c2)) := rfl
  have a37 : (prog.repP { m with built := bu } o (.slice o1 m.evs.length c1))[37]? = some (.int .i64 m.steps) := rfl
  have b37 : (prog.repP { m with built := bv } o (.slice o2 m.evs.length c2))[37]? = some (.int .i64 m.steps) := rfl
  clear h1 h2 tW
  go_enter Tryz.func24, Tryz.ntmps24
  go_wp2_with fail
  go_loopw [5] (fun i wr => ∃ k : Nat, k <= 32 /\ i = .int .i64 k /\ ∃ n, wr = ((w.alloc (.cells (prog.repP { m with built := bu } o (.slice o1 m.evs.length c1)) 32)).alloc (.cells (prog.repP { m with built := bv } o (.slice o2 m.evs.length c2)) 32)).drewN n) (fun i _ => 32 - (intOf i).toNat)
  case atStart => exact ⟨0, by omega, rfl, 0, rfl⟩
  case round =>
    obtain ⟨k, hk, rfl, n, rfl⟩ := hrel
    by_cases hlt : k < 32
    · have ra := rep_reg { m with built := bu } o (.slice o1 m.evs.length c1) k hlt
      have rb := rep_reg { m with built := bv } o (.slice o2 m.evs.length c2) k hlt
      have q1 : (k : Int) < 32 := by omega
      have q2 : (0 : Int) <= (k : Int) := by omega
      go_wp2_with fail
      go_quiet (fail)
      go_wp2_with fail
      go_roundw
      case rel => exact ⟨k + 1, by omega, by simp, _, rfl⟩
      case measure => simp [intOf]; omega
    · have q1 : (32 : Int) <= (k : Int) := by omega
      go_wp2_with fail
      go_loopw [6] (fun i wr => ∃ k : Nat, k <= m.evs.length /\ i = .int .i64 k /\ ∃ n, wr = ((w.alloc (.cells (prog.repP { m with built := bu } o (.slice o1 m.evs.length c1)) 32)).alloc (.cells (prog.repP { m with built := bv } o (.slice o2 m.evs.length c2)) 32)).drewN n) (fun i _ => m.evs.length - (intOf i).toNat)
      case atStart => exact ⟨0, by omega, rfl, n, rfl⟩
      case round =>
        obtain ⟨k2, hk2, rfl, n2, rfl⟩ := hrel
        by_cases hlt2 : k2 < m.evs.length
        · obtain ⟨x, hx⟩ : ∃ x, m.evs[k2]? = some x := ⟨_, List.getElem?_eq_getElem hlt2⟩
          obtain ⟨g1, d1, hv1, e1, e2, e3⟩ := row_ev HO1.out k2 x hx
          obtain ⟨g2, d2, hv2, i1, i2, i3⟩ := row_ev HO2.out k2 x hx
          injection hv1 with hv1 hn1 hd1
          injection hv2 with hv2 hn2 hd2
          clear hn1 hn2
          subst hv1
          subst hv2
          subst hd1
          subst hd2
          have lg1 : g1 < w.heap.size := World.block_lt_of_cell? _ _ e1
          have lg2 : g2 < w.heap.size := World.block_lt_of_cell? _ _ i1
          have q3 : (k2 : Int) < (m.evs.length : Int) := by omega
          have q4 : (0 : Int) <= (k2 : Int) := by omega
          go_wp2_with fail
          go_quiet (fail)
          go_wp2_with fail
          go_roundw
          case rel => exact ⟨k2 + 1, by omega, by simp, _, rfl⟩
          case measure => simp [intOf]; omega
        · have q3 : (m.evs.length : Int) <= (k2 : Int) := by omega
          go_wp2_with fail
          go_ret
          exact ⟨rfl, HT.out.drewN _⟩
theorem tl_len (bs : ByteArray) : ∀ (n i : Nat) (r : List UInt8), bs.size - i = n -> (ByteArray.toList.loop bs i r).length = r.length + n
  | 0, i, r, h => by
    unfold ByteArray.toList.loop
    rw [if_neg oM]; simp
  | n + 1, i, r, h => by
    unfold ByteArray.toList.loop
    rw [if_pos oM, tl_len bs n (i + 1) _ oM]
    simp; omega
theorem memD_tl (f : Nat -> Int) (k n : Nat) (h : 0 < n) : ¬ (ref.memD f k n).toList = [] := fun e => by
  have h2 : (ref.memD f k n).size = n := by simp [ref.memD, ByteArray.size]
  have h3 := tl_len (ref.memD f k n) n 0 [] oM
  have h4 : (ByteArray.toList.loop (ref.memD f k n) 0 []).length = 0 := by
    have : ByteArray.toList.loop (ref.memD f k n) 0 [] = [] := e
    rw [this]; rfl
  rw [h4] at h3
  simp at h3
  omega
theorem same_err (m : M) (o : Int) (o1 o2 : Option Addr) (c1 c2 : Nat) (w : World) (hz : 0 < m.size) :
    Calls Tryz.prog 24 #[.agg (prog.repP m o (.slice o1 m.evs.length c1)), .agg (prog.repP mz 0 (.slice o2 0 c2))] w fun e w' => e = .returned (.bool false) /\ ref.Touch [] w w' := by
  have HT : Hid (ref.Touch [] w ((w.alloc (.cells (prog.repP m o (.slice o1 m.evs.length c1)) 32)).alloc (.cells (prog.repP mz 0 (.slice o2 0 c2)) 32))) := ((ref.Touch.refl _ _).alloc _).alloc _
  have a0 : (prog.repP m o (.slice o1 m.evs.length c1))[0]? = some (.int .i64 o) := rfl
  have a1 : (prog.repP m o (.slice o1 m.evs.length c1))[1]? = some (.int .u32 m.pc) := rfl
  have a34 : (prog.repP m o (.slice o1 m.evs.length c1))[34]? = some (.int .u32 m.brk) := rfl
  have a35 : (prog.repP m o (.slice o1 m.evs.length c1))[35]? = some (.string (ref.memD m.mem 0 m.size)) := rfl
  have a36 : (prog.repP m o (.slice o1 m.evs.length c1))[36]? = some ((.slice o1 m.evs.length c1)) := rfl
  have a37 : (prog.repP m o (.slice o1 m.evs.length c1))[37]? = some (.int .i64 m.steps) := rfl
  have b0 : (prog.repP mz 0 (.slice o2 0 c2))[0]? = some (.int .i64 0) := rfl
  have b1 : (prog.repP mz 0 (.slice o2 0 c2))[1]? = some (.int .u32 0) := rfl
  have b34 : (prog.repP mz 0 (.slice o2 0 c2))[34]? = some (.int .u32 0) := rfl
  have b35 : (prog.repP mz 0 (.slice o2 0 c2))[35]? = some (.string ⟨#[]⟩) := rfl
  have b36 : (prog.repP mz 0 (.slice o2 0 c2))[36]? = some ((.slice o2 0 c2)) := rfl
  have b37 : (prog.repP mz 0 (.slice o2 0 c2))[37]? = some (.int .i64 0) := rfl
  have hm := memD_tl m.mem 0 m.size hz
  by_cases h1 : o = 0
  · subst h1
    by_cases h2 : m.pc = 0
    · by_cases h3 : m.brk = 0
      · go_enter Tryz.func24, Tryz.ntmps24
        go_wp2_with fail
        go_ret
        exact ⟨rfl, HT.out⟩
      · have g3 : (m.brk == 0) = false := by simpa using h3
        go_enter Tryz.func24, Tryz.ntmps24
        go_wp2_with fail
        go_ret
        exact ⟨rfl, HT.out⟩
    · have g2 : (m.pc == 0) = false := by simpa using h2
      go_enter Tryz.func24, Tryz.ntmps24
      go_wp2_with fail
      go_ret
      exact ⟨rfl, HT.out⟩
  · have g1 : (o == 0) = false := by simpa using h1
    go_enter Tryz.func24, Tryz.ntmps24
    go_wp2_with fail
    go_ret
    exact ⟨rfl, HT.out⟩
/-- The second report beside the first, of a run one by one. -/
def Good (m1 : M) (o1 : Int) (m2 : M) (o2 er2 : Int) : Prop := (er2 = 0 /\ m2.evs = m1.evs /\ ∀ v, prog.repP m2 o2 v = prog.repP { m1 with built := m2.built } o1 v) \/ (er2 = 4 /\ m2 = mz /\ o2 = 0)
theorem ev_len {w : World} {base : Nat} {v : Value} {m : M} (h : w.ownsRow base 52 3 v m.evs.length (ref.evCells m.evs)) : ∃ o c, v = .slice o m.evs.length c := by
  rcases h.2 with ⟨rfl, h0⟩ | ⟨g, cap, cur, rfl, _⟩
  · exact ⟨none, 0, by rw [h0]⟩
  · exact ⟨_, _, rfl⟩
theorem same_good (m1 m2 : M) (o1 o2 er2 : Int) (v1 v2 : Value) (B1 B2 : Nat) (w : World) (h1 : w.ownsRow B1 52 3 v1 m1.evs.length (ref.evCells m1.evs)) (h2 : w.ownsRow B2 52 3 v2 m2.evs.length (ref.evCells m2.evs)) (hev : m1.evs.length <= 2000) (hz : 0 < m1.size) (hg : Good m1 o1 m2 o2 er2) :
    Calls Tryz.prog 24 #[.agg (prog.repP m1 o1 v1), .agg (prog.repP m2 o2 v2)] w fun e w' => ∃ y, e = .returned (.bool y) /\ (er2 = 0 -> y = true) /\ ref.Touch [] w w' := by
  rcases hg with ⟨g1, g2, g3⟩ | ⟨g1, g2, g3⟩
  · rw [g3 v2]
    rw [g2] at h2
    refine (same_any m1 m1.built m2.built o1 v1 v2 B1 B2 w h1 h2 hev).mono ?_
    rintro e w' ⟨rfl, ht⟩
    exact ⟨true, rfl, fun _ => rfl, ht⟩
  · obtain ⟨oe, ce, hv⟩ := ev_len h1
    obtain ⟨of, cf, hv2⟩ := ev_len h2
    subst g2
    rw [hv, hv2, g3]
    refine (same_err m1 o1 oe of ce cf w hz).mono ?_
    rintro e w' ⟨rfl, ht⟩
    exact ⟨false, rfl, fun q => (by rw [q] at g1; cases g1), ht⟩
theorem ans_nil (w : World) : ref.AnsAt w.heap.size [] (.slice none 0 0) w := ⟨none, 0, rfl, Nat.le_refl _, by simp, by unfold maxLen; omega, fun k s hk => by simp at hk, fun s hs => by simp at hs⟩
theorem alive_cell (k : Nat) (x : Int) (hk : aliveL[k]? = some x) : (#[.int .u32 5243027, .int .u32 1377587, .int .u32 4293951635, .int .u32 4261453027, .int .u32 97519763, .int .u32 115] : Array Value)[k]? = some (.int .u32 x) := by
  have h6 : k < 6 := (List.getElem?_eq_some_iff.1 hk).1
  have : k = 0 \/ k = 1 \/ k = 2 \/ k = 3 \/ k = 4 \/ k = 5 := by omega
  rcases this with rfl | rfl | rfl | rfl | rfl | rfl <;> (injection hk with hk; subst hk; rfl)
theorem ev_one (l : List Ev) (h : l.map (fun e => (e.call, e.result)) = [(93, 15)]) : l.length = 1 /\ ∃ x, l[0]? = some x /\ x.result = 15 := by
  match l with
  | [] => simp at h
  | [x] => exact ⟨rfl, x, rfl, by simp at h; exact h.2⟩
  | x :: y :: r => simp at h
theorem alive_i {m : M} {o er : Int} (h : Res 1 (textB aliveL) 0 0 100 2 8 [] m o er) : er = 0 /\ o = 1 /\ m.regs 10 = 15 /\ m.steps = 18 /\ m.evs.length = 1 /\ ∃ x, m.evs[0]? = some x /\ x.result = 15 := by
  rcases h with ⟨_, h1, h2, h3, h4⟩ | ⟨h0, _⟩
  · obtain ⟨k, hk⟩ := h1.reach
    obtain ⟨a1, a2, a3, a4, a5⟩ := alive_1
    rw [hk] at h2
    rw [run_one k 19 _ h2 a1] at hk
    generalize run 19 (ref.start 1 (textB aliveL) 0 0 [] 100 2 8 false) = q at *
    subst hk
    exact ⟨h4, h3.trans a2, a3, a4, ev_one _ a5⟩
  · exact absurd (by decide +kernel) h0
theorem alive_r {m : M} {o er : Int} (h : ResB 1 (textB aliveL) 0 0 100 2 8 [] m o er) : er = 0 /\ o = 1 /\ m.regs 10 = 15 /\ m.steps = 18 /\ m.evs.length = 1 /\ ∃ x, m.evs[0]? = some x /\ x.result = 15 /\ 0 < m.built := by
  rcases h with ⟨_, h1, h2, h3, h4⟩ | ⟨h0, _⟩
  · obtain ⟨k, hk⟩ := h1.reach
    obtain ⟨a1, a2, a3, a4, a5, a6⟩ := alive_2
    rw [hk] at h2
    rw [run_one k 19 _ h2 a1] at hk
    generalize run 19 (ref.start 1 (textB aliveL) 0 0 [] 100 2 8 true) = q at *
    subst hk
    obtain ⟨e1, x, e2, e3⟩ := ev_one _ a5
    exact ⟨h4, h3.trans a2, a3, a4, e1, x, e2, e3, a6⟩
  · exact absurd (by decide +kernel) h0
theorem alive_any (w : World) (hT : ∀ w' x, Below w.heap.size w w' -> decodes.Tabs w' x) : Calls Tryz.prog 22 #[] w fun e w' => e = .returned (.bool true) /\ Below w.heap.size w w' := by
  have HTB : Hid (∀ w' x, Below w.heap.size w w' -> decodes.Tabs w' x) := hT
  clear hT
  go_enter Tryz.func22, Tryz.ntmps22
  go_wp2_with fail
  have c00 : ((w.alloc (.cells #[.int .i64 1, .string ⟨#[]⟩, .int .u32 0, .int .u32 0, .slice none 0 0, .int .i64 100, .int .i64 2, .int .i64 8] 25)).alloc (.cells #[.int .u32 5243027, .int .u32 1377587, .int .u32 4293951635, .int .u32 4261453027, .int .u32 97519763, .int .u32 115] 22)).cell? ⟨w.heap.size, 0, none⟩ = some (.int .i64 1) := by rw [World.cell?_alloc_past _ _ _ sP, World.cell?_alloc_at _ _ _ _ rfl]; rfl
  have c01 : ((w.alloc (.cells #[.int .i64 1, .string ⟨#[]⟩, .int .u32 0, .int .u32 0, .slice none 0 0, .int .i64 100, .int .i64 2, .int .i64 8] 25)).alloc (.cells #[.int .u32 5243027, .int .u32 1377587, .int .u32 4293951635, .int .u32 4261453027, .int .u32 97519763, .int .u32 115] 22)).cell? ⟨w.heap.size, 1, none⟩ = some (.string ⟨#[]⟩) := by rw [World.cell?_alloc_past _ _ _ sP, World.cell?_alloc_at _ _ _ _ rfl]; rfl
  have c02 : ((w.alloc (.cells #[.int .i64 1, .string ⟨#[]⟩, .int .u32 0, .int .u32 0, .slice none 0 0, .int .i64 100, .int .i64 2, .int .i64 8] 25)).alloc (.cells #[.int .u32 5243027, .int .u32 1377587, .int .u32 4293951635, .int .u32 4261453027, .int .u32 97519763, .int .u32 115] 22)).cell? ⟨w.heap.size, 2, none⟩ = some (.int .u32 0) := by rw [World.cell?_alloc_past _ _ _ sP, World.cell?_alloc_at _ _ _ _ rfl]; rfl
  have c03 : ((w.alloc (.cells #[.int .i64 1, .string ⟨#[]⟩, .int .u32 0, .int .u32 0, .slice none 0 0, .int .i64 100, .int .i64 2, .int .i64 8] 25)).alloc (.cells #[.int .u32 5243027, .int .u32 1377587, .int .u32 4293951635, .int .u32 4261453027, .int .u32 97519763, .int .u32 115] 22)).cell? ⟨w.heap.size, 3, none⟩ = some (.int .u32 0) := by rw [World.cell?_alloc_past _ _ _ sP, World.cell?_alloc_at _ _ _ _ rfl]; rfl
  have c04 : ((w.alloc (.cells #[.int .i64 1, .string ⟨#[]⟩, .int .u32 0, .int .u32 0, .slice none 0 0, .int .i64 100, .int .i64 2, .int .i64 8] 25)).alloc (.cells #[.int .u32 5243027, .int .u32 1377587, .int .u32 4293951635, .int .u32 4261453027, .int .u32 97519763, .int .u32 115] 22)).cell? ⟨w.heap.size, 4, none⟩ = some (.slice none 0 0) := by rw [World.cell?_alloc_past _ _ _ sP, World.cell?_alloc_at _ _ _ _ rfl]; rfl
  have c05 : ((w.alloc (.cells #[.int .i64 1, .string ⟨#[]⟩, .int .u32 0, .int .u32 0, .slice none 0 0, .int .i64 100, .int .i64 2, .int .i64 8] 25)).alloc (.cells #[.int .u32 5243027, .int .u32 1377587, .int .u32 4293951635, .int .u32 4261453027, .int .u32 97519763, .int .u32 115] 22)).cell? ⟨w.heap.size, 5, none⟩ = some (.int .i64 100) := by rw [World.cell?_alloc_past _ _ _ sP, World.cell?_alloc_at _ _ _ _ rfl]; rfl
  have c06 : ((w.alloc (.cells #[.int .i64 1, .string ⟨#[]⟩, .int .u32 0, .int .u32 0, .slice none 0 0, .int .i64 100, .int .i64 2, .int .i64 8] 25)).alloc (.cells #[.int .u32 5243027, .int .u32 1377587, .int .u32 4293951635, .int .u32 4261453027, .int .u32 97519763, .int .u32 115] 22)).cell? ⟨w.heap.size, 6, none⟩ = some (.int .i64 2) := by rw [World.cell?_alloc_past _ _ _ sP, World.cell?_alloc_at _ _ _ _ rfl]; rfl
  have c07 : ((w.alloc (.cells #[.int .i64 1, .string ⟨#[]⟩, .int .u32 0, .int .u32 0, .slice none 0 0, .int .i64 100, .int .i64 2, .int .i64 8] 25)).alloc (.cells #[.int .u32 5243027, .int .u32 1377587, .int .u32 4293951635, .int .u32 4261453027, .int .u32 97519763, .int .u32 115] 22)).cell? ⟨w.heap.size, 7, none⟩ = some (.int .i64 8) := by rw [World.cell?_alloc_past _ _ _ sP, World.cell?_alloc_at _ _ _ _ rfl]; rfl
  have f00 : ((w.alloc (.cells #[.int .i64 1, .string ⟨#[]⟩, .int .u32 0, .int .u32 0, .slice none 0 0, .int .i64 100, .int .i64 2, .int .i64 8] 25)).alloc (.cells #[.int .u32 5243027, .int .u32 1377587, .int .u32 4293951635, .int .u32 4261453027, .int .u32 97519763, .int .u32 115] 22)).frozen? ⟨w.heap.size, 1, none⟩ = false := by rw [World.frozen?_alloc_past _ _ _ sP]; exact World.frozen?_alloc_at _ _ _ _ rfl
  have HB0 : Hid (Below w.heap.size w ((w.alloc (.cells #[.int .i64 1, .string ⟨#[]⟩, .int .u32 0, .int .u32 0, .slice none 0 0, .int .i64 100, .int .i64 2, .int .i64 8] 25)).alloc (.cells #[.int .u32 5243027, .int .u32 1377587, .int .u32 4293951635, .int .u32 4261453027, .int .u32 97519763, .int .u32 115] 22))) := ((Below.refl _ _).alloc (Nat.le_refl _) _).alloc sP _
  refine (Calls.mono (text_any aliveL dC dC (w.heap.size + 1) 6 ((w.alloc (.cells #[.int .i64 1, .string ⟨#[]⟩, .int .u32 0, .int .u32 0, .slice none 0 0, .int .i64 100, .int .i64 2, .int .i64 8] 25)).alloc (.cells #[.int .u32 5243027, .int .u32 1377587, .int .u32 4293951635, .int .u32 4261453027, .int .u32 97519763, .int .u32 115] 22)) (fun k x hk => ?_)) ?_)
  · rw [World.cell?_alloc_at _ _ _ _ sP]; exact alive_cell k x hk
  rintro e w2 ⟨rfl, ht⟩
  have c1 : w2.cell? ⟨w.heap.size, 0, none⟩ = some (.int .i64 1) := (ht.cell (p := ⟨w.heap.size, 0, none⟩) (World.block_lt_of_cell? _ _ c00) sP).trans c00
  have c2 : w2.cell? ⟨w.heap.size, 1, none⟩ = some (.string ⟨#[]⟩) := (ht.cell (p := ⟨w.heap.size, 1, none⟩) (World.block_lt_of_cell? _ _ c01) sP).trans c01
  have c3 : w2.cell? ⟨w.heap.size, 2, none⟩ = some (.int .u32 0) := (ht.cell (p := ⟨w.heap.size, 2, none⟩) (World.block_lt_of_cell? _ _ c02) sP).trans c02
  have c4 : w2.cell? ⟨w.heap.size, 3, none⟩ = some (.int .u32 0) := (ht.cell (p := ⟨w.heap.size, 3, none⟩) (World.block_lt_of_cell? _ _ c03) sP).trans c03
  have c5 : w2.cell? ⟨w.heap.size, 4, none⟩ = some (.slice none 0 0) := (ht.cell (p := ⟨w.heap.size, 4, none⟩) (World.block_lt_of_cell? _ _ c04) sP).trans c04
  have c6 : w2.cell? ⟨w.heap.size, 5, none⟩ = some (.int .i64 100) := (ht.cell (p := ⟨w.heap.size, 5, none⟩) (World.block_lt_of_cell? _ _ c05) sP).trans c05
  have c7 : w2.cell? ⟨w.heap.size, 6, none⟩ = some (.int .i64 2) := (ht.cell (p := ⟨w.heap.size, 6, none⟩) (World.block_lt_of_cell? _ _ c06) sP).trans c06
  have c8 : w2.cell? ⟨w.heap.size, 7, none⟩ = some (.int .i64 8) := (ht.cell (p := ⟨w.heap.size, 7, none⟩) (World.block_lt_of_cell? _ _ c07) sP).trans c07
  have f9 : w2.frozen? ⟨w.heap.size, 1, none⟩ = false := (ht.frozen (p := ⟨w.heap.size, 1, none⟩) (World.block_lt_of_cell? _ _ c00 : w.heap.size < _) sP).trans f00
  have HB10 : Hid (Below w.heap.size w w2) := below_touch HB0.out ht
  clear c00 c01 c02 c03 c04 c05 c06 c07 f00
  clear ht
  go_wp2_with fail
  have ts : ref.Touch [w.heap.size] w2 (w2.setCell ⟨w.heap.size, 1, none⟩ (.string (textB aliveL))) := (ref.Touch.refl _ _).setCell sP _
  have HB9 : Hid (Below w.heap.size w (w2.setCell ⟨w.heap.size, 1, none⟩ (.string (textB aliveL)))) := HB10.out.trans (ts.below HB10.out.size sP)
  have d0 : (w2.setCell ⟨w.heap.size, 1, none⟩ (.string (textB aliveL))).cell? ⟨w.heap.size, 0, none⟩ = some (.int .i64 1) := (World.cell?_setCell_other _ _ _ _ (by intro e; injection e with _ e; omega)).trans c1
  have d1 : (w2.setCell ⟨w.heap.size, 1, none⟩ (.string (textB aliveL))).cell? ⟨w.heap.size, 1, none⟩ = some (.string (textB aliveL)) := World.cell?_setCell_same _ _ _ c2
  have d2 : (w2.setCell ⟨w.heap.size, 1, none⟩ (.string (textB aliveL))).cell? ⟨w.heap.size, 2, none⟩ = some (.int .u32 0) := (World.cell?_setCell_other _ _ _ _ (by intro e; injection e with _ e; omega)).trans c3
  have d3 : (w2.setCell ⟨w.heap.size, 1, none⟩ (.string (textB aliveL))).cell? ⟨w.heap.size, 3, none⟩ = some (.int .u32 0) := (World.cell?_setCell_other _ _ _ _ (by intro e; injection e with _ e; omega)).trans c4
  have d4 : (w2.setCell ⟨w.heap.size, 1, none⟩ (.string (textB aliveL))).cell? ⟨w.heap.size, 4, none⟩ = some (.slice none 0 0) := (World.cell?_setCell_other _ _ _ _ (by intro e; injection e with _ e; omega)).trans c5
  have d5 : (w2.setCell ⟨w.heap.size, 1, none⟩ (.string (textB aliveL))).cell? ⟨w.heap.size, 5, none⟩ = some (.int .i64 100) := (World.cell?_setCell_other _ _ _ _ (by intro e; injection e with _ e; omega)).trans c6
  have d6 : (w2.setCell ⟨w.heap.size, 1, none⟩ (.string (textB aliveL))).cell? ⟨w.heap.size, 6, none⟩ = some (.int .i64 2) := (World.cell?_setCell_other _ _ _ _ (by intro e; injection e with _ e; omega)).trans c7
  have d7 : (w2.setCell ⟨w.heap.size, 1, none⟩ (.string (textB aliveL))).cell? ⟨w.heap.size, 7, none⟩ = some (.int .i64 8) := (World.cell?_setCell_other _ _ _ _ (by intro e; injection e with _ e; omega)).trans c8
  clear ts c1 c2 c3 c4 c5 c6 c7 c8 f9
  generalize (w2.setCell ⟨w.heap.size, 1, none⟩ (.string (textB aliveL))) = w3 at *
  refine (Calls.mono (interpret_res 1 (textB aliveL) 0 0 100 2 8 [] dC dC dC dC (by rw [text_size]; decide) (.slice none 0 0) w3 (ans_nil _) (fun w' x hb => HTB.out w' x (HB9.out.trans (hb.mono HB9.out.size)))) ?_)
  rintro e wa1 ⟨m1, o1, er1, v1, rfl, hres, how, hb⟩
  have HRES1 : Hid (Res 1 (textB aliveL) 0 0 100 2 8 [] m1 o1 er1) := hres
  have hto : ref.Touch [] w3 wa1 := ref.Touch.of_below hb
  have c101 : wa1.cell? ⟨w.heap.size, 0, none⟩ = some (.int .i64 1) := (hto.cell (p := ⟨w.heap.size, 0, none⟩) (World.block_lt_of_cell? _ _ d0) sP).trans d0
  have c102 : wa1.cell? ⟨w.heap.size, 1, none⟩ = some (.string (textB aliveL)) := (hto.cell (p := ⟨w.heap.size, 1, none⟩) (World.block_lt_of_cell? _ _ d1) sP).trans d1
  have c103 : wa1.cell? ⟨w.heap.size, 2, none⟩ = some (.int .u32 0) := (hto.cell (p := ⟨w.heap.size, 2, none⟩) (World.block_lt_of_cell? _ _ d2) sP).trans d2
  have c104 : wa1.cell? ⟨w.heap.size, 3, none⟩ = some (.int .u32 0) := (hto.cell (p := ⟨w.heap.size, 3, none⟩) (World.block_lt_of_cell? _ _ d3) sP).trans d3
  have c105 : wa1.cell? ⟨w.heap.size, 4, none⟩ = some (.slice none 0 0) := (hto.cell (p := ⟨w.heap.size, 4, none⟩) (World.block_lt_of_cell? _ _ d4) sP).trans d4
  have c106 : wa1.cell? ⟨w.heap.size, 5, none⟩ = some (.int .i64 100) := (hto.cell (p := ⟨w.heap.size, 5, none⟩) (World.block_lt_of_cell? _ _ d5) sP).trans d5
  have c107 : wa1.cell? ⟨w.heap.size, 6, none⟩ = some (.int .i64 2) := (hto.cell (p := ⟨w.heap.size, 6, none⟩) (World.block_lt_of_cell? _ _ d6) sP).trans d6
  have c108 : wa1.cell? ⟨w.heap.size, 7, none⟩ = some (.int .i64 8) := (hto.cell (p := ⟨w.heap.size, 7, none⟩) (World.block_lt_of_cell? _ _ d7) sP).trans d7
  have HB109 : Hid (Below w.heap.size w wa1) := below_touch HB9.out hto
  clear d0 d1 d2 d3 d4 d5 d6 d7
  have HO1a : Hid (wa1.ownsRow w3.heap.size 52 3 v1 m1.evs.length (ref.evCells m1.evs)) := how
  have HV1 : Hid (v1.oneCell' = true) := ref.own_one how
  have HTH1 : Hid (∀ (cs : Array Value) (t : TypeId), cs.size = 39 -> (wa1.alloc (.cells cs t)).there wa1.heap.size 0 (prog.repP m1 o1 v1).size) := fun cs t hc => there_new wa1 cs t _ hc
  clear hres how hb hto
  go_wp2_with (first | (refine wpList_store_mid rfl 32 (.tmp 2) (.tmp 13) rfl wa1.heap.size 0 (prog.repP m1 o1 v1) rfl rfl (HTH1.out _ _ rfl) ref.info_rep (prog.repP_one m1 o1 v1 HV1.out) ?_; generalize hst : World.setCells _ wa1.heap.size 0 (prog.repP m1 o1 v1).toList = wb1; have ts : ref.Touch [] wa1 wb1 := (by rw [<- hst]; exact prog.touch_new _ _ _ _ ((ref.Touch.refl _ _).alloc _) (Nat.le_refl _)); have HRn1 : Hid (wb1.rangeAt wa1.heap.size 0 (prog.repP m1 o1 v1).toList) := (by rw [<- hst]; exact World.rangeAt_setCells_same _ _ _ _ (HTH1.out _ _ rfl)); have c110 : wb1.cell? ⟨w.heap.size, 0, none⟩ = some (.int .i64 1) := (ts.cell (p := ⟨w.heap.size, 0, none⟩) (World.block_lt_of_cell? _ _ c101) sP).trans c101; have c111 : wb1.cell? ⟨w.heap.size, 1, none⟩ = some (.string (textB aliveL)) := (ts.cell (p := ⟨w.heap.size, 1, none⟩) (World.block_lt_of_cell? _ _ c102) sP).trans c102; have c112 : wb1.cell? ⟨w.heap.size, 2, none⟩ = some (.int .u32 0) := (ts.cell (p := ⟨w.heap.size, 2, none⟩) (World.block_lt_of_cell? _ _ c103) sP).trans c103; have c113 : wb1.cell? ⟨w.heap.size, 3, none⟩ = some (.int .u32 0) := (ts.cell (p := ⟨w.heap.size, 3, none⟩) (World.block_lt_of_cell? _ _ c104) sP).trans c104; have c114 : wb1.cell? ⟨w.heap.size, 4, none⟩ = some (.slice none 0 0) := (ts.cell (p := ⟨w.heap.size, 4, none⟩) (World.block_lt_of_cell? _ _ c105) sP).trans c105; have c115 : wb1.cell? ⟨w.heap.size, 5, none⟩ = some (.int .i64 100) := (ts.cell (p := ⟨w.heap.size, 5, none⟩) (World.block_lt_of_cell? _ _ c106) sP).trans c106; have c116 : wb1.cell? ⟨w.heap.size, 6, none⟩ = some (.int .i64 2) := (ts.cell (p := ⟨w.heap.size, 6, none⟩) (World.block_lt_of_cell? _ _ c107) sP).trans c107; have c117 : wb1.cell? ⟨w.heap.size, 7, none⟩ = some (.int .i64 8) := (ts.cell (p := ⟨w.heap.size, 7, none⟩) (World.block_lt_of_cell? _ _ c108) sP).trans c108; have HO118 : Hid (wb1.ownsRow w3.heap.size 52 3 v1 m1.evs.length (ref.evCells m1.evs)) := ref.own_touch HO1a.out ts sP; have HB119 : Hid (Below w.heap.size w wb1) := below_touch HB109.out ts; clear c101 c102 c103 c104 c105 c106 c107 c108; clear hst ts))
  refine (Calls.mono (run_res 1 (textB aliveL) 0 0 100 2 8 [] dC dC dC dC (by rw [text_size]; decide) (.slice none 0 0) wb1 (ans_nil _) (fun w' x hb => HTB.out w' x (HB119.out.trans (hb.mono HB119.out.size)))) ?_)
  rintro e wa2 ⟨m2, o2, er2, v2, rfl, hres, how, hb⟩
  have HRES2 : Hid (ResB 1 (textB aliveL) 0 0 100 2 8 [] m2 o2 er2) := hres
  have hto : ref.Touch [] wb1 wa2 := ref.Touch.of_below hb
  have c120 : wa2.cell? ⟨w.heap.size, 0, none⟩ = some (.int .i64 1) := (hto.cell (p := ⟨w.heap.size, 0, none⟩) (World.block_lt_of_cell? _ _ c110) sP).trans c110
  have c121 : wa2.cell? ⟨w.heap.size, 1, none⟩ = some (.string (textB aliveL)) := (hto.cell (p := ⟨w.heap.size, 1, none⟩) (World.block_lt_of_cell? _ _ c111) sP).trans c111
  have c122 : wa2.cell? ⟨w.heap.size, 2, none⟩ = some (.int .u32 0) := (hto.cell (p := ⟨w.heap.size, 2, none⟩) (World.block_lt_of_cell? _ _ c112) sP).trans c112
  have c123 : wa2.cell? ⟨w.heap.size, 3, none⟩ = some (.int .u32 0) := (hto.cell (p := ⟨w.heap.size, 3, none⟩) (World.block_lt_of_cell? _ _ c113) sP).trans c113
  have c124 : wa2.cell? ⟨w.heap.size, 4, none⟩ = some (.slice none 0 0) := (hto.cell (p := ⟨w.heap.size, 4, none⟩) (World.block_lt_of_cell? _ _ c114) sP).trans c114
  have c125 : wa2.cell? ⟨w.heap.size, 5, none⟩ = some (.int .i64 100) := (hto.cell (p := ⟨w.heap.size, 5, none⟩) (World.block_lt_of_cell? _ _ c115) sP).trans c115
  have c126 : wa2.cell? ⟨w.heap.size, 6, none⟩ = some (.int .i64 2) := (hto.cell (p := ⟨w.heap.size, 6, none⟩) (World.block_lt_of_cell? _ _ c116) sP).trans c116
  have c127 : wa2.cell? ⟨w.heap.size, 7, none⟩ = some (.int .i64 8) := (hto.cell (p := ⟨w.heap.size, 7, none⟩) (World.block_lt_of_cell? _ _ c117) sP).trans c117
  have HR128 : Hid (wa2.rangeAt wa1.heap.size 0 (prog.repP m1 o1 v1).toList) := range_touch HRn1.out hto (World.block_lt_of_cell? _ _ (HRn1.out 0 _ rfl))
  have HO129 : Hid (wa2.ownsRow w3.heap.size 52 3 v1 m1.evs.length (ref.evCells m1.evs)) := ref.own_touch HO118.out hto sP
  have HB130 : Hid (Below w.heap.size w wa2) := below_touch HB119.out hto
  clear c110 c111 c112 c113 c114 c115 c116 c117
  have HO2a : Hid (wa2.ownsRow wb1.heap.size 52 3 v2 m2.evs.length (ref.evCells m2.evs)) := how
  have HV2 : Hid (v2.oneCell' = true) := ref.own_one how
  have HTH2 : Hid (∀ (cs : Array Value) (t : TypeId), cs.size = 39 -> (wa2.alloc (.cells cs t)).there wa2.heap.size 0 (prog.repP m2 o2 v2).size) := fun cs t hc => there_new wa2 cs t _ hc
  clear hres how hb hto
  obtain ⟨rfl, HF1⟩ : er1 = 0 /\ Hid _ := alive_i HRES1.out
  obtain ⟨rfl, HF2⟩ : er2 = 0 /\ Hid _ := alive_r HRES2.out
  go_wp2_with (first | (refine wpList_store_mid rfl 32 (.tmp 4) (.tmp 18) rfl wa2.heap.size 0 (prog.repP m2 o2 v2) rfl rfl (HTH2.out _ _ rfl) ref.info_rep (prog.repP_one m2 o2 v2 HV2.out) ?_; generalize hst : World.setCells _ wa2.heap.size 0 (prog.repP m2 o2 v2).toList = wb2; have ts : ref.Touch [] wa2 wb2 := (by rw [<- hst]; exact prog.touch_new _ _ _ _ ((ref.Touch.refl _ _).alloc _) (Nat.le_refl _)); have HRn2 : Hid (wb2.rangeAt wa2.heap.size 0 (prog.repP m2 o2 v2).toList) := (by rw [<- hst]; exact World.rangeAt_setCells_same _ _ _ _ (HTH2.out _ _ rfl)); have c131 : wb2.cell? ⟨w.heap.size, 0, none⟩ = some (.int .i64 1) := (ts.cell (p := ⟨w.heap.size, 0, none⟩) (World.block_lt_of_cell? _ _ c120) sP).trans c120; have c132 : wb2.cell? ⟨w.heap.size, 1, none⟩ = some (.string (textB aliveL)) := (ts.cell (p := ⟨w.heap.size, 1, none⟩) (World.block_lt_of_cell? _ _ c121) sP).trans c121; have c133 : wb2.cell? ⟨w.heap.size, 2, none⟩ = some (.int .u32 0) := (ts.cell (p := ⟨w.heap.size, 2, none⟩) (World.block_lt_of_cell? _ _ c122) sP).trans c122; have c134 : wb2.cell? ⟨w.heap.size, 3, none⟩ = some (.int .u32 0) := (ts.cell (p := ⟨w.heap.size, 3, none⟩) (World.block_lt_of_cell? _ _ c123) sP).trans c123; have c135 : wb2.cell? ⟨w.heap.size, 4, none⟩ = some (.slice none 0 0) := (ts.cell (p := ⟨w.heap.size, 4, none⟩) (World.block_lt_of_cell? _ _ c124) sP).trans c124; have c136 : wb2.cell? ⟨w.heap.size, 5, none⟩ = some (.int .i64 100) := (ts.cell (p := ⟨w.heap.size, 5, none⟩) (World.block_lt_of_cell? _ _ c125) sP).trans c125; have c137 : wb2.cell? ⟨w.heap.size, 6, none⟩ = some (.int .i64 2) := (ts.cell (p := ⟨w.heap.size, 6, none⟩) (World.block_lt_of_cell? _ _ c126) sP).trans c126; have c138 : wb2.cell? ⟨w.heap.size, 7, none⟩ = some (.int .i64 8) := (ts.cell (p := ⟨w.heap.size, 7, none⟩) (World.block_lt_of_cell? _ _ c127) sP).trans c127; have HR139 : Hid (wb2.rangeAt wa1.heap.size 0 (prog.repP m1 o1 v1).toList) := range_touch HR128.out ts (World.block_lt_of_cell? _ _ (HR128.out 0 _ rfl)); have HO140 : Hid (wb2.ownsRow w3.heap.size 52 3 v1 m1.evs.length (ref.evCells m1.evs)) := ref.own_touch HO129.out ts sP; have HO141 : Hid (wb2.ownsRow wb1.heap.size 52 3 v2 m2.evs.length (ref.evCells m2.evs)) := ref.own_touch HO2a.out ts sP; have HB142 : Hid (Below w.heap.size w wb2) := below_touch HB130.out ts; clear c120 c121 c122 c123 c124 c125 c126 c127; clear hst ts; obtain ⟨ho1, r1, r2, r3, x1, hx1, rx1⟩ := HF1.out; obtain ⟨ho2, s1, s2, s3, x2, hx2, rx2, bt⟩ := HF2.out; obtain ⟨g1, k1, hv1, y11, y12, y13⟩ := row_ev HO140.out 0 x1 hx1; rw [r3] at hv1; rw [rx1] at y12; have p10 : wb2.cell? ⟨wa1.heap.size, 0, none⟩ = some (.int .i64 1) := (HR139.out 0 _ rfl).trans (by rw [<- ho1]); have p112 : wb2.cell? ⟨wa1.heap.size, 12, none⟩ = some (.int .u32 15) := (HR139.out 12 _ rfl).trans (by rw [<- r1]); have p137 : wb2.cell? ⟨wa1.heap.size, 37, none⟩ = some (.int .i64 18) := (HR139.out 37 _ rfl).trans (by rw [<- r2]); have p136 : wb2.cell? ⟨wa1.heap.size, 36, none⟩ = some (.slice (some ⟨g1, 0, none⟩) 1 k1) := (HR139.out 36 _ rfl).trans (by rw [hv1]); obtain ⟨g2, k2, hv2, y21, y22, y23⟩ := row_ev HO141.out 0 x2 hx2; rw [s3] at hv2; rw [rx2] at y22; have p20 : wb2.cell? ⟨wa2.heap.size, 0, none⟩ = some (.int .i64 1) := (HRn2.out 0 _ rfl).trans (by rw [<- ho2]); have p212 : wb2.cell? ⟨wa2.heap.size, 12, none⟩ = some (.int .u32 15) := (HRn2.out 12 _ rfl).trans (by rw [<- s1]); have p237 : wb2.cell? ⟨wa2.heap.size, 37, none⟩ = some (.int .i64 18) := (HRn2.out 37 _ rfl).trans (by rw [<- s2]); have p236 : wb2.cell? ⟨wa2.heap.size, 36, none⟩ = some (.slice (some ⟨g2, 0, none⟩) 1 k2) := (HRn2.out 36 _ rfl).trans (by rw [hv2]); have p238 : wb2.cell? ⟨wa2.heap.size, 38, none⟩ = some (.int .i64 m2.built) := HRn2.out 38 _ rfl))
  go_ret
  exact ⟨rfl, HB142.out⟩
end keep
end Go.Proofs.YtjikimpejlmdiaaGreatDoor
