import Derived.Test.YtjikimpejlmdiaaGreatDoorWRefQ
import Derived.Deep.AppendLies
import Derived.OwnWalk
import Derived.Deep.RegionHeld3
import Derived.Deep.DrawnRows
import Derived.Laws.IdiomStrings
import Derived.Lib.LazyBuf
set_option maxHeartbeats 4000000
set_option linter.unusedVariables false
set_option linter.unusedSimpArgs false
namespace Go.Proofs.YtjikimpejlmdiaaGreatDoor
namespace ref
open ChangeShapes WideShapes ChangeAt RowKit nums dnums mach
/-- The cells of a list of events; of blocks. -/
def evCells (l : List Ev) : List Value := l.flatMap fun e => [.int .u32 e.call, .int .u32 e.result, .string e.data]
def blkCells (l : List Blk) : List Value := l.flatMap fun k => [.int .u32 k.pc, .int .i64 k.len, .int .i64 k.built, .int .i64 k.entered]
theorem evCells_add (l : List Ev) (c r : Int) (d : ByteArray) : evCells (l ++ [⟨c, r, d⟩]) = evCells l ++ [.int .u32 c, .int .u32 r, .string d] := by simp [evCells]
/-- The answers that are left. -/
def AnsAt (B : Nat) (l : List ByteArray) (vA : Value) (w : World) : Prop :=
  ∃ oa cap, vA = .slice oa l.length cap /\ l.length <= cap /\ l.length <= 4096 /\ cap <= maxLen /\ (∀ k s, l[k]? = some s -> ∃ ad, oa = some ad /\ ad.block < B /\ w.cell? (ad.add k) = some (.string s)) /\ ∀ s, s ∈ l -> s.size <= 1048576
theorem AnsAt.below {B : Nat} {l : List ByteArray} {vA : Value} {w w' : World} (h : AnsAt B l vA w) (hb : Below B w w') : AnsAt B l vA w' := by
  obtain ⟨oa, cap, h1, h2, h3, h3b, h4, h5⟩ := h
  refine ⟨oa, cap, h1, h2, h3, h3b, fun k s hk => ?_, h5⟩
  obtain ⟨ad, g1, g2, g3⟩ := h4 k s hk
  refine ⟨ad, g1, g2, ?_⟩
  have e : (ad.add k).block = ad.block := by unfold Addr.add; by_cases z : k = 0 <;> simp [z]
  rw [World.cell?_of_block (w := w) (hb.block (ad.add k).block oM)]; exact g3
theorem AnsAt.mono2 {B B' : Nat} {l : List ByteArray} {vA : Value} {w w' : World} (h : AnsAt B l vA w) (t : Touch [] w w') (hB : B <= B' := by simp) : AnsAt B' l vA w' := by
  obtain ⟨oa, cap, h1, h2, h3, h3b, h4, h5⟩ := h
  refine ⟨oa, cap, h1, h2, h3, h3b, fun k s hk => ?_, h5⟩
  obtain ⟨ad, g1, g2, g3⟩ := h4 k s hk
  exact ⟨ad, g1, by omega, (t.cell (World.block_lt_of_cell? _ _ g3) sP).trans g3⟩
structure Whole (B b mb : Nat) (m : M) (vE vA vS vB : Value) (w : World) : Prop where
  ref : RefAt B b mb m vE vA vS vB w
  slots : SlotsAt b mb m vS w
  evs : w.ownsRow B 52 3 vE m.evs.length (evCells m.evs)
  ans : AnsAt B m.ans vA w
  blks : w.ownsRow B 44 4 vB m.blocks.length (blkCells m.blocks)
  dE : ∀ k, k ∈ sblk vE -> k ≠ b /\ k ≠ mb /\ k ∉ sblk vS /\ k ∉ sblk vB
  dB : ∀ k, k ∈ sblk vB -> k ≠ b /\ k ≠ mb /\ k ∉ sblk vS
  bS : ∀ k, k ∈ sblk vS -> B <= k
theorem own_touch {w w' : World} {base e size n : Nat} {v : Value} {xs : List Value} {S : List Nat} (h : w.ownsRow base e size v n xs) (t : Touch S w w') (d : ∀ k, k ∈ sblk v -> k ∉ S) : w'.ownsRow base e size v n xs := by
  refine ⟨h.1, ?_⟩
  rcases h.2 with hn | ⟨g, cap, cur, rfl, hb, hgg, rest⟩
  · exact .inl hn
  · refine .inr ⟨g, cap, cur, rfl, hb, ?_, rest⟩
    rw [t.block g (Array.getElem?_eq_some_iff.1 hgg).1 (d g (by simp [sblk]))]
    exact hgg
theorem touch_grown {w w' : World} {v : Value} (h : w.grownBy w' v.ownBlock) : Touch (sblk v) w w' := by
  refine ⟨h.os, h.tape, h.output, h.size, fun k hk hn => h.block k hk (fun e => hn ?_)⟩
  cases v with
  | slice a n c =>
    cases a with
    | none => simp [Value.ownBlock] at e
    | some a => simp [Value.ownBlock] at e; simp [sblk, e]
  | _ => simp [Value.ownBlock] at e
theorem sblk_own {v : Value} {k : Nat} : k ∈ sblk v ↔ v.ownBlock = some k := by
  cases v with
  | slice a n c =>
    cases a with
    | none => simp [Value.ownBlock, sblk]
    | some a => simp [Value.ownBlock, sblk]; exact eq_comm
  | _ => simp [Value.ownBlock, sblk]
theorem own_lt {w : World} {base e size n : Nat} {v : Value} {xs : List Value} (h : w.ownsRow base e size v n xs) : ∀ k, k ∈ sblk v -> base <= k /\ k < w.heap.size := fun k hk => h.lt k (sblk_own.1 hk)
theorem SlotsAt.lt {b mb : Nat} {m : M} {vS : Value} {w : World} (h : SlotsAt b mb m vS w) : ∀ k, k ∈ sblk vS -> k < w.heap.size := by
  intro k hk
  rcases h with ⟨h1, h2⟩ | ⟨h1, h2, h3, sb, h4, h5, h6, h7⟩
  · subst h2; simp [sblk] at hk
  · subst h4; simp [sblk] at hk; subst hk; exact World.block_lt_of_cell? _ _ (h7.pcs 0 h1)
theorem SlotsAt.apart {b mb : Nat} {m : M} {vS : Value} {w : World} (h : SlotsAt b mb m vS w) : ∀ k, k ∈ sblk vS -> k ≠ b /\ k ≠ mb := by
  intro k hk
  rcases h with ⟨h1, h2⟩ | ⟨h1, h2, h3, sb, h4, h5, h6, h7⟩
  · subst h2; simp [sblk] at hk
  · subst h4; simp [sblk] at hk; subst hk; exact ⟨fun e => h5 e.symm, fun e => h6 e.symm⟩
theorem SlotsAt.far {b mb : Nat} {m m' : M} {vS : Value} {w w' : World} {S : List Nat} (h : SlotsAt b mb m vS w) (t : Touch S w w') (d : ∀ k, k ∈ sblk vS -> k ∉ S) (e1 : m'.nslots = m.nslots) (e2 : m'.slots = m.slots) : SlotsAt b mb m' vS w' := by
  rcases h with ⟨h1, h2⟩ | ⟨h1, h2, h3, sb, h4, h5, h6, h7⟩
  · exact Or.inl ⟨e1.trans h1, h2⟩
  · subst h4
    refine Or.inr ⟨by omega, by omega, by rw [e2]; exact h3, sb, by rw [e1], h5, h6, ?_⟩
    rw [e1, e2]
    exact h7.other h1 t (d sb (by simp [sblk]))
/-- A step that turns the machine, its memory and its slots alone. -/
theorem Whole.step {B b mb : Nat} {m m' : M} {vE vA vS vB : Value} {w w' : World} (h : Whole B b mb m vE vA vS vB w) (hr : RefAt B b mb m' vE vA vS vB w') (hs : SlotsAt b mb m' vS w') (t : Touch (b :: mb :: sblk vS) w w') (e1 : m'.evs = m.evs) (e2 : m'.ans = m.ans) (e3 : m'.blocks = m.blocks) :
    Whole B b mb m' vE vA vS vB w' /\ Below B w w' := by
  have hlt : B <= w.heap.size := Nat.le_of_lt (Nat.lt_of_le_of_lt h.ref.hb (World.block_lt_of_cell? _ _ h.ref.data))
  have hbel : Below B w w' := t.below hlt (by
    intro i hi
    simp at hi
    rcases hi with rfl | rfl | hi
    · exact h.ref.hb
    · exact h.ref.hmb
    · exact h.bS i hi)
  refine ⟨⟨hr, hs, ?_, ?_, ?_, h.dE, h.dB, h.bS⟩, hbel⟩
  · rw [e1]; exact own_touch h.evs t (fun k hk => by have := h.dE k hk; simp [this.1, this.2.1, this.2.2.1])
  · rw [e2]; exact h.ans.below hbel
  · rw [e3]; exact own_touch h.blks t (fun k hk => by have := h.dB k hk; simp [this.1, this.2.1, this.2.2])
theorem info_ev : (Tryz.prog.info? 52).map (fun i => (i.zero, i.size, i.bytes)) = some (some (.agg #[.int .u32 0, .int .u32 0, .string ByteArray.empty]), 3, 24) := by kernel_rfl
end ref
namespace ref
open ChangeShapes WideShapes ChangeAt RowKit nums dnums mach
attribute [local go_sem ↓] Go.wp_at_zero Go.wp_at_succ
end ref
namespace ref
open ChangeShapes WideShapes ChangeAt RowKit nums dnums mach
/-- The cells of a text. -/
def strCells (t : ByteArray) : List Value := t.data.toList.map fun x => Value.int .u8 (x.toNat : Int)
theorem strCells_len (t : ByteArray) : (strCells t).length = t.size := by simp [strCells]
theorem RefAt.puts {B b mb : Nat} {m : M} {vE vA vS vB : Value} {w : World} (h : RefAt B b mb m vE vA vS vB w) (k : Nat) (t : ByteArray) (hk : k + t.size <= m.size) : RefAt B b mb { m with mem := put m.mem k t } vE vA vS vB (w.setCells mb k (strCells t)) := by
  have ne := h.ne
  refine ⟨h.hb, h.hmb, h.ne, fun i hi h39 => ?_, ?_, fun i => ?_, fun i hi => ?_, fun i => ?_⟩
  · rw [World.cell?_setCells_out _ _ _ _ _ (fun e => absurd e ne)]; exact h.cells i hi h39
  · rw [World.cell?_setCells_out _ _ _ _ _ (fun e => absurd e ne)]; exact h.data
  · rw [World.frozen?_setCells]; exact h.free i
  · by_cases e : k <= i /\ i < k + t.size
    · have hj : i - k < (strCells t).length := by rw [strCells_len]; omega
      have := World.cell?_setCells_in mb (strCells t) k w (fun j hj => by rw [strCells_len] at hj; rw [h.bytes (k + j) oM]; rfl) (i - k) hj
      rw [show k + (i - k) = i by omega] at this
      rw [this]
      show some (strCells t)[i - k] = some (Value.int .u8 (put m.mem k t i))
      have e2 : put m.mem k t i = ((t.data.getD (i - k) 0).toNat : Int) := if_pos e
      rw [e2]
      have hs : i - k < t.data.size := by have : t.size = t.data.size := rfl; omega
      have hs2 : i - k < t.size := hs
      simp [strCells, Array.getD, hs2]
    · rw [World.cell?_setCells_out _ _ _ _ _ (fun _ _ => by rw [strCells_len]; show i < k \/ k + t.size <= i; omega)]
      show _ = some (Value.int .u8 (put m.mem k t i))
      have e2 : put m.mem k t i = m.mem i := if_neg e
      rw [e2]; exact h.bytes i hi
  · rw [World.frozen?_setCells]; exact h.freem i
theorem addr_add_add (ad : Addr) (k : Nat) : (ad.add 1).add k = ad.add (1 + k) := by
  unfold Addr.add
  by_cases z : k = 0
  · subst z; simp
  · simp [z]; omega
theorem AnsAt.tail {B : Nat} {l : List ByteArray} {s : ByteArray} {ad : Addr} {cap : Nat} {w : World} (h : AnsAt B (s :: l) (.slice (some ad) (l.length + 1) cap) w) : AnsAt B l (.slice (if cap = 1 then some ad else some (ad.add 1)) l.length (cap - 1)) w := by
  obtain ⟨oa, cap', h1, h2, h3, h3b, h4, h5⟩ := h
  injection h1 with e1 e2 e3
  subst e3
  refine ⟨_, _, rfl, by simp at h2; omega, by simp at h3; omega, by omega, fun k t hk => ?_, fun t ht => h5 t (by simp [ht])⟩
  obtain ⟨ad', g1, g2, g3⟩ := h4 (k + 1) t (by simpa using hk)
  rw [<- e1] at g1
  injection g1 with g1
  subst g1
  have hl : k < l.length := (List.getElem?_eq_some_iff.1 hk).1
  have hc : ¬ cap = 1 := by simp at h2; omega
  rw [if_neg hc]
  refine ⟨_, rfl, ?_, ?_⟩
  · unfold Addr.add; simp; exact g2
  · rw [addr_add_add, show 1 + k = k + 1 by omega]; exact g3
end ref
end Go.Proofs.YtjikimpejlmdiaaGreatDoor
