import Derived.Test.YtjikimpejlmdiaaGreatDoorRows
import Derived.WalkKit
import Derived.ProofKit
import Derived.OpenShut
import Derived.BigQuiet
import Derived.WalkSmall
import Derived.Handy
import Derived.Laws.BitsAllLaws
import Derived.Test.YtjikimpejlmdiaaGreatDoorWGa
set_option maxHeartbeats 4000000
set_option linter.unusedVariables false
set_option linter.unusedSimpArgs false
namespace Go.Proofs.YtjikimpejlmdiaaGreatDoor
namespace ref
open ChangeShapes WideShapes ChangeAt RowKit nums dnums mach
/-- Of the blocks that were there none but those of S has turned. -/
structure Touch (S : List Nat) (w w' : World) : Prop where
  os : w'.os = w.os
  tape : w'.tape = w.tape
  output : w'.output = w.output
  size : w.heap.size <= w'.heap.size
  block : ∀ k, k < w.heap.size -> k ∉ S -> w'.heap[k]? = w.heap[k]?
theorem Touch.refl (S : List Nat) (w : World) : Touch S w w := ⟨rfl, rfl, rfl, Nat.le_refl _, fun _ _ _ => rfl⟩
theorem Touch.trans {S : List Nat} {u v w : World} (h : Touch S u v) (k : Touch S v w) : Touch S u w :=
  ⟨k.os.trans h.os, k.tape.trans h.tape, k.output.trans h.output, Nat.le_trans h.size k.size, fun i hi hn => (k.block i (Nat.lt_of_lt_of_le hi h.size) hn).trans (h.block i hi hn)⟩
theorem Touch.mono {S T : List Nat} {u v : World} (h : Touch S u v) (k : ∀ i, i ∈ S -> i ∈ T) : Touch T u v :=
  ⟨h.os, h.tape, h.output, h.size, fun i hi hn => h.block i hi (fun hc => hn (k i hc))⟩
theorem Touch.of_below {S : List Nat} {u v : World} (h : Below u.heap.size u v) : Touch S u v := ⟨h.os, h.tape, h.output, h.size, fun k hk _ => h.block k hk⟩
theorem Touch.below {S : List Nat} {u v : World} (h : Touch S u v) {B : Nat} (hB : B <= u.heap.size) (hS : ∀ i, i ∈ S -> B <= i) : Below B u v :=
  ⟨h.os, h.tape, h.output, h.size, fun k hk => h.block k (Nat.lt_of_lt_of_le hk hB) (fun hc => by have := hS k hc; omega)⟩
theorem Touch.setCell {S : List Nat} {u v : World} (h : Touch S u v) {a : Addr} (ha : a.block ∈ S) (x : Value) : Touch S u (v.setCell a x) :=
  h.trans ⟨rfl, rfl, rfl, by simp [World.setCell], fun k _ hn => Below.heap_setCell _ _ _ _ (fun e => hn (e ▸ ha))⟩
theorem Touch.alloc {S : List Nat} {u v : World} (h : Touch S u v) (o : Obj) : Touch S u (v.alloc o) :=
  h.trans ⟨rfl, rfl, rfl, by simp, fun k hk _ => Below.heap_alloc _ _ _ hk⟩
theorem Touch.drew {S : List Nat} {u v : World} (h : Touch S u v) : Touch S u v.drew := ⟨h.os, h.tape, h.output, h.size, h.block⟩
theorem Touch.drewN {S : List Nat} {u v : World} (h : Touch S u v) (n : Nat) : Touch S u (v.drewN n) := ⟨h.os, h.tape, h.output, h.size, h.block⟩
theorem Touch.cell {S : List Nat} {u v : World} (h : Touch S u v) {p : Addr} (hp : p.block < u.heap.size) (hn : p.block ∉ S) : v.cell? p = u.cell? p := World.cell?_of_block (w := u) (h.block p.block hp hn)
theorem Touch.frozen {S : List Nat} {u v : World} (h : Touch S u v) {p : Addr} (hp : p.block < u.heap.size) (hn : p.block ∉ S) : v.frozen? p = u.frozen? p := World.frozen?_of_block (w := u) (h.block p.block hp hn)
/-- The cells of the document's Machine: vE the events, vA the answers, vS the slots, vB the blocks, as slice values. -/
def lay (m : M) (vE vA vS vB : Value) (i : Nat) : Value :=
  if i = 0 then .int .i64 m.out else if i = 1 then .int .u32 m.pc else if i < 34 then .int .u32 (m.regs (i - 2)) else if i = 34 then .int .u32 m.brk else
  if i = 35 then .string ByteArray.empty else if i = 36 then vE else if i = 37 then .int .i64 m.steps else if i = 38 then .int .i64 m.built else
  if i = 39 then .slice (some ⟨0, 0, none⟩) m.size m.size else if i = 40 then .int .u32 m.low else if i = 41 then vA else if i = 42 then .int .i64 m.fuel else
  if i = 43 then .bool m.ended else if i = 44 then vS else if i = 45 then .int .i64 m.arena else if i = 46 then .int .i64 m.used else
  if i = 47 then .int .u32 m.cur.1 else if i = 48 then .int .i64 m.cur.2 else if i = 49 then .int .i64 m.done else vB
/-- The machine m lies in block b, its memory in block mb; both were made behind B. -/
structure RefAt (B b mb : Nat) (m : M) (vE vA vS vB : Value) (w : World) : Prop where
  hb : B <= b
  hmb : B <= mb
  ne : b ≠ mb
  cells : ∀ i, i < 51 -> i ≠ 39 -> w.cell? ⟨b, i, none⟩ = some (lay m vE vA vS vB i)
  data : w.cell? ⟨b, 39, none⟩ = some (.slice (some ⟨mb, 0, none⟩) m.size m.size)
  free : ∀ i, w.frozen? ⟨b, i, none⟩ = false
  bytes : ∀ i, i < m.size -> w.cell? ⟨mb, i, none⟩ = some (.int .u8 (m.mem i))
  freem : ∀ i, w.frozen? ⟨mb, i, none⟩ = false
theorem RefAt.there {B b mb : Nat} {m : M} {vE vA vS vB : Value} {w : World} (h : RefAt B b mb m vE vA vS vB w) (i : Nat) (hi : i < 51) : ∃ u, w.cell? ⟨b, i, none⟩ = some u := by
  by_cases e : i = 39
  · subst e; exact ⟨_, h.data⟩
  · exact ⟨_, h.cells i hi e⟩
/-- A store into a cell of the machine's own. -/
theorem RefAt.upd {B b mb : Nat} {m m' : M} {vE vA vS vB vE' vA' vS' vB' : Value} {w : World} (h : RefAt B b mb m vE vA vS vB w) (k : Nat) (hk : k < 51) (k39 : k ≠ 39) (v : Value)
    (hs : m'.size = m.size) (hm : m'.mem = m.mem) (he : ∀ i, i < 51 -> i ≠ 39 -> lay m' vE' vA' vS' vB' i = if i = k then v else lay m vE vA vS vB i) :
    RefAt B b mb m' vE' vA' vS' vB' (w.setCell ⟨b, k, none⟩ v) := by
  refine ⟨h.hb, h.hmb, h.ne, fun i hi h39 => ?_, ?_, fun i => ?_, fun i hi => ?_, fun i => ?_⟩
  · rw [he i hi h39]
    by_cases e : i = k
    · subst e
      obtain ⟨u, hu⟩ := h.there i hi
      rw [World.cell?_setCell_same _ _ _ hu, if_pos rfl]
    · rw [World.cell?_setCell_other _ _ _ _ fS, if_neg e]; exact h.cells i hi h39
  · rw [World.cell?_setCell_other _ _ _ _ fS, hs]; exact h.data
  · rw [World.frozen?_setCell]; exact h.free i
  · rw [World.cell?_setCell_other _ _ _ _ (by have := h.ne; first | (simp; done) | (simp; omega)), hm]; exact h.bytes i oM
  · rw [World.frozen?_setCell]; exact h.freem i
theorem or_low (v x : Int) (k : Nat) (hk : k <= 24) (v0 : 0 <= v) (v1 : v < 2 ^ k) (x0 : 0 <= x) (x1 : x * 2 ^ k < 4294967296) : bits BinOp.or IntKind.u32 v (x * 2 ^ k) = v + x * 2 ^ k := by
  have hp : (0 : Int) < 2 ^ k := Int.pow_pos dC
  have hp2 : (2 : Int) ^ k <= 2 ^ 24 := by exact_mod_cast Nat.pow_le_pow_right oM hk
  have hx : 0 <= x * 2 ^ k := Int.mul_nonneg x0 (Int.le_of_lt hp)
  rw [or_comm32 v _ v0 oM hx x1, or_add (x * 2 ^ k) v k hx x1 v0 v1 oM (Int.mul_emod_left _ _)]
  omega
/-- The slots lie in block sb. -/
structure SlotsIn (sb n : Nat) (f : Nat -> Int × Int) (w : World) : Prop where
  pcs : ∀ i, i < n -> w.cell? ⟨sb, i * 2, none⟩ = some (.int .u32 (f i).1)
  lens : ∀ i, i < n -> w.cell? ⟨sb, i * 2 + 1, none⟩ = some (.int .i64 (f i).2)
  free : ∀ j, w.frozen? ⟨sb, j, none⟩ = false
theorem RefAt.other {B b mb : Nat} {S : List Nat} {m : M} {vE vA vS vB : Value} {w w' : World} (h : RefAt B b mb m vE vA vS vB w) (t : Touch S w w') (n1 : b ∉ S) (n2 : mb ∉ S) (hz : 0 < m.size) : RefAt B b mb m vE vA vS vB w' := by
  have l1 : b < w.heap.size := World.block_lt_of_cell? _ _ h.data
  have l2 : mb < w.heap.size := World.block_lt_of_cell? _ _ (h.bytes 0 hz)
  refine ⟨h.hb, h.hmb, h.ne, fun i hi h39 => ?_, ?_, fun i => ?_, fun i hi => ?_, fun i => ?_⟩
  · rw [t.cell (p := ⟨b, i, none⟩) l1 n1]; exact h.cells i hi h39
  · rw [t.cell (p := ⟨b, 39, none⟩) l1 n1]; exact h.data
  · rw [t.frozen (p := ⟨b, i, none⟩) l1 n1]; exact h.free i
  · rw [t.cell (p := ⟨mb, i, none⟩) l2 n2]; exact h.bytes i hi
  · rw [t.frozen (p := ⟨mb, i, none⟩) l2 n2]; exact h.freem i
theorem SlotsIn.upd {sb n k : Nat} {f : Nat -> Int × Int} {w : World} (h : SlotsIn sb n f w) (hk : k < n) (p q : Int) :
    SlotsIn sb n (fun i => if i = k then (p, q) else f i) ((w.setCell ⟨sb, k * 2, none⟩ (.int .u32 p)).setCell ⟨sb, k * 2 + 1, none⟩ (.int .i64 q)) := by
  refine ⟨fun i hi => ?_, fun i hi => ?_, fun j => ?_⟩
  · rw [World.cell?_setCell_other _ _ _ _ (by intro e; injection e with _ e; omega)]
    by_cases e : i = k
    · subst e
      rw [World.cell?_setCell_same _ _ _ (h.pcs i hi), if_pos rfl]
    · rw [World.cell?_setCell_other _ _ _ _ (by intro e; injection e with _ e; omega), if_neg e]; exact h.pcs i hi
  · by_cases e : i = k
    · subst e
      rw [World.cell?_setCell_same _ _ _ ((World.cell?_setCell_other _ _ _ _ (by intro e; injection e with _ e; omega)).trans (h.lens i hi)), if_pos rfl]
    · rw [World.cell?_setCell_other _ _ _ _ (by intro e; injection e with _ e; omega), World.cell?_setCell_other _ _ _ _ (by intro e; injection e with _ e; omega), if_neg e]; exact h.lens i hi
  · rw [World.frozen?_setCell, World.frozen?_setCell]; exact h.free j
theorem SlotsIn.congr {sb n : Nat} {f g : Nat -> Int × Int} {w : World} (h : SlotsIn sb n f w) (e : ∀ i, i < n -> g i = f i) : SlotsIn sb n g w :=
  ⟨fun i hi => by rw [e i hi]; exact h.pcs i hi, fun i hi => by rw [e i hi]; exact h.lens i hi, h.free⟩
theorem SlotsIn.other {sb n : Nat} {f : Nat -> Int × Int} {w w' : World} (h : SlotsIn sb n f w) (hn : 0 < n) {S : List Nat} (t : Touch S w w') (e : sb ∉ S) : SlotsIn sb n f w' := by
  have l : sb < w.heap.size := World.block_lt_of_cell? _ _ (h.pcs 0 hn)
  exact ⟨fun i hi => (t.cell (p := ⟨sb, _, none⟩) l e).trans (h.pcs i hi), fun i hi => (t.cell (p := ⟨sb, _, none⟩) l e).trans (h.lens i hi), fun j => (t.frozen (p := ⟨sb, j, none⟩) l e).trans (h.free j)⟩
/-- The block in which a slice lies. -/
def sblk : Value -> List Nat
  | .slice (some a) _ _ => [a.block]
  | _ => []
/-- The slots, one by one (none) or in blocks. -/
def SlotsAt (b mb : Nat) (m : M) (vS : Value) (w : World) : Prop :=
  (m.nslots = 0 /\ vS = .slice none 0 0) \/ (0 < m.nslots /\ m.nslots <= 64 /\ (∀ i, 0 <= (m.slots i).1 /\ (m.slots i).1 <= 4294967295) /\ ∃ sb, vS = .slice (some ⟨sb, 0, none⟩) m.nslots m.nslots /\ b ≠ sb /\ mb ≠ sb /\ SlotsIn sb m.nslots m.slots w)
theorem SlotsAt.other {b mb : Nat} {m m' : M} {vS : Value} {w w' : World} (h : SlotsAt b mb m vS w) (t : Touch [b, mb] w w') (e1 : m'.nslots = m.nslots) (e2 : m'.slots = m.slots) : SlotsAt b mb m' vS w' := by
  rcases h with ⟨h1, h2⟩ | ⟨h1, h2, h3, sb, h4, h5, h6, h7⟩
  · exact Or.inl ⟨e1.trans h1, h2⟩
  · refine Or.inr ⟨by omega, by omega, by rw [e2]; exact h3, sb, by rw [e1]; exact h4, h5, h6, ?_⟩
    rw [e1, e2]
    exact h7.other h1 t (by simp; exact ⟨fun e => h5 e.symm, fun e => h6 e.symm⟩)
theorem st_1 (mem : Nat -> Int) (a : Nat) (v : Int) : (fun j => if j = a then v % 256 else mem j) = st mem a 1 v := by
  funext j; unfold st
  by_cases e : j = a
  · subst e; simp
  · rw [if_neg e, if_neg oM]
theorem st_2 (mem : Nat -> Int) (a : Nat) (v : Int) : (fun j => if j = a + 1 then v / 256 % 256 else if j = a then v % 256 else mem j) = st mem a 2 v := by
  funext j; unfold st
  by_cases e1 : j = a + 1
  · subst e1; rw [if_pos rfl, if_pos oM]; simp
  · rw [if_neg e1]
    by_cases e : j = a
    · subst e; simp
    · rw [if_neg e, if_neg oM]
theorem st_4 (mem : Nat -> Int) (a : Nat) (v : Int) (v0 : 0 <= v) (v1 : v <= 4294967295) : (fun j => if j = a + 3 then v / 16777216 else if j = a + 2 then v / 65536 % 256 else if j = a + 1 then v / 256 % 256 else if j = a then v % 256 else mem j) = st mem a 4 v := by
  funext j; unfold st
  by_cases e3 : j = a + 3
  · subst e3; rw [if_pos rfl, if_pos oM, show a + 3 - a = 3 by omega]; simp; omega
  · rw [if_neg e3]
    by_cases e2 : j = a + 2
    · subst e2; rw [if_pos rfl, if_pos oM, show a + 2 - a = 2 by omega]; simp
    · rw [if_neg e2]
      by_cases e1 : j = a + 1
      · subst e1; rw [if_pos rfl, if_pos oM, show a + 1 - a = 1 by omega]; simp
      · rw [if_neg e1]
        by_cases e : j = a
        · subst e; simp
        · rw [if_neg e, if_neg oM]
def sx8 (v : Int) : Int := if 128 <= v then v - 256 else v
def sx16 (v : Int) : Int := if 32768 <= v then v - 65536 else v
end ref
end Go.Proofs.YtjikimpejlmdiaaGreatDoor
