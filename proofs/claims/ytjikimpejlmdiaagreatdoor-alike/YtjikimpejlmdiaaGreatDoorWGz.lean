import Derived.Test.YtjikimpejlmdiaaGreatDoorWGa
import Derived.Test.YtjikimpejlmdiaaGreatDoorWGp
set_option maxHeartbeats 4000000
set_option linter.unusedVariables false
set_option linter.unusedSimpArgs false
namespace Go.Proofs.YtjikimpejlmdiaaGreatDoor
namespace mach
open RowKit IntWalk nums dnums
/-- The machine without its blocks. -/
def core (m : M) : M := { m with built := 0, nslots := 0, slots := fun _ => (0, 0), arena := 0, used := 0, cur := (0, 0), done := 0, blocks := [] }
theorem core_setReg (m : M) (r v : Int) : core (setReg m r v) = setReg (core m) r v := by
  unfold setReg; by_cases e : r = 0
  · rw [if_pos e, if_pos e]
  · rw [if_neg e, if_neg e]; rfl
theorem core_goes (m : M) (tq : Int) : core (goes m tq) = goes (core m) tq := by
  unfold goes; by_cases e : tq % 4 = 0
  · rw [if_pos e, if_pos e]; rfl
  · rw [if_neg e, if_neg e]; rfl
theorem core_wrote (m : M) (a n : Int) : core (wrote m a n) = core m := by
  unfold wrote; by_cases e : n = 0
  · rw [if_pos e]
  · rw [if_neg e]; rfl
theorem core_next (m : M) : core (next m) = next (core m) := rfl
theorem core_memop (m : M) (op rd a b : Int) : core (memop m op rd a b) = core (memop (core m) op rd a b) := by
  unfold memop
  dsimp only
  have hl : lies (core m) a (width op) = lies m a (width op) := rfl
  rw [hl]
  by_cases h1 : a % (width op) ≠ 0
  · rw [if_pos h1, if_pos h1]; rfl
  rw [if_neg h1, if_neg h1]
  by_cases h2 : (!lies m a (width op)) = true
  · rw [if_pos h2, if_pos h2]; rfl
  rw [if_neg h2, if_neg h2]
  by_cases h3 : 15 <= op
  · rw [if_pos h3, if_pos h3, core_next, core_wrote, core_next, core_wrote]; rfl
  · rw [if_neg h3, if_neg h3, core_next, core_setReg, core_next, core_setReg]; rfl
theorem core_ecall (m : M) : core (ecall m) = core (ecall (core m)) := by
  unfold ecall
  dsimp only
  have hl : ∀ a n, lies (core m) a n = lies m a n := fun _ _ => rfl
  have hr : (core m).regs = m.regs := rfl
  rw [hl, hr]
  by_cases c1 : m.regs 17 = 93
  · rw [if_pos c1, if_pos c1]; rfl
  rw [if_neg c1, if_neg c1]
  by_cases c2 : m.regs 17 = 64
  · rw [if_pos c2, if_pos c2]
    by_cases c : lies m (m.regs 11) (m.regs 12) = true
    · rw [if_pos c, if_pos c, core_next, core_setReg, core_next, core_setReg]; rfl
    · rw [if_neg c, if_neg c, core_next, core_setReg, core_next, core_setReg]; rfl
  rw [if_neg c2, if_neg c2]
  by_cases c3 : m.regs 17 = 63
  · rw [if_pos c3, if_pos c3]
    by_cases c : lies m (m.regs 11) (m.regs 12) = true
    · rw [if_pos c, if_pos c, core_next, core_setReg, core_next, core_setReg]
      have ha : (core m).ans = m.ans := rfl
      rw [ha]
      generalize (m.ans.headD ByteArray.empty).extract 0 (min (m.ans.headD ByteArray.empty).size (m.regs 12).toNat) = t
      have e1 := core_wrote { m with mem := put m.mem (m.regs 11).toNat t, ans := m.ans.tail } (m.regs 11) t.size
      have e2 := core_wrote { core m with mem := put m.mem (m.regs 11).toNat t, ans := m.ans.tail } (m.regs 11) t.size
      exact congrArg (fun q : M => next (setReg { q with evs := m.evs ++ [⟨63, t.size, t⟩] } 10 t.size)) (e1.trans e2.symm)
    · rw [if_neg c, if_neg c, core_next, core_setReg, core_next, core_setReg]; rfl
  rw [if_neg c3, if_neg c3]
  by_cases c4 : m.regs 17 = 214
  · rw [if_pos c4, if_pos c4, core_next, core_setReg, core_next, core_setReg]; rfl
  rw [if_neg c4, if_neg c4, core_next, core_setReg, core_next, core_setReg]; rfl
theorem core_exec (m : M) (x : Int) : core (exec m x) = core (exec (core m) x) := by
  have hs : ∀ v, core (next (setReg m (qRd x) v)) = core (next (setReg (core m) (qRd x) v)) := fun v => by rw [core_next, core_setReg, core_next, core_setReg]; rfl
  have hr : (core m).regs = m.regs := rfl
  have hp : (core m).pc = m.pc := rfl
  unfold exec
  dsimp only
  rw [hr, hp]
  by_cases c1 : opn x = 2
  · rw [if_pos c1, if_pos c1]
    by_cases k : (m.pc + imm x % 4294967296) % 4294967296 % 4 = 0
    · rw [if_pos k, if_pos k, core_setReg, core_goes, core_setReg, core_goes]; rfl
    · rw [if_neg k, if_neg k]; rfl
  rw [if_neg c1, if_neg c1]
  by_cases c2 : opn x = 3
  · rw [if_pos c2, if_pos c2]
    by_cases k : (m.regs (qR1 x).toNat + imm x % 4294967296) % 4294967296 / 2 * 2 % 4 = 0
    · rw [if_pos k, if_pos k, core_setReg, core_goes, core_setReg, core_goes]; rfl
    · rw [if_neg k, if_neg k]; rfl
  rw [if_neg c2, if_neg c2]
  by_cases c3 : 4 <= opn x /\ opn x <= 9
  · rw [if_pos c3, if_pos c3]
    by_cases k : taken (opn x) (m.regs (qR1 x).toNat) (m.regs (qR2 x).toNat) = true
    · rw [if_pos k, if_pos k, core_goes, core_goes]; rfl
    · rw [if_neg k, if_neg k]; rfl
  rw [if_neg c3, if_neg c3]
  by_cases c4 : opn x = 47
  · rw [if_pos c4, if_pos c4]; rfl
  rw [if_neg c4, if_neg c4]
  by_cases c5 : opn x = 46
  · rw [if_pos c5, if_pos c5]; exact core_ecall m
  rw [if_neg c5, if_neg c5]
  by_cases c6 : 10 <= opn x /\ opn x < 18
  · rw [if_pos c6, if_pos c6]; exact core_memop m _ _ _ _
  rw [if_neg c6, if_neg c6]
  by_cases c7 : opn x = 0
  · rw [if_pos c7, if_pos c7]; exact hs _
  rw [if_neg c7, if_neg c7]
  by_cases c8 : opn x = 1
  · rw [if_pos c8, if_pos c8]; exact hs _
  rw [if_neg c8, if_neg c8]
  by_cases c9 : 18 <= opn x /\ opn x <= 26
  · rw [if_pos c9, if_pos c9]; exact hs _
  rw [if_neg c9, if_neg c9]
  by_cases c10 : 27 <= opn x /\ opn x <= 44
  · rw [if_pos c10, if_pos c10]; exact hs _
  rw [if_neg c10, if_neg c10]; rfl
theorem core_find (m : M) : core (find m) = core m := by
  unfold find
  dsimp only
  by_cases c : (m.slots ((m.pc / 4).toNat % m.nslots)).2 = 0 \/ (m.slots ((m.pc / 4).toNat % m.nslots)).1 ≠ m.pc
  · rw [if_pos c]; rfl
  · rw [if_neg c]; rfl
theorem core_eq {m m' : M} (h : core m = core m') : m.out = m'.out /\ m.pc = m'.pc /\ m.regs = m'.regs /\ m.brk = m'.brk /\ m.evs = m'.evs /\ m.steps = m'.steps /\ m.mem = m'.mem /\ m.size = m'.size /\ m.fuel = m'.fuel /\ m.ended = m'.ended :=
  ⟨(congrArg M.out h : (core m).out = (core m').out), (congrArg M.pc h : (core m).pc = (core m').pc), (congrArg M.regs h : (core m).regs = (core m').regs), (congrArg M.brk h : (core m).brk = (core m').brk), (congrArg M.evs h : (core m).evs = (core m').evs), (congrArg M.steps h : (core m).steps = (core m').steps), (congrArg M.mem h : (core m).mem = (core m').mem), (congrArg M.size h : (core m).size = (core m').size), (congrArg M.fuel h : (core m).fuel = (core m').fuel), (congrArg M.ended h : (core m).ended = (core m').ended)⟩
theorem core_step (m : M) : core (step m) = core (step (core m)) := by
  have e1 : (core m).fuel = m.fuel := rfl
  have e2 : (core m).steps = m.steps := rfl
  have e3 : (core m).pc = m.pc := rfl
  have e4 : ∀ a n, lies (core m) a n = lies m a n := fun _ _ => rfl
  have e5 : (core m).mem = m.mem := rfl
  have e6 : lost (core m) = false := rfl
  unfold step
  dsimp only
  rw [e1, e2, e3, e4, e5, e6]
  by_cases c1 : m.fuel <= m.steps
  · rw [if_pos c1, if_pos c1]; rfl
  rw [if_neg c1, if_neg c1]
  by_cases c2 : m.pc % 4 ≠ 0
  · rw [if_pos c2, if_pos c2]; rfl
  rw [if_neg c2, if_neg c2]
  by_cases c3 : (!lies m m.pc 4) = true
  · rw [if_pos c3, if_pos c3]; rfl
  rw [if_neg c3, if_neg c3]
  by_cases c4 : opn (ld m.mem m.pc.toNat 4) = -1
  · rw [if_pos c4, if_pos c4]; rfl
  rw [if_neg c4, if_neg c4]
  have hx : ∀ (p q : M) (x : Int), core p = core q -> core (exec p x) = core (exec q x) := fun p q x h => by rw [core_exec, h, <- core_exec]
  apply hx
  cases hlo : lost m with
  | true =>
    rw [if_pos rfl]
    show core (find m) = core m
    exact core_find m
  | false => rfl
theorem core_run : ∀ (k : Nat) (m : M), core (run k m) = core (run k (core m))
  | 0, m => rfl
  | k + 1, m => by
    have e : (core m).ended = m.ended := rfl
    rw [run, run, e]
    by_cases c : m.ended = true
    · rw [if_pos c, if_pos c]; rfl
    · rw [if_neg c, if_neg c, core_run k (step m), core_step, <- core_run k (step (core m))]
/-- THE SENTENCE OF THE WHOLE: two runs from machines that are the same but for their blocks come to the same but for them. -/
theorem runs_alike {m m' : M} (h : core m = core m') (a b : Nat) (ha : (run a m).ended = true) (hb : (run b m').ended = true) : core (run a m) = core (run b m') := by
  have e : core (run a m) = core (run a m') := by rw [core_run, h, <- core_run]
  have h2 : (run a m').ended = true := by rw [<- (core_eq e).2.2.2.2.2.2.2.2.2]; exact ha
  rw [e, run_one a b m' h2 hb]

/-! More fuel. -/
def fl (m : M) (f : Int) : M := { m with fuel := f }
theorem fl_setReg (m : M) (f r v : Int) : setReg (fl m f) r v = fl (setReg m r v) f := by
  unfold setReg; by_cases e : r = 0
  · rw [if_pos e, if_pos e]
  · rw [if_neg e, if_neg e]; rfl
theorem fl_goes (m : M) (f tq : Int) : goes (fl m f) tq = fl (goes m tq) f := by
  unfold goes; by_cases e : tq % 4 = 0
  · rw [if_pos e, if_pos e]; rfl
  · rw [if_neg e, if_neg e]; rfl
theorem fl_wrote (m : M) (f a n : Int) : wrote (fl m f) a n = fl (wrote m a n) f := by
  unfold wrote; by_cases e : n = 0
  · rw [if_pos e, if_pos e]
  · rw [if_neg e, if_neg e]; rfl
theorem fl_next (m : M) (f : Int) : next (fl m f) = fl (next m) f := rfl
theorem fl_memop (m : M) (f op rd a b : Int) : memop (fl m f) op rd a b = fl (memop m op rd a b) f := by
  unfold memop
  dsimp only
  have hl : lies (fl m f) a (width op) = lies m a (width op) := rfl
  rw [hl]
  by_cases h1 : a % (width op) ≠ 0
  · rw [if_pos h1, if_pos h1]; rfl
  rw [if_neg h1, if_neg h1]
  by_cases h2 : (!lies m a (width op)) = true
  · rw [if_pos h2, if_pos h2]; rfl
  rw [if_neg h2, if_neg h2]
  by_cases h3 : 15 <= op
  · rw [if_pos h3, if_pos h3, <- fl_next, <- fl_wrote]; rfl
  · rw [if_neg h3, if_neg h3, <- fl_next, <- fl_setReg]; rfl
theorem fl_ecall (m : M) (f : Int) : ecall (fl m f) = fl (ecall m) f := by
  unfold ecall
  dsimp only
  have hl : ∀ a n, lies (fl m f) a n = lies m a n := fun _ _ => rfl
  have hr : (fl m f).regs = m.regs := rfl
  rw [hl, hr]
  by_cases c1 : m.regs 17 = 93
  · rw [if_pos c1, if_pos c1]; rfl
  rw [if_neg c1, if_neg c1]
  by_cases c2 : m.regs 17 = 64
  · rw [if_pos c2, if_pos c2]
    by_cases c : lies m (m.regs 11) (m.regs 12) = true
    · rw [if_pos c, if_pos c, <- fl_next, <- fl_setReg]; rfl
    · rw [if_neg c, if_neg c, <- fl_next, <- fl_setReg]
  rw [if_neg c2, if_neg c2]
  by_cases c3 : m.regs 17 = 63
  · rw [if_pos c3, if_pos c3]
    by_cases c : lies m (m.regs 11) (m.regs 12) = true
    · rw [if_pos c, if_pos c, <- fl_next, <- fl_setReg]
      have ha : (fl m f).ans = m.ans := rfl
      rw [ha]
      generalize (m.ans.headD ByteArray.empty).extract 0 (min (m.ans.headD ByteArray.empty).size (m.regs 12).toNat) = t
      have e := fl_wrote { m with mem := put m.mem (m.regs 11).toNat t, ans := m.ans.tail } f (m.regs 11) t.size
      have e2 := congrArg (fun q : M => next (setReg { q with evs := m.evs ++ [⟨63, t.size, t⟩] } 10 t.size)) e
      exact e2
    · rw [if_neg c, if_neg c, <- fl_next, <- fl_setReg]
  rw [if_neg c3, if_neg c3]
  by_cases c4 : m.regs 17 = 214
  · rw [if_pos c4, if_pos c4, <- fl_next, <- fl_setReg]; rfl
  rw [if_neg c4, if_neg c4, <- fl_next, <- fl_setReg]
theorem fl_exec (m : M) (f x : Int) : exec (fl m f) x = fl (exec m x) f := by
  have hs : ∀ v, next (setReg (fl m f) (qRd x) v) = fl (next (setReg m (qRd x) v)) f := fun v => by rw [fl_setReg, fl_next]
  have hr : (fl m f).regs = m.regs := rfl
  have hp : (fl m f).pc = m.pc := rfl
  unfold exec
  dsimp only
  rw [hr, hp]
  by_cases c1 : opn x = 2
  · rw [if_pos c1, if_pos c1]
    by_cases k : (m.pc + imm x % 4294967296) % 4294967296 % 4 = 0
    · rw [if_pos k, if_pos k, fl_goes, fl_setReg]
    · rw [if_neg k, if_neg k]; rfl
  rw [if_neg c1, if_neg c1]
  by_cases c2 : opn x = 3
  · rw [if_pos c2, if_pos c2]
    by_cases k : (m.regs (qR1 x).toNat + imm x % 4294967296) % 4294967296 / 2 * 2 % 4 = 0
    · rw [if_pos k, if_pos k, fl_goes, fl_setReg]
    · rw [if_neg k, if_neg k]; rfl
  rw [if_neg c2, if_neg c2]
  by_cases c3 : 4 <= opn x /\ opn x <= 9
  · rw [if_pos c3, if_pos c3]
    by_cases k : taken (opn x) (m.regs (qR1 x).toNat) (m.regs (qR2 x).toNat) = true
    · rw [if_pos k, if_pos k, fl_goes]
    · rw [if_neg k, if_neg k]; rfl
  rw [if_neg c3, if_neg c3]
  by_cases c4 : opn x = 47
  · rw [if_pos c4, if_pos c4]; rfl
  rw [if_neg c4, if_neg c4]
  by_cases c5 : opn x = 46
  · rw [if_pos c5, if_pos c5]; exact fl_ecall m f
  rw [if_neg c5, if_neg c5]
  by_cases c6 : 10 <= opn x /\ opn x < 18
  · rw [if_pos c6, if_pos c6]; exact fl_memop m f _ _ _ _
  rw [if_neg c6, if_neg c6]
  by_cases c7 : opn x = 0
  · rw [if_pos c7, if_pos c7]; exact hs _
  rw [if_neg c7, if_neg c7]
  by_cases c8 : opn x = 1
  · rw [if_pos c8, if_pos c8]; exact hs _
  rw [if_neg c8, if_neg c8]
  by_cases c9 : 18 <= opn x /\ opn x <= 26
  · rw [if_pos c9, if_pos c9]; exact hs _
  rw [if_neg c9, if_neg c9]
  by_cases c10 : 27 <= opn x /\ opn x <= 44
  · rw [if_pos c10, if_pos c10]; exact hs _
  rw [if_neg c10, if_neg c10]; rfl
theorem fl_find (m : M) (f : Int) : find (fl m f) = fl (find m) f := by
  unfold find
  dsimp only
  have e1 : (fl m f).slots = m.slots := rfl
  have e2 : (fl m f).pc = m.pc := rfl
  have e3 : (fl m f).nslots = m.nslots := rfl
  rw [e1, e2, e3]
  by_cases c : (m.slots ((m.pc / 4).toNat % m.nslots)).2 = 0 \/ (m.slots ((m.pc / 4).toNat % m.nslots)).1 ≠ m.pc
  · rw [if_pos c, if_pos c]; rfl
  · rw [if_neg c, if_neg c]; rfl
theorem fl_step (m : M) (f : Int) (h1 : m.steps < m.fuel) (h2 : m.steps < f) : step (fl m f) = fl (step m) f := by
  have e1 : (fl m f).fuel = f := rfl
  have e2 : (fl m f).steps = m.steps := rfl
  have e3 : (fl m f).pc = m.pc := rfl
  have e4 : ∀ a n, lies (fl m f) a n = lies m a n := fun _ _ => rfl
  have e5 : (fl m f).mem = m.mem := rfl
  have e6 : lost (fl m f) = lost m := rfl
  unfold step
  dsimp only
  rw [e1, e2, e3, e4, e5, e6, if_neg (show ¬ f <= m.steps by omega), if_neg (show ¬ m.fuel <= m.steps by omega)]
  by_cases c2 : m.pc % 4 ≠ 0
  · rw [if_pos c2, if_pos c2]; rfl
  rw [if_neg c2, if_neg c2]
  by_cases c3 : (!lies m m.pc 4) = true
  · rw [if_pos c3, if_pos c3]; rfl
  rw [if_neg c3, if_neg c3]
  by_cases c4 : opn (ld m.mem m.pc.toNat 4) = -1
  · rw [if_pos c4, if_pos c4]; rfl
  rw [if_neg c4, if_neg c4, <- fl_exec]
  congr 1
  cases hlo : lost m with
  | true => rw [if_pos rfl, if_pos rfl, fl_find]; rfl
  | false => rfl
/-- What ends by an instruction does not end by fuel. -/
def Ox (m m' : M) : Prop := m'.ended = m.ended \/ (m'.ended = true /\ ¬ m'.out = 0)
theorem ox_set (m : M) (r v : Int) : (setReg m r v).ended = m.ended /\ (setReg m r v).out = m.out /\ (setReg m r v).evs = m.evs := by
  unfold setReg; by_cases e : r = 0
  · rw [if_pos e]; exact ⟨rfl, rfl, rfl⟩
  · rw [if_neg e]; exact ⟨rfl, rfl, rfl⟩
theorem ox_wrote (m : M) (a n : Int) : (wrote m a n).ended = m.ended /\ (wrote m a n).out = m.out /\ (wrote m a n).evs = m.evs := by
  unfold wrote; by_cases e : n = 0
  · rw [if_pos e]; exact ⟨rfl, rfl, rfl⟩
  · rw [if_neg e]; exact ⟨rfl, rfl, rfl⟩
/-- .. and its events begin with those that were there. -/
def Px (m m' : M) : Prop := Ox m m' /\ ∃ e, m'.evs = m.evs ++ e
theorem px_stop (m : M) (o : Int) (h : ¬ o = 0) : Px m (stop m o) := ⟨Or.inr ⟨rfl, h⟩, [], (List.append_nil _).symm⟩
theorem px_same {m m' : M} (h : m'.ended = m.ended) (e : m'.evs = m.evs) : Px m m' := ⟨Or.inl h, [], by rw [e, List.append_nil]⟩
theorem px_setReg {m m' : M} (h : Px m m') (r v : Int) : Px m (setReg m' r v) := by
  obtain ⟨k1, k2, k3⟩ := ox_set m' r v
  refine ⟨?_, ?_⟩
  · rcases h.1 with q | q
    · exact Or.inl (k1.trans q)
    · exact Or.inr ⟨k1.trans q.1, by rw [k2]; exact q.2⟩
  · rw [k3]; exact h.2
theorem px_next {m m' : M} (h : Px m m') : Px m (next m') := h
theorem px_goes (m : M) (tq : Int) : Px m (goes m tq) := by
  unfold goes; by_cases e : tq % 4 = 0
  · rw [if_pos e]; exact px_same rfl rfl
  · rw [if_neg e]; exact px_stop m 3 dC
theorem px_memop (m : M) (op rd a b : Int) : Px m (memop m op rd a b) := by
  unfold memop
  dsimp only
  by_cases h1 : a % (width op) ≠ 0
  · rw [if_pos h1]; exact px_stop m _ (by by_cases c : 15 <= op <;> simp [c])
  rw [if_neg h1]
  by_cases h2 : (!lies m a (width op)) = true
  · rw [if_pos h2]; exact px_stop m _ (by by_cases c : 15 <= op <;> simp [c])
  rw [if_neg h2]
  by_cases h3 : 15 <= op
  · rw [if_pos h3]
    obtain ⟨k1, k2, k3⟩ := ox_wrote { m with mem := st m.mem a.toNat (width op) b } a (width op)
    exact px_next (px_same k1 k3)
  · rw [if_neg h3]; exact px_next (px_setReg (px_same rfl rfl) _ _)
theorem px_ecall (m : M) : Px m (ecall m) := by
  unfold ecall
  dsimp only
  by_cases c1 : m.regs 17 = 93
  · rw [if_pos c1]; exact ⟨Or.inr ⟨rfl, by show ¬ (1 : Int) = 0; decide⟩, _, rfl⟩
  rw [if_neg c1]
  by_cases c2 : m.regs 17 = 64
  · rw [if_pos c2]
    by_cases c : lies m (m.regs 11) (m.regs 12) = true
    · rw [if_pos c]; refine px_next (px_setReg ?_ _ _); exact ⟨Or.inl rfl, _, rfl⟩
    · rw [if_neg c]; exact px_next (px_setReg (px_same rfl rfl) _ _)
  rw [if_neg c2]
  by_cases c3 : m.regs 17 = 63
  · rw [if_pos c3]
    by_cases c : lies m (m.regs 11) (m.regs 12) = true
    · rw [if_pos c]
      generalize (m.ans.headD ByteArray.empty).extract 0 (min (m.ans.headD ByteArray.empty).size (m.regs 12).toNat) = t
      obtain ⟨k1, k2, k3⟩ := ox_wrote { m with mem := put m.mem (m.regs 11).toNat t, ans := m.ans.tail } (m.regs 11) t.size
      refine px_next (px_setReg ?_ _ _)
      exact ⟨Or.inl k1, _, rfl⟩
    · rw [if_neg c]; exact px_next (px_setReg (px_same rfl rfl) _ _)
  rw [if_neg c3]
  by_cases c4 : m.regs 17 = 214
  · rw [if_pos c4]; refine px_next (px_setReg ?_ _ _); exact px_same rfl rfl
  rw [if_neg c4]; exact px_next (px_setReg (px_same rfl rfl) _ _)
theorem px_exec (m : M) (x : Int) : Px m (exec m x) := by
  have hs : ∀ v, Px m (next (setReg m (qRd x) v)) := fun v => px_next (px_setReg (px_same rfl rfl) _ _)
  unfold exec
  dsimp only
  by_cases c1 : opn x = 2
  · rw [if_pos c1]
    by_cases k : (m.pc + imm x % 4294967296) % 4294967296 % 4 = 0
    · rw [if_pos k]; exact px_setReg (px_goes m _) _ _
    · rw [if_neg k]; exact px_stop m _ dC
  rw [if_neg c1]
  by_cases c2 : opn x = 3
  · rw [if_pos c2]
    by_cases k : (m.regs (qR1 x).toNat + imm x % 4294967296) % 4294967296 / 2 * 2 % 4 = 0
    · rw [if_pos k]; exact px_setReg (px_goes m _) _ _
    · rw [if_neg k]; exact px_stop m _ dC
  rw [if_neg c2]
  by_cases c3 : 4 <= opn x /\ opn x <= 9
  · rw [if_pos c3]
    by_cases k : taken (opn x) (m.regs (qR1 x).toNat) (m.regs (qR2 x).toNat) = true
    · rw [if_pos k]; exact px_goes m _
    · rw [if_neg k]; exact px_same rfl rfl
  rw [if_neg c3]
  by_cases c4 : opn x = 47
  · rw [if_pos c4]; exact px_stop m _ dC
  rw [if_neg c4]
  by_cases c5 : opn x = 46
  · rw [if_pos c5]; exact px_ecall m
  rw [if_neg c5]
  by_cases c6 : 10 <= opn x /\ opn x < 18
  · rw [if_pos c6]; exact px_memop m _ _ _ _
  rw [if_neg c6]
  by_cases c7 : opn x = 0
  · rw [if_pos c7]; exact hs _
  rw [if_neg c7]
  by_cases c8 : opn x = 1
  · rw [if_pos c8]; exact hs _
  rw [if_neg c8]
  by_cases c9 : 18 <= opn x /\ opn x <= 26
  · rw [if_pos c9]; exact hs _
  rw [if_neg c9]
  by_cases c10 : 27 <= opn x /\ opn x <= 44
  · rw [if_pos c10]; exact hs _
  rw [if_neg c10]; exact px_same rfl rfl
/-- One step: it stops for want of fuel, or there is fuel, and what ends it is something else. -/
theorem step_px (m : M) (he : m.ended = false) : (m.fuel <= m.steps /\ step m = stop m 0) \/ (m.steps < m.fuel /\ Px m (step m)) := by
  by_cases c1 : m.fuel <= m.steps
  · exact Or.inl ⟨c1, by unfold step; rw [if_pos c1]⟩
  refine Or.inr ⟨by omega, ?_⟩
  unfold step
  dsimp only
  rw [if_neg c1]
  by_cases c2 : m.pc % 4 ≠ 0
  · rw [if_pos c2]; exact px_stop m _ dC
  rw [if_neg c2]
  by_cases c3 : (!lies m m.pc 4) = true
  · rw [if_pos c3]; exact px_stop m _ dC
  rw [if_neg c3]
  by_cases c4 : opn (ld m.mem m.pc.toNat 4) = -1
  · rw [if_pos c4]; exact px_stop m _ dC
  rw [if_neg c4]
  cases hlo : lost m with
  | true =>
    rw [if_pos rfl]
    obtain ⟨f1, f2, f3, f4, f5, f6, f7, f8, f9, f10, f11, f12, f13, f14⟩ := find_f m
    obtain ⟨h1, e, h2⟩ := px_exec { find m with done := (find m).done + 1 } (ld m.mem m.pc.toNat 4)
    refine ⟨?_, e, h2.trans (congrArg (· ++ e) f4)⟩
    rcases h1 with q | q
    · exact Or.inl (q.trans f11)
    · exact Or.inr q
  | false =>
    rw [if_neg dC]
    exact px_exec { m with done := m.done + 1 } _
theorem step_fuel (m : M) : (step m).fuel = m.fuel := by
  unfold step
  dsimp only
  by_cases c1 : m.fuel <= m.steps
  · rw [if_pos c1]; rfl
  rw [if_neg c1]
  by_cases c2 : m.pc % 4 ≠ 0
  · rw [if_pos c2]; rfl
  rw [if_neg c2]
  by_cases c3 : (!lies m m.pc 4) = true
  · rw [if_pos c3]; rfl
  rw [if_neg c3]
  by_cases c4 : opn (ld m.mem m.pc.toNat 4) = -1
  · rw [if_pos c4]; rfl
  rw [if_neg c4, (Fx.exec _ _).2.1]
  cases hlo : lost m with
  | true => rw [if_pos rfl]; exact (find_f m).2.2.2.2.2.2.2.2.2.1
  | false => rfl
theorem run_fuel : ∀ (k : Nat) (m : M), (run k m).fuel = m.fuel
  | 0, m => rfl
  | k + 1, m => by
    rw [run]
    by_cases c : m.ended = true
    · rw [if_pos c]
    · rw [if_neg c, run_fuel k, step_fuel]
theorem run_evs : ∀ (k : Nat) (m : M), ∃ e, (run k m).evs = m.evs ++ e
  | 0, m => ⟨[], (List.append_nil _).symm⟩
  | k + 1, m => by
    rw [run]
    by_cases c : m.ended = true
    · rw [if_pos c]; exact ⟨[], (List.append_nil _).symm⟩
    · rw [if_neg c]
      obtain ⟨e, he⟩ := run_evs k (step m)
      have c' : m.ended = false := by simpa using c
      rcases step_px m c' with ⟨_, q⟩ | ⟨_, _, e2, q⟩
      · exact ⟨e, by rw [he, q]; rfl⟩
      · exact ⟨e2 ++ e, by rw [he, q, List.append_assoc]⟩
/-- The last step of a run. -/
theorem run_end : ∀ (k : Nat) (m : M), m.ended = false -> (run k m).ended = true -> ∃ j, (run j m).ended = false /\ run k m = step (run j m)
  | 0, m, h0, h1 => by rw [run, h0] at h1; cases h1
  | k + 1, m, h0, h1 => by
    rw [run_last] at h1 ⊢
    by_cases c : (run k m).ended = true
    · rw [if_pos c]; exact run_end k m h0 c
    · rw [if_neg c]; exact ⟨k, by simpa using c, rfl⟩
theorem fl_run : ∀ (j : Nat) (m : M) (f : Int), m.ended = false -> (run j m).ended = false -> m.fuel <= f -> run j (fl m f) = fl (run j m) f
  | 0, m, f, _, _, _ => rfl
  | j + 1, m, f, h0, h1, hf => by
    have e0 : (fl m f).ended = m.ended := rfl
    rw [run] at h1 ⊢
    rw [run, e0, h0, if_neg dC, if_neg dC]
    rw [h0, if_neg dC] at h1
    have hne : (step m).ended = false := by
      cases c : (step m).ended with
      | false => rfl
      | true => rw [run_fix _ c] at h1; rw [c] at h1; cases h1
    rcases step_px m h0 with ⟨q1, q2⟩ | ⟨q1, q2⟩
    · rw [q2] at hne; cases hne
    · rw [fl_step m f q1 oM]
      have hfu : (step m).fuel <= f := by
        have : (step m).fuel = m.fuel := step_fuel m
        omega
      exact fl_run j (step m) f hne h1 hfu
/-- With more fuel it goes the same way further. -/
theorem further (m : M) (f : Int) (hf : m.fuel <= f) (h0 : m.ended = false) (a b : Nat) (ha : (run a m).ended = true) (hb : (run b (fl m f)).ended = true) :
    (¬ (run a m).out = 0 -> run b (fl m f) = fl (run a m) f) /\ ((run a m).out = 0 -> ∃ j e, (run j m).ended = false /\ run a m = stop (run j m) 0 /\ (run j m).fuel <= (run j m).steps /\ (run b (fl m f)).evs = (run a m).evs ++ e /\ ∃ i, run b (fl m f) = run i (fl (run j m) f)) := by
  obtain ⟨j, hj, ej⟩ := run_end a m h0 ha
  have hfl := fl_run j m f h0 hj hf
  have hfj : (run j m).fuel <= f := by rw [run_fuel]; exact hf
  rcases step_px _ hj with ⟨q1, q2⟩ | ⟨q1, q2⟩
  · rw [ej, q2]
    refine ⟨fun h => absurd rfl h, fun _ => ?_⟩
    have hbj : ∃ i, run b (fl m f) = run i (fl (run j m) f) := by
      by_cases c : j <= b
      · obtain ⟨d, rfl⟩ := Nat.exists_eq_add_of_le c
        exact ⟨d, by rw [run_add, hfl]⟩
      · have : run j (fl m f) = run b (fl m f) := by
          obtain ⟨d, rfl⟩ := Nat.exists_eq_add_of_le (Nat.le_of_lt (Nat.lt_of_not_le c))
          rw [run_add, run_fix _ hb]
        exact ⟨0, by rw [<- this, hfl]; rfl⟩
    obtain ⟨i, hi⟩ := hbj
    obtain ⟨e, he⟩ := run_evs i (fl (run j m) f)
    exact ⟨j, e, hj, rfl, q1, by rw [hi, he]; rfl, i, hi⟩
  · have hs := fl_step (run j m) f q1 oM
    have e1 : run (j + 1) (fl m f) = fl (run a m) f := by
      rw [run_last, hfl, if_neg (by show ¬ (run j m).ended = true; rw [hj]; decide), hs, ej]
    have h2 : (run (j + 1) (fl m f)).ended = true := by rw [e1]; exact ha
    refine ⟨fun _ => by rw [run_one b (j + 1) _ hb h2, e1], fun h => ?_⟩
    rcases q2.1 with q | q
    · rw [<- ej, ha] at q; rw [hj] at q; cases q
    · rw [<- ej] at q; exact absurd h q.2
/-- A run that ends for want of fuel has done all of it. -/
theorem out_0 (m : M) (h0 : m.ended = false) (a : Nat) (ha : (run a m).ended = true) (ho : (run a m).out = 0) : (run a m).fuel <= (run a m).steps := by
  obtain ⟨j, hj, ej⟩ := run_end a m h0 ha
  rcases step_px _ hj with ⟨q1, q2⟩ | ⟨q1, q2⟩
  · rw [ej, q2]; exact q1
  · rcases q2.1 with q | q
    · rw [<- ej, ha] at q; rw [hj] at q; cases q
    · rw [<- ej] at q; exact absurd ho q.2
def wordL (x : Int) : List UInt8 := [UInt8.ofNat (x % 256).toNat, UInt8.ofNat (x / 256 % 256).toNat, UInt8.ofNat (x / 65536 % 256).toNat, UInt8.ofNat (x / 16777216 % 256).toNat]
def wordB (x : Int) : ByteArray := ⟨(wordL x).toArray⟩
def textB (l : List Int) : ByteArray := ⟨(l.flatMap wordL).toArray⟩
theorem start_core (pg : Int) (im : ByteArray) (ba en : Int) (ans : List ByteArray) (fu sl ar sl' ar' : Int) (b b' : Bool) : core (ref.start pg im ba en ans fu sl ar b) = core (ref.start pg im ba en ans fu sl' ar' b') := rfl

/-! The program of 'alive'. -/
def aliveL : List Int := [5243027, 1377587, 4293951635, 4261453027, 97519763, 115]
theorem alive_1 : (run 19 (ref.start 1 (textB aliveL) 0 0 [] 100 2 8 false)).ended = true /\ (run 19 (ref.start 1 (textB aliveL) 0 0 [] 100 2 8 false)).out = 1 /\ (run 19 (ref.start 1 (textB aliveL) 0 0 [] 100 2 8 false)).regs 10 = 15 /\ (run 19 (ref.start 1 (textB aliveL) 0 0 [] 100 2 8 false)).steps = 18 /\
    (run 19 (ref.start 1 (textB aliveL) 0 0 [] 100 2 8 false)).evs.map (fun e => (e.call, e.result)) = [(93, 15)] := by decide +kernel
theorem alive_2 : (run 19 (ref.start 1 (textB aliveL) 0 0 [] 100 2 8 true)).ended = true /\ (run 19 (ref.start 1 (textB aliveL) 0 0 [] 100 2 8 true)).out = 1 /\ (run 19 (ref.start 1 (textB aliveL) 0 0 [] 100 2 8 true)).regs 10 = 15 /\ (run 19 (ref.start 1 (textB aliveL) 0 0 [] 100 2 8 true)).steps = 18 /\
    (run 19 (ref.start 1 (textB aliveL) 0 0 [] 100 2 8 true)).evs.map (fun e => (e.call, e.result)) = [(93, 15)] /\ 0 < (run 19 (ref.start 1 (textB aliveL) 0 0 [] 100 2 8 true)).built := by decide +kernel

/-! The words of an image, loaded again. -/
theorem flat_get : ∀ (l : List Int) (k j : Nat) (x : Int), l[k]? = some x -> j < 4 -> (l.flatMap wordL)[4 * k + j]? = (wordL x)[j]?
  | [], k, j, x, h, _ => by simp at h
  | y :: r, 0, j, x, h, hj => by
    simp at h; subst h
    rw [List.flatMap_cons, Nat.mul_zero, Nat.zero_add, List.getElem?_append_left (by simpa [wordL] using hj)]
  | y :: r, k + 1, j, x, h, hj => by
    have h2 : r[k]? = some x := by simpa using h
    rw [List.flatMap_cons, List.getElem?_append_right (by simp [wordL]; omega)]
    have e : 4 * (k + 1) + j - (wordL y).length = 4 * k + j := by simp [wordL]; omega
    rw [e]; exact flat_get r k j x h2 hj
theorem put_byte (l : List Int) (k j : Nat) (x : Int) (h : l[k]? = some x) (hj : j < 4) (h0 : 0 <= x) (h1 : x <= 4294967295) : put (fun _ => 0) 0 (textB l) (4 * k + j) = x / 256 ^ j % 256 := by
  have hg := flat_get l k j x h hj
  have hlt : 4 * k + j < (l.flatMap wordL).length := by
    rcases Nat.lt_or_ge (4 * k + j) (l.flatMap wordL).length with q | q
    · exact q
    · rw [List.getElem?_eq_none q] at hg
      have : j = 0 \/ j = 1 \/ j = 2 \/ j = 3 := by omega
      rcases this with rfl | rfl | rfl | rfl <;> simp [wordL] at hg
  have hs : (textB l).size = (l.flatMap wordL).length := by simp [textB, ByteArray.size]
  have hd : (textB l).data.getD (4 * k + j) 0 = ((l.flatMap wordL)[4 * k + j]?).getD 0 := by
    simp [textB, Array.getD_eq_getD_getElem?]
  unfold put
  rw [if_pos ⟨Nat.zero_le _, by rw [hs]; omega⟩, Nat.sub_zero, hd, hg]
  have : j = 0 \/ j = 1 \/ j = 2 \/ j = 3 := by omega
  rcases this with rfl | rfl | rfl | rfl <;> simp [wordL] <;> omega
theorem ld_text (l : List Int) (k : Nat) (x : Int) (h : l[k]? = some x) (h0 : 0 <= x) (h1 : x <= 4294967295) : ld (put (fun _ => 0) 0 (textB l)) (4 * k) 4 = x := by
  simp only [ld]
  rw [put_byte l k 0 x h dC h0 h1, put_byte l k 1 x h dC h0 h1, put_byte l k 2 x h dC h0 h1, put_byte l k 3 x h dC h0 h1]
  simp
  omega

/-! The program of 'Sums'. -/
theorem step_0 (m : M) (k : Nat) (x : Int) (hn : m.nslots = 0) (hf : m.steps < m.fuel) (hk : m.pc = 4 * (k : Int)) (hs : 4 * k + 4 <= m.size) (hx : ld m.mem (4 * k) 4 = x) (ho : ¬ opn x = -1) : step m = exec { m with done := m.done + 1 } x := by
  have hp : m.pc.toNat = 4 * k := by omega
  unfold step
  dsimp only
  rw [if_neg oM, if_neg oM, if_neg (by simp [lies]; omega), hp, hx, if_neg ho, lost_0' m hn, if_neg dC]
theorem exec_lw (m : M) (x : Int) (h : opn x = 12) (a : Nat) (ha : (m.regs (qR1 x).toNat + imm x % 4294967296) % 4294967296 = a) (h4 : a % 4 = 0) (hl : a + 4 <= m.size) : exec m x = next (setReg m (qRd x) (ld m.mem a 4)) := by
  unfold exec
  dsimp only
  rw [h, if_neg dC, if_neg dC, if_neg dC, if_neg dC, if_neg dC, if_pos dC, ha]
  unfold memop
  have hw : width 12 = 4 := by decide
  dsimp only
  rw [hw, if_neg (by simp; omega), if_neg (by simp [lies]; omega), if_neg dC, if_neg dC]
  simp
theorem exec_op (m : M) (x : Int) (h : 27 <= opn x /\ opn x <= 44) : exec m x = next (setReg m (qRd x) (comp (opn x) (m.regs (qR1 x).toNat) (m.regs (qR2 x).toNat))) := by
  unfold exec
  dsimp only
  rw [if_neg oM, if_neg oM, if_neg oM, if_neg oM, if_neg oM, if_neg oM, if_neg oM, if_neg oM, if_neg oM, if_pos h]
theorem exec_brk (m : M) (x : Int) (h : opn x = 47) : exec m x = stop m 9 := by
  unfold exec
  dsimp only
  rw [h, if_neg dC, if_neg dC, if_neg dC, if_pos dC]
def sumsW (f : Int) : Int := 35684787 + f * 4096
def sumsL (f a b : Int) : List Int := [16785539, 20979971, sumsW f, 1048691, a, b]
theorem sums_op (f : Int) (h0 : 0 <= f) (h1 : f <= 7) : opn (sumsW f) = 37 + f /\ qRd (sumsW f) = 3 /\ qR1 (sumsW f) = 1 /\ qR2 (sumsW f) = 2 := by
  have : f = 0 \/ f = 1 \/ f = 2 \/ f = 3 \/ f = 4 \/ f = 5 \/ f = 6 \/ f = 7 := by omega
  rcases this with rfl | rfl | rfl | rfl | rfl | rfl | rfl | rfl <;> decide +kernel
theorem sums_run (f a b sl ar : Int) (f0 : 0 <= f) (f1 : f <= 7) (a0 : 0 <= a) (a1 : a <= 4294967295) (b0 : 0 <= b) (b1 : b <= 4294967295) :
    (run 4 (ref.start 1 (textB (sumsL f a b)) 0 0 [] 9 sl ar false)).ended = true /\ (run 4 (ref.start 1 (textB (sumsL f a b)) 0 0 [] 9 sl ar false)).out = 9 /\ (run 4 (ref.start 1 (textB (sumsL f a b)) 0 0 [] 9 sl ar false)).steps = 3 /\
    (run 4 (ref.start 1 (textB (sumsL f a b)) 0 0 [] 9 sl ar false)).regs 1 = a /\ (run 4 (ref.start 1 (textB (sumsL f a b)) 0 0 [] 9 sl ar false)).regs 2 = b /\ (run 4 (ref.start 1 (textB (sumsL f a b)) 0 0 [] 9 sl ar false)).regs 3 = comp (37 + f) a b := by
  obtain ⟨o1, o2, o3, o4⟩ := sums_op f f0 f1
  have l0 := ld_text (sumsL f a b) 0 16785539 rfl oM oM
  have l1 := ld_text (sumsL f a b) 1 20979971 rfl oM oM
  have l2 := ld_text (sumsL f a b) 2 (sumsW f) rfl (by unfold sumsW; omega) (by unfold sumsW; omega)
  have l3 := ld_text (sumsL f a b) 3 1048691 rfl oM oM
  have l4 := ld_text (sumsL f a b) 4 a rfl a0 a1
  have l5 := ld_text (sumsL f a b) 5 b rfl b0 b1
  generalize hm0 : ref.start 1 (textB (sumsL f a b)) 0 0 [] 9 sl ar false = m0
  have hmem : m0.mem = put (fun _ => 0) 0 (textB (sumsL f a b)) := by rw [<- hm0]; rfl
  rw [<- hmem] at l0 l1 l2 l3 l4 l5
  have z : m0.size = 64 /\ m0.steps = 0 /\ m0.fuel = 9 /\ m0.nslots = 0 /\ m0.pc = 0 /\ m0.ended = false /\ ∀ i, m0.regs i = 0 := by rw [<- hm0]; exact ⟨rfl, rfl, rfl, rfl, rfl, rfl, fun _ => rfl⟩
  clear hm0 hmem
  obtain ⟨zs, zt, zf, zn, zp, ze, zr⟩ := z
  have e1 : step m0 = next (setReg { m0 with done := m0.done + 1 } 1 a) := by
    rw [step_0 m0 0 16785539 zn oM oM oM l0 (by decide +kernel)]
    have := exec_lw { m0 with done := m0.done + 1 } 16785539 (by decide +kernel) 16 (by show (m0.regs _ + _) % _ = _; rw [zr]; decide +kernel) dC (by show 20 <= m0.size; omega)
    rw [this]
    have e : qRd 16785539 = 1 := by decide +kernel
    rw [e]; show next (setReg _ 1 (ld m0.mem 16 4)) = _; rw [l4]
  obtain ⟨m1, hm1⟩ : ∃ m1, m1 = next (setReg { m0 with done := m0.done + 1 } 1 a) := ⟨_, rfl⟩
  rw [<- hm1] at e1
  have y : m1.mem = m0.mem /\ m1.size = 64 /\ m1.steps = 1 /\ m1.fuel = 9 /\ m1.nslots = 0 /\ m1.pc = 4 /\ m1.ended = false /\ ∀ i, m1.regs i = if i = 1 then a else 0 := by
    rw [hm1]
    refine ⟨rfl, zs, by show m0.steps + 1 = 1; omega, zf, zn, by show (m0.pc + 4) % 4294967296 = 4; omega, ze, fun i => ?_⟩
    show (if i = (1 : Int).toNat then a else m0.regs i) = _
    rw [zr]; rfl
  clear hm1
  obtain ⟨ym, ys, yt, yf, yn, yp, ye, yr⟩ := y
  have e2 : step m1 = next (setReg { m1 with done := m1.done + 1 } 2 b) := by
    rw [step_0 m1 1 20979971 yn oM oM oM (by rw [ym]; exact l1) (by decide +kernel)]
    have := exec_lw { m1 with done := m1.done + 1 } 20979971 (by decide +kernel) 20 (by show (m1.regs _ + _) % _ = _; rw [yr, if_neg (by decide +kernel)]; decide +kernel) dC (by show 24 <= m1.size; omega)
    rw [this]
    have e : qRd 20979971 = 2 := by decide +kernel
    rw [e]; show next (setReg _ 2 (ld m1.mem 20 4)) = _; rw [ym, l5]
  obtain ⟨m2, hm2⟩ : ∃ m2, m2 = next (setReg { m1 with done := m1.done + 1 } 2 b) := ⟨_, rfl⟩
  rw [<- hm2] at e2
  have x : m2.mem = m0.mem /\ m2.size = 64 /\ m2.steps = 2 /\ m2.fuel = 9 /\ m2.nslots = 0 /\ m2.pc = 8 /\ m2.ended = false /\ ∀ i, m2.regs i = if i = 2 then b else if i = 1 then a else 0 := by
    rw [hm2]
    refine ⟨ym, ys, by show m1.steps + 1 = 2; omega, yf, yn, by show (m1.pc + 4) % 4294967296 = 8; omega, ye, fun i => ?_⟩
    show (if i = (2 : Int).toNat then b else m1.regs i) = _
    rw [yr]; rfl
  clear hm2
  obtain ⟨xm, xs, xt, xf, xn, xp, xe, xr⟩ := x
  have e3 : step m2 = next (setReg { m2 with done := m2.done + 1 } 3 (comp (37 + f) a b)) := by
    rw [step_0 m2 2 (sumsW f) xn oM oM oM (by rw [xm]; exact l2) oM, exec_op _ _ oM, o1, o2, o3, o4]
    show next (setReg _ 3 (comp (37 + f) (m2.regs (1 : Int).toNat) (m2.regs (2 : Int).toNat))) = _
    rw [xr, xr]; rfl
  obtain ⟨m3, hm3⟩ : ∃ m3, m3 = next (setReg { m2 with done := m2.done + 1 } 3 (comp (37 + f) a b)) := ⟨_, rfl⟩
  rw [<- hm3] at e3
  have v : m3.mem = m0.mem /\ m3.size = 64 /\ m3.steps = 3 /\ m3.fuel = 9 /\ m3.nslots = 0 /\ m3.pc = 12 /\ m3.ended = false /\ ∀ i, m3.regs i = if i = 3 then comp (37 + f) a b else if i = 2 then b else if i = 1 then a else 0 := by
    rw [hm3]
    refine ⟨xm, xs, by show m2.steps + 1 = 3; omega, xf, xn, by show (m2.pc + 4) % 4294967296 = 12; omega, xe, fun i => ?_⟩
    show (if i = (3 : Int).toNat then comp (37 + f) a b else m2.regs i) = _
    rw [xr]; rfl
  clear hm3
  obtain ⟨vm, vs, vt, vf, vn, vp, ve, vr⟩ := v
  have e4 : step m3 = stop { m3 with done := m3.done + 1 } 9 := by
    rw [step_0 m3 3 1048691 vn oM oM oM (by rw [vm]; exact l3) (by decide +kernel), exec_brk _ _ (by decide +kernel)]
  have er : run 4 m0 = stop { m3 with done := m3.done + 1 } 9 := by
    rw [run, ze, if_neg dC, e1, run, ye, if_neg dC, e2, run, xe, if_neg dC, e3, run, ve, if_neg dC, e4]; rfl
  rw [er]
  exact ⟨rfl, rfl, vt, (vr 1).trans sP, (vr 2).trans sP, (vr 3).trans sP⟩

/-! The program of 'Changed'. -/
def chgL (v : Int) : List Int := [67117699, 5252131, 1049875, 1245971, 2098067, 4268955363, 1048691, 0, 0, 0, 0, 0, 0, 0, 0, 0, 1299 + v * 1048576]
theorem exec_imm (m : M) (x : Int) (h : opn x = 18) : exec m x = next (setReg m (qRd x) ((m.regs (qR1 x).toNat + imm x % 4294967296) % 4294967296)) := by
  unfold exec
  dsimp only
  rw [h, if_neg dC, if_neg dC, if_neg dC, if_neg dC, if_neg dC, if_neg dC, if_neg dC, if_neg dC, if_pos dC]
  unfold comp
  rw [if_pos dC]
theorem exec_sw (m : M) (x : Int) (h : opn x = 17) (a : Nat) (ha : (m.regs (qR1 x).toNat + imm x % 4294967296) % 4294967296 = a) (h4 : a % 4 = 0) (hl : a + 4 <= m.size) : exec m x = next (wrote { m with mem := st m.mem a 4 (m.regs (qR2 x).toNat) } a 4) := by
  unfold exec
  dsimp only
  rw [h, if_neg dC, if_neg dC, if_neg dC, if_neg dC, if_neg dC, if_pos dC, ha]
  unfold memop
  have hw : width 17 = 4 := by decide
  dsimp only
  rw [hw, if_neg (by simp; omega), if_neg (by simp [lies]; omega), if_pos dC]
  simp
theorem exec_bne (m : M) (x : Int) (h : opn x = 5) : exec m x = if m.regs (qR1 x).toNat = m.regs (qR2 x).toNat then next m else goes m ((m.pc + imm x % 4294967296) % 4294967296) := by
  unfold exec
  dsimp only
  have ht : ∀ a b, taken 5 a b = !(a == b) := fun a b => by unfold taken; simp
  rw [h, if_neg dC, if_neg dC, if_pos dC, ht]
  by_cases c : m.regs (qR1 x).toNat = m.regs (qR2 x).toNat
  · rw [if_pos c]; simp [c]
  · rw [if_neg c]; simp [c]
theorem ld_same (mem mem' : Nat -> Int) (a : Nat) (h : ∀ j, j < 4 -> mem' (a + j) = mem (a + j)) : ld mem' a 4 = ld mem a 4 := by
  simp only [ld]
  have h0 := h 0 dC
  have h1 := h 1 dC
  have h2 := h 2 dC
  have h3 := h 3 dC
  rw [h0, h1, h2, h3]
theorem ld_st_far (mem : Nat -> Int) (a b : Nat) (v : Int) (h : b + 4 <= a \/ a + 4 <= b) : ld (st mem a 4 v) b 4 = ld mem b 4 :=
  ld_same _ _ _ (fun j hj => by unfold st; rw [if_neg oM])
theorem ld_st (mem : Nat -> Int) (a : Nat) (v : Int) (h0 : 0 <= v) (h1 : v <= 4294967295) : ld (st mem a 4 v) a 4 = v := by
  have e : ∀ j, j < 4 -> st mem a 4 v (a + j) = v / 256 ^ j % 256 := fun j hj => by unfold st; rw [if_pos oM, Nat.add_sub_cancel_left]
  simp only [ld]
  have h0' := e 0 dC
  have h1' := e 1 dC
  have h2' := e 2 dC
  have h3' := e 3 dC
  rw [h0', h1', h2', h3']
  simp
  omega
/-- The machine of 'Changed' on its way, one by one. -/
structure At (m : M) (w : Int) (j : Nat) (p : Nat) (R : Nat -> Int) (w8 : Int) : Prop where
  regs : m.regs = R
  w0 : ld m.mem 0 4 = 67117699
  w1 : ld m.mem 4 4 = 5252131
  w2 : ld m.mem 8 4 = w8
  w3 : ld m.mem 12 4 = 1245971
  w4 : ld m.mem 16 4 = 2098067
  w5 : ld m.mem 20 4 = 4268955363
  w6 : ld m.mem 24 4 = 1048691
  w16 : ld m.mem 64 4 = w
  st : m.steps = j
  pc : m.pc = p
  ns : m.nslots = 0
  fu : m.fuel = 100
  sz : m.size = 128
  en : m.ended = false
theorem At.set {m : M} {w : Int} {j p : Nat} {R : Nat -> Int} {w8 : Int} (h : At m w j p R w8) (hp : p < 128) (r v : Int) (hr : ¬ r = 0) : At (next (setReg { m with done := m.done + 1 } r v)) w (j + 1) (p + 4) (fun i => if i = r.toNat then v else R i) w8 := by
  rw [show setReg { m with done := m.done + 1 } r v = { m with done := m.done + 1, regs := fun i => if i = r.toNat then v else m.regs i } from if_neg hr]
  refine ⟨?_, h.w0, h.w1, h.w2, h.w3, h.w4, h.w5, h.w6, h.w16, ?_, ?_, h.ns, h.fu, h.sz, h.en⟩
  · show (fun i => if i = r.toNat then v else m.regs i) = _; rw [h.regs]
  · show m.steps + 1 = _; rw [h.st]; push_cast; rfl
  · show (m.pc + 4) % 4294967296 = _; rw [h.pc]; omega
theorem At.step {m : M} {w : Int} {j p : Nat} {R : Nat -> Int} {w8 : Int} (h : At m w j p R w8) (k : Nat) (x : Int) (hk : p = 4 * k) (hj : j < 100) (hp : p + 4 <= 128) (hx : ld m.mem (4 * k) 4 = x) (ho : ¬ opn x = -1) : step m = exec { m with done := m.done + 1 } x :=
  step_0 m k x h.ns (by rw [h.st, h.fu]; omega) (by rw [h.pc, hk]; push_cast; rfl) (by rw [h.sz]; omega) hx ho
theorem chg_w (v : Int) (h0 : 0 <= v) (h1 : v < 2048) : opn (1299 + v * 1048576) = 18 /\ qRd (1299 + v * 1048576) = 10 /\ qR1 (1299 + v * 1048576) = 0 /\ imm (1299 + v * 1048576) = v := by
  have a1 : opc (1299 + v * 1048576) = 19 := by unfold opc; omega
  have a2 : f3 (1299 + v * 1048576) = 0 := by unfold f3; omega
  have a3 : immI (1299 + v * 1048576) = v := by
    unfold immI
    have : wrap32 (1299 + v * 1048576) = 1299 + v * 1048576 := by unfold wrap32; omega
    rw [this]; omega
  refine ⟨?_, ?_, ?_, ?_⟩
  · unfold opn; rw [a1, a2]; simp [at8, a2, T13]
  · unfold qRd hasRd rdf; rw [a1]; simp; omega
  · unfold qR1 hasR1 r1; rw [a1]; simp; omega
  · unfold imm; rw [a1, a2]; simp [a3]
/-- Six instructions on: all that is seen on the way. -/
theorem chg_round (m : M) (v x6 : Int) (j : Nat) (R : Nat -> Int) (w8 : Int) (h : At m (1299 + v * 1048576) j 0 R w8) (hj : j < 90) (h0 : 0 <= v) (h1 : v < 2048) (r0 : R 0 = 0) (r6 : R 6 = x6) (b0 : 0 <= x6) (b1 : x6 <= 10) :
    (∃ R1, At (run 1 m) (1299 + v * 1048576) (j + 1) 4 R1 w8) /\ (∃ R1, At (run 2 m) (1299 + v * 1048576) (j + 2) 8 R1 (1299 + v * 1048576)) /\ (∃ R1, At (run 3 m) (1299 + v * 1048576) (j + 3) 12 R1 (1299 + v * 1048576)) /\ (∃ R1, At (run 4 m) (1299 + v * 1048576) (j + 4) 16 R1 (1299 + v * 1048576)) /\
    (∃ R1, At (run 5 m) (1299 + v * 1048576) (j + 5) 20 R1 (1299 + v * 1048576) /\ R1 6 = x6 + 1 /\ R1 7 = 2) /\ ∃ R1, At (run 6 m) (1299 + v * 1048576) (j + 6) (if x6 + 1 = 2 then 24 else 0) R1 (1299 + v * 1048576) /\ R1 0 = 0 /\ R1 6 = x6 + 1 /\ R1 10 = v := by
  obtain ⟨o1, o2, o3, o4⟩ := chg_w v h0 h1
  have e1 : step m = next (setReg { m with done := m.done + 1 } 5 (1299 + v * 1048576)) := by
    rw [h.step 0 67117699 rfl oM oM h.w0 (by decide +kernel), exec_lw { m with done := m.done + 1 } 67117699 (by decide +kernel) 64 (by show (m.regs _ + _) % _ = _; rw [h.regs, show (qR1 67117699).toNat = 0 by decide +kernel, r0]; decide +kernel) dC (by show 68 <= m.size; rw [h.sz]; decide)]
    rw [show qRd 67117699 = 5 by decide +kernel]
    show next (setReg _ 5 (ld m.mem 64 4)) = _
    rw [h.w16]
  have q1 := h.set oM 5 (1299 + v * 1048576) dC
  rw [<- e1] at q1
  have f1 : run 1 m = step m := by rw [run, h.en, if_neg dC]; rfl
  have e2 : step (step m) = next (wrote { ({ step m with done := (step m).done + 1 } : M) with mem := mach.st (step m).mem 8 4 (1299 + v * 1048576) } 8 4) := by
    rw [q1.step 1 5252131 rfl oM oM q1.w1 (by decide +kernel), exec_sw { step m with done := (step m).done + 1 } 5252131 (by decide +kernel) 8 (by show ((step m).regs _ + _) % _ = _; rw [q1.regs, show (qR1 5252131).toNat = 0 by decide +kernel]; show (R 0 + _) % _ = _; rw [r0]; decide +kernel) dC (by show 12 <= (step m).size; rw [q1.sz]; decide)]
    show next (wrote { ({ step m with done := (step m).done + 1 } : M) with mem := mach.st (step m).mem 8 4 ((step m).regs (qR2 5252131).toNat) } 8 4) = _
    rw [q1.regs, show (qR2 5252131).toNat = 5 by decide +kernel]; rfl
  have q2 : At (step (step m)) (1299 + v * 1048576) (j + 2) 8 (fun i => if i = 5 then 1299 + v * 1048576 else R i) (1299 + v * 1048576) := by
    rw [e2]
    have hw : wrote { ({ step m with done := (step m).done + 1 } : M) with mem := mach.st (step m).mem 8 4 (1299 + v * 1048576) } 8 4 = { ({ step m with done := (step m).done + 1 } : M) with mem := mach.st (step m).mem 8 4 (1299 + v * 1048576), slots := (fun i => if hit ((step m).slots i) 8 4 then (0, 0) else (step m).slots i), cur := (if hit (step m).cur 8 4 then (0, 0) else (step m).cur) } := if_neg dC
    rw [hw]
    refine ⟨q1.regs, (ld_st_far _ 8 0 _ oM).trans q1.w0, (ld_st_far _ 8 4 _ oM).trans q1.w1, ld_st _ 8 _ oM oM, (ld_st_far _ 8 12 _ oM).trans q1.w3, (ld_st_far _ 8 16 _ oM).trans q1.w4, (ld_st_far _ 8 20 _ oM).trans q1.w5, (ld_st_far _ 8 24 _ oM).trans q1.w6, (ld_st_far _ 8 64 _ oM).trans q1.w16, ?_, ?_, q1.ns, q1.fu, q1.sz, q1.en⟩
    · show (step m).steps + 1 = _; rw [q1.st]; push_cast; omega
    · show ((step m).pc + 4) % 4294967296 = _; rw [q1.pc]; decide
  have f2 : run 2 m = step (step m) := by rw [run, h.en, if_neg dC, run, q1.en, if_neg dC]; rfl
  generalize step (step m) = m2 at q2 f2
  have e3 : step m2 = next (setReg { m2 with done := m2.done + 1 } 10 v) := by
    rw [q2.step 2 _ rfl oM oM q2.w2 oM, exec_imm _ _ o1, o2, o3, o4]
    show next (setReg _ 10 ((m2.regs 0 + v % 4294967296) % 4294967296)) = _
    rw [q2.regs]
    show next (setReg _ 10 ((R 0 + v % 4294967296) % 4294967296)) = _
    rw [r0, show (0 + v % 4294967296) % 4294967296 = v by omega]
  have q3 := q2.set oM 10 v dC
  rw [<- e3] at q3
  have f3 : run 3 m = step m2 := by rw [run_last, f2, q2.en, if_neg dC]
  generalize step m2 = m3 at q3 f3
  have e4 : step m3 = next (setReg { m3 with done := m3.done + 1 } 6 (x6 + 1)) := by
    rw [q3.step 3 _ rfl oM oM q3.w3 (by decide +kernel), exec_imm _ _ (by decide +kernel), show qRd 1245971 = 6 by decide +kernel, show (qR1 1245971).toNat = 6 by decide +kernel, show imm 1245971 = 1 by decide +kernel]
    show next (setReg _ 6 ((m3.regs 6 + 1 % 4294967296) % 4294967296)) = _
    rw [q3.regs]
    show next (setReg _ 6 ((R 6 + 1 % 4294967296) % 4294967296)) = _
    rw [r6, show (x6 + 1 % 4294967296) % 4294967296 = x6 + 1 by omega]
  have q4 := q3.set oM 6 (x6 + 1) dC
  rw [<- e4] at q4
  have f4 : run 4 m = step m3 := by rw [run_last, f3, q3.en, if_neg dC]
  generalize step m3 = m4 at q4 f4
  have e5 : step m4 = next (setReg { m4 with done := m4.done + 1 } 7 2) := by
    rw [q4.step 4 _ rfl oM oM q4.w4 (by decide +kernel), exec_imm _ _ (by decide +kernel), show qRd 2098067 = 7 by decide +kernel, show (qR1 2098067).toNat = 0 by decide +kernel, show imm 2098067 = 2 by decide +kernel]
    show next (setReg _ 7 ((m4.regs 0 + 2 % 4294967296) % 4294967296)) = _
    rw [q4.regs]
    show next (setReg _ 7 ((R 0 + 2 % 4294967296) % 4294967296)) = _
    rw [r0]; rfl
  have q5 := q4.set oM 7 2 dC
  rw [<- e5] at q5
  have f5 : run 5 m = step m4 := by rw [run_last, f4, q4.en, if_neg dC]
  generalize step m4 = m5 at q5 f5
  have e6 : step m5 = if x6 + 1 = 2 then next { m5 with done := m5.done + 1 } else goes { m5 with done := m5.done + 1 } 0 := by
    rw [q5.step 5 _ rfl oM oM q5.w5 (by decide +kernel), exec_bne _ _ (by decide +kernel), show (qR1 4268955363).toNat = 6 by decide +kernel, show (qR2 4268955363).toNat = 7 by decide +kernel, show imm 4268955363 % 4294967296 = 4294967276 by decide +kernel]
    show (if m5.regs 6 = m5.regs 7 then _ else goes _ ((m5.pc + 4294967276) % 4294967296)) = _
    rw [q5.regs, q5.pc]
    rfl
  have q6 : At (step m5) (1299 + v * 1048576) (j + 6) (if x6 + 1 = 2 then 24 else 0) m5.regs (1299 + v * 1048576) := by
    rw [e6]
    by_cases c : x6 + 1 = 2
    · rw [if_pos c, if_pos c]
      refine ⟨rfl, q5.w0, q5.w1, q5.w2, q5.w3, q5.w4, q5.w5, q5.w6, q5.w16, ?_, ?_, q5.ns, q5.fu, q5.sz, q5.en⟩
      · show m5.steps + 1 = _; rw [q5.st]; push_cast; omega
      · show (m5.pc + 4) % 4294967296 = _; rw [q5.pc]; decide
    · rw [if_neg c, if_neg c, show goes { m5 with done := m5.done + 1 } 0 = { ({ m5 with done := m5.done + 1 } : M) with pc := 0, steps := m5.steps + 1, cur := (0, 0) } from if_pos dC]
      refine ⟨rfl, q5.w0, q5.w1, q5.w2, q5.w3, q5.w4, q5.w5, q5.w6, q5.w16, ?_, rfl, q5.ns, q5.fu, q5.sz, q5.en⟩
      show m5.steps + 1 = _; rw [q5.st]; push_cast; omega
  have f6 : run 6 m = step m5 := by rw [run_last, f5, q5.en, if_neg dC]
  refine ⟨⟨_, by rw [f1]; exact q1⟩, ⟨_, by rw [f2]; exact q2⟩, ⟨_, by rw [f3]; exact q3⟩, ⟨_, by rw [f4]; exact q4⟩, ⟨_, by rw [f5]; exact q5, rfl, rfl⟩, m5.regs, by rw [f6]; exact q6, ?_, ?_, ?_⟩
  · rw [q5.regs]; exact r0
  · rw [q5.regs]; rfl
  · rw [q5.regs]; rfl
theorem chg_start (v sl ar : Int) (h0 : 0 <= v) (h1 : v < 2048) : At (ref.start 2 (textB (chgL v)) 0 0 [] 100 sl ar false) (1299 + v * 1048576) 0 0 (fun _ => 0) 1049875 :=
  ⟨rfl, ld_text (chgL v) 0 _ rfl oM oM, ld_text (chgL v) 1 _ rfl oM oM, ld_text (chgL v) 2 _ rfl oM oM, ld_text (chgL v) 3 _ rfl oM oM, ld_text (chgL v) 4 _ rfl oM oM, ld_text (chgL v) 5 _ rfl oM oM, ld_text (chgL v) 6 _ rfl oM oM, ld_text (chgL v) 16 _ rfl oM oM, rfl, rfl, rfl, rfl, rfl, rfl⟩
theorem chg_1 (S : M) (v : Int) (h0 : 0 <= v) (h1 : v < 2048) (hst : At S (1299 + v * 1048576) 0 0 (fun _ => 0) 1049875) : ∃ R1, At (run 6 S) (1299 + v * 1048576) (0 + 6) 0 R1 (1299 + v * 1048576) /\ R1 0 = 0 /\ R1 6 = 0 + 1 /\ R1 10 = v := by
  obtain ⟨_, _, _, _, _, R1, a1, a2, a3, a4⟩ := chg_round S v 0 0 _ _ hst dC h0 h1 rfl rfl dC dC
  rw [if_neg dC] at a1
  exact ⟨R1, a1, a2, a3, a4⟩
theorem chg_2 (S : M) (v : Int) (R1 : Nat -> Int) (h0 : 0 <= v) (h1 : v < 2048) (a1 : At (run 6 S) (1299 + v * 1048576) (0 + 6) 0 R1 (1299 + v * 1048576)) (a2 : R1 0 = 0) (a3 : R1 6 = 0 + 1) : ∃ R1, At (run (6 + 6) S) (1299 + v * 1048576) (0 + 6 + 6) 24 R1 (1299 + v * 1048576) /\ R1 6 = 2 /\ R1 10 = v := by
  obtain ⟨_, _, _, _, _, R2, b1, b2, b3, b4⟩ := chg_round (run 6 S) v 1 (0 + 6) R1 _ a1 dC h0 h1 a2 a3 dC dC
  rw [if_pos dC, <- run_add] at b1
  exact ⟨R2, b1, b3, b4⟩
theorem chg_3 (m : M) (v : Int) (R1 : Nat -> Int) (b1 : At m (1299 + v * 1048576) (0 + 6 + 6) 24 R1 (1299 + v * 1048576)) : step m = stop { m with done := m.done + 1 } 9 := by
  have hs := b1.step 6 1048691 rfl dC dC b1.w6 (by decide +kernel)
  rw [exec_brk _ _ (by decide +kernel)] at hs
  exact hs
/-- What it comes to, one by one. -/
theorem chg_run (S : M) (v : Int) (h0 : 0 <= v) (h1 : v < 2048) (hst : At S (1299 + v * 1048576) 0 0 (fun _ => 0) 1049875) : (run 13 S).ended = true /\ (run 13 S).out = 9 /\ (run 13 S).regs 10 = v /\ (run 13 S).regs 6 = 2 := by
  obtain ⟨R1, a1, a2, a3, _⟩ := chg_1 S v h0 h1 hst
  obtain ⟨R2, b1, b3, b4⟩ := chg_2 S v R1 h0 h1 a1 a2 a3
  generalize hT : run (6 + 6) S = m at b1
  have e : run 13 S = stop { m with done := m.done + 1 } 9 := by
    have := run_last (6 + 6) S
    rw [hT, b1.en, if_neg dC, chg_3 m v R2 b1] at this
    exact this
  rw [e]
  exact ⟨rfl, rfl, (congrFun b1.regs 10).trans b4, (congrFun b1.regs 6).trans b3⟩

/-! How many blocks it builds, whatever slots and arena. -/
theorem built_step {m0 m : M} (h : BRun m0 m) (he : m.ended = false) : m.built <= (step m).built := by
  have hstop : ∀ o, m.built <= (stop m o).built := fun _ => Int.le_refl _
  by_cases c1 : m.fuel <= m.steps
  · rw [show step m = stop m 0 by unfold step; rw [if_pos c1]]; exact hstop 0
  by_cases c2 : m.pc % 4 ≠ 0
  · rw [show step m = stop m 3 by unfold step; rw [if_neg c1, if_pos c2]]; exact hstop 3
  by_cases c3 : (!lies m m.pc 4) = true
  · rw [show step m = stop m 4 by unfold step; rw [if_neg c1, if_neg c2, if_pos c3]]; exact hstop 4
  by_cases c4 : opn (ld m.mem m.pc.toNat 4) = -1
  · rw [show step m = stop m 2 by unfold step; dsimp only; rw [if_neg c1, if_neg c2, if_neg c3, if_pos c4]]; exact hstop 2
  have hb1 := h.bg
  rw [step_ready m c1 oM (by simpa using c3) c4]
  have hr : m.built <= (ready m).built /\ Fine (ready m) := by
    unfold ready
    cases hlo : lost m with
    | true => rw [if_pos rfl]; exact ⟨(find_c m _ hb1 h.used h.ar.1).2.2.1, (h.good.find h.sinv h.pos).fine⟩
    | false => rw [if_neg dC]; exact ⟨Int.le_refl _, h.good.fine⟩
  obtain ⟨f, hk, _⟩ := kx_exec { ready m with done := (ready m).done + 1 } (ld m.mem m.pc.toNat 4) ⟨hr.2.regs, hr.2.zero, hr.2.mem, hr.2.size, hr.2.pc, hr.2.brk, hr.2.low, hr.2.steps, hr.2.fuel, hr.2.within⟩
  rw [hk.bu]; exact hr.1
theorem built_run {m0 : M} : ∀ (k : Nat) (m : M), BRun m0 m -> m.built <= (run k m).built
  | 0, m, _ => Int.le_refl _
  | k + 1, m, h => by
    rw [run]
    cases he : m.ended with
    | true => rw [if_pos rfl]; exact Int.le_refl _
    | false =>
      rw [if_neg dC]
      exact Int.le_trans (built_step h he) (built_run k _ (h.step he).1)
theorem brun_run {m0 : M} (h : BRun m0 m0) : ∀ (k : Nat), BRun m0 (run k m0)
  | 0 => h
  | k + 1 => by
    rw [run_last]
    cases he : (run k m0).ended with
    | true => rw [if_pos rfl]; exact brun_run h k
    | false => rw [if_neg dC]; exact ((brun_run h k).step he).1
/-- A step of a machine of blocks, where an instruction stands at a small address. -/
structure Go1 (m : M) (p : Nat) (x : Int) : Prop where
  en : m.ended = false
  lt : m.steps < m.fuel
  pc : m.pc = p
  p4 : p % 4 = 0
  lie : p + 4 <= m.size
  word : ld m.mem p 4 = x
  op : ¬ opn x = -1
theorem Go1.step {m : M} {p : Nat} {x : Int} (h : Go1 m p x) : step m = exec { ready m with done := (ready m).done + 1 } x := by
  have hp : m.pc.toNat = p := by have := h.pc; omega
  have := step_ready m (by have := h.lt; omega) (by have := h.pc; have := h.p4; omega) (by have := h.pc; have := h.lie; simp [lies]; omega) (by rw [hp, h.word]; exact h.op)
  rw [this, hp, h.word]
theorem go_core {m m' : M} {p : Nat} {x : Int} (h : Go1 m p x) (e : core m = core m') : Go1 m' p x := by
  obtain ⟨e1, e2, e3, e4, e5, e6, e7, e8, e9, e10⟩ := core_eq e
  exact ⟨e10 ▸ h.en, by rw [<- e6, <- e9]; exact h.lt, e2 ▸ h.pc, h.p4, e8 ▸ h.lie, by rw [<- e7]; exact h.word, h.op⟩
theorem at_go {m : M} {w : Int} {j p : Nat} {R : Nat -> Int} {w8 : Int} (h : At m w j p R w8) (hj : j < 100) (p4 : p % 4 = 0) (hp : p + 4 <= 128) (x : Int) (hx : ld m.mem p 4 = x) (ho : ¬ opn x = -1) : Go1 m p x :=
  ⟨h.en, by rw [h.st, h.fu]; omega, h.pc, p4, by rw [h.sz]; exact hp, hx, ho⟩
/-- All blocks stand in the first page. -/
def Zs (m : M) : Prop := (∀ i, 0 <= (m.slots i).1 /\ (m.slots i).1 < 64) /\ 0 <= m.cur.1 /\ m.cur.1 < 64
/-- No block stands at 0. -/
def Ys (m : M) : Prop := ∀ i, m.slots i = (0, 0) \/ ¬ (m.slots i).1 = 0
theorem find_slots (m : M) (i : Nat) : (find m).slots i = m.slots i \/ (find m).slots i = (0, 0) \/ (find m).slots i = (m.pc, blockLen m.mem 8 m.pc) := by
  by_cases c : (m.slots ((m.pc / 4).toNat % m.nslots)).2 = 0 \/ (m.slots ((m.pc / 4).toNat % m.nslots)).1 ≠ m.pc
  · rw [find_build m c]
    show (if i = (m.pc / 4).toNat % m.nslots then (m.pc, blockLen m.mem 8 m.pc) else (if decide (m.arena < m.used + blockLen m.mem 8 m.pc) then fun _ => ((0 : Int), (0 : Int)) else m.slots) i) = _ \/ _
    by_cases e : i = (m.pc / 4).toNat % m.nslots
    · right; right; show (if i = (m.pc / 4).toNat % m.nslots then (m.pc, blockLen m.mem 8 m.pc) else (if decide (m.arena < m.used + blockLen m.mem 8 m.pc) then fun _ => ((0 : Int), (0 : Int)) else m.slots) i) = _; rw [if_pos e]
    · by_cases d : m.arena < m.used + blockLen m.mem 8 m.pc
      · right; left; show (if i = (m.pc / 4).toNat % m.nslots then (m.pc, blockLen m.mem 8 m.pc) else (if decide (m.arena < m.used + blockLen m.mem 8 m.pc) then fun _ => ((0 : Int), (0 : Int)) else m.slots) i) = _; rw [if_neg e]; simp [d]
      · left; rw [if_neg e]; simp [d]
  · rw [find_enter m c]; exact Or.inl rfl
theorem find_cur (m : M) : (find m).cur.1 = m.pc := by
  by_cases c : (m.slots ((m.pc / 4).toNat % m.nslots)).2 = 0 \/ (m.slots ((m.pc / 4).toNat % m.nslots)).1 ≠ m.pc
  · rw [find_build m c]; rfl
  · rw [find_enter m c]
    exact Classical.byContradiction fun q => c (Or.inr q)
theorem ready_zs {m : M} (h : Zs m) (p0 : 0 <= m.pc) (p1 : m.pc < 64) : Zs (ready m) := by
  unfold ready
  cases lost m with
  | false => rw [if_neg dC]; exact h
  | true =>
    rw [if_pos rfl]
    refine ⟨fun i => ?_, by rw [find_cur]; exact ⟨p0, p1⟩⟩
    rcases find_slots m i with e | e | e
    · rw [e]; exact h.1 i
    · rw [e]; exact ⟨by decide, by decide⟩
    · rw [e]; exact ⟨p0, p1⟩
theorem ready_ys {m : M} (h : Ys m) (p0 : ¬ m.pc = 0) : Ys (ready m) := by
  unfold ready
  cases lost m with
  | false => rw [if_neg dC]; exact h
  | true =>
    rw [if_pos rfl]
    intro i
    rcases find_slots m i with e | e | e
    · rw [e]; exact h i
    · rw [e]; exact Or.inl rfl
    · rw [e]; exact Or.inr p0
theorem kx_zs {m m' : M} {f : Int -> Bool} (h : Zs m) (k : Kx m m' f) : Zs m' := by
  refine ⟨fun i => ?_, ?_⟩
  · rw [k.slots i]
    cases f (m.slots i).1 with
    | true => rw [if_pos rfl]; exact ⟨by decide, by decide⟩
    | false => rw [if_neg dC]; exact h.1 i
  · rcases k.cur with e | e
    · rw [e]; exact ⟨by decide, by decide⟩
    · rw [e]
      cases f m.cur.1 with
      | true => rw [if_pos rfl]; exact ⟨by decide, by decide⟩
      | false => rw [if_neg dC]; exact h.2
theorem kx_ys {m m' : M} {f : Int -> Bool} (h : Ys m) (k : Kx m m' f) : Ys m' := fun i => by
  rw [k.slots i]
  cases f (m.slots i).1 with
  | true => rw [if_pos rfl]; exact Or.inl rfl
  | false => rw [if_neg dC]; exact h i
theorem ready_fine {m0 m : M} (h : BRun m0 m) : Fine { ready m with done := (ready m).done + 1 } := by
  have hr : Fine (ready m) := by
    unfold ready
    cases hlo : lost m with
    | true => rw [if_pos rfl]; exact (h.good.find h.sinv h.pos).fine
    | false => rw [if_neg dC]; exact h.good.fine
  exact ⟨hr.regs, hr.zero, hr.mem, hr.size, hr.pc, hr.brk, hr.low, hr.steps, hr.fuel, hr.within⟩
theorem step_zs {m0 m : M} (h : BRun m0 m) {p : Nat} {x : Int} (g : Go1 m p x) (hp : p < 64) (hz : Zs m) : Zs (step m) := by
  rw [g.step]
  obtain ⟨f, hk, _⟩ := kx_exec _ x (ready_fine h)
  have := ready_zs hz (by rw [g.pc]; omega) (by rw [g.pc]; omega)
  exact kx_zs (m := { ready m with done := (ready m).done + 1 }) this hk
theorem step_ys {m0 m : M} (h : BRun m0 m) {p : Nat} {x : Int} (g : Go1 m p x) (hp : ¬ p = 0) (hy : Ys m) : Ys (step m) := by
  rw [g.step]
  obtain ⟨f, hk, _⟩ := kx_exec _ x (ready_fine h)
  have := ready_ys hy (by rw [g.pc]; omega)
  exact kx_ys (m := { ready m with done := (ready m).done + 1 }) this hk
/-- A block is built where none is found. -/
theorem step_builds {m0 m : M} (h : BRun m0 m) {p : Nat} {x : Int} (g : Go1 m p x) (hc : m.cur = (0, 0)) (hs : ∀ i, m.slots i = (0, 0) \/ ¬ (m.slots i).1 = p) : (step m).built = m.built + 1 /\ (Ys m -> ¬ p = 0 -> Ys (step m)) := by
  have hl : lost m = true := by simp [lost, hc, h.pos]
  have er : ready m = find m := by unfold ready; rw [hl, if_pos rfl]
  have hb : find m = enter (built m) (m.pc, blockLen m.mem 8 m.pc) := find_build m (by
    rcases hs ((m.pc / 4).toNat % m.nslots) with e | e
    · left; rw [e]
    · right; exact fun q => e (q.trans g.pc))
  obtain ⟨f, hk, _⟩ := kx_exec _ x (ready_fine h)
  refine ⟨?_, fun hy hp => step_ys h g hp hy⟩
  rw [g.step, hk.bu]
  show (ready m).built = _
  rw [er, hb]; rfl
/-- A word that is stored into the first page: everything is forgotten. -/
theorem step_sw {m0 m : M} (h : BRun m0 m) {p : Nat} {x : Int} (g : Go1 m p x) (hp : p < 64) (ho : opn x = 17) (hr : qR1 x = 0) (hi : imm x % 4294967296 = 8) (hz : Zs m) : (∀ i, (step m).slots i = (0, 0)) /\ (step m).cur = (0, 0) := by
  have hf := ready_fine h
  have hzr := ready_zs hz (by rw [g.pc]; omega) (by rw [g.pc]; omega)
  have hsz : (ready m).size = m.size := by
    unfold ready
    cases lost m with
    | true => rw [if_pos rfl]; exact (find_f m).2.2.2.2.2.2.1
    | false => rfl
  have h64 := h.sinv.s64
  have hps := h.good.pos
  rw [g.step, exec_sw _ x ho 8 (by rw [hr, hi]; show (({ ready m with done := (ready m).done + 1 } : M).regs 0 + 8) % 4294967296 = _; rw [hf.zero]; rfl) dC (by show 12 <= (ready m).size; rw [hsz]; omega)]
  have hw : ∀ q : M, wrote q 8 4 = { q with slots := fun i => if hit (q.slots i) 8 4 then (0, 0) else q.slots i, cur := if hit q.cur 8 4 then (0, 0) else q.cur } := fun q => if_neg dC
  have hh : ∀ q : Int × Int, 0 <= q.1 -> q.1 < 64 -> hit q 8 4 = true := fun q a b => by simp [hit]; omega
  refine ⟨fun i => ?_, ?_⟩
  · show (wrote _ 8 4).slots i = _
    rw [hw]
    show (if hit ((ready m).slots i) 8 4 then _ else _) = _
    rw [hh _ (hzr.1 i).1 (hzr.1 i).2, if_pos rfl]
  · show (wrote _ 8 4).cur = _
    rw [hw]
    show (if hit (ready m).cur 8 4 then _ else _) = _
    rw [hh _ hzr.2.1 hzr.2.2, if_pos rfl]
theorem chg_built (S0 S : M) (v : Int) (h0 : 0 <= v) (h1 : v < 2048) (hst : At S0 (1299 + v * 1048576) 0 0 (fun _ => 0) 1049875) (e : core S0 = core S) (hb : BRun S S) (hs : ∀ i, S.slots i = (0, 0)) (hc : S.cur = (0, 0)) (hu : S.built = 0) (k : Nat) : 3 <= (run (7 + k) S).built := by
  obtain ⟨⟨R1, a1⟩, ⟨R2, a2⟩, ⟨R3, a3⟩, ⟨R4, a4⟩, ⟨R5, a5, a56, a57⟩, R6, a6, _, _, _⟩ := chg_round S0 v 0 0 _ _ hst dC h0 h1 rfl rfl dC dC
  rw [if_neg dC] at a6
  obtain ⟨o1, o2, o3, o4⟩ := chg_w v h0 h1
  have ec : ∀ j, core (run j S0) = core (run j S) := fun j => by rw [core_run, e, <- core_run]
  have g0 : Go1 (run 0 S) 0 67117699 := go_core (at_go hst dC dC dC _ hst.w0 (by decide +kernel)) (ec 0)
  have g1 : Go1 (run 1 S) 4 5252131 := go_core (at_go a1 dC dC dC _ a1.w1 (by decide +kernel)) (ec 1)
  have g2 : Go1 (run 2 S) 8 (1299 + v * 1048576) := go_core (at_go a2 dC dC dC _ a2.w2 oM) (ec 2)
  have g3 : Go1 (run 3 S) 12 1245971 := go_core (at_go a3 dC dC dC _ a3.w3 (by decide +kernel)) (ec 3)
  have g4 : Go1 (run 4 S) 16 2098067 := go_core (at_go a4 dC dC dC _ a4.w4 (by decide +kernel)) (ec 4)
  have g5 : Go1 (run 5 S) 20 4268955363 := go_core (at_go a5 dC dC dC _ a5.w5 (by decide +kernel)) (ec 5)
  have g6 : Go1 (run 6 S) 0 67117699 := go_core (at_go a6 dC dC dC _ a6.w0 (by decide +kernel)) (ec 6)
  have r6 : (run 5 S).regs 6 = 1 := by rw [<- (core_eq (ec 5)).2.2.1, a5.regs, a56]; rfl
  have r7 : (run 5 S).regs 7 = 2 := by rw [<- (core_eq (ec 5)).2.2.1, a5.regs, a57]
  have nx : ∀ j, (run j S).ended = false -> run (j + 1) S = step (run j S) := fun j hj => by rw [run_last, hj, if_neg dC]
  have B := brun_run hb
  -- the first block
  have b0 := step_builds (B 0) g0 hc (fun i => Or.inl (hs i))
  have z0 : Zs (run 0 S) := ⟨fun i => by show 0 <= (S.slots i).1 /\ (S.slots i).1 < 64; rw [hs i]; exact ⟨by decide, by decide⟩, by show 0 <= S.cur.1 /\ S.cur.1 < 64; rw [hc]; exact ⟨by decide, by decide⟩⟩
  have z1 := step_zs (B 0) g0 dC z0
  rw [<- nx 0 g0.en] at b0 z1
  have u1 : (run 1 S).built = 1 := by rw [b0.1]; show S.built + 1 = 1; rw [hu]; rfl
  -- it is forgotten
  have c2 := step_sw (B 1) g1 dC (by decide +kernel) (by decide +kernel) (by decide +kernel) z1
  have m2 := built_step (B 1) g1.en
  rw [<- nx 1 g1.en] at c2 m2
  -- the second
  have b2 := step_builds (B 2) g2 c2.2 (fun i => Or.inl (c2.1 i))
  rw [<- nx 2 g2.en] at b2
  have y3 : Ys (run 3 S) := b2.2 (fun i => Or.inl (c2.1 i)) dC
  have y4 := step_ys (B 3) g3 dC y3
  have m4 := built_step (B 3) g3.en
  rw [<- nx 3 g3.en] at y4 m4
  have y5 := step_ys (B 4) g4 dC y4
  have m5 := built_step (B 4) g4.en
  rw [<- nx 4 g4.en] at y5 m5
  have y6 := step_ys (B 5) g5 dC y5
  have m6 := built_step (B 5) g5.en
  have k6 : (step (run 5 S)).cur = (0, 0) := by
    have er : ∀ i, (ready (run 5 S)).regs i = (run 5 S).regs i := fun i => by
      unfold ready
      cases lost (run 5 S) with
      | true => rw [if_pos rfl, (find_f (run 5 S)).1]
      | false => rfl
    have ep : (ready (run 5 S)).pc = 20 := by
      have := g5.pc
      unfold ready
      cases lost (run 5 S) with
      | true => rw [if_pos rfl, (find_f (run 5 S)).2.1]; exact this
      | false => exact this
    rw [g5.step, exec_bne _ _ (by decide +kernel), show (qR1 4268955363).toNat = 6 by decide +kernel, show (qR2 4268955363).toNat = 7 by decide +kernel, show imm 4268955363 % 4294967296 = 4294967276 by decide +kernel]
    show (if (ready (run 5 S)).regs 6 = (ready (run 5 S)).regs 7 then _ else goes _ (((ready (run 5 S)).pc + 4294967276) % 4294967296)).cur = _
    rw [er, er, r6, r7, if_neg dC, ep]
    unfold goes
    rw [if_pos dC]
  rw [<- nx 5 g5.en] at y6 m6 k6
  -- the third
  have b6 := step_builds (B 6) g6 k6 (fun i => y6 i)
  rw [<- nx 6 g6.en] at b6
  have mk := built_run k (run 7 S) (B 7)
  rw [<- run_add] at mk
  have n2 : (run 1 S).built <= (run 2 S).built := m2
  have n3 : (run 3 S).built = (run 2 S).built + 1 := b2.1
  have n4 : (run 3 S).built <= (run 4 S).built := m4
  have n5 : (run 4 S).built <= (run 5 S).built := m5
  have n6 : (run 5 S).built <= (run 6 S).built := m6
  have n7 : (run 7 S).built = (run 6 S).built + 1 := b6.1
  omega
end mach
end Go.Proofs.YtjikimpejlmdiaaGreatDoor
