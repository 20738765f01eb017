/- What it says: contracts and plain mathematics that the laws' walks use, 3 of 6: each part's own remark says what; no condition. -/
import Derived.Test.YtljpnngknmpdoaaDoorPq1
import Derived.Test.YtljpnngknmpdoaaDoorPq2
import Derived.StillTailTactics
import Derived.Deep.MidRow
import Derived.Laws.Tables
import Derived.Deep.WholeRow
import GoSem.Builtin.Clear
import Derived.Deep.AppendLies
import Derived.Lib.MinMax
import Derived.Lib.AppendZerosOnto
import Derived.Laws.Build
import Derived.Laws.MakeOwn
import Derived.Deep.QuietTactic
import Derived.BigQuiet

set_option linter.unusedSimpArgs false
set_option linter.unusedVariables false
set_option linter.deprecated false
set_option linter.unusedSectionVars false
set_option linter.all false

/- which blocks a call may turn; things in memory, each with the blocks that are its own; two such things side by side. No program is named; no condition. -/
namespace Go.Proofs.YtljpnngknmpdoaaDoor
open Go.RowKit

/-- From w to w' no old block is turned but those of F. -/
structure Fr (F : Nat → Prop) (w w' : World) : Prop where
  os : w'.os = w.os
  tape : w'.tape = w.tape
  output : w'.output = w.output
  size : w.heap.size ≤ w'.heap.size
  block : ∀ k, k < w.heap.size → ¬ F k → w'.heap[k]? = w.heap[k]?

/-- F, and what is new. -/
def grow (F : Nat → Prop) (w w' : World) : Nat → Prop := fun k => F k ∨ (w.heap.size ≤ k ∧ k < w'.heap.size)
/-- What is new. -/
def fresh (w w' : World) : Nat → Prop := fun k => w.heap.size ≤ k ∧ k < w'.heap.size

section
variable {F G : Nat → Prop} {w w1 w2 : World}
theorem Fr.refl (F : Nat → Prop) (w : World) : Fr F w w := ⟨rfl, rfl, rfl, Nat.le_refl _, fun _ _ _ => rfl⟩
theorem Fr.trans (h : Fr F w w1) (k : Fr (grow F w w1) w1 w2) : Fr F w w2 :=
  ⟨k.os.trans h.os, k.tape.trans h.tape, k.output.trans h.output, Nat.le_trans h.size k.size, fun i hi hn => (k.block i (Nat.lt_of_lt_of_le hi h.size) (fun g => by
    rcases g with g | g
    · exact hn g
    · omega)).trans (h.block i hi hn)⟩
theorem Fr.mono (h : Fr F w w1) (hFG : ∀ k, F k → G k) : Fr G w w1 := ⟨h.os, h.tape, h.output, h.size, fun k hk hn => h.block k hk (fun f => hn (hFG k f))⟩
theorem Fr.then (h : Fr F w w1) (k : Fr F w1 w2) : Fr F w w2 := h.trans (k.mono fun _ f => .inl f)
theorem Fr.of_below (h : Below w.heap.size w w1) : Fr F w w1 := ⟨h.os, h.tape, h.output, h.size, fun k hk _ => h.block k hk⟩
theorem Fr.below {B : Nat} (h : Fr F w w1) (hB : B ≤ w.heap.size) (hF : ∀ k, F k → B ≤ k) : Below B w w1 :=
  ⟨h.os, h.tape, h.output, h.size, fun k hk => h.block k (by omega) (fun f => by have := hF k f; omega)⟩
theorem Fr.setCell (h : Fr F w w1) {a : Addr} (ha : F a.block) (u : Value) : Fr F w (w1.setCell a u) :=
  ⟨h.os, h.tape, h.output, by simpa [World.setCell] using h.size, fun k hk hn => (Below.heap_setCell w1 a u k (fun e => hn (e ▸ ha))).trans (h.block k hk hn)⟩
theorem Fr.grown (h : Fr F w w1) {row : Option Nat} (hg : w1.grownBy w2 row) (hr : ∀ k, row = some k → F k ∨ w.heap.size ≤ k) : Fr F w w2 :=
  h.trans ⟨hg.os, hg.tape, hg.output, hg.size, fun k hk hn => hg.block k hk (fun e => by
    rcases hr k e.symm with h | h
    · exact hn (.inl h)
    · exact hn (.inr ⟨h, hk⟩))⟩
theorem Fr.alloc (h : Fr F w w1) (o : Obj) : Fr F w (w1.alloc o) := h.grown (row := none) (World.grownBy_alloc w1 o none) (fun _ e => nomatch e)
theorem Fr.drewN (h : Fr F w w1) (n : Nat) : Fr F w (w1.drewN n) := ⟨h.os, h.tape, h.output, h.size, h.block⟩
theorem Fr.cell1 (w : World) (b i : Nat) (u : Value) : Fr (fun k => k = b) w (w.setCell ⟨b, i, none⟩ u) := Fr.setCell (a := ⟨b, i, none⟩) (Fr.refl (fun k => k = b) w) (show (fun k => k = b) b from rfl) u
theorem Fr.grow_of_below {F : Nat → Prop} {w w' : World} {k : Nat} (h : F k) : grow F w w' k := .inl h
end

/-- A thing in memory: what holds of it in a world where the blocks F are its own. -/
structure Res where
  is : World → (Nat → Prop) → Prop
  lt : ∀ w F, is w F → ∀ k, F k → k < w.heap.size
  keep : ∀ w w' F, is w F → w.heap.size ≤ w'.heap.size → (∀ k, F k → w'.heap[k]? = w.heap[k]?) → is w' F

/-- R has become R'; nothing else is turned. -/
def Turn (R : Res) (F : Nat → Prop) (w w' : World) : Prop := R.is w' (grow F w w') ∧ Fr F w w'

/-- Two things side by side. -/
def Res.star (R S : Res) : Res where
  is w F := ∃ F1 F2, R.is w F1 ∧ S.is w F2 ∧ (∀ k, F1 k → ¬ F2 k) ∧ (∀ k, F1 k → F k) ∧ (∀ k, F2 k → F k) ∧ ∀ k, F k → k < w.heap.size
  lt _ _ := fun ⟨_, _, _, _, _, _, _, h⟩ => h
  keep w w' F := fun ⟨F1, F2, h1, h2, h3, h4, h5, h6⟩ hs hk => ⟨F1, F2, R.keep w w' F1 h1 hs (fun k f => hk k (h4 k f)), S.keep w w' F2 h2 hs (fun k f => hk k (h5 k f)), h3, h4, h5, fun k f => Nat.lt_of_lt_of_le (h6 k f) hs⟩

theorem Res.star_comm {R S : Res} {w : World} {F : Nat → Prop} (h : (R.star S).is w F) : (S.star R).is w F := by
  obtain ⟨F1, F2, h1, h2, h3, h4, h5, h6⟩ := h
  exact ⟨F2, F1, h2, h1, fun k f g => h3 k g f, h5, h4, h6⟩

/-- The second thing doesn't mind what becomes of the first. -/
theorem Res.star_turn {R S : Res} {w : World} {F : Nat → Prop} (h : (R.star S).is w F) : ∃ F1, R.is w F1 ∧ ∀ R' w', Turn R' F1 w w' → Turn (R'.star S) F w w' := by
  obtain ⟨F1, F2, h1, h2, h3, h4, h5, h6⟩ := h
  refine ⟨F1, h1, fun R' w' ⟨t1, t2⟩ => ⟨⟨grow F1 w w', F2, t1, ?_, ?_, ?_, fun k f => .inl (h5 k f), ?_⟩, t2.mono h4⟩⟩
  · exact S.keep w w' F2 h2 t2.size (fun k f => t2.block k (S.lt w F2 h2 k f) (fun g => h3 k g f))
  · intro k f g
    rcases f with f | f
    · exact h3 k f g
    · have := S.lt w F2 h2 k g
      omega
  · intro k f
    rcases f with f | f
    · exact .inl (h4 k f)
    · exact .inr f
  · intro k f
    rcases f with f | f
    · exact Nat.lt_of_lt_of_le (h6 k f) t2.size
    · exact f.2

/-- A thing that is there, all of it from block B on. -/
def Has (B : Nat) (R : Res) (w : World) : Prop := ∃ F, R.is w F ∧ ∀ k, F k → B ≤ k

section
variable {B : Nat} {R S : Res} {w w' : World}
theorem Has.below (h : Has B R w) (hb : Below w.heap.size w w') : Has B R w' := by
  obtain ⟨F, h1, h2⟩ := h
  exact ⟨F, R.keep w w' F h1 hb.size (fun k f => hb.block k (R.lt w F h1 k f)), h2⟩

theorem Has.turn (h : Has B R w) (hB : B ≤ w.heap.size) : ∃ F, R.is w F ∧ ∀ R' w', Turn R' F w w' → Has B R' w' ∧ Below B w w' := by
  obtain ⟨F, h1, h2⟩ := h
  refine ⟨F, h1, fun R' w' ⟨t1, t2⟩ => ⟨⟨_, t1, fun k f => ?_⟩, t2.below hB h2⟩⟩
  rcases f with f | f
  · exact h2 k f
  · omega

theorem Has.comm (h : Has B (R.star S) w) : Has B (S.star R) w := by
  obtain ⟨F, h1, h2⟩ := h
  exact ⟨F, Res.star_comm h1, h2⟩

/-- What turns the first thing. -/
theorem Has.turn1 (h : Has B (R.star S) w) (hB : B ≤ w.heap.size) : ∃ F, R.is w F ∧ ∀ R' w', Turn R' F w w' → Has B (R'.star S) w' ∧ Below B w w' := by
  obtain ⟨F, h1, h2⟩ := h.turn hB
  obtain ⟨F1, h3, h4⟩ := Res.star_turn h1
  exact ⟨F1, h3, fun R' w' t => h2 _ _ (h4 R' w' t)⟩

theorem Has.fst (h : Has B (R.star S) w) : Has B R w := by
  obtain ⟨F, ⟨F1, F2, h1, h2, h3, h4, h5, h6⟩, h7⟩ := h
  exact ⟨F1, h1, fun k f => h7 k (h4 k f)⟩
theorem Has.snd (h : Has B (R.star S) w) : Has B S w := h.comm.fst
theorem Has.ex (h : Has B R w) : ∃ F, R.is w F := ⟨h.choose, h.choose_spec.1⟩

/-- A new thing beside the old ones. -/
theorem Has.new (h : Has B S w) (hB : B ≤ w.heap.size) (hb : Below w.heap.size w w') (hr : R.is w' (fresh w w')) : Has B (R.star S) w' := by
  obtain ⟨F, h1, h2⟩ := h
  refine ⟨fun k => fresh w w' k ∨ F k, ⟨fresh w w', F, hr, S.keep w w' F h1 hb.size (fun k f => hb.block k (S.lt w F h1 k f)), ?_, fun _ f => .inl f, fun _ f => .inr f, ?_⟩, ?_⟩
  · intro k f g
    have := S.lt w F h1 k g
    have := f.1
    omega
  · intro k f
    rcases f with f | f
    · exact f.2
    · exact Nat.lt_of_lt_of_le (S.lt w F h1 k f) hb.size
  · intro k f
    rcases f with f | f
    · have := f.1
      omega
    · exact h2 k f

/-- A new thing alone. -/
theorem Has.first (hB : B ≤ w.heap.size) (hr : R.is w' (fresh w w')) : Has B R w' := ⟨_, hr, fun k f => by have := f.1; omega⟩

/-- Behind more that makes memory alone. -/
theorem fresh_more {R : Res} {w w1 w2 : World} (h : R.is w1 (fresh w w1)) (hm : ∀ w F G, R.is w F → (∀ k, F k → G k) → (∀ k, G k → k < w.heap.size) → R.is w G) (hb : Below w1.heap.size w1 w2) : R.is w2 (fresh w w2) := by
  have h2 := R.keep w1 w2 _ h hb.size (fun k f => hb.block k f.2)
  have := hb.size
  exact hm w2 _ _ h2 (fun k f => ⟨f.1, by have := f.2; omega⟩) (fun k f => f.2)

theorem Has.assoc {T : Res} (h : Has B ((R.star S).star T) w) : Has B (R.star (S.star T)) w := by
  obtain ⟨F, ⟨F1, F2, ⟨F3, F4, a1, a2, a3, a4, a5, a6⟩, h2, h3, h4, h5, h6⟩, h7⟩ := h
  refine ⟨F, ⟨F3, fun k => F4 k ∨ F2 k, a1, ⟨F4, F2, a2, h2, fun k f => h3 k (a5 k f), fun _ f => .inl f, fun _ f => .inr f, ?_⟩, ?_, fun k f => h4 k (a4 k f), ?_, h6⟩, h7⟩
  · intro k f
    rcases f with f | f
    · exact a6 k (a5 k f)
    · exact h6 k (h5 k f)
  · intro k f g
    rcases g with g | g
    · exact a3 k f g
    · exact h3 k (a4 k f) g
  · intro k f
    rcases f with f | f
    · exact h4 k (a5 k f)
    · exact h5 k f
theorem Has.assoc' {T : Res} (h : Has B (R.star (S.star T)) w) : Has B ((R.star S).star T) w := h.comm.assoc.comm.assoc.comm
end

/-- A row of bytes. -/
def rowOf (e : TypeId) (v : Value) (n : Nat) (l : List Int) : Res where
  is w F := w.ownsRow 0 e 1 v n (l.map (Value.int .u8)) ∧ (∀ k, v.ownBlock = some k → F k) ∧ ∀ k, F k → k < w.heap.size
  lt _ _ := fun h => h.2.2
  keep w w' F := fun h hs hk => by
    refine ⟨?_, h.2.1, fun k f => Nat.lt_of_lt_of_le (h.2.2 k f) hs⟩
    obtain ⟨⟨h1, h2⟩, h3, _⟩ := h
    refine ⟨h1, ?_⟩
    rcases h2 with h2 | ⟨g, cap, cur, hv, hb, hg, r⟩
    · exact .inl h2
    · exact .inr ⟨g, cap, cur, hv, hb, (hk g (h3 g (by rw [hv]; rfl))).trans hg, r⟩

theorem owns_keep {w w' : World} {base : Nat} {e : TypeId} {size : Nat} {v : Value} {n : Nat} {xs : List Value} (h : w.ownsRow base e size v n xs) (hk : ∀ k, v.ownBlock = some k → w'.heap[k]? = w.heap[k]?) : w'.ownsRow base e size v n xs := by
  obtain ⟨h1, h2⟩ := h
  refine ⟨h1, ?_⟩
  rcases h2 with h2 | ⟨g, cap, cur, hv, hb, hg, r⟩
  · exact .inl h2
  · exact .inr ⟨g, cap, cur, hv, hb, (hk g (by rw [hv]; rfl)).trans hg, r⟩

theorem owns_low {w : World} {base base' : Nat} {e : TypeId} {size : Nat} {v : Value} {n : Nat} {xs : List Value} (h : w.ownsRow base e size v n xs) (hb : base' ≤ base) : w.ownsRow base' e size v n xs := by
  obtain ⟨h1, h2⟩ := h
  refine ⟨h1, ?_⟩
  rcases h2 with h2 | ⟨g, cap, cur, hv, hg, r⟩
  · exact .inl h2
  · exact .inr ⟨g, cap, cur, hv, Nat.le_trans hb hg, r⟩

theorem Bk.eq {w w' : World} {g : Nat} {t : TypeId} {cs : Array Value} (h : Bk w g t cs) (hk : w'.heap[g]? = w.heap[g]?) : Bk w' g t cs := hk.trans h
theorem range_none : Array.range 0 = #[] := Array.eq_empty_of_size_eq_zero (by simp)
end Go.Proofs.YtljpnngknmpdoaaDoor

/- steps of a region by an equation of the operation's run: a whole array loaded, a struct built, a slice of one struct, a new variable. No program is named; no condition. -/
namespace Go.Proofs.YtljpnngknmpdoaaDoor
open Go.RowKit

section
variable {P : Program} {w w' : World} {ops : Array Oper} {rest : List Oper} {o : Oper} {a : Act}

theorem wanted_plain (hgd : o.guard = none) : Region.wanted o (yielded ops a.tmps) = true := by simp [Region.wanted, hgd]

theorem wpStill_run {Q : Act → Prop} (hgd : o.guard = none) {v : Value} (hrun : (execOp a.eval o).run P w = .ok (.value v) w) (h : wpStill P ops w Q rest (a.put o.dst v)) : wpStill P ops w Q (o :: rest) a := by
  refine wpStill_step fun K hK => ?_
  rw [if_pos (wanted_plain hgd)]
  unfold Oper.still
  rw [hrun]
  exact ⟨rfl, hK _ h⟩

theorem wpList_run {Q : Exit → Act → World → Prop} (hgd : o.guard = none) {v : Value} (hrun : (execOp a.eval o).run P w = .ok (.value v) w') (h : wpList P ops Q rest (a.put o.dst v) w') : wpList P ops Q (o :: rest) a w := by
  refine wpList_plain hgd fun K hK => ?_
  unfold Oper.wp
  rw [hrun]
  exact hK _ _ h

theorem exec_load {ty : TypeId} {x : Operand} (ho : o.op = .load ty x) {b off : Nat} (hx : a.eval x = .pointer (some ⟨b, off, none⟩)) {cs : List Value} {d : TypeDesc} (hc : w.rangeAt b off cs)
    (hu : P.underlying ty = some d) (hd : d.isRow = true) (hi : (P.info? ty).map (·.size) = some cs.length) : (execOp a.eval o).run P w = .ok (.value (.agg cs.toArray)) w := by
  unfold execOp
  simp only [ho, hx, Instr.loadAt, Instr.sureAddr, Sem.run_bind, Sem.run_pure, Result.andThen_ok, run_loadVar_mid w b off ty cs d hc hu hd hi]

theorem exec_build {t : TypeId} {parts : Array (Nat × Operand)} (ho : o.op = .build t parts) (ps : List (Nat × Value)) (he : (parts.toList.map fun x => (x.1, a.eval x.2)) = ps) {cells : Array Value} (hb : P.built t ps = some cells) :
    (execOp a.eval o).run P w = .ok (.value (.agg cells)) w := by
  unfold execOp
  have := run_build (P := P) w t (parts.map fun x => (x.1, a.eval x.2)) cells (by rw [Array.toList_map, he]; exact hb)
  simp only [ho, Sem.run_bind]
  rw [this]
  rfl

theorem exec_buildSlice {t : TypeId} {n : Nat} {parts : Array (Nat × Operand)} (ho : o.op = .buildSlice t n parts) (ps : List (Nat × Value)) (he : (parts.toList.map fun x => (x.1, a.eval x.2)) = ps) {v : Value} (hb : (Instr.buildSlice t n ps.toArray).run P w = .ok v w') :
    (execOp a.eval o).run P w = .ok (.value v) w' := by
  have he' : (parts.map fun x => (x.1, a.eval x.2)) = ps.toArray := by
    apply Array.toList_inj.1
    rw [Array.toList_map, he]
  unfold execOp
  simp only [ho, Sem.run_bind]
  rw [he', hb]
  rfl

theorem exec_alloc {t : TypeId} (ho : o.op = .alloc t) {z : Value} (hz : ∀ w, (zeroValue t).run P w = .ok z w) :
    (execOp a.eval o).run P w = .ok (.value (.pointer (some ⟨w.heap.size, 0, none⟩))) (w.alloc (.cells z.cells t)) := by
  unfold execOp
  simp only [ho, Sem.run_bind, Instr.alloc, hz, Result.andThen_ok]
  rfl

theorem exec_slice {t : TypeId} {x : Operand} {lo hi mx : Option Operand} (ho : o.op = .slice t x lo hi mx) {v : Value} (hb : (Instr.sliceAt t (a.eval x) (lo.map a.eval) (hi.map a.eval) (mx.map a.eval)).run P w = .ok v w') :
    (execOp a.eval o).run P w = .ok (.value v) w' := by
  unfold execOp
  simp only [ho, Sem.run_bind]
  rw [hb]
  rfl

theorem exec_makeSlice {t : TypeId} {x y : Operand} (ho : o.op = .makeSlice t x y) {v : Value} (hb : (Instr.makeSlice t (a.eval x) (a.eval y)).run P w = .ok v w') :
    (execOp a.eval o).run P w = .ok (.value v) w' := by
  unfold execOp
  simp only [ho, Sem.run_bind]
  rw [hb]
  rfl

theorem exec_lookup {t : TypeId} {m x : Operand} {c : Bool} (ho : o.op = .lookup t m x c) {v : Value} (hb : (Instr.lookup t (a.eval m) (a.eval x) c).run P w = .ok v w') :
    (execOp a.eval o).run P w = .ok (.value v) w' := by
  unfold execOp
  simp only [ho, Sem.run_bind]
  rw [hb]
  rfl

theorem exec_allocA {t : TypeId} (ho : o.op = .alloc t) {z : Array Value} (hz : ∀ w, (zeroValue t).run P w = .ok (.agg z) w) :
    (execOp a.eval o).run P w = .ok (.value (.pointer (some ⟨w.heap.size, 0, none⟩))) (w.alloc (.cells z t)) := exec_alloc ho hz

/-- A whole row into the block that was made last. -/
theorem wpList_store_new {Q : Exit → Act → World → Prop} {W : World} (hgd : o.guard = none) {ty : TypeId} {x y : Operand} (ho : o.op = .store ty x y) {c c' : Array Value} (hw : w = W.alloc (.cells c ty)) (hx : a.eval x = .pointer (some ⟨W.heap.size, 0, none⟩)) (hy : a.eval y = .agg c')
    (hi : (P.info? ty).map (·.size) = some c'.size) (hs : c.size = c'.size) (h1 : c'.all (·.oneCell') = true) (h : wpList P ops Q rest (a.put o.dst undef) (W.alloc (.cells c' ty))) : wpList P ops Q (o :: rest) a w := by
  subst hw
  refine wpList_store_row hgd ty x y ho W.heap.size c' hx hy ty c (heap_alloc_last W _) hi hs h1 ?_
  rw [World.setRow_alloc_new]
  exact h

/-- 'clear(x)' of a row of one's own; the row, cut to nothing. -/
theorem run_clear_own {base : Nat} {t e : TypeId} {i : TypeInfo} {z : Value} {size : Nat} (ty : TypeId) (ht : P.underlying t = some (.slice e)) (hi : P.info? e = some i) (hz : i.zero = some z) (hzs : z.cells.size = size) (hz1 : ∀ v ∈ z.cells.toList, v.oneCell' = true)
    {A : Option Addr} {n c : Nat} {xs : List Value} (hown : w.ownsRow base e size (.slice A n c) n xs) :
    ∃ w', (Builtin.clear_ #[t] ty #[.slice A n c]).run P w = .ok (.tuple #[]) w' ∧ w'.ownsRow base e size (.slice A 0 c) 0 [] ∧ w.grownBy w' (Value.slice A n c).ownBlock := by
  rcases hown.2 with ⟨hv, hn⟩ | ⟨g, cap, cur, hv, hb, hg, hnc, hm, hcs, htk⟩
  · injection hv with e1 e2 e3
    subst e1 e2 e3
    exact ⟨w, by simp [Builtin.clear_, run_underlying ht], World.ownsRow_nil _ _ _ _, World.grownBy.refl w _⟩
  · injection hv with e1 e2 e3
    subst e1 e3
    by_cases h0 : n = 0
    · subst h0
      exact ⟨w, by simp [Builtin.clear_, run_underlying ht], ⟨by simp, .inr ⟨g, c, cur, rfl, hb, hg, Nat.zero_le _, hm, hcs, by simp⟩⟩, World.grownBy.refl w _⟩
    · have hzl : (Builtin.zeroCells z.cells n).toList.length = n * size := by simp [size_zeroCells, hzs]
      have hz1' : ∀ v ∈ (Builtin.zeroCells z.cells n).toList, v.oneCell' = true := by
        intro v hv
        have hv' : v ∈ Builtin.zeroCells z.cells n := by simpa using hv
        unfold Builtin.zeroCells at hv'
        obtain ⟨j, hj, rfl⟩ := Array.mem_map.1 hv'
        by_cases hzz : z.cells.size = 0
        · rw [hzz] at hj
          simp at hj
        · have hlt : j % z.cells.size < z.cells.size := Nat.mod_lt _ (by omega)
          refine hz1 _ ?_
          rw [getElem!_pos z.cells (j % z.cells.size) hlt]
          simp
      have hle : n * size ≤ cur.size := by rw [hcs]; exact Nat.mul_le_mul_right _ hnc
      have hst := run_storeCells_at P g 0 e (Builtin.zeroCells z.cells n).toList 0 cur w hg (by rw [hzl]; omega) hz1'
      have hNs : (List.take (0 + 0) cur.toList ++ (Builtin.zeroCells z.cells n).toList ++ List.drop (0 + 0 + (Builtin.zeroCells z.cells n).toList.length) cur.toList).toArray.size = c * size := by
        simp only [List.size_toArray, List.length_append, List.length_take, List.length_drop, hzl, Array.length_toList]
        omega
      generalize (List.take (0 + 0) cur.toList ++ (Builtin.zeroCells z.cells n).toList ++ List.drop (0 + 0 + (Builtin.zeroCells z.cells n).toList.length) cur.toList).toArray = N at hst hNs
      refine ⟨w.setRow g N, ?_, ⟨by simp, .inr ⟨g, c, N, rfl, hb, setRow_heap w g cur N e _ hg, Nat.zero_le _, hm, hNs, by simp⟩⟩, ⟨rfl, rfl, rfl, by simp, fun k _ hk => setRow_other w g k N (fun q => hk (by simp [Value.ownBlock, q]))⟩⟩
      have hzv : (zeroValue e).run P w = .ok z w := by simp [zeroValue, typeInfo, hi, hz]
      have : ∃ m, n = m + 1 := ⟨n - 1, by omega⟩
      obtain ⟨m, rfl⟩ := this
      simp [Builtin.clear_, run_underlying ht, hzv, hst, Result.andThen]

theorem wpList_clear {Q : Exit → Act → World → Prop} (hgd : o.guard = none) {base : Nat} {t e : TypeId} {i : TypeInfo} {z : Value} {size : Nat} {x : Operand} (ho : o.op = .call { callee := .builtin .clear, args := #[x], argTypes := #[t] })
    (ht : P.underlying t = some (.slice e)) (hi : P.info? e = some i) (hz : i.zero = some z) (hzs : z.cells.size = size) (hz1 : ∀ v ∈ z.cells.toList, v.oneCell' = true)
    {A : Option Addr} {n c : Nat} {xs : List Value} (hx : a.eval x = .slice A n c) (hown : w.ownsRow base e size (.slice A n c) n xs)
    (h : ∀ w', w'.ownsRow base e size (.slice A 0 c) 0 [] → w.grownBy w' (Value.slice A n c).ownBlock → wpList P ops Q rest (a.put o.dst (.tuple #[])) w') : wpList P ops Q (o :: rest) a w := by
  obtain ⟨w', hr, h1, h2⟩ := run_clear_own (P := P) o.type ht hi hz hzs hz1 hown
  refine wpList_plain hgd fun K hK => ?_
  unfold Oper.wp execOp
  simp only [ho, resolve, invoke, builtin, Sem.run_bind, Sem.run_pure, Result.andThen_ok, List.map_toArray, List.map_cons, List.map_nil, hx, hr]
  exact hK _ _ (h w' h1 h2)

theorem exec_box {t : TypeId} {x : Operand} (ho : o.op = .box t x) :
    (execOp a.eval o).run P w = .ok (.value (.pointer (some ⟨w.heap.size, 0, none⟩))) (w.alloc (.cells (a.eval x).cells t)) := by
  unfold execOp
  simp only [ho, Sem.run_bind, Instr.box]
  rfl

/-- A struct that comes in is laid into a block of its own: the world behind it under a name. -/
theorem wpList_box {Q : Exit → Act → World → Prop} {W : World} (hgd : o.guard = none) {t : TypeId} {x : Operand} (ho : o.op = .box t x) {cs : Array Value} (hx : a.eval x = .agg cs) (hW : W = w.alloc (.cells cs t))
    (h : wpList P ops Q rest (a.put o.dst (.pointer (some ⟨w.heap.size, 0, none⟩))) W) : wpList P ops Q (o :: rest) a w := by
  subst hW
  refine wpList_run hgd (exec_box ho) ?_
  rw [hx]
  exact h

theorem exec_arrayAt {t : TypeId} {x : Operand} (ho : o.op = .sliceToArrayPointer t x) {v : Value} (hb : (Instr.arrayAt t (a.eval x)).run P w = .ok v w) :
    (execOp a.eval o).run P w = .ok (.value v) w := by
  unfold execOp
  simp only [ho, Sem.run_bind]
  rw [hb]
  rfl
end
end Go.Proofs.YtljpnngknmpdoaaDoor

/- bytes in a block of bytes; slices of elements of several cells; rows of one's own of unlike types stay apart; one element more; parts of bytes by three indices. No condition. -/
namespace Go.Proofs.YtljpnngknmpdoaaDoor
open Go.RowKit

theorem own_form {w : World} {base n : Nat} {e : TypeId} {size : Nat} {v : Value} {xs : List Value} (h : w.ownsRow base e size v n xs) : ∃ A c, v = .slice A n c := by
  rcases h.2 with ⟨h1, h2⟩ | ⟨g, cap, _, h1, _⟩
  · subst h2; exact ⟨none, 0, h1⟩
  · exact ⟨_, _, h1⟩
theorem own_ty {w : World} {base n q : Nat} {e : TypeId} {size : Nat} {v : Value} {xs : List Value} (h : w.ownsRow base e size v n xs) (hq : v.ownBlock = some q) : ∃ cur, w.heap[q]? = some (.cells cur e (0, 0)) := by
  rcases h.2 with ⟨h1, h2⟩ | ⟨g, cap, cur, h1, _, hg, _⟩
  · rw [h1] at hq; simp [Value.ownBlock] at hq
  · rw [h1] at hq
    simp [Value.ownBlock] at hq
    subst hq
    exact ⟨cur, hg⟩
theorem own_stay {w w' : World} {base n : Nat} {e : TypeId} {size : Nat} {v : Value} {xs : List Value} (h : w.ownsRow base e size v n xs) (hk : ∀ k, v.ownBlock = some k → w'.heap[k]? = w.heap[k]?) : w'.ownsRow base e size v n xs := by
  obtain ⟨h1, h2⟩ := h
  refine ⟨h1, ?_⟩
  rcases h2 with h2 | ⟨g, cap, cur, hv, hb, hg, r⟩
  · exact .inl h2
  · exact .inr ⟨g, cap, cur, hv, hb, (hk g (by rw [hv]; rfl)).trans hg, r⟩
/-- Rows of unlike types: the one grows, the other stays. -/
theorem own_apart {w w' : World} {b b' k k' n n' : Nat} {e e' : TypeId} {v v' : Value} {xs xs' : List Value} (h : w.ownsRow b e k v n xs) (h' : w.ownsRow b' e' k' v' n' xs') (he : e ≠ e') (hg : w.grownBy w' v.ownBlock) : w'.ownsRow b' e' k' v' n' xs' :=
  own_stay h' (fun q hq => hg.block q (h'.lt q hq).2 (fun eq => by
    obtain ⟨c1, h1⟩ := own_ty h eq.symm
    obtain ⟨c2, h2⟩ := own_ty h' hq
    rw [h1] at h2
    injection h2 with h2
    injection h2 with _ h2
    exact he h2))
theorem bk_apart {w w' : World} {b k n g : Nat} {e t : TypeId} {v : Value} {xs : List Value} {cs : Array Value} (h : w.ownsRow b e k v n xs) (hb : Bk w g t cs) (he : e ≠ t) (hg : w.grownBy w' v.ownBlock) : Bk w' g t cs :=
  (hg.block g hb.lt (fun eq => by
    obtain ⟨c1, h1⟩ := own_ty h eq.symm
    unfold Bk at hb
    rw [h1] at hb
    injection hb with hb
    injection hb with _ hb
    exact he hb)).trans hb
theorem own_set {w : World} {b k n g i : Nat} {e t : TypeId} {v u : Value} {xs : List Value} {cs : Array Value} (h : w.ownsRow b e k v n xs) (hb : Bk w g t cs) (he : e ≠ t) : (w.setCell ⟨g, i, none⟩ u).ownsRow b e k v n xs :=
  own_stay h (fun q hq => Below.heap_setCell w ⟨g, i, none⟩ u q (fun eq => by
    obtain ⟨c1, h1⟩ := own_ty h hq
    have eq' : q = g := eq
    subst eq'
    unfold Bk at hb
    rw [h1] at hb
    injection hb with hb
    injection hb with _ hb
    exact he hb))

/-- The slice lies in a block of bytes. -/
def u8At (w : World) (A : Option Addr) : Prop := ∀ a, A = some a → ∃ cs fr, w.heap[a.block]? = some (.cells cs 5 fr)
structure Bty (w : World) (A : Option Addr) (n c : Nat) (l : List Int) : Prop where
  byt : Byt w A n c l
  ty : u8At w A

section
variable {w w' : World} {A : Option Addr} {n c : Nat} {l : List Int}
theorem u8At.lt (h : u8At w A) : ∀ a, A = some a → a.block < w.heap.size := fun a ha => by
  obtain ⟨cs, fr, e⟩ := h a ha
  exact (Array.getElem?_eq_some_iff.1 e).1
theorem u8At.stay (h : u8At w A) (hk : ∀ a, A = some a → w'.heap[a.block]? = w.heap[a.block]?) : u8At w' A := fun a ha => by
  obtain ⟨cs, fr, e⟩ := h a ha
  exact ⟨cs, fr, (hk a ha).trans e⟩
theorem Byt.stay_ (h : Byt w A n c l) (hk : ∀ a, A = some a → w'.heap[a.block]? = w.heap[a.block]?) : Byt w' A n c l :=
  ⟨h.len, h.cap, h.max, h.rng, h.nil_, fun hn => by
    obtain ⟨g, off, e, hc⟩ := h.at_ hn
    exact ⟨g, off, e, fun i hi => (World.cell?_of_block (w := w) (w' := w') (a := ⟨g, off + i, none⟩) (hk ⟨g, off, none⟩ e)).trans (hc i hi)⟩⟩
theorem Bty.stay (h : Bty w A n c l) (hk : ∀ a, A = some a → w'.heap[a.block]? = w.heap[a.block]?) : Bty w' A n c l := ⟨h.byt.stay_ hk, h.ty.stay hk⟩
theorem Bty.below (h : Bty w A n c l) (hb : Below w.heap.size w w') : Bty w' A n c l := h.stay (fun a ha => hb.block _ (h.ty.lt a ha))
theorem Bty.nil (w : World) : Bty w none 0 0 [] := ⟨Byt.nil w, fun _ h => nomatch h⟩
theorem Bty.of_own {base : Nat} (h : w.ownsRow base 5 1 (.slice A n c) n (l.map (Value.int .u8))) (hr : ∀ x ∈ l, 0 ≤ x ∧ x < 256) : Bty w A n c l := by
  refine ⟨Byt.of_own h hr, fun a ha => ?_⟩
  obtain ⟨cur, hc⟩ := own_ty h (q := a.block) (by rw [ha]; rfl)
  exact ⟨cur, _, hc⟩
theorem Bty.ofString (w : World) (s : ByteArray) (hs : s.size ≤ maxLen) : Bty (Lib.bytesWorld w 5 s) (some ⟨w.heap.size, 0, none⟩) s.size (grownCap w s.size 0 5) (nums s) := by
  refine ⟨Byt.ofString w _ s hs, fun a ha => ?_⟩
  injection ha with ha
  subst ha
  exact ⟨_, _, Lib.bytesWorld_at_new w 5 s⟩
theorem Bty.apart {b k m : Nat} {e : TypeId} {v : Value} {xs : List Value} (h : Bty w A n c l) (ho : w.ownsRow b e k v m xs) (he : e ≠ 5) (hg : w.grownBy w' v.ownBlock) : Bty w' A n c l :=
  h.stay (fun a ha => hg.block _ (h.ty.lt a ha) (fun eq => by
    obtain ⟨c1, h1⟩ := own_ty ho eq.symm
    obtain ⟨cs, fr, h2⟩ := h.ty a ha
    rw [h1] at h2
    injection h2 with h2
    injection h2 with _ h2
    exact he h2))
theorem Bty.set {g i : Nat} {t : TypeId} {u : Value} {cs : Array Value} (h : Bty w A n c l) (hb : Bk w g t cs) (ht : t ≠ 5) : Bty (w.setCell ⟨g, i, none⟩ u) A n c l :=
  h.stay (fun a ha => Below.heap_setCell w ⟨g, i, none⟩ u _ (fun eq => by
    obtain ⟨cs', fr, h2⟩ := h.ty a ha
    have eq' : a.block = g := eq
    unfold Bk at hb
    rw [eq', hb] at h2
    injection h2 with h2
    injection h2 with _ h2
    exact ht h2))

/-- 's[j:k:k]'. -/
theorem cut_lhm (h : Bty w A n c l) (j k : Nat) (hjk : j ≤ k) (hk : k ≤ n) :
    ∃ B, (∀ v, (Instr.slice 24 (.slice A n c) (some (.int .i64 (j : Int))) (some (.int .i64 (k : Int))) (some (.int .i64 (k : Int)))).run Tryd.prog v = .ok (.slice B (k - j) (k - j)) v) ∧ Bty w B (k - j) (k - j) ((l.drop j).take (k - j)) := by
  have hcap := h.byt.cap
  refine ⟨if k = j then A else A.map (·.add (j * 1)), fun v => ?_, ?_, ?_⟩
  · rw [run_slice_lhm (P := Tryd.prog) (w := v) 24 A n c under25 .i64 .i64 .i64 j k k (by omega) (by omega) (by omega) (by omega), elem25, sz_u8]
    simp [sliced, Result.andThen]
  · by_cases e : k = j
    · subst e
      rw [if_pos rfl, Nat.sub_self, List.take_zero]
      exact ⟨rfl, Nat.le_refl _, Nat.zero_le _, by simp, fun _ => ⟨rfl, rfl⟩, fun h => absurd h (by omega)⟩
    · rw [if_neg e]
      have := h.byt.sub j k hjk hk
      have hmax := h.byt.max
      unfold subA at this
      rw [if_neg (by omega)] at this
      exact ⟨this.len, Nat.le_refl _, by omega, this.rng, fun e => by have := this.nil_ e; omega, this.at_⟩
  · intro a ha
    split at ha
    · exact h.ty a ha
    · cases A with
      | none => simp at ha
      | some a' =>
        simp at ha
        obtain ⟨cs, fr, e⟩ := h.ty a' rfl
        refine ⟨cs, fr, ?_⟩
        have : a.block = a'.block := by rw [← ha]; unfold Addr.add; split <;> rfl
        rw [this]
        exact e
end

/-- The slice '.slice A n c' of elements of k cells reads as these cells. -/
structure Flt (w : World) (A : Option Addr) (n c k : Nat) (vs : List Value) : Prop where
  len : vs.length = n * k
  cap : n ≤ c
  max : c ≤ maxLen
  nil_ : A = none → n = 0 ∧ c = 0
  at_ : 0 < n → ∃ g off, A = some ⟨g, off, none⟩ ∧ ∀ j v, vs[j]? = some v → w.cell? ⟨g, off + j, none⟩ = some v
section
variable {w w' : World} {A : Option Addr} {n c k : Nat} {vs : List Value}
theorem Flt.nil (w : World) (k : Nat) : Flt w none 0 0 k [] := ⟨by simp, Nat.le_refl _, Nat.zero_le _, fun _ => ⟨rfl, rfl⟩, fun h => absurd h (by omega)⟩
theorem Flt.keep (h : Flt w A n c k vs) (hk : ∀ (p : Addr) u, w.cell? p = some u → w'.cell? p = some u) : Flt w' A n c k vs :=
  ⟨h.len, h.cap, h.max, h.nil_, fun hn => by
    obtain ⟨g, off, e, hc⟩ := h.at_ hn
    exact ⟨g, off, e, fun j v hv => hk _ _ (hc j v hv)⟩⟩
theorem Flt.below (h : Flt w A n c k vs) (hb : Below w.heap.size w w') : Flt w' A n c k vs := h.keep fun p _ hu => (hb.cell (World.block_lt_of_cell? w p hu)).trans hu
theorem Flt.of_own {base : Nat} {e : TypeId} (h : w.ownsRow base e k (.slice A n c) n vs) : Flt w A n c k vs := by
  have hl := h.1
  rcases h.2 with ⟨hv, hn⟩ | ⟨g, cap, cur, hv, hb, hg, hnc, hm, hs, ht⟩
  · injection hv with h1 h2 h3
    subst h1 h2 h3
    exact ⟨hl, Nat.le_refl _, Nat.zero_le _, fun _ => ⟨rfl, rfl⟩, fun h => absurd h (by omega)⟩
  · injection hv with h1 h2 h3
    subst h1 h3
    refine ⟨hl, hnc, hm, (fun h => nomatch h), fun _ => ⟨g, 0, rfl, fun i v hv => ?_⟩⟩
    have := h.cells (g := g) rfl i v hv
    have hadd : (⟨g, 0, none⟩ : Addr).add i = ⟨g, 0 + i, none⟩ := by unfold Addr.add; split <;> simp_all
    rwa [hadd] at this
theorem Flt.take (h : Flt w A n c k vs) (m : Nat) (hm : m ≤ n) : Flt w A m c k (vs.take (m * k)) := by
  refine ⟨by rw [List.length_take, h.len, Nat.min_eq_left (Nat.mul_le_mul_right _ hm)], by have := h.cap; omega, h.max, fun e => ⟨by have := (h.nil_ e).1; omega, (h.nil_ e).2⟩, fun hk0 => ?_⟩
  obtain ⟨g, off, e, hc⟩ := h.at_ (by omega)
  refine ⟨g, off, e, fun i v hi => hc i v ?_⟩
  rw [List.getElem?_take] at hi
  split at hi
  · exact hi
  · cases hi
theorem Flt.news (h : Flt w A n c k vs) (ad : Addr) (hA : A = some ad) : ∀ j u, vs[j]? = some u → w.cell? (ad.add j) = some u := by
  intro j u hu
  have hj : j < n * k := by rw [← h.len]; exact (List.getElem?_eq_some_iff.1 hu).1
  have hn : 0 < n := by
    rcases Nat.eq_zero_or_pos n with q | q
    · subst q; simp at hj
    · exact q
  obtain ⟨g, off, e, hc⟩ := h.at_ hn
  rw [hA] at e
  injection e with e
  subst e
  have hadd : (⟨g, off, none⟩ : Addr).add j = ⟨g, off + j, none⟩ := by unfold Addr.add; split <;> simp_all
  rw [hadd]
  exact hc j u hu
end

theorem flatL_len {α : Type} (f : α → List Value) (k : Nat) (hf : ∀ x, (f x).length = k) : ∀ l : List α, (l.flatMap f).length = l.length * k
  | [] => by simp
  | x :: r => by rw [List.flatMap_cons, List.length_append, hf, flatL_len f k hf r, List.length_cons, Nat.add_mul]; omega
theorem flatL_get {α : Type} (d : α) (f : α → List Value) (k : Nat) (hf : ∀ x, (f x).length = k) : ∀ (l : List α) (i j : Nat), i < l.length → j < k → (l.flatMap f)[i * k + j]? = (f (l.getD i d))[j]?
  | [], _, _, hi, _ => absurd hi (by simp)
  | x :: r, 0, j, _, hj => by
    rw [List.flatMap_cons, List.getElem?_append_left (by rw [hf]; omega)]
    simp
  | x :: r, i + 1, j, hi, hj => by
    rw [List.flatMap_cons, List.getElem?_append_right (by rw [hf, Nat.add_mul]; omega), hf]
    have e : (i + 1) * k + j - k = i * k + j := by rw [Nat.add_mul]; omega
    rw [e, flatL_get d f k hf r i j (by simpa using hi) hj]
    simp
theorem flatL_take {α : Type} (f : α → List Value) (k : Nat) (hf : ∀ x, (f x).length = k) (l : List α) (m : Nat) : (l.flatMap f).take (m * k) = (l.take m).flatMap f := by
  induction l generalizing m with
  | nil => simp
  | cons x r ih =>
    cases m with
    | zero => simp
    | succ m =>
      rw [List.flatMap_cons, List.take_succ_cons, List.flatMap_cons, List.take_append, hf, List.take_of_length_le (by rw [hf, Nat.add_mul]; omega)]
      congr 1
      rw [show (m + 1) * k - k = m * k by rw [Nat.add_mul]; omega, ih]
theorem Flt.at_get {α : Type} {w : World} {A : Option Addr} {n c k : Nat} {l : List α} (d : α) (f : α → List Value) (hf : ∀ x, (f x).length = k) (h : Flt w A n c k (l.flatMap f)) (hl : l.length = n) (hn : 0 < n) :
    ∃ g off, A = some ⟨g, off, none⟩ ∧ ∀ i, i < n → ∀ j v, (f (l.getD i d))[j]? = some v → w.cell? ⟨g, off + i * k + j, none⟩ = some v := by
  obtain ⟨g, off, e, hc⟩ := h.at_ hn
  refine ⟨g, off, e, fun i hi j v hv => ?_⟩
  have hj : j < k := by rw [← hf (l.getD i d)]; exact (List.getElem?_eq_some_iff.1 hv).1
  rw [Nat.add_assoc]
  exact hc _ v (by rw [flatL_get d f k hf l i j (by omega) hj]; exact hv)

/-- 'append(out, x)': x one element in a block of its own. -/
theorem wp_append_1 {P : Program} {w : World} {o : Oper} {a : Act} {K : Act → World → Prop} {Q : Exit → Act → World → Prop} (s x : Operand) (t : TypeId)
    (ho : o.op = .call { callee := .builtin .append, args := #[s, x], argTypes := #[t, t] }) (base : Nat) (e : TypeId) (i : TypeInfo) (z : Value) (size bytes : Nat) (ht : P.underlying t = some (.slice e)) (hi : P.info? e = some i) (hz : i.zero = some z)
    (hsize : i.size = size) (hby : i.bytes = bytes) (hzs : z.cells.size = size) (hpos : 0 < size) {v : Value} {n : Nat} {xs : List Value} (hs : a.eval s = v) (hown : w.ownsRow base e size v n xs)
    {g c : Nat} {cs : Array Value} (hx : a.eval x = .slice (some ⟨g, 0, none⟩) 1 c) (hb : Bk w g e cs) (hcs : cs.size = size) (h1 : ∀ u ∈ cs.toList, u.oneCell' = true) (hn : n ≤ 1000000) (hbb : bytes ≤ 1000) (hbase : base ≤ w.heap.size)
    (h : ∀ A' c' w', w'.ownsRow base e size (.slice A' (n + 1) c') (n + 1) (xs ++ cs.toList) → w.grownBy w' v.ownBlock → (∀ q, (Value.slice A' (n + 1) c').ownBlock = some q → v.ownBlock = some q ∨ w.heap.size ≤ q) → K (a.put o.dst (.slice A' (n + 1) c')) w') : o.wp P a w K Q := by
  have hbt : (n + 1) * bytes ≤ 140737488355328 := Nat.le_trans (Nat.mul_le_mul (show n + 1 ≤ 1000001 by omega) hbb) (by omega)
  refine wp_append_lies w s x t ho base e i z size bytes ht hi hz hsize hby hzs hpos v n xs hs hown ⟨g, 0, none⟩ 1 c cs.toList hx (by simp [hcs]) (fun j u hu => ?_) h1 (by omega) (by unfold maxLen; omega) hbt hbase _ rfl ?_
  · have hadd : (⟨g, 0, none⟩ : Addr).add j = ⟨g, j, none⟩ := by unfold Addr.add; split <;> simp_all
    rw [hadd, hb.cell]
    simpa using hu
  · intro g' cap w' k1 k2 k3 _
    refine h _ cap w' k1 k2 (fun q hq => ?_)
    simp [Value.ownBlock] at hq
    rcases k3 with k3 | k3
    · exact .inl (by rw [k3, hq])
    · exact .inr (by omega)
theorem wpList_append_1 {P : Program} {w : World} {ops : Array Oper} {rest : List Oper} {o : Oper} {a : Act} {Q : Exit → Act → World → Prop} (hgd : o.guard = none) (s x : Operand) (t : TypeId)
    (ho : o.op = .call { callee := .builtin .append, args := #[s, x], argTypes := #[t, t] }) (base : Nat) (e : TypeId) (i : TypeInfo) (z : Value) (size bytes : Nat) (ht : P.underlying t = some (.slice e)) (hi : P.info? e = some i) (hz : i.zero = some z)
    (hsize : i.size = size) (hby : i.bytes = bytes) (hzs : z.cells.size = size) (hpos : 0 < size) {v : Value} {n : Nat} {xs : List Value} (hs : a.eval s = v) (hown : w.ownsRow base e size v n xs)
    {g c : Nat} {cs : Array Value} (hx : a.eval x = .slice (some ⟨g, 0, none⟩) 1 c) (hb : Bk w g e cs) (hcs : cs.size = size) (h1 : ∀ u ∈ cs.toList, u.oneCell' = true) (hn : n ≤ 1000000) (hbb : bytes ≤ 1000) (hbase : base ≤ w.heap.size)
    (h : ∀ A' c' w', w'.ownsRow base e size (.slice A' (n + 1) c') (n + 1) (xs ++ cs.toList) → w.grownBy w' v.ownBlock → (∀ q, (Value.slice A' (n + 1) c').ownBlock = some q → v.ownBlock = some q ∨ w.heap.size ≤ q) → wpList P ops Q rest (a.put o.dst (.slice A' (n + 1) c')) w') :
    wpList P ops Q (o :: rest) a w :=
  wpList_plain hgd fun _ hK => wp_append_1 s x t ho base e i z size bytes ht hi hz hsize hby hzs hpos hs hown hx hb hcs h1 hn hbb hbase fun A' c' w' k1 k2 k3 => hK _ _ (h A' c' w' k1 k2 k3)
end Go.Proofs.YtljpnngknmpdoaaDoor

/- sheet.isSeq, hasFirst, part answer as they should; what is there stands. -/
namespace Go.Proofs.YtljpnngknmpdoaaDoor
open Go.RowKit

/-- A sheet's cells. -/
structure Sh where
  inc : Int
  pos : Int
  first : Int
  data : ByteArray
def sh0 : Sh := ⟨0, 0, 0, ByteArray.empty⟩
def Sh.cells (x : Sh) : List Value := [.int .i64 x.inc, .int .i64 x.pos, .int .i64 x.first, .string x.data]
def i64R (x : Int) : Prop := -9223372036854775808 ≤ x ∧ x ≤ 9223372036854775807
structure Sh.In (x : Sh) : Prop where
  inc : i64R x.inc
  pos : i64R x.pos
  first : i64R x.first
  data : x.data.size ≤ maxLen

/-- The same world. -/
def Qs (v : Value) (w : World) (e : Ending) (w' : World) : Prop := e = .returned v ∧ w = w'

def isSeqB (n : Int) : Bool := decide (0 ≤ n ∧ n ≤ 1099511627775)
def hasF (first : Int) (k : Nat) : Bool := decide (0 ≤ first ∧ first ≤ (k : Int))

theorem isSeq_any (n : Int) (w : World) (hn : i64R n) : Calls Tryd.prog 31 #[.int .i64 n] w (Qs (.bool (isSeqB n)) w) := by
  obtain ⟨h0, h1⟩ := hn
  by_cases a : 0 ≤ n
  · by_cases b : n ≤ 1099511627775
    · have e : isSeqB n = true := decide_eq_true ⟨a, b⟩
      rw [e]
      clear e
      go_enter Tryd.func31, Tryd.ntmps31
      go_wp2_with fail
      go_ret
      exact ⟨by simp_all, rfl⟩
    · have e : isSeqB n = false := decide_eq_false (fun h => b h.2)
      rw [e]
      clear e
      go_enter Tryd.func31, Tryd.ntmps31
      go_wp2_with fail
      go_ret
      exact ⟨by simp_all, rfl⟩
  · have e : isSeqB n = false := decide_eq_false (fun h => a h.1)
    rw [e]
    clear e
    go_enter Tryd.func31, Tryd.ntmps31
    go_wp2_with fail
    go_ret
    exact ⟨by simp_all, rfl⟩

set_option maxHeartbeats 1000000 in
theorem hasFirst_any (x : Sh) (w : World) (hx : x.In) : Calls Tryd.prog 35 #[.agg x.cells.toArray] w (Ret (.bool (hasF x.first x.data.size)) w) := by
  obtain ⟨inc, pos, first, data⟩ := x
  obtain ⟨_, _, ⟨h0, h1⟩, hd⟩ := hx
  unfold maxLen at hd
  simp only at h0 h1 hd
  have hb : Below w.heap.size w (w.alloc (.cells #[.int .i64 inc, .int .i64 pos, .int .i64 first, .string data] 23)) := (Below.refl _ _).alloc (Nat.le_refl _) _
  have HB := Lib.hid hb
  show Calls _ _ #[.agg #[.int .i64 inc, .int .i64 pos, .int .i64 first, .string data]] w _
  by_cases a : 0 ≤ first
  · by_cases b : first ≤ (data.size : Int)
    · have e : hasF first data.size = true := decide_eq_true ⟨a, b⟩
      have E := Lib.hid e
      clear e hb
      go_enter Tryd.func35, Tryd.ntmps35
      go_wp2_with fail
      go_ret
      exact ⟨by rw [E.out]; simp_all, HB.out⟩
    · have e : hasF first data.size = false := decide_eq_false (fun h => b h.2)
      have E := Lib.hid e
      clear e hb
      go_enter Tryd.func35, Tryd.ntmps35
      go_wp2_with fail
      go_ret
      exact ⟨by rw [E.out]; simp_all, HB.out⟩
  · have e : hasF first data.size = false := decide_eq_false (fun h => a h.1)
    have E := Lib.hid e
    clear e hb
    go_enter Tryd.func35, Tryd.ntmps35
    go_wp2_with fail
    go_ret
    exact ⟨by rw [E.out]; simp_all, HB.out⟩

/-- A part of bytes, of no room. -/
def RetPart (m : Nat) (l : List Int) (w : World) (e : Ending) (w' : World) : Prop := ∃ B, e = .returned (.slice B m m) ∧ Bty w B m m l ∧ w = w'

theorem part_any (A : Option Addr) (n c : Nat) (l : List Int) (w : World) (h : Bty w A n c l) (j k : Nat) (hjk : j ≤ k) (hk : k ≤ n) :
    Calls Tryd.prog 37 #[.slice A n c, .int .i64 j, .int .i64 k] w (RetPart (k - j) ((l.drop j).take (k - j)) w) := by
  have hcap := h.byt.cap
  have hmax := h.byt.max
  unfold maxLen at hmax
  obtain ⟨B, hs, hb⟩ := cut_lhm h j k hjk hk
  have R : Hid (RetPart (k - j) ((l.drop j).take (k - j)) w (.returned (.slice B (k - j) (k - j))) w) := Lib.hid ⟨B, rfl, hb, rfl⟩
  clear hb h
  go_enter Tryd.func37, Tryd.ntmps37
  go_wp2_with fail
  go_ret
  exact R.out
end Go.Proofs.YtljpnngknmpdoaaDoor

/- 'append' onto a row of the call's own lays it where it was, or in a new block: so two such rows stay apart. No program is named; no condition. -/
namespace Go.Proofs.YtljpnngknmpdoaaDoor
open Go.RowKit

/-- Where the answer lies. -/
theorem append_where {P : Program} {w : World} {base : Nat} {t ty e : TypeId} {i : TypeInfo} (ht : P.underlying t = some (.slice e)) (hi : P.info? e = some i) (hz : i.zero = some (.int .u8 0)) (hsize : i.size = 1) (hby : i.bytes = 1)
    {v : Value} {k : Nat} {xs : List Value} (hown : w.ownsRow base e 1 v k xs) {ad : Addr} {n c : Nat} {l : List Value} (hl : l.length = n) (hc : ∀ j u, l[j]? = some u → w.cell? (ad.add j) = some u) (h1 : ∀ u ∈ l, u.oneCell' = true) (hbytes : k + n ≤ 140737488355328)
    {v' : Value} {w' : World} (hr : (Builtin.append_ #[t, t] ty #[v, .slice (some ad) n c]).run P w = .ok v' w') : ∀ q, v'.ownBlock = some q → v.ownBlock = some q ∨ w.heap.size ≤ q := by
  have hl' : l.length = n * i.size := by rw [hsize]; omega
  have done : ∀ {x : Value} {w1 : World}, (Builtin.append_ #[t, t] ty #[v, .slice (some ad) n c]).run P w = .ok x w1 → (∀ q, x.ownBlock = some q → v.ownBlock = some q ∨ w.heap.size ≤ q) → ∀ q, v'.ownBlock = some q → v.ownBlock = some q ∨ w.heap.size ≤ q := by
    intro x w1 h h2
    rw [hr] at h
    injection h with h _
    rw [h]
    exact h2
  rcases hown.2 with ⟨rfl, rfl⟩ | ⟨g, cap, cur, rfl, _, hg, hkc, _, hcs, _⟩
  · by_cases hn : n = 0
    · subst hn
      obtain rfl : l = [] := List.eq_nil_of_length_eq_zero hl
      refine done (x := .slice none 0 0) (w1 := w) ?_ (fun q hq => by simp [Value.ownBlock] at hq)
      simp [Builtin.append_, run_underlying ht, sizeOf, typeInfo, hi, Builtin.lenOf, Builtin.firstCells, loadCells, loadCellsFrom]
    · exact done (run_append_nil (P := P) w t ty e i _ ht hi hz ad n c l hl' hc (by omega) (by omega) (by rw [hby]; omega)) (fun q hq => .inr (by simp [Value.ownBlock] at hq; omega))
  · by_cases hroom : k + n ≤ cap
    · exact done (run_append_room (P := P) w t ty e i ht hi g k cap cur hg ad n c l hl' hc h1 hroom (by rw [hl', hcs, hsize]; omega)) (fun q hq => .inl (by simpa [Value.ownBlock] using hq))
    · refine done (run_append_grow (P := P) w t ty e i _ ht hi hz ⟨g, 0, none⟩ k cap xs (by rw [hown.1, hsize]) (hown.cells (g := g) rfl) ad n c l hl' hc (by omega) (by omega) (growslice_fits (by omega) (by rw [hby]; omega))) (fun q hq => .inr (by simp [Value.ownBlock] at hq; omega))

/-- 'out = append(out, xs...)', and where it lies. -/
theorem wpList_append_at {P : Program} {w : World} {ops : Array Oper} {rest : List Oper} {o : Oper} {a : Act} {Q : Exit → Act → World → Prop} (hgd : o.guard = none) (s x : Operand) (t : TypeId)
    (ho : o.op = .call { callee := .builtin .append, args := #[s, x], argTypes := #[t, t] })
    (base : Nat) (e : TypeId) (i : TypeInfo) (ht : P.underlying t = some (.slice e)) (hi : P.info? e = some i) (hz : i.zero = some (.int .u8 0)) (hsize : i.size = 1) (hby : i.bytes = 1)
    (v : Value) (k : Nat) (xs : List Int) (hs : a.eval s = v) (hown : w.ownsRow base e 1 v k (xs.map (Value.int .u8)))
    (A : Option Addr) (n c : Nat) (l : List Int) (hx : a.eval x = .slice A n c) (hl : Byt w A n c l)
    (hbytes : k + n ≤ 140737488355328) (hbase : base ≤ w.heap.size)
    (h : ∀ A' c' w', w'.ownsRow base e 1 (.slice A' (k + n) c') (k + n) ((xs ++ l).map (Value.int .u8)) → w.grownBy w' v.ownBlock → (∀ q, (Value.slice A' (k + n) c').ownBlock = some q → v.ownBlock = some q ∨ w.heap.size ≤ q) → wpList P ops Q rest (a.put o.dst (.slice A' (k + n) c')) w') :
    wpList P ops Q (o :: rest) a w := by
  refine wpList_plain hgd fun K hK => ?_
  have form : ∀ (v' : Value) (w' : World) (m : Nat) (ys : List Value), w'.ownsRow base e 1 v' m ys → ∃ A' c', v' = .slice A' m c' := by
    intro v' w' m ys ho'
    rcases ho'.2 with ⟨h1, h2⟩ | ⟨g, cap, _, h1, _⟩
    · subst h2; exact ⟨none, 0, h1⟩
    · exact ⟨_, _, h1⟩
  cases A with
  | none =>
    obtain ⟨rfl, rfl⟩ := hl.nil_ rfl
    have hl0 : l = [] := List.eq_nil_of_length_eq_zero hl.len
    subst hl0
    have hrun := run_append_owned_none (P := P) (w := w) base t o.type e i 1 ht hi v k _ hown
    obtain ⟨A', c', rfl⟩ := form _ _ _ _ hown
    have h' := h A' c' w
    simp only [Nat.add_zero, List.append_nil] at h'
    unfold Oper.wp
    simp [execOp, ho, resolve, invoke, builtin, hs, hx, hrun, Result.andThen]
    exact hK _ _ (h' hown (World.grownBy.refl w _) (fun q hq => .inl hq))
  | some ad =>
    have hll : (l.map (Value.int .u8)).length = n := by simp [hl.len]
    obtain ⟨v', w', hrun, h1, h2, _⟩ := run_append_own (P := P) w base t o.type e i (.int .u8 0) 1 1 ht hi hz hsize hby rfl (by decide) v k _ hown ad n c (l.map (Value.int .u8)) (by simp [hl.len]) (hl.cells ad rfl) (u8_one l) (by unfold maxLen; omega) (by omega) hbase
    have hw := append_where ht hi hz hsize hby hown hll (hl.cells ad rfl) (u8_one l) hbytes hrun
    obtain ⟨A', c', rfl⟩ := form _ _ _ _ h1
    unfold Oper.wp
    simp [execOp, ho, resolve, invoke, builtin, hs, hx, hrun, Result.andThen]
    exact hK _ _ (h A' c' w' (by simpa using h1) h2 hw)
end Go.Proofs.YtljpnngknmpdoaaDoor

/- bodies in memory; sheet.join, sheet.cut. -/
namespace Go.Proofs.YtljpnngknmpdoaaDoor
open Go.RowKit

/-- A slice of slices of bytes. -/
def slV (v : Option Addr × Nat × Nat) : List Value := [.slice v.1 v.2.1 v.2.2]
theorem slV_len (v : Option Addr × Nat × Nat) : (slV v).length = 1 := rfl
def sl0 : Option Addr × Nat × Nat := (none, 0, 0)
structure Bods (w : World) (A : Option Addr) (n c : Nat) (ls : List (List Int)) (vs : List (Option Addr × Nat × Nat)) : Prop where
  flt : Flt w A n c 1 (vs.flatMap slV)
  vl : vs.length = n
  len : ls.length = n
  each : ∀ i, i < n → Byt w (vs.getD i sl0).1 (vs.getD i sl0).2.1 (vs.getD i sl0).2.2 (ls.getD i [])
theorem Bods.below {w w' : World} {A : Option Addr} {n c : Nat} {ls : List (List Int)} {vs : List (Option Addr × Nat × Nat)} (h : Bods w A n c ls vs) (hb : Below w.heap.size w w') : Bods w' A n c ls vs :=
  ⟨h.flt.below hb, h.vl, h.len, fun i hi => (h.each i hi).below hb⟩
/-- Number i. -/
theorem Bods.at_ {w : World} {A : Option Addr} {n c : Nat} {ls : List (List Int)} {vs : List (Option Addr × Nat × Nat)} (h : Bods w A n c ls vs) (hn : 0 < n) :
    ∃ g off, A = some ⟨g, off, none⟩ ∧ ∀ i, i < n → w.cell? ⟨g, off + i, none⟩ = some (.slice (vs.getD i sl0).1 (vs.getD i sl0).2.1 (vs.getD i sl0).2.2) ∧ Byt w (vs.getD i sl0).1 (vs.getD i sl0).2.1 (vs.getD i sl0).2.2 (ls.getD i []) := by
  obtain ⟨g, off, e, hc⟩ := h.flt.at_get sl0 slV slV_len h.vl hn
  refine ⟨g, off, e, fun i hi => ⟨?_, h.each i hi⟩⟩
  have := hc i hi 0 _ rfl
  simpa using this
theorem Bods.nil (w : World) : Bods w none 0 0 [] [] := ⟨Flt.nil w 1, rfl, rfl, fun i hi => absurd hi (by omega)⟩
theorem Bods.isB {w : World} {A : Option Addr} {n c : Nat} {ls : List (List Int)} {vs : List (Option Addr × Nat × Nat)} (h : Bods w A n c ls vs) : ∀ b ∈ ls, isB b := by
  intro b hb
  obtain ⟨i, hi, rfl⟩ := List.getElem_of_mem hb
  have := (h.each i (by rw [← h.len]; exact hi)).rng
  have e : ls.getD i [] = ls[i] := by simp [List.getD, List.getElem?_eq_getElem hi]
  rw [e] at this
  exact this

/-- Numbers, as cells. -/
def intV (x : Nat) : List Value := [.int .i64 (x : Int)]
theorem intV_len (x : Nat) : (intV x).length = 1 := rfl
theorem info_intJ : (Tryd.prog.info? 3).map (fun i => (i.zero, i.size, i.bytes)) = some (some (.int .i64 0), 1, 8) := by kernel_rfl
theorem info_slJ : (Tryd.prog.info? 24).map (fun i => (i.zero, i.size, i.bytes)) = some (some (.slice none 0 0), 1, 24) := by kernel_rfl

/-- What join answers: the bytes, where the bodies begin, or the error. -/
def RetJoin (ls : List (List Int)) (w : World) (e : Ending) (w' : World) : Prop :=
  (∃ b ∈ ls, 4096 < b.length) ∧ e = .returned (.tuple #[.slice none 0 0, .slice none 0 0, .int .i64 12]) ∧ Below w.heap.size w w' ∨
  (∀ b ∈ ls, b.length ≤ 4096) ∧ ∃ A n c A2 n2 c2, e = .returned (.tuple #[.slice A n c, .slice A2 n2 c2, .int .i64 0]) ∧ w'.ownsRow w.heap.size 5 1 (.slice A n c) n ((allL ls).map (Value.int .u8)) ∧ Flt w' A2 n2 c2 1 ((bgns ls).flatMap intV) ∧ n2 = ls.length ∧ Below w.heap.size w w'

/-- Where the joining stands. -/
structure JoinRel (w : World) (ls : List (List Int)) (i : Nat) (wr : World) (A : Option Addr) (n c : Nat) (A2 : Option Addr) (c2 : Nat) : Prop where
  all : wr.ownsRow w.heap.size 5 1 (.slice A n c) n ((allL (ls.take i)).map (Value.int .u8))
  bgs : wr.ownsRow w.heap.size 3 1 (.slice A2 i c2) i (((List.range i).map (bgn ls)).flatMap intV)
  bel : Below w.heap.size w wr
  ok : ∀ b ∈ ls.take i, b.length ≤ 4096

theorem sealL_le (b : List Int) (h : b.length ≤ 4096) : (sealL b).length ≤ 4110 := by
  rw [sealL_len]
  have := textL_len b (by omega)
  omega
theorem allL_le : ∀ (ls : List (List Int)), (∀ b ∈ ls, b.length ≤ 4096) → (allL ls).length ≤ 4110 * ls.length
  | [], _ => by simp [allL]
  | b :: r, h => by
    rw [allL_cons, List.length_append, List.length_cons]
    have := sealL_le b (h b (by simp))
    have := allL_le r (fun x hx => h x (by simp [hx]))
    omega

/-- One body more. -/
theorem JoinRel.step1 {w wr w2 w3 : World} {ls : List (List Int)} {i n c c2 : Nat} {A A2 A2' : Option Addr} {c2' : Nat} (h : JoinRel w ls i wr A n c A2 c2) (hi : i < ls.length) (hb : Below wr.heap.size wr w2)
    (k1 : w3.ownsRow w.heap.size 3 1 (.slice A2' (i + 1) c2') (i + 1) (((List.range i).map (bgn ls)).flatMap intV ++ (#[Value.int .i64 (n : Int)] : Array Value).toList)) (k2 : w2.grownBy w3 (Value.slice A2 i c2).ownBlock) :
    w3.ownsRow w.heap.size 5 1 (.slice A n c) n ((allL (ls.take i)).map (Value.int .u8)) ∧ w3.ownsRow w.heap.size 3 1 (.slice A2' (i + 1) c2') (i + 1) (((List.range (i + 1)).map (bgn ls)).flatMap intV) ∧ Below w.heap.size w w3 ∧ Below w.heap.size wr w3 := by
  have a2 := own_stay (w' := w2) h.all (fun q hq => hb.block q (h.all.lt q hq).2)
  have b2 := own_stay (w' := w2) h.bgs (fun q hq => hb.block q (h.bgs.lt q hq).2)
  have hn : bgn ls i = n := by unfold bgn; have := h.all.1; simpa using this
  have hbel : Below w.heap.size wr w3 := (hb.mono h.bel.size).grown k2 (Nat.le_trans h.bel.size hb.size) (fun q hq => (b2.lt q hq).1)
  refine ⟨own_apart b2 a2 (by decide) k2, ?_, h.bel.trans hbel, hbel⟩
  rw [List.range_succ, List.map_append, List.flatMap_append]
  simpa [intV, hn] using k1

theorem JoinRel.step2 {w wr w4 : World} {ls : List (List Int)} {i n c n' c' c2 : Nat} {A A' A2 : Option Addr} {b : List Int} (h1 : wr.ownsRow w.heap.size 5 1 (.slice A n c) n ((allL (ls.take i)).map (Value.int .u8)))
    (h2 : wr.ownsRow w.heap.size 3 1 (.slice A2 (i + 1) c2) (i + 1) (((List.range (i + 1)).map (bgn ls)).flatMap intV)) (h3 : Below w.heap.size w wr) (hok : ∀ b ∈ ls.take i, b.length ≤ 4096) (hi : i < ls.length) (hb : ls.getD i [] = b) (hbl : b.length ≤ 4096)
    (k1 : w4.ownsRow w.heap.size 5 1 (.slice A' n' c') n' ((allL (ls.take i) ++ sealL b).map (Value.int .u8))) (k2 : wr.grownBy w4 (Value.slice A n c).ownBlock) : JoinRel w ls (i + 1) w4 A' n' c' A2 c2 := by
  have e : ls.take (i + 1) = ls.take i ++ [b] := by rw [take_succ_getD ls [] i hi, hb]
  refine ⟨?_, own_apart h1 h2 (by decide) k2, h3.grown k2 h3.size (fun q hq => (h1.lt q hq).1), ?_⟩
  · rw [e, allL_app]
    simpa [allL] using k1
  · rw [e]
    intro x hx
    rcases List.mem_append.1 hx with q | q
    · exact hok x q
    · simp at q; subst q; exact hbl

set_option maxRecDepth 100000 in
set_option maxHeartbeats 4000000 in
theorem join_any (A : Option Addr) (n c : Nat) (ls : List (List Int)) (vs : List (Option Addr × Nat × Nat)) (w : World) (h : Bods w A n c ls vs) (hn : n ≤ 1000) (hT : Tab w) : Calls Tryd.prog 32 #[.slice A n c] w (RetJoin ls w) := by
  obtain ⟨i0, hi, hz0, hz1, hz2⟩ := info_parts info_u8
  obtain ⟨j0, hj0, hy0, hy1, hy2⟩ := info_parts info_intJ
  have hcap := h.flt.cap
  have hmax := h.flt.max
  unfold maxLen at hmax
  have R0 : Hid (JoinRel w ls 0 w none 0 0 none 0) := Lib.hid ⟨by simpa [allL] using World.ownsRow_nil w w.heap.size 5 1, by simpa using World.ownsRow_nil w w.heap.size 3 1, Below.refl _ _, by simp⟩
  have HT := Lib.hid hT
  have HB := Lib.hid h
  have hlen := h.len
  clear h hT
  go_enter Tryd.func32, Tryd.ntmps32
  go_wp2_with fail
  go_loopw [5, 6, 13] (fun y z q wr => ∃ (i : Nat) (A1 : Option Addr) (n1 c1 : Nat) (A2 : Option Addr) (c2 : Nat), i ≤ n ∧ y = .slice A1 n1 c1 ∧ z = .slice A2 i c2 ∧ q = .int .i64 i ∧ JoinRel w ls i wr A1 n1 c1 A2 c2) (fun _ _ q _ => n - (intOf q).toNat)
  case atStart => exact ⟨0, none, 0, 0, none, 0, Nat.zero_le _, rfl, rfl, rfl, R0.out⟩
  case round =>
    obtain ⟨i, A1, n1, c1, A2, c2, hin, rfl, rfl, rfl, R⟩ := hrel
    have HR := Lib.hid R
    clear R R0
    by_cases hlt : i < n
    · obtain ⟨g, off, hA, hc⟩ := (HB.out.below HR.out.bel).at_ (by omega)
      subst hA
      obtain ⟨hc0, hby⟩ := hc i hlt
      obtain ⟨B, m, d, hv⟩ : ∃ B m d, vs.getD i sl0 = (B, m, d) := ⟨_, _, _, rfl⟩
      rw [hv] at hc0 hby
      obtain ⟨b, hb⟩ : ∃ b, ls.getD i [] = b := ⟨_, rfl⟩
      rw [hb] at hby
      have CS := Lib.hid (seal_any B m d b wr hby (HT.out.ret HR.out.bel))
      have hil : i < ls.length := by rw [hlen]; exact hlt
      have hbl : b.length = m := hby.len
      have hbmem : b ∈ ls := by rw [← hb]; have e : ls.getD i [] = ls[i] := by simp [List.getD, List.getElem?_eq_getElem hil]
                                rw [e]; exact List.getElem_mem hil
      have hn1 : (allL (ls.take i)).length = n1 := by have := HR.out.all.1; simpa using this
      have hn1' := allL_le _ HR.out.ok
      rw [hn1, List.length_take] at hn1'
      have HBB := Lib.hid hb
      clear hc hv hby hb hn1
      go_wp2_with fail
      refine CS.out.mono ?_
      intro e w2 hp
      unfold SealPost at hp
      by_cases hlong : 4096 < b.length
      · rw [if_pos hlong] at hp
        obtain ⟨A3, n3, c3, rfl, _, _, b2⟩ := hp
        have RR : Hid (RetJoin ls w (.returned (.tuple #[.slice none 0 0, .slice none 0 0, .int .i64 12])) w2) := Lib.hid (.inl ⟨⟨b, hbmem, hlong⟩, rfl, HR.out.bel.trans (b2.mono HR.out.bel.size)⟩)
        clear b2 CS HR HB
        go_wp2_with fail
        go_ret3
        exact RR.out
      · rw [if_neg hlong] at hp
        obtain ⟨A3, n3, c3, rfl, ho3, hr3, b2⟩ := hp
        have hb3 := Bty.of_own ho3 hr3
        have hn3 : n3 ≤ 4110 := by have := hb3.byt.len; have := sealL_le b (by omega); omega
        have H3 := Lib.hid hb3
        have B2 := Lib.hid b2
        have O2 : Hid (∀ o, (w2.alloc o).ownsRow w.heap.size 3 1 (.slice A2 i c2) i (((List.range i).map (bgn ls)).flatMap intV)) := Lib.hid (fun o => own_stay HR.out.bgs (fun q hq => ((Below.then b2 ((Below.refl w2.heap.size w2).alloc (Nat.le_refl _) o))).block q (HR.out.bgs.lt q hq).2))
        have BS : Hid (∀ o, w.heap.size ≤ (w2.alloc o).heap.size) := Lib.hid (fun o => Nat.le_trans (Nat.le_trans HR.out.bel.size b2.size) (by simp))
        have S1 := Lib.hid (fun (A2' : Option Addr) (c2' : Nat) (w3 : World) (o : Obj) k1 k2 => HR.out.step1 (w2 := w2.alloc o) (A2' := A2') (c2' := c2') (w3 := w3) hil (Below.then b2 ((Below.refl w2.heap.size w2).alloc (Nat.le_refl _) o)) k1 k2)
        clear hb3 ho3 hr3 b2 CS
        go_wp2_with (at_builtin; refine wpList_append_1 rfl _ _ 66 rfl w.heap.size 3 j0 _ 1 8 Tryd.underlying66 hj0 hy0 hy1 hy2 (by rfl) (by omega) (by rfl) (O2.out _) (g := w2.heap.size) (cs := #[.int .i64 (n1 : Int)]) (by rfl) (Bk.new _ _ _) (by rfl) (by intro u hu; simp at hu; subst hu; rfl) (by omega) (by omega) (BS.out _) ?_)
        intro A4 c4 w3 k1 k2 _
        obtain ⟨a3, b3, bel3, bel3'⟩ := S1.out A4 c4 w3 _ k1 k2
        have H4 := ((H3.out.below ((Below.refl w2.heap.size w2).alloc (Nat.le_refl _) _)).apart (O2.out _) (by decide) k2).byt
        have S2 := Lib.hid (fun (A' : Option Addr) (n' c' : Nat) (w4 : World) q1 q2 => JoinRel.step2 (w4 := w4) (A' := A') (n' := n') (c' := c') a3 b3 bel3 HR.out.ok hil HBB.out (by omega) q1 q2)
        have HA3 := Lib.hid a3
        have HBS := bel3.size
        clear k1 k2 a3 b3 bel3 bel3' S1 O2 BS B2 H3
        go_wp2_with (at_builtin; refine wpList_append_byt rfl _ _ 24 rfl w.heap.size 5 i0 Tryd.underlying24 hi hz0 hz1 hz2 _ n1 (allL (ls.take i)) rfl (by exact HA3.out) A3 n3 c3 (sealL b) rfl H4 (by omega) HBS ?_)
        intro A5 c5 w5 k1 k2
        have NR := Lib.hid (S2.out A5 (n1 + n3) c5 w5 (by rw [List.map_append]; exact k1) k2)
        clear k1 k2 S2 HA3 H4 HR HB
        go_wp2_with fail
        go_roundw
        case rel => exact ⟨i + 1, A5, n1 + n3, c5, A4, c4, by omega, by go_num, by go_num, by go_num, NR.out⟩
        case measure => simp [intOf]; omega
    · have hie : i = n := by omega
      subst hie
      have e1 : ls.take i = ls := List.take_of_length_le (by omega)
      have RR : Hid (RetJoin ls w (.returned (.tuple #[.slice A1 n1 c1, .slice A2 i c2, .int .i64 0])) wr) := Lib.hid (.inr ⟨by have := HR.out.ok; rwa [e1] at this, A1, n1, c1, A2, i, c2, rfl, by have := HR.out.all; rwa [e1] at this, by have := HR.out.bgs; rw [← hlen] at this ⊢; exact Flt.of_own this, hlen.symm, HR.out.bel⟩)
      clear HR HB
      go_wp2_with fail
      go_ret3
      exact RR.out
end Go.Proofs.YtljpnngknmpdoaaDoor

/- sheet.cut; the statements' own, great, ended. -/
namespace Go.Proofs.YtljpnngknmpdoaaDoor
open Go.RowKit

def partL (l : List Int) (i : Nat) : List Int := (l.drop (242 * i)).take 242
def partsL (l : List Int) : List (List Int) := (List.range (shN l.length)).map (partL l)

/-- Bodies in new memory. -/
def RetBods (ls : List (List Int)) (w : World) (e : Ending) (w' : World) : Prop := ∃ A n c vs, e = .returned (.slice A n c) ∧ Bods w' A n c ls vs ∧ Below w.heap.size w w'

/-- A row of slices that is gathered. -/
structure GatS (w : World) (f : Nat → List Int) (i : Nat) (wr : World) (A : Option Addr) (c : Nat) (vs : List (Option Addr × Nat × Nat)) : Prop where
  own : wr.ownsRow w.heap.size 24 1 (.slice A i c) i (vs.flatMap slV)
  len : vs.length = i
  each : ∀ j, j < i → Bty wr (vs.getD j sl0).1 (vs.getD j sl0).2.1 (vs.getD j sl0).2.2 (f j)
  bel : Below w.heap.size w wr
theorem GatS.start (w : World) (f : Nat → List Int) : GatS w f 0 w none 0 [] := ⟨World.ownsRow_nil _ _ _ _, rfl, fun j hj => absurd hj (by omega), Below.refl _ _⟩
theorem GatS.next {w wr w2 w3 : World} {f : Nat → List Int} {i c c' : Nat} {A A' : Option Addr} {vs : List (Option Addr × Nat × Nat)} {B : Option Addr} {m d : Nat} (h : GatS w f i wr A c vs) (hb : Below wr.heap.size wr w2) (hB : Bty w2 B m d (f i))
    (k1 : w3.ownsRow w.heap.size 24 1 (.slice A' (i + 1) c') (i + 1) (vs.flatMap slV ++ (#[Value.slice B m d] : Array Value).toList)) (k2 : w2.grownBy w3 (Value.slice A i c).ownBlock) : GatS w f (i + 1) w3 A' c' (vs ++ [(B, m, d)]) := by
  have o2 := own_stay (w' := w2) h.own (fun q hq => hb.block q (h.own.lt q hq).2)
  refine ⟨by rw [List.flatMap_append]; simpa [slV] using k1, by simp [h.len], fun j hj => ?_, h.bel.trans ((hb.mono h.bel.size).grown k2 (Nat.le_trans h.bel.size hb.size) (fun q hq => (o2.lt q hq).1))⟩
  by_cases hji : j < i
  · have e : (vs ++ [(B, m, d)]).getD j sl0 = vs.getD j sl0 := by simp [List.getD, List.getElem?_append_left (show j < vs.length by rw [h.len]; exact hji)]
    rw [e]
    exact ((h.each j hji).below hb).apart o2 (by decide) k2
  · obtain rfl : j = i := by omega
    have e : (vs ++ [(B, m, d)]).getD j sl0 = (B, m, d) := by
      have : (vs ++ [(B, m, d)]).getD vs.length sl0 = (B, m, d) := by simp
      rw [h.len] at this
      exact this
    rw [e]
    exact hB.apart o2 (by decide) k2
theorem GatS.bods {w wr : World} {f : Nat → List Int} {i c : Nat} {A : Option Addr} {vs : List (Option Addr × Nat × Nat)} (h : GatS w f i wr A c vs) (ls : List (List Int)) (hl : ls.length = i) (hf : ∀ j, j < i → ls.getD j [] = f j) : Bods wr A i c ls vs :=
  ⟨Flt.of_own h.own, h.len, hl, fun j hj => by rw [hf j hj]; exact (h.each j hj).byt⟩

theorem parts_get (l : List Int) (j : Nat) (h : j < shN l.length) : (partsL l).getD j [] = partL l j := by
  unfold partsL
  simp [List.getD, h]

set_option maxRecDepth 100000 in
set_option maxHeartbeats 4000000 in
theorem cut_any (A : Option Addr) (n c : Nat) (l : List Int) (w : World) (h : Bty w A n c l) (hn : n ≤ 10000000) : Calls Tryd.prog 33 #[.slice A n c] w (RetBods (partsL l) w) := by
  obtain ⟨j0, hj0, hy0, hy1, hy2⟩ := info_parts info_slJ
  have hcap := h.byt.cap
  have hmax := h.byt.max
  unfold maxLen at hmax
  have hlen := h.byt.len
  have R0 := Lib.hid (GatS.start w (partL l))
  have HB := Lib.hid h
  clear h
  go_enter Tryd.func33, Tryd.ntmps33
  go_wp2_with fail
  go_loopw [3, 4] (fun y q wr => ∃ (i : Nat) (A1 : Option Addr) (c1 : Nat) (vs : List (Option Addr × Nat × Nat)), i ≤ shN n ∧ y = .slice A1 i c1 ∧ q = .int .i64 ((242 * i : Nat) : Int) ∧ GatS w (partL l) i wr A1 c1 vs) (fun _ q _ => 242 * shN n - (intOf q).toNat)
  case atStart => exact ⟨0, none, 0, [], Nat.zero_le _, rfl, rfl, R0.out⟩
  case round =>
    obtain ⟨i, A1, c1, vs, hin, rfl, rfl, R⟩ := hrel
    have HR := Lib.hid R
    clear R R0
    obtain ⟨fr, hfr⟩ : ∃ fr, 242 * i = fr := ⟨_, rfl⟩
    rw [hfr]
    by_cases hlt : fr < n
    · obtain ⟨k, hk⟩ : ∃ k, min (fr + 242) n = k := ⟨_, rfl⟩
      have hmin : min ((fr : Int) + 242) (n : Int) = (k : Int) := by omega
      have hkn : k ≤ n := by omega
      have hjk : fr ≤ k := by omega
      have hB := HB.out.below HR.out.bel
      have CP := part_any A n c l wr hB fr k hjk hkn
      have e : (l.drop fr).take (k - fr) = partL l i := by
        unfold partL
        rw [hfr]
        by_cases q : fr + 242 ≤ n
        · congr 1; omega
        · rw [List.take_of_length_le (by rw [List.length_drop]; omega), List.take_of_length_le (by rw [List.length_drop]; omega)]
      rw [e] at CP
      have CP := Lib.hid CP
      have hi1 : i + 1 ≤ shN n := by unfold shN; omega
      have hi2 : i ≤ 1000000 := by unfold shN at hi1; omega
      have HFR := Lib.hid hfr
      clear hB hk e hfr
      go_wp2_with fail
      refine CP.out.mono ?_
      rintro e w2 ⟨B, rfl, hB2, rfl⟩
      have O2 : Hid (∀ o, (wr.alloc o).ownsRow w.heap.size 24 1 (.slice A1 i c1) i (vs.flatMap slV)) := Lib.hid (fun o => own_stay HR.out.own (fun q hq => ((Below.refl wr.heap.size wr).alloc (Nat.le_refl _) o).block q (HR.out.own.lt q hq).2))
      have BS : Hid (∀ o, w.heap.size ≤ (wr.alloc o).heap.size) := Lib.hid (fun o => Nat.le_trans HR.out.bel.size (by simp))
      have NX := Lib.hid (fun (A' : Option Addr) (c' : Nat) (w3 : World) (o : Obj) k1 k2 => HR.out.next (w2 := wr.alloc o) (A' := A') (c' := c') (w3 := w3) ((Below.refl wr.heap.size wr).alloc (Nat.le_refl _) o) (hB2.below ((Below.refl wr.heap.size wr).alloc (Nat.le_refl _) o)) k1 k2)
      clear hB2 CP
      go_wp2_with (at_builtin; refine wpList_append_1 rfl _ _ 37 rfl w.heap.size 24 j0 _ 1 24 Tryd.underlying37 hj0 hy0 hy1 hy2 (by rfl) (by omega) (by rfl) (O2.out _) (g := wr.heap.size) (cs := #[.slice B (k - fr) (k - fr)]) (by rfl) (Bk.new _ _ _) (by rfl) (by intro u hu; simp at hu; subst hu; rfl) hi2 (by omega) (BS.out _) ?_)
      intro A4 c4 w3 k1 k2 _
      have NR := Lib.hid (NX.out A4 c4 w3 _ k1 k2)
      have HF := HFR.out
      clear k1 k2 NX O2 BS HR HB
      go_wp2_with fail
      go_roundw
      case rel => exact ⟨i + 1, A4, c4, _, hi1, by go_num, by rw [show 242 * (i + 1) = fr + 242 by omega]; go_num, NR.out⟩
      case measure => simp [intOf]; omega
    · have hie : i = shN n := by unfold shN at hin ⊢; omega
      have RR : Hid (RetBods (partsL l) w (.returned (.slice A1 i c1)) wr) := Lib.hid ⟨A1, i, c1, vs, rfl, HR.out.bods (partsL l) (by simp [partsL, hlen, hie]) (fun j hj => parts_get l j (by rw [hlen, ← hie]; exact hj)), HR.out.bel⟩
      clear HR HB hfr hie
      go_wp2_with fail
      go_ret
      exact RR.out

set_option maxRecDepth 100000 in
set_option maxHeartbeats 4000000 in
theorem own8_any (A : Option Addr) (n c : Nat) (ls : List (List Int)) (vs : List (Option Addr × Nat × Nat)) (w : World) (h : Bods w A n c ls vs) (hn : n ≤ 1000) (hl : ∀ b ∈ ls, b.length ≤ 1000000) : Calls Tryd.prog 16 #[.slice A n c] w (RetBods ls w) := by
  obtain ⟨i0, hi, hz0, hz1, hz2⟩ := info_parts info_u8
  obtain ⟨j0, hj0, hy0, hy1, hy2⟩ := info_parts info_slJ
  have hcap := h.flt.cap
  have hmax := h.flt.max
  unfold maxLen at hmax
  have R0 := Lib.hid (GatS.start w (fun j => ls.getD j []))
  have HL := Lib.hid hl
  have HB := Lib.hid h
  have hlen := h.len
  clear h hl
  go_enter Tryd.func16, Tryd.ntmps16
  go_wp2_with fail
  go_loopw [3, 4] (fun y q wr => ∃ (i : Nat) (A1 : Option Addr) (c1 : Nat) (us : List (Option Addr × Nat × Nat)), i ≤ n ∧ y = .slice A1 i c1 ∧ q = .int .i64 i ∧ GatS w (fun j => ls.getD j []) i wr A1 c1 us) (fun _ q _ => n - (intOf q).toNat)
  case atStart => exact ⟨0, none, 0, [], Nat.zero_le _, rfl, rfl, R0.out⟩
  case round =>
    obtain ⟨i, A1, c1, us, hin, rfl, rfl, R⟩ := hrel
    have HR := Lib.hid R
    clear R R0
    by_cases hlt : i < n
    · obtain ⟨g, off, hA, hc⟩ := (HB.out.below HR.out.bel).at_ (by omega)
      subst hA
      obtain ⟨hc0, hby⟩ := hc i hlt
      obtain ⟨B, m, d, hv⟩ : ∃ B m d, vs.getD i sl0 = (B, m, d) := ⟨_, _, _, rfl⟩
      rw [hv] at hc0 hby
      obtain ⟨b, hb⟩ : ∃ b, ls.getD i [] = b := ⟨_, rfl⟩
      rw [hb] at hby
      have hil : i < ls.length := by rw [hlen]; exact hlt
      have hbmem : b ∈ ls := by
        have e : ls.getD i [] = ls[i] := by simp [List.getD, List.getElem?_eq_getElem hil]
        rw [← hb, e]
        exact List.getElem_mem hil
      have hbl := HL.out b hbmem
      have hbm : b.length = m := hby.len
      have hown0 := World.ownsRow_made (base := wr.heap.size) (e := 5) (size := 1) wr #[] 0 (Nat.le_refl _) (Nat.zero_le _) rfl
      have HBB := hby.alloc (.cells #[] 5)
      have c0 : (wr.alloc (.cells #[] 5)).cell? ⟨g, off + i, none⟩ = some (.slice B m d) := by
        have hbl' : Below wr.heap.size wr (wr.alloc (.cells #[] 5)) := (Below.refl _ _).alloc (Nat.le_refl _) _
        exact (hbl'.cell (World.block_lt_of_cell? wr _ hc0)).trans hc0
      have EB := Lib.hid hb
      have hrng := hby.rng
      have HRNG := Lib.hid hrng
      clear hc hv hby hb hbmem hc0 hrng
      go_wp2_with (at_builtin; refine wpList_append_byt rfl _ _ 24 rfl wr.heap.size 5 i0 Tryd.underlying24 hi hz0 hz1 hz2 _ 0 [] rfl (by exact hown0) B m d b rfl HBB (by omega) (by simp) ?_)
      intro B2 d2 w2 k1 k2
      have bel2 : Below wr.heap.size wr w2 := ((Below.refl _ _).alloc (Nat.le_refl _) _).grown k2 (by simp) (fun q hq => by simp [Value.ownBlock] at hq; omega)
      have hB2 : Bty w2 B2 (0 + m) d2 b := Bty.of_own (by simpa using k1) HRNG.out
      rw [Nat.zero_add] at hB2
      have O2 : Hid (∀ o, (w2.alloc o).ownsRow w.heap.size 24 1 (.slice A1 i c1) i (us.flatMap slV)) := Lib.hid (fun o => own_stay HR.out.own (fun q hq => (Below.then bel2 ((Below.refl w2.heap.size w2).alloc (Nat.le_refl _) o)).block q (HR.out.own.lt q hq).2))
      have BS : Hid (∀ o, w.heap.size ≤ (w2.alloc o).heap.size) := Lib.hid (fun o => Nat.le_trans (Nat.le_trans HR.out.bel.size bel2.size) (by simp))
      have NX := Lib.hid (fun (A' : Option Addr) (c' : Nat) (w3 : World) (o : Obj) k1 k2 => HR.out.next (w2 := w2.alloc o) (A' := A') (c' := c') (w3 := w3) (Below.then bel2 ((Below.refl w2.heap.size w2).alloc (Nat.le_refl _) o)) (by rw [EB.out]; exact hB2.below ((Below.refl w2.heap.size w2).alloc (Nat.le_refl _) o)) k1 k2)
      clear k1 k2 bel2 hB2 HBB hown0 c0
      go_wp2_with (at_builtin; refine wpList_append_1 rfl _ _ 37 rfl w.heap.size 24 j0 _ 1 24 Tryd.underlying37 hj0 hy0 hy1 hy2 (by rfl) (by omega) (by rfl) (O2.out _) (g := w2.heap.size) (cs := #[.slice B2 m d2]) (by rfl) (Bk.new _ _ _) (by rfl) (by intro u hu; simp at hu; subst hu; rfl) (by omega) (by omega) (BS.out _) ?_)
      intro A4 c4 w3 k1 k2 _
      have NR := Lib.hid (NX.out A4 c4 w3 _ k1 k2)
      clear k1 k2 NX O2 BS HR HB
      go_wp2_with fail
      go_roundw
      case rel => exact ⟨i + 1, A4, c4, _, by omega, by go_num, by go_num, NR.out⟩
      case measure => simp [intOf]; omega
    · have hie : i = n := by omega
      subst hie
      have RR : Hid (RetBods ls w (.returned (.slice A1 i c1)) wr) := Lib.hid ⟨A1, i, c1, us, rfl, HR.out.bods ls hlen (fun j hj => rfl), HR.out.bel⟩
      clear HR HB
      go_wp2_with fail
      go_ret
      exact RR.out

/-- More than is played? -/
def greatB (ls : List (List Int)) : Bool := decide (40 < ls.length) || ls.any fun b => decide (1500 < b.length)
theorem greatB_no {ls : List (List Int)} (h : greatB ls = false) : ls.length ≤ 40 ∧ ∀ b ∈ ls, b.length ≤ 1500 := by
  unfold greatB at h
  simp only [Bool.or_eq_false_iff, decide_eq_false_iff_not, List.any_eq_false, decide_eq_true_eq, Nat.not_lt] at h
  exact h

set_option maxHeartbeats 1000000 in
theorem great8_any (A : Option Addr) (n c : Nat) (ls : List (List Int)) (vs : List (Option Addr × Nat × Nat)) (w : World) (h : Bods w A n c ls vs) :
    Calls Tryd.prog 14 #[.slice A n c] w (Qs (.bool (greatB ls)) w) := by
  have hlen := h.len
  have hcap := h.flt.cap
  have hmax := h.flt.max
  unfold maxLen at hmax
  by_cases h40 : (40 : Int) < (n : Int)
  · have hl : greatB ls = true := by unfold greatB; simp; left; omega
    rw [hl]
    clear h hl
    go_enter Tryd.func14, Tryd.ntmps14
    go_wp2_with fail
    go_ret
    exact ⟨rfl, rfl⟩
  · by_cases hn : 0 < n
    · obtain ⟨g, off, rfl, hc⟩ := h.at_ hn
      have HC := Lib.hid hc
      clear h hc
      go_enter Tryd.func14, Tryd.ntmps14
      go_wp2_with fail
      go_loop [3] (fun q => ∃ i : Nat, i ≤ n ∧ q = .int .i64 i ∧ ∀ j, j < i → (ls.getD j []).length ≤ 1500) (fun q => n - (intOf q).toNat)
      case atStart => exact ⟨0, Nat.zero_le _, rfl, fun j hj => absurd hj (by omega)⟩
      case round =>
        obtain ⟨i, hin, rfl, hall⟩ := hrel
        have HA := Lib.hid hall
        clear hall
        by_cases hlt : i < n
        · obtain ⟨hx, hby⟩ := HC.out i hlt
          obtain ⟨B, m, d, hv⟩ : ∃ B m d, vs.getD i sl0 = (B, m, d) := ⟨_, _, _, rfl⟩
          rw [hv] at hx hby
          have hbm := hby.len
          simp only at hbm hx
          have HBM := Lib.hid hbm
          have hj : i < ls.length := by omega
          clear hby hv hbm
          by_cases h3 : (1500 : Int) < (m : Int)
          · have hl : greatB ls = true := by
              unfold greatB
              simp only [Bool.or_eq_true, List.any_eq_true, decide_eq_true_eq]
              refine .inr ⟨ls[i], List.getElem_mem hj, ?_⟩
              have e : ls.getD i [] = ls[i] := by simp [List.getD, List.getElem?_eq_getElem hj]
              rw [← e, HBM.out]
              omega
            have HL := Lib.hid hl
            clear hl
            go_wp2_with fail
            go_ret
            exact ⟨by rw [HL.out]; rfl, rfl⟩
          · have HN : Hid (∀ j, j < i + 1 → (ls.getD j []).length ≤ 1500) := Lib.hid (fun j hj => by
              by_cases he : j < i
              · exact HA.out j he
              · obtain rfl : j = i := by omega
                rw [HBM.out]; omega)
            go_wp2_with fail
            go_round
            case rel => exact ⟨i + 1, by omega, by go_num, HN.out⟩
            case measure => simp [intOf]; omega
        · have hin : i = n := by omega
          have hl : greatB ls = false := by
            unfold greatB
            simp only [Bool.or_eq_false_iff, decide_eq_false_iff_not, List.any_eq_false, decide_eq_true_eq, Nat.not_lt]
            refine ⟨by omega, fun x hx => ?_⟩
            obtain ⟨j, hj, rfl⟩ := List.getElem_of_mem hx
            have := HA.out j (by omega)
            simpa [List.getD, List.getElem?_eq_getElem hj] using this
          have HL := Lib.hid hl
          clear hl hin
          go_wp2_with fail
          go_ret
          exact ⟨by rw [HL.out]; rfl, rfl⟩
    · have h0 : n = 0 := by omega
      subst h0
      have e : ls = [] := List.eq_nil_of_length_eq_zero h.len
      subst e
      clear h hn
      go_enter Tryd.func14, Tryd.ntmps14
      go_wp2_with fail
      refine wp_loop_rounds 1 ?_
      rw [rounds_succ]
      go_wp2_with fail
      go_ret
      exact ⟨rfl, rfl⟩
end Go.Proofs.YtljpnngknmpdoaaDoor

/- slices.Concat of slices of bytes; sheet.isStorable, trothref08.May. -/
namespace Go.Proofs.YtljpnngknmpdoaaDoor
open Go.RowKit

/-- How many bytes the first k slices have. -/
def sumLen (ls : List (List Int)) (k : Nat) : Nat := ((ls.take k).flatMap id).length
theorem sumLen_zero (ls : List (List Int)) : sumLen ls 0 = 0 := by simp [sumLen]
theorem sumLen_next (ls : List (List Int)) (k : Nat) (h : k < ls.length) : sumLen ls (k + 1) = sumLen ls k + (ls.getD k []).length := by
  unfold sumLen
  rw [take_succ_getD ls [] k h, List.flatMap_append, List.length_append]
  simp

set_option maxRecDepth 100000 in
set_option maxHeartbeats 4000000 in
/-- A new row with room for n bytes. -/
theorem grow_nil (n : Nat) (w : World) (h0 : 0 < n) (hn : n ≤ 1000000) : Calls Tryd.prog 41 #[.slice none 0 0, .int .i64 n] w
    (fun e w' => ∃ cap, e = .returned (.slice (some ⟨w.heap.size, 0, none⟩) 0 cap) ∧ w'.ownsRow w.heap.size 5 1 (.slice (some ⟨w.heap.size, 0, none⟩) 0 cap) 0 [] ∧ Below w.heap.size w w') := by
  obtain ⟨i0, hi, hz0, hz1, hz2⟩ := info_parts info_u8
  have hrun := fun (ty : TypeId) => Lib.run_append_nil_zeros (P := Tryd.prog) w 24 3 ty 5 i0 (.int .u8 0) .i64 .i64 Tryd.underlying24 Tryd.underlying3 hi hz0 n h0 (by omega) (by omega) (by rw [hz2]; omega)
  have hge := grownCap_ge w n 0 5
  have hcm : grownCap w n 0 5 ≤ maxLen := grownCap_le_maxLen w n 0 5 (by unfold maxLen; omega)
  obtain ⟨cap, hcap⟩ : ∃ cap, grownCap w n 0 5 = cap := ⟨_, rfl⟩
  rw [hcap] at hrun hge hcm
  obtain ⟨W, hW⟩ : ∃ W, W = w.drew.alloc (.cells (Builtin.zeroCells (Value.int .u8 0).cells n ++ Builtin.zeroCells (Value.int .u8 0).cells (cap - n)) 5) := ⟨_, rfl⟩
  rw [← hW] at hrun
  have R : Hid (W.ownsRow w.heap.size 5 1 (.slice (some ⟨w.heap.size, 0, none⟩) 0 cap) 0 [] ∧ Below w.heap.size w W) := Lib.hid (by
    rw [hW]
    refine ⟨⟨by simp, .inr ⟨w.heap.size, cap, _, rfl, Nat.le_refl _, heap_alloc_new w.drew _, Nat.zero_le _, hcm, ?_, by simp⟩⟩, (Below.refl _ w).drew.alloc (Nat.le_refl _) _⟩
    simp only [Array.size_append, size_zeroCells, Value.cells]
    simp
    omega)
  have hn0 : (0 : Int) < (n : Int) := by omega
  have hcm' := hcm
  unfold maxLen at hcm'
  clear hW hcap hcm
  go_enter Tryd.func41, Tryd.ntmps41
  go_wp2_with (at_builtin; refine Lib.wpList_append_run _ rfl _ _ 24 3 rfl _ _ rfl rfl _ _ (hrun _) ?_)
  go_wp2_with fail
  go_ret
  exact ⟨cap, rfl, R.out.1, R.out.2⟩

set_option maxRecDepth 100000 in
set_option maxHeartbeats 4000000 in
theorem concat_any (A : Option Addr) (n c : Nat) (ls : List (List Int)) (vs : List (Option Addr × Nat × Nat)) (w : World) (h : Bods w A n c ls vs) (hn : n ≤ 100) (hl : ∀ b ∈ ls, b.length ≤ 1000) (h0 : 0 < sumLen ls n) :
    Calls Tryd.prog 26 #[.slice A n c] w (RetOwn (ls.flatMap id) w) := by
  obtain ⟨i0, hi, hz0, hz1, hz2⟩ := info_parts info_u8
  have hcap := h.flt.cap
  have hmax := h.flt.max
  unfold maxLen at hmax
  have HB := Lib.hid h
  have hlen := h.len
  have hbnd : ∀ k, k ≤ n → sumLen ls k ≤ 1000 * k := by
    intro k
    induction k with
    | zero => intro _; rw [sumLen_zero]; omega
    | succ k ih =>
      intro hk
      have hkl : k < ls.length := by omega
      rw [sumLen_next ls k hkl]
      have := ih (by omega)
      have e : ls.getD k [] = ls[k] := by simp [List.getD, List.getElem?_eq_getElem hkl]
      have := hl _ (List.getElem_mem hkl)
      rw [e]
      omega
  have HBD := Lib.hid hbnd
  have hnt := hbnd n (Nat.le_refl _)
  have HL := Lib.hid hl
  obtain ⟨T, hT⟩ : ∃ T, sumLen ls n = T := ⟨_, rfl⟩
  rw [hT] at h0 hnt
  have HT := Lib.hid hT
  clear h hbnd hl hT
  go_enter Tryd.func26, Tryd.ntmps26
  go_wp2_with fail
  go_loopw [3, 11] (fun y q wr => ∃ (k : Nat), k ≤ n ∧ y = .int .i64 ((sumLen ls k : Nat) : Int) ∧ q = .int .i64 k ∧ wr = w) (fun _ q _ => n - (intOf q).toNat)
  case atStart => exact ⟨0, Nat.zero_le _, by rw [sumLen_zero]; rfl, rfl, rfl⟩
  case round =>
    obtain ⟨k, hkn, rfl, rfl, rfl⟩ := hrel
    by_cases hlt : k < n
    · obtain ⟨g, off, hA, hc⟩ := HB.out.at_ (by omega)
      subst hA
      obtain ⟨hx, hby⟩ := hc k hlt
      obtain ⟨B, m, d, hv⟩ : ∃ B m d, vs.getD k sl0 = (B, m, d) := ⟨_, _, _, rfl⟩
      rw [hv] at hx hby
      have hkl : k < ls.length := by omega
      have hnx := sumLen_next ls k hkl
      have hb1 := HBD.out (k + 1) (by omega)
      have hbm := hby.len
      simp only at hbm hx
      rw [hbm] at hnx
      obtain ⟨a, ha⟩ : ∃ a, sumLen ls k = a := ⟨_, rfl⟩
      obtain ⟨a2, ha2⟩ : ∃ a, sumLen ls (k + 1) = a := ⟨_, rfl⟩
      rw [ha, ha2] at hnx
      rw [ha2] at hb1
      rw [ha]
      have H2 := Lib.hid ha2
      clear hby hv hbm ha ha2 hc
      go_wp2_with fail
      go_roundw
      case rel => exact ⟨k + 1, by omega, by rw [H2.out, hnx]; go_num, by go_num, trivial⟩
      case measure => simp [intOf]; omega
    · have hke : k = n := by omega
      subst hke
      rw [HT.out]
      have CG := Lib.hid (grow_nil T wr h0 (by omega))
      clear hlt
      go_wp2_with fail
      refine CG.out.mono ?_
      rintro e w1 ⟨cap, rfl, ho1, b1⟩
      have R0 : Hid (w1.ownsRow wr.heap.size 5 1 (.slice (some ⟨wr.heap.size, 0, none⟩) 0 cap) 0 (((ls.take 0).flatMap id).map (Value.int .u8)) ∧ Below wr.heap.size wr w1) := Lib.hid ⟨by simpa using ho1, b1⟩
      obtain ⟨wi, hwi⟩ : ∃ x, x = wr := ⟨_, rfl⟩
      subst hwi
      clear ho1 b1 CG
      go_wp2_with fail
      go_loopw [6, 27] (fun y q wr => ∃ (j : Nat) (A1 : Option Addr) (c1 : Nat), j ≤ k ∧ y = .slice A1 (sumLen ls j) c1 ∧ q = .int .i64 j ∧ wr.ownsRow wi.heap.size 5 1 (.slice A1 (sumLen ls j) c1) (sumLen ls j) (((ls.take j).flatMap id).map (Value.int .u8)) ∧ Below wi.heap.size wi wr) (fun _ q _ => k - (intOf q).toNat)
      case atStart => exact ⟨0, some ⟨wi.heap.size, 0, none⟩, cap, Nat.zero_le _, by rw [sumLen_zero], rfl, by rw [sumLen_zero]; exact R0.out.1, R0.out.2⟩
      case round =>
        obtain ⟨j, A1, c1, hjn, rfl, rfl, hown, hbel⟩ := hrel
        clear R0
        by_cases hlt : j < k
        · obtain ⟨g, off, hA, hc⟩ := (HB.out.below hbel).at_ (by omega)
          subst hA
          obtain ⟨hx, hby⟩ := hc j hlt
          obtain ⟨B, m, d, hv⟩ : ∃ B m d, vs.getD j sl0 = (B, m, d) := ⟨_, _, _, rfl⟩
          rw [hv] at hx hby
          have hjl : j < ls.length := by omega
          obtain ⟨b, hb⟩ : ∃ b, ls.getD j [] = b := ⟨_, rfl⟩
          have hnx := sumLen_next ls j hjl
          have hb1 := HBD.out (j + 1) (by omega)
          rw [hb] at hby hnx
          have hbm : b.length = m := hby.len
          rw [hbm] at hnx
          obtain ⟨a, ha⟩ : ∃ a, sumLen ls j = a := ⟨_, rfl⟩
          obtain ⟨a2, ha2⟩ : ∃ a, sumLen ls (j + 1) = a := ⟨_, rfl⟩
          rw [ha, ha2] at hnx
          rw [ha2] at hb1
          rw [ha] at hown ⊢
          have H2 := Lib.hid ha2
          have HO := Lib.hid hown
          have HBE := Lib.hid hbel
          have HE : Hid ((ls.take (j + 1)).flatMap id = (ls.take j).flatMap id ++ b) := Lib.hid (by rw [take_succ_getD ls [] j hjl, List.flatMap_append, hb]; simp)
          have hbs := hbel.size
          have HBY := Lib.hid hby
          obtain ⟨acc, hacc⟩ : ∃ l, (ls.take j).flatMap id = l := ⟨_, rfl⟩
          rw [hacc] at HO HE
          clear hby hv hbm ha ha2 hc hb hown hbel hacc
          go_wp2_with (at_builtin; refine wpList_append_byt rfl _ _ 24 rfl wi.heap.size 5 i0 Tryd.underlying24 hi hz0 hz1 hz2 _ a acc rfl (by exact HO.out) B m d b rfl HBY.out (by omega) hbs ?_)
          intro A2 c2 w2 k1 k2
          have NR : Hid (w2.ownsRow wi.heap.size 5 1 (.slice A2 (a + m) c2) (a + m) (((ls.take (j + 1)).flatMap id).map (Value.int .u8)) ∧ Below wi.heap.size wi w2) := Lib.hid ⟨by rw [HE.out, List.map_append]; exact k1, HBE.out.grown k2 hbs (fun q hq => (HO.out.lt q hq).1)⟩
          clear k1 k2 HO HBE HBY
          go_wp2_with fail
          go_roundw
          case rel => exact ⟨j + 1, A2, c2, by omega, by rw [H2.out, hnx], by go_num, by rw [H2.out, hnx]; exact NR.out.1, NR.out.2⟩
          case measure => simp [intOf]; omega
        · have hjk : j = k := by omega
          subst hjk
          have e : ls.take j = ls := List.take_of_length_le (by omega)
          rw [e] at hown
          have RR : Hid (RetOwn (ls.flatMap id) wi (.returned (.slice A1 (sumLen ls j) c1)) wr) := Lib.hid ⟨A1, _, c1, rfl, hown, fun x hx => by
            obtain ⟨b, hb, hx⟩ := List.mem_flatMap.1 hx
            exact HB.out.isB b hb x hx, hbel⟩
          clear hown hbel
          go_wp2_with fail
          go_ret
          exact RR.out
end Go.Proofs.YtljpnngknmpdoaaDoor

/- num.Wide hands back a number's big-endian bytes, or the error. -/
namespace Go.Proofs.YtljpnngknmpdoaaDoor
open Go.RowKit

theorem isWidth_yes (x : Int) (h1 : 1 ≤ x) (h2 : x ≤ 8) (w : World) : Calls Tryd.prog 40 #[.int .i64 x] w fun e w' => e = .returned (.bool true) ∧ w = w' := by
  go_enter Tryd.func40, Tryd.ntmps40
  go_wp2
  go_ret
  exact ⟨rfl, rfl⟩

theorem isWidth_no (x : Int) (h : x < 1 ∨ 8 < x) (w : World) : Calls Tryd.prog 40 #[.int .i64 x] w fun e w' => e = .returned (.bool false) ∧ w = w' := by
  rcases h with h | h
  · go_enter Tryd.func40, Tryd.ntmps40
    go_wp2
    go_ret
    exact ⟨rfl, rfl⟩
  · have h1 : 1 ≤ x := by omega
    have h2 : decide (x ≤ 8) = false := by simp; omega
    go_enter Tryd.func40, Tryd.ntmps40
    go_wp2
    go_ret
    exact ⟨rfl, rfl⟩

theorem pow256 (k : Nat) : (2 : Nat) ^ (8 * k) = 256 ^ k := by rw [Nat.pow_mul]

/-- What is filled in so far. -/
structure WideRel (n k : Nat) (w : World) (i : Nat) (cs : Array Value) (wr : World) : Prop where
  blk : Bk wr w.heap.size 5 cs
  size : cs.size = k
  cells : ∀ j, j < i → cs[k - 1 - j]? = some (.int .u8 ((wideL k n).getD (k - 1 - j) 0))
  bel : Below w.heap.size w wr

theorem WideRel.start (n k : Nat) (w : World) : WideRel n k w 0 (noughts k) (w.alloc (.cells (noughts k) 5)) :=
  ⟨Bk.new _ _ _, noughts_size k, (fun _ h => absurd h (by omega)), (Below.refl _ _).alloc (Nat.le_refl _) _⟩

theorem WideRel.step {n k : Nat} {w : World} {i : Nat} {cs : Array Value} {wr : World} (h : WideRel n k w i cs wr) (hi : i < k) {x : Int} (hx : x = (n : Int) / 2 ^ (8 * i) % 256) :
    WideRel n k w (i + 1) (cs.setIfInBounds (k - 1 - i) (.int .u8 x)) (wr.setCell ⟨w.heap.size, k - 1 - i, none⟩ (.int .u8 x)) := by
  have e : x = (wideL k n).getD (k - 1 - i) 0 := by
    have h2 : (n : Int) / 2 ^ (8 * i) = ((n / 2 ^ (8 * i) : Nat) : Int) := by simp
    rw [wideL_at k n i hi, hx, h2, pow256]
  refine ⟨h.blk.setc _ _, by simp [h.size], fun j hj => ?_, h.bel.setCell (Nat.le_refl _) _⟩
  rw [Array.getElem?_setIfInBounds]
  by_cases hji : j = i
  · subst hji
    rw [if_pos rfl, h.size, if_pos (by omega), e]
  · rw [if_neg (by omega)]
    exact h.cells j (by omega)

theorem WideRel.byt {n k : Nat} {w : World} {cs : Array Value} {wr : World} (h : WideRel n k w k cs wr) (hk : k ≤ 8) : Byt wr (some ⟨w.heap.size, 0, none⟩) k k (wideL k n) :=
  Byt.of_bk h.blk 0 k k _ (wideL_len k n) (Nat.le_refl _) (by unfold maxLen; omega) (wideL_rng k n) (fun i hi => by
    have := h.cells (k - 1 - i) (by omega)
    rw [show k - 1 - (k - 1 - i) = i from by omega] at this
    rw [Nat.zero_add]; exact this)

theorem fits_yes {n k : Nat} (h : n < 256 ^ k) : ((n : Int) / 2 ^ (8 * k) != 0) = false := by
  have h1 : n / 2 ^ (8 * k) = 0 := Nat.div_eq_of_lt (by rw [pow256]; exact h)
  have h2 : (n : Int) / 2 ^ (8 * k) = ((n / 2 ^ (8 * k) : Nat) : Int) := by simp
  rw [h2, h1]; rfl
theorem fits_no {n k : Nat} (h : ¬ n < 256 ^ k) : ((n : Int) / 2 ^ (8 * k) != 0) = true := by
  have hp : 0 < 2 ^ (8 * k) := Nat.pow_pos (by decide)
  have h1 : 0 < n / 2 ^ (8 * k) := Nat.div_pos (by rw [pow256]; omega) hp
  have h2 : (n : Int) / 2 ^ (8 * k) = ((n / 2 ^ (8 * k) : Nat) : Int) := by simp
  rw [h2]
  simp only [bne_iff_ne, ne_eq]
  omega

set_option maxHeartbeats 1000000 in
theorem numWide_yes (n k : Nat) (_hn : n < 18446744073709551616) (h1 : 1 ≤ k) (h2 : k ≤ 8) (hk : n < 256 ^ k) (w : World) :
    Calls Tryd.prog 25 #[.int .u64 n, .int .i64 k] w (RetByt2 (wideL k n) .i64 0 w) := by
  have hf := fits_yes hk
  have R0 := Lib.hid (WideRel.start n k w)
  have hm := make_bytes k (by omega)
  clear hk
  go_enter Tryd.func25, Tryd.ntmps25
  go_wp2_with (go_at_call 40; refine (isWidth_yes _ (by omega) (by omega) _).mono ?_; rintro e w1 ⟨rfl, rfl⟩)
  go_loopw [22] (fun s wr => ∃ (i : Nat) (cs : Array Value), i ≤ k ∧ s = .int .i64 i ∧ WideRel n k w i cs wr) (fun s _ => k - (intOf s).toNat)
  case atStart => exact ⟨0, _, Nat.zero_le _, rfl, R0.out⟩
  case round =>
    obtain ⟨i, cs, hik, rfl, R⟩ := hrel
    have HR := Lib.hid R
    clear R
    by_cases hlt : i < k
    · obtain ⟨u, hc⟩ : ∃ u, wr.cell? ⟨w.heap.size, k - 1 - i, none⟩ = some u := by
        rw [HR.out.blk.cell]; exact ⟨_, Array.getElem?_eq_getElem (by rw [HR.out.size]; omega)⟩
      have hz := HR.out.blk.frz (k - 1 - i)
      have R1 := Lib.hid (fun x hx => HR.out.step hlt (x := x) hx)
      go_wp2_with fail
      have R2 := R1.out _ rfl
      clear R1
      go_roundw
      case rel => exact ⟨i + 1, _, by omega, by go_num, R2⟩
      case measure => simp [intOf]; omega
    · have hkn : i = k := by omega
      subst hkn
      have H := Lib.hid (HR.out.byt h2)
      go_wp2_with fail
      go_ret2
      exact ⟨_, _, _, rfl, H.out, HR.out.bel⟩

set_option maxHeartbeats 1000000 in
theorem numWide_big (n k : Nat) (_hn : n < 18446744073709551616) (h1 : 1 ≤ k) (h2 : k ≤ 8) (hk : ¬ n < 256 ^ k) (w : World) :
    Calls Tryd.prog 25 #[.int .u64 n, .int .i64 k] w fun e w' => e = .returned (.tuple #[.slice none 0 0, .int .i64 1]) ∧ w = w' := by
  have hf := fits_no hk
  clear hk
  go_enter Tryd.func25, Tryd.ntmps25
  go_wp2_with (go_at_call 40; refine (isWidth_yes _ (by omega) (by omega) _).mono ?_; rintro e w1 ⟨rfl, rfl⟩)
  go_ret2
  exact ⟨rfl, rfl⟩

set_option maxHeartbeats 1000000 in
theorem numWide_no (n : Nat) (x : Int) (_hn : n < 18446744073709551616) (hx : x < 1 ∨ 8 < x) (w : World) :
    Calls Tryd.prog 25 #[.int .u64 n, .int .i64 x] w fun e w' => e = .returned (.tuple #[.slice none 0 0, .int .i64 1]) ∧ w = w' := by
  have HX := Lib.hid hx
  clear hx
  go_enter Tryd.func25, Tryd.ntmps25
  go_wp2_with (go_at_call 40; refine (isWidth_no _ HX.out _).mono ?_; rintro e w1 ⟨rfl, rfl⟩)
  go_ret2
  exact ⟨rfl, rfl⟩
end Go.Proofs.YtljpnngknmpdoaaDoor

/- trothref01.Wide hands back a number's big-endian bytes, or the error. -/
namespace Go.Proofs.YtljpnngknmpdoaaDoor
open Go.RowKit

/-- What is gathered so far: i bytes; m is left. -/
structure RWideRel (n k : Nat) (w : World) (i m : Nat) (A : Option Addr) (c : Nat) (acc : List Int) (wr : World) : Prop where
  own : wr.ownsRow w.heap.size 5 1 (.slice A i c) i (acc.map (Value.int .u8))
  all : wideL (k - i) m ++ acc = wideL k n
  left : m = n / 256 ^ i
  bel : Below w.heap.size w wr

theorem RWideRel.start (n k : Nat) (w : World) : RWideRel n k w 0 n none 0 [] w :=
  ⟨World.ownsRow_nil _ _ _ _, by simp, by simp, Below.refl _ _⟩

theorem RWideRel.rng {n k : Nat} {w : World} {i m : Nat} {A : Option Addr} {c : Nat} {acc : List Int} {wr : World} (h : RWideRel n k w i m A c acc wr) : ∀ x ∈ acc, 0 ≤ x ∧ x < 256 :=
  fun x hx => wideL_rng k n x (by rw [← h.all]; simp [hx])

theorem RWideRel.step {n k : Nat} {w : World} {i m : Nat} {A A' : Option Addr} {c c' i' : Nat} {acc : List Int} {wr w' : World} (h : RWideRel n k w i m A c acc wr) (hik : i < k) (hi : i' = 1 + i)
    (h1 : w'.ownsRow w.heap.size 5 1 (.slice A' i' c') i' (([(m : Int) % 256] ++ acc).map (Value.int .u8)))
    (h2 : (wr.alloc (.cells #[.int .u8 ((m : Int) % 256)] 5)).grownBy w' (Value.ownBlock (.slice (some ⟨wr.heap.size, 0, none⟩) 1 1))) :
    RWideRel n k w i' (m / 256) A' c' ((m : Int) % 256 :: acc) w' := by
  refine ⟨h1, ?_, ?_, (h.bel.alloc h.bel.size _).grown h2 (by have := h.bel.size; simp; omega) (by intro g hg; have := h.bel.size; simp [Value.ownBlock] at hg; omega)⟩
  · have := h.all
    rw [show k - i = (k - i') + 1 from by omega, wideL] at this
    rw [← this]; simp
  · rw [h.left, hi, Nat.div_div_eq_div_mul, Nat.add_comm, Nat.pow_succ]

theorem RWideRel.byt {n k : Nat} {w : World} {m : Nat} {A : Option Addr} {c : Nat} {acc : List Int} {wr : World} (h : RWideRel n k w k m A c acc wr) : Byt wr A k c (wideL k n) := by
  have e := h.all
  rw [Nat.sub_self, wideL, List.nil_append] at e
  rw [← e]
  exact Byt.of_own h.own h.rng

theorem RWideRel.zero {n k : Nat} {w : World} {m : Nat} {A : Option Addr} {c : Nat} {acc : List Int} {wr : World} (h : RWideRel n k w k m A c acc wr) : n < 256 ^ k ↔ m = 0 := by
  have hp : 0 < 256 ^ k := Nat.pow_pos (by decide)
  rw [h.left]
  constructor
  · exact fun h => Nat.div_eq_of_lt h
  · intro h
    rcases Nat.div_eq_zero_iff.1 h with h | h <;> omega

/-- The bytes, or the error: what the document says. -/
def WideEnd (n k : Nat) (w : World) (e : Ending) (w' : World) : Prop :=
  (n < 256 ^ k ∧ RetByt2 (wideL k n) .i64 0 w e w') ∨ (¬ n < 256 ^ k ∧ e = .returned (.tuple #[.slice none 0 0, .int .i64 1]) ∧ Below w.heap.size w w')

set_option maxRecDepth 100000 in
set_option maxHeartbeats 1000000 in
theorem refWide_any (n k : Nat) (hn : n < 18446744073709551616) (h1 : 1 ≤ k) (h2 : k ≤ 8) (w : World) :
    Calls Tryd.prog 28 #[.int .u64 n, .int .i64 k] w (WideEnd n k w) := by
  obtain ⟨i0, hi, hz0, hz1, hz2⟩ := info_parts info_u8
  have R0 := Lib.hid (RWideRel.start n k w)
  go_enter Tryd.func28, Tryd.ntmps28
  go_wp2_with fail
  go_loopw [0, 6, 7] (fun s v j wr => ∃ (i m : Nat) (A : Option Addr) (c : Nat) (acc : List Int), i ≤ k ∧ m < 18446744073709551616 ∧ s = .int .u64 m ∧ v = .slice A i c ∧ j = .int .i64 i ∧ RWideRel n k w i m A c acc wr) (fun _ _ j _ => k - (intOf j).toNat)
  case atStart => exact ⟨0, n, none, 0, _, Nat.zero_le _, hn, rfl, rfl, rfl, R0.out⟩
  case round =>
    obtain ⟨i, m, A, c, acc, hik, hm, rfl, rfl, rfl, R⟩ := hrel
    have HR := Lib.hid R
    clear R
    by_cases hlt : i < k
    · have hbs := HR.out.bel.size
      have o1 := own_one wr w.heap.size 5 ((m : Int) % 256) hbs
      have hb := (Byt.of_own HR.out.own HR.out.rng).alloc (.cells #[.int .u8 ((m : Int) % 256)] 5)
      go_wp2_with (at_builtin; refine wpList_append_byt rfl _ _ 24 rfl w.heap.size 5 i0 Tryd.underlying24 hi hz0 hz1 hz2 _ 1 [(m : Int) % 256] rfl (by exact o1) A i c acc rfl (by exact hb) (by omega) (by simp; omega) ?_)
      intro A' c' w' h1 h2
      have R := Lib.hid (HR.out.step hlt rfl h1 h2)
      clear h1 h2 hb o1
      go_wp2
      go_roundw
      case rel => exact ⟨1 + i, m / 256, _, _, _, by omega, by omega, by go_num, rfl, by go_num, R.out⟩
      case measure => simp [intOf]; omega
    · have hkn : i = k := by omega
      subst hkn
      have H := Lib.hid HR.out.byt
      have Z := Lib.hid HR.out.zero
      by_cases h0 : m = 0
      · have Z1 := Lib.hid (Z.out.2 h0)
        have hz : decide (0 < m) = false := by simp; omega
        clear h0
        go_wp2_with fail
        go_ret2
        exact .inl ⟨Z1.out, _, _, _, rfl, H.out, HR.out.bel⟩
      · have Z1 := Lib.hid (fun h => h0 (Z.out.1 h))
        have hz : 0 < m := by omega
        clear h0
        go_wp2_with fail
        go_ret2
        exact .inr ⟨Z1.out, rfl, HR.out.bel⟩

set_option maxHeartbeats 1000000 in
theorem refWide_no (n : Nat) (x : Int) (_hn : n < 18446744073709551616) (hx : x < 1 ∨ 8 < x) (w : World) :
    Calls Tryd.prog 28 #[.int .u64 n, .int .i64 x] w fun e w' => e = .returned (.tuple #[.slice none 0 0, .int .i64 1]) ∧ w = w' := by
  rcases hx with h | h
  · go_enter Tryd.func28, Tryd.ntmps28
    go_wp2
    go_ret2
    exact ⟨rfl, rfl⟩
  · have h1 : 1 ≤ x := by omega
    go_enter Tryd.func28, Tryd.ntmps28
    go_wp2
    go_ret2
    exact ⟨rfl, rfl⟩
end Go.Proofs.YtljpnngknmpdoaaDoor

/- num.TakeWide and trothref01.TakeWide answer the number of the first bytes, or the error, and write nothing. -/
namespace Go.Proofs.YtljpnngknmpdoaaDoor
open Go.RowKit

/-- A number and an error's number; at most a draw. -/
def Quiet2 (x y : Int) (w : World) (e : Ending) (w' : World) : Prop := e = .returned (.tuple #[.int .u64 x, .int .i64 y]) ∧ ∃ m, w' = w.drewN m

theorem ofWide_step (l : List Int) (hr : ∀ x ∈ l, 0 ≤ x ∧ x < 256) (i : Nat) (h : i < l.length) (h8 : i < 8) :
    ofWide (l.take i) < 72057594037927936 ∧ ofWide (l.take (i + 1)) = ofWide (l.take i) * 256 + (l.getD i 0).toNat := by
  constructor
  · have h1 := ofWide_lt (l.take i) (fun x hx => hr x (List.mem_of_mem_take hx))
    have h2 : (l.take i).length ≤ 7 := by simp; omega
    have h3 : 256 ^ (l.take i).length ≤ 256 ^ 7 := Nat.pow_le_pow_right (by decide) h2
    have h4 : (256 : Nat) ^ 7 = 72057594037927936 := rfl
    omega
  · rw [List.take_succ_eq_append_getElem h, ofWide_snoc]
    simp [List.getD, List.getElem?_eq_getElem h]

theorem or8 (m : Nat) (x : Int) (hm : m < 72057594037927936) (h0 : 0 ≤ x) (h1 : x < 256) : bits .or .u64 ((m : Int) * 256) x = ((m * 256 + x.toNat : Nat) : Int) := by
  obtain ⟨y, rfl⟩ := Int.eq_ofNat_of_zero_le h0
  have e : (m : Int) * 256 = ((m * 256 : Nat) : Int) := by omega
  rw [e, u64_or_nat _ _ (by omega) (by omega), nat_join 8 (m * 256) y (by omega) (by omega)]
  rfl

set_option maxHeartbeats 1000000 in
theorem numTakeWide_rows (g off n c k : Nat) (l : List Int) (w : World) (h : Byt w (some ⟨g, off, none⟩) n c l) (h1 : 1 ≤ k) (h2 : k ≤ 8) (hkn : k ≤ n) :
    Calls Tryd.prog 29 #[.slice (some ⟨g, off, none⟩) n c, .int .i64 k] w (Quiet2 (ofWide (l.take k)) 0 w) := by
  have hc0 : ∀ i, i < n → w.cell? ⟨g, off + i, none⟩ = some (.int .u8 (l.getD i 0)) := by
    obtain ⟨g1, o1, e, hc⟩ := h.at_ (by omega)
    injection e with e; injection e with e1 e2; subst e1; subst e2
    exact hc
  have hcap := h.cap
  have hmax := h.max
  unfold maxLen at hmax
  have HL := Lib.hid h.len
  have HR := Lib.hid h.lt_
  have HG := Lib.hid h.rng
  have HC := Lib.hid hc0
  clear hc0 h
  go_enter Tryd.func29, Tryd.ntmps29
  go_wp2_with (go_at_call 40; refine (isWidth_yes _ (by omega) (by omega) _).mono ?_; rintro e w1 ⟨rfl, rfl⟩)
  go_loop [6, 20] (fun s j => ∃ (i m : Nat), i ≤ k ∧ s = .int .u64 m ∧ j = .int .i64 i ∧ m = ofWide (l.take i)) (fun _ j => k - (intOf j).toNat)
  case atStart => exact ⟨0, 0, Nat.zero_le _, rfl, rfl, rfl⟩
  case round =>
    obtain ⟨i, m, hik, rfl, rfl, hm⟩ := hrel
    have HM := Lib.hid hm
    clear hm
    by_cases hlt : i < k
    · have hx := HC.out i (by omega)
      have hr := HR.out i (by omega)
      obtain ⟨s1, s2⟩ := ofWide_step l HG.out i (by rw [HL.out]; omega) (by omega)
      rw [← HM.out] at s1 s2
      have S2 := Lib.hid s2
      clear s2
      obtain ⟨x, ex⟩ : ∃ x, x = l.getD i 0 := ⟨_, rfl⟩
      rw [← ex] at hx hr S2
      clear ex
      obtain ⟨hr0, hr1⟩ := hr
      have hm64 : (m : Int) < 72057594037927936 := by omega
      have E := Lib.hid (or8 m x s1 hr0 hr1)
      go_wp2_with fail
      go_round
      case rel => exact ⟨i + 1, m * 256 + x.toNat, by omega, by rw [E.out], by go_num, S2.out.symm⟩
      case measure => simp [intOf]; omega
    · have hik2 : i = k := by omega
      subst hik2
      go_wp2_with fail
      go_ret2
      exact ⟨by rw [← HM.out]; rfl, 0, rfl⟩

set_option maxHeartbeats 1000000 in
theorem numTakeWide_any (A : Option Addr) (n c k : Nat) (l : List Int) (w : World) (h : Byt w A n c l) (h1 : 1 ≤ k) (h2 : k ≤ 8) :
    Calls Tryd.prog 29 #[.slice A n c, .int .i64 k] w (Quiet2 (if k ≤ n then ofWide (l.take k) else 0 : Nat) (if k ≤ n then 0 else 10) w) := by
  by_cases hkn : k ≤ n
  · obtain ⟨g, off, rfl, _⟩ := h.at_ (by omega)
    rw [if_pos hkn, if_pos hkn]
    exact numTakeWide_rows g off n c k l w h h1 h2 hkn
  · rw [if_neg hkn, if_neg hkn]
    have hlt : n < k := by omega
    clear h hkn
    go_enter Tryd.func29, Tryd.ntmps29
    go_wp2_with (go_at_call 40; refine (isWidth_yes _ (by omega) (by omega) _).mono ?_; rintro e w1 ⟨rfl, rfl⟩)
    go_ret2
    exact ⟨rfl, 0, rfl⟩

set_option maxHeartbeats 1000000 in
theorem numTakeWide_no (A : Option Addr) (n c : Nat) (x : Int) (w : World) (hx : x < 1 ∨ 8 < x) :
    Calls Tryd.prog 29 #[.slice A n c, .int .i64 x] w (Quiet2 0 1 w) := by
  have HX := Lib.hid hx
  clear hx
  go_enter Tryd.func29, Tryd.ntmps29
  go_wp2_with (go_at_call 40; refine (isWidth_no _ HX.out _).mono ?_; rintro e w1 ⟨rfl, rfl⟩)
  go_ret2
  exact ⟨rfl, 0, rfl⟩

set_option maxHeartbeats 1000000 in
theorem refTakeWide_rows (g off n c k : Nat) (l : List Int) (w : World) (h : Byt w (some ⟨g, off, none⟩) n c l) (h1 : 1 ≤ k) (h2 : k ≤ 8) (hkn : k ≤ n) :
    Calls Tryd.prog 30 #[.slice (some ⟨g, off, none⟩) n c, .int .i64 k] w (Quiet2 (ofWide (l.take k)) 0 w) := by
  have hc0 : ∀ i, i < n → w.cell? ⟨g, off + i, none⟩ = some (.int .u8 (l.getD i 0)) := by
    obtain ⟨g1, o1, e, hc⟩ := h.at_ (by omega)
    injection e with e; injection e with e1 e2; subst e1; subst e2
    exact hc
  have hcap := h.cap
  have hmax := h.max
  unfold maxLen at hmax
  have HL := Lib.hid h.len
  have HR := Lib.hid h.lt_
  have HG := Lib.hid h.rng
  have HC := Lib.hid hc0
  clear hc0 h
  go_enter Tryd.func30, Tryd.ntmps30
  go_wp2_with fail
  go_loop [6, 7] (fun s j => ∃ (i m : Nat), i ≤ k ∧ s = .int .u64 m ∧ j = .int .i64 i ∧ m = ofWide (l.take i)) (fun _ j => k - (intOf j).toNat)
  case atStart => exact ⟨0, 0, Nat.zero_le _, rfl, rfl, rfl⟩
  case round =>
    obtain ⟨i, m, hik, rfl, rfl, hm⟩ := hrel
    have HM := Lib.hid hm
    clear hm
    by_cases hlt : i < k
    · have hx := HC.out i (by omega)
      have hr := HR.out i (by omega)
      obtain ⟨s1, s2⟩ := ofWide_step l HG.out i (by rw [HL.out]; omega) (by omega)
      rw [← HM.out] at s1 s2
      have S2 := Lib.hid s2
      clear s2
      obtain ⟨x, ex⟩ : ∃ x, x = l.getD i 0 := ⟨_, rfl⟩
      rw [← ex] at hx hr S2
      clear ex
      obtain ⟨hr0, hr1⟩ := hr
      have hm64 : (m : Int) < 72057594037927936 := by omega
      go_wp2_with fail
      go_round
      case rel => exact ⟨i + 1, m * 256 + x.toNat, by omega, by congr 1; omega, by go_num, S2.out.symm⟩
      case measure => simp [intOf]; omega
    · have hik2 : i = k := by omega
      subst hik2
      go_wp2_with fail
      go_ret2
      exact ⟨by rw [← HM.out]; rfl, 0, rfl⟩

set_option maxHeartbeats 1000000 in
theorem refTakeWide_any (A : Option Addr) (n c k : Nat) (l : List Int) (w : World) (h : Byt w A n c l) (h1 : 1 ≤ k) (h2 : k ≤ 8) :
    Calls Tryd.prog 30 #[.slice A n c, .int .i64 k] w (Quiet2 (if k ≤ n then ofWide (l.take k) else 0 : Nat) (if k ≤ n then 0 else 10) w) := by
  by_cases hkn : k ≤ n
  · obtain ⟨g, off, rfl, _⟩ := h.at_ (by omega)
    rw [if_pos hkn, if_pos hkn]
    exact refTakeWide_rows g off n c k l w h h1 h2 hkn
  · rw [if_neg hkn, if_neg hkn]
    have hlt : n < k := by omega
    clear h hkn
    go_enter Tryd.func30, Tryd.ntmps30
    go_wp2_with fail
    go_ret2
    exact ⟨rfl, 0, rfl⟩

set_option maxHeartbeats 1000000 in
theorem refTakeWide_no (A : Option Addr) (n c : Nat) (x : Int) (w : World) (hx : x < 1 ∨ 8 < x) :
    Calls Tryd.prog 30 #[.slice A n c, .int .i64 x] w (Quiet2 0 1 w) := by
  rcases hx with h | h
  · go_enter Tryd.func30, Tryd.ntmps30
    go_wp2_with fail
    go_ret2
    exact ⟨rfl, 0, rfl⟩
  · have h1 : 1 ≤ x := by omega
    go_enter Tryd.func30, Tryd.ntmps30
    go_wp2_with fail
    go_ret2
    exact ⟨rfl, 0, rfl⟩
end Go.Proofs.YtljpnngknmpdoaaDoor
