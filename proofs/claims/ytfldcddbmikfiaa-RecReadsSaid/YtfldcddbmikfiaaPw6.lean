/- What it says: contracts and plain mathematics that the laws' walks use, 6 of 34: each part's own remark says what; no condition. -/
import Derived.Test.YtfldcddbmikfiaaPw5
import Derived.StillTailTactics
import Derived.Deep.MidRow
import Derived.Laws.Tables
import Derived.Deep.WholeRow
import GoSem.Builtin.Clear
import Derived.Laws.CopyRow

set_option linter.unusedSimpArgs false
set_option linter.unusedVariables false
set_option linter.deprecated false
set_option linter.unusedSectionVars false
set_option linter.all false

/- steps of a region by an equation of the operation's run: a whole array loaded, a struct built, a slice of one struct, a new variable. No program is named; no condition. -/
namespace Go.Proofs.Ytfldcddbmikfiaa
open Go.RowKit

section
variable {P : Program} {w w' : World} {ops : Array Oper} {rest : List Oper} {o : Oper} {a : Act}

theorem wanted_plain (hgd : o.guard = none) : Region.wanted o (yielded ops a.tmps) = true := by simp [Region.wanted, hgd]

theorem wpStill_run {Q : Act → Prop} (hgd : o.guard = none) {v : Value} (hrun : (execOp a.eval o).run P w = .ok (.value v) w) (h : wpStill P ops w Q rest (a.put o.dst v)) : wpStill P ops w Q (o :: rest) a := by
  refine wpStill_step fun K hK => ?_
  rw [if_pos (wanted_plain hgd)]
  unfold Oper.still
  rw [hrun]
  exact ⟨rfl, hK _ h⟩

theorem wpList_run {Q : Exit → Act → World → Prop} (hgd : o.guard = none) {v : Value} (hrun : (execOp a.eval o).run P w = .ok (.value v) w') (h : wpList P ops Q rest (a.put o.dst v) w') : wpList P ops Q (o :: rest) a w := by
  refine wpList_plain hgd fun K hK => ?_
  unfold Oper.wp
  rw [hrun]
  exact hK _ _ h

theorem exec_load {ty : TypeId} {x : Operand} (ho : o.op = .load ty x) {b off : Nat} (hx : a.eval x = .pointer (some ⟨b, off, none⟩)) {cs : List Value} {d : TypeDesc} (hc : w.rangeAt b off cs)
    (hu : P.underlying ty = some d) (hd : d.isRow = true) (hi : (P.info? ty).map (·.size) = some cs.length) : (execOp a.eval o).run P w = .ok (.value (.agg cs.toArray)) w := by
  unfold execOp
  simp only [ho, hx, Instr.loadAt, Instr.sureAddr, Sem.run_bind, Sem.run_pure, Result.andThen_ok, run_loadVar_mid w b off ty cs d hc hu hd hi]

theorem exec_build {t : TypeId} {parts : Array (Nat × Operand)} (ho : o.op = .build t parts) (ps : List (Nat × Value)) (he : (parts.toList.map fun x => (x.1, a.eval x.2)) = ps) {cells : Array Value} (hb : P.built t ps = some cells) :
    (execOp a.eval o).run P w = .ok (.value (.agg cells)) w := by
  unfold execOp
  have := run_build (P := P) w t (parts.map fun x => (x.1, a.eval x.2)) cells (by rw [Array.toList_map, he]; exact hb)
  simp only [ho, Sem.run_bind]
  rw [this]
  rfl

theorem exec_buildSlice {t : TypeId} {n : Nat} {parts : Array (Nat × Operand)} (ho : o.op = .buildSlice t n parts) (ps : List (Nat × Value)) (he : (parts.toList.map fun x => (x.1, a.eval x.2)) = ps) {v : Value} (hb : (Instr.buildSlice t n ps.toArray).run P w = .ok v w') :
    (execOp a.eval o).run P w = .ok (.value v) w' := by
  have he' : (parts.map fun x => (x.1, a.eval x.2)) = ps.toArray := by
    apply Array.toList_inj.1
    rw [Array.toList_map, he]
  unfold execOp
  simp only [ho, Sem.run_bind]
  rw [he', hb]
  rfl

theorem exec_alloc {t : TypeId} (ho : o.op = .alloc t) {z : Value} (hz : ∀ w, (zeroValue t).run P w = .ok z w) :
    (execOp a.eval o).run P w = .ok (.value (.pointer (some ⟨w.heap.size, 0, none⟩))) (w.alloc (.cells z.cells t)) := by
  unfold execOp
  simp only [ho, Sem.run_bind, Instr.alloc, hz, Result.andThen_ok]
  rfl

theorem exec_slice {t : TypeId} {x : Operand} {lo hi mx : Option Operand} (ho : o.op = .slice t x lo hi mx) {v : Value} (hb : (Instr.sliceAt t (a.eval x) (lo.map a.eval) (hi.map a.eval) (mx.map a.eval)).run P w = .ok v w') :
    (execOp a.eval o).run P w = .ok (.value v) w' := by
  unfold execOp
  simp only [ho, Sem.run_bind]
  rw [hb]
  rfl

theorem exec_makeSlice {t : TypeId} {x y : Operand} (ho : o.op = .makeSlice t x y) {v : Value} (hb : (Instr.makeSlice t (a.eval x) (a.eval y)).run P w = .ok v w') :
    (execOp a.eval o).run P w = .ok (.value v) w' := by
  unfold execOp
  simp only [ho, Sem.run_bind]
  rw [hb]
  rfl

theorem exec_lookup {t : TypeId} {m x : Operand} {c : Bool} (ho : o.op = .lookup t m x c) {v : Value} (hb : (Instr.lookup t (a.eval m) (a.eval x) c).run P w = .ok v w') :
    (execOp a.eval o).run P w = .ok (.value v) w' := by
  unfold execOp
  simp only [ho, Sem.run_bind]
  rw [hb]
  rfl

theorem exec_allocA {t : TypeId} (ho : o.op = .alloc t) {z : Array Value} (hz : ∀ w, (zeroValue t).run P w = .ok (.agg z) w) :
    (execOp a.eval o).run P w = .ok (.value (.pointer (some ⟨w.heap.size, 0, none⟩))) (w.alloc (.cells z t)) := exec_alloc ho hz

/-- A whole row into the block that was made last. -/
theorem wpList_store_new {Q : Exit → Act → World → Prop} {W : World} (hgd : o.guard = none) {ty : TypeId} {x y : Operand} (ho : o.op = .store ty x y) {c c' : Array Value} (hw : w = W.alloc (.cells c ty)) (hx : a.eval x = .pointer (some ⟨W.heap.size, 0, none⟩)) (hy : a.eval y = .agg c')
    (hi : (P.info? ty).map (·.size) = some c'.size) (hs : c.size = c'.size) (h1 : c'.all (·.oneCell') = true) (h : wpList P ops Q rest (a.put o.dst undef) (W.alloc (.cells c' ty))) : wpList P ops Q (o :: rest) a w := by
  subst hw
  refine wpList_store_row hgd ty x y ho W.heap.size c' hx hy ty c (heap_alloc_last W _) hi hs h1 ?_
  rw [World.setRow_alloc_new]
  exact h

/-- 'clear(x)' of a row of one's own; the row, cut to nothing. -/
theorem run_clear_own {base : Nat} {t e : TypeId} {i : TypeInfo} {z : Value} {size : Nat} (ty : TypeId) (ht : P.underlying t = some (.slice e)) (hi : P.info? e = some i) (hz : i.zero = some z) (hzs : z.cells.size = size) (hz1 : ∀ v ∈ z.cells.toList, v.oneCell' = true)
    {A : Option Addr} {n c : Nat} {xs : List Value} (hown : w.ownsRow base e size (.slice A n c) n xs) :
    ∃ w', (Builtin.clear_ #[t] ty #[.slice A n c]).run P w = .ok (.tuple #[]) w' ∧ w'.ownsRow base e size (.slice A 0 c) 0 [] ∧ w.grownBy w' (Value.slice A n c).ownBlock := by
  rcases hown.2 with ⟨hv, hn⟩ | ⟨g, cap, cur, hv, hb, hg, hnc, hm, hcs, htk⟩
  · injection hv with e1 e2 e3
    subst e1 e2 e3
    exact ⟨w, by simp [Builtin.clear_, run_underlying ht], World.ownsRow_nil _ _ _ _, World.grownBy.refl w _⟩
  · injection hv with e1 e2 e3
    subst e1 e3
    by_cases h0 : n = 0
    · subst h0
      exact ⟨w, by simp [Builtin.clear_, run_underlying ht], ⟨by simp, .inr ⟨g, c, cur, rfl, hb, hg, Nat.zero_le _, hm, hcs, by simp⟩⟩, World.grownBy.refl w _⟩
    · have hzl : (Builtin.zeroCells z.cells n).toList.length = n * size := by simp [size_zeroCells, hzs]
      have hz1' : ∀ v ∈ (Builtin.zeroCells z.cells n).toList, v.oneCell' = true := by
        intro v hv
        have hv' : v ∈ Builtin.zeroCells z.cells n := by simpa using hv
        unfold Builtin.zeroCells at hv'
        obtain ⟨j, hj, rfl⟩ := Array.mem_map.1 hv'
        by_cases hzz : z.cells.size = 0
        · rw [hzz] at hj
          simp at hj
        · have hlt : j % z.cells.size < z.cells.size := Nat.mod_lt _ (by omega)
          refine hz1 _ ?_
          rw [getElem!_pos z.cells (j % z.cells.size) hlt]
          simp
      have hle : n * size ≤ cur.size := by rw [hcs]; exact Nat.mul_le_mul_right _ hnc
      have hst := run_storeCells_at P g 0 e (Builtin.zeroCells z.cells n).toList 0 cur w hg (by rw [hzl]; omega) hz1'
      have hNs : (List.take (0 + 0) cur.toList ++ (Builtin.zeroCells z.cells n).toList ++ List.drop (0 + 0 + (Builtin.zeroCells z.cells n).toList.length) cur.toList).toArray.size = c * size := by
        simp only [List.size_toArray, List.length_append, List.length_take, List.length_drop, hzl, Array.length_toList]
        omega
      generalize (List.take (0 + 0) cur.toList ++ (Builtin.zeroCells z.cells n).toList ++ List.drop (0 + 0 + (Builtin.zeroCells z.cells n).toList.length) cur.toList).toArray = N at hst hNs
      refine ⟨w.setRow g N, ?_, ⟨by simp, .inr ⟨g, c, N, rfl, hb, setRow_heap w g cur N e _ hg, Nat.zero_le _, hm, hNs, by simp⟩⟩, ⟨rfl, rfl, rfl, by simp, fun k _ hk => setRow_other w g k N (fun q => hk (by simp [Value.ownBlock, q]))⟩⟩
      have hzv : (zeroValue e).run P w = .ok z w := by simp [zeroValue, typeInfo, hi, hz]
      have : ∃ m, n = m + 1 := ⟨n - 1, by omega⟩
      obtain ⟨m, rfl⟩ := this
      simp [Builtin.clear_, run_underlying ht, hzv, hst, Result.andThen]

theorem wpList_clear {Q : Exit → Act → World → Prop} (hgd : o.guard = none) {base : Nat} {t e : TypeId} {i : TypeInfo} {z : Value} {size : Nat} {x : Operand} (ho : o.op = .call { callee := .builtin .clear, args := #[x], argTypes := #[t] })
    (ht : P.underlying t = some (.slice e)) (hi : P.info? e = some i) (hz : i.zero = some z) (hzs : z.cells.size = size) (hz1 : ∀ v ∈ z.cells.toList, v.oneCell' = true)
    {A : Option Addr} {n c : Nat} {xs : List Value} (hx : a.eval x = .slice A n c) (hown : w.ownsRow base e size (.slice A n c) n xs)
    (h : ∀ w', w'.ownsRow base e size (.slice A 0 c) 0 [] → w.grownBy w' (Value.slice A n c).ownBlock → wpList P ops Q rest (a.put o.dst (.tuple #[])) w') : wpList P ops Q (o :: rest) a w := by
  obtain ⟨w', hr, h1, h2⟩ := run_clear_own (P := P) o.type ht hi hz hzs hz1 hown
  refine wpList_plain hgd fun K hK => ?_
  unfold Oper.wp execOp
  simp only [ho, resolve, invoke, builtin, Sem.run_bind, Sem.run_pure, Result.andThen_ok, List.map_toArray, List.map_cons, List.map_nil, hx, hr]
  exact hK _ _ (h w' h1 h2)

theorem exec_box {t : TypeId} {x : Operand} (ho : o.op = .box t x) :
    (execOp a.eval o).run P w = .ok (.value (.pointer (some ⟨w.heap.size, 0, none⟩))) (w.alloc (.cells (a.eval x).cells t)) := by
  unfold execOp
  simp only [ho, Sem.run_bind, Instr.box]
  rfl

/-- A struct that comes in is laid into a block of its own: the world behind it under a name. -/
theorem wpList_box {Q : Exit → Act → World → Prop} {W : World} (hgd : o.guard = none) {t : TypeId} {x : Operand} (ho : o.op = .box t x) {cs : Array Value} (hx : a.eval x = .agg cs) (hW : W = w.alloc (.cells cs t))
    (h : wpList P ops Q rest (a.put o.dst (.pointer (some ⟨w.heap.size, 0, none⟩))) W) : wpList P ops Q (o :: rest) a w := by
  subst hW
  refine wpList_run hgd (exec_box ho) ?_
  rw [hx]
  exact h

theorem exec_arrayAt {t : TypeId} {x : Operand} (ho : o.op = .sliceToArrayPointer t x) {v : Value} (hb : (Instr.arrayAt t (a.eval x)).run P w = .ok v w) :
    (execOp a.eval o).run P w = .ok (.value v) w := by
  unfold execOp
  simp only [ho, Sem.run_bind]
  rw [hb]
  rfl
end
end Go.Proofs.Ytfldcddbmikfiaa

/- slices of elements of several cells each, as they lie in memory; a row of one's own; 'copy' into it; the elements of a log record. -/
namespace Go.Proofs.Ytfldcddbmikfiaa
open Go.RowKit

/-- A block below H, or of this type; where the 'default' is False: from H on, known whole. -/
def stabT [Inhabited Prop] (H : Nat) (w : World) (k : Nat) (t : TypeId) : Prop := k < w.heap.size ∧ ((default : Prop) ∨ (H ≤ k ∧ ∃ cs, Bk w k t cs)) ∧ (k < H ∨ ∃ cs fr, w.heap[k]? = some (.cells cs t fr))
section
theorem stabT.stab {_ : Inhabited Prop} {H : Nat} {w : World} {k : Nat} {t : TypeId} (h : stabT H w k t) (ht : spT t = false) : stab H w k := ⟨h.1, h.2.2.imp id (fun ⟨cs, fr, e⟩ => ⟨cs, t, fr, e, ht⟩)⟩
theorem stabT.calm {_ : Inhabited Prop} {H : Nat} {w w' : World} {k : Nat} {t : TypeId} (h : stabT H w k t) (ht : spT t = false) (hc : Calm H w w') : stabT H w' k t :=
  ⟨Nat.lt_of_lt_of_le h.1 hc.size, h.2.1.imp id (fun ⟨a, cs, e⟩ => ⟨a, cs, (hc.same (h.stab ht)).trans e⟩), h.2.2.imp id (fun ⟨cs, fr, e⟩ => ⟨cs, fr, (hc.same (h.stab ht)).trans e⟩)⟩
theorem stabT.other {_ : Inhabited Prop} {H : Nat} {w w' : World} {k g : Nat} {t u : TypeId} {cs : Array Value} {fr : Nat × Nat} (h : stabT H w k t) (hg : w.heap[g]? = some (.cells cs u fr)) (hH : H ≤ g) (hne : u ≠ t) (hw : w.grownBy w' (some g)) : k ≠ g ∧ stabT H w' k t := by
  have e : k ≠ g := by
    intro q
    subst q
    rcases h.2.2 with a | ⟨cs', fr', a⟩
    · omega
    · rw [hg] at a
      injection a with a
      injection a with _ a
      exact hne a
  exact ⟨e, Nat.lt_of_lt_of_le h.1 hw.size, h.2.1.imp id (fun ⟨b, cs, a⟩ => ⟨b, cs, (hw.block k h.1 (fun q => by injection q with q; exact e q)).trans a⟩), h.2.2.imp id (fun ⟨cs, fr, a⟩ => ⟨cs, fr, (hw.block k h.1 (fun q => by injection q with q; exact e q)).trans a⟩)⟩
end

/-- A kind of element: how many cells, which, and what else lies behind it in memory. -/
structure El (α : Type) where
  size : Nat
  cells : α → List Value
  inn : Nat → World → α → Prop
  calm : ∀ H w w' x, inn H w x → Calm H w w' → inn H w' x
  len : ∀ x, (cells x).length = size
  one : ∀ x v, v ∈ cells x → v.oneCell' = true
  pos : 0 < size
  ty : TypeId
  hty : spT ty = false
  inner : TypeId → Bool
  apart : ∀ H w w' x g t cs fr, inner t = false → inn H w x → H ≤ g → w.heap[g]? = some (.cells cs t fr) → w.grownBy w' (some g) → inn H w' x

/-- A slice of such elements, in blocks that a pass leaves alone. -/
structure Sl [Inhabited Prop] {α : Type} [Inhabited α] (E : El α) (H : Nat) (w : World) (A : Option Addr) (n c : Nat) (l : List α) : Prop where
  len : l.length = n
  cap : n ≤ c
  max : c ≤ maxLen
  nil_ : A = none → n = 0 ∧ c = 0
  each : ∀ x ∈ l, E.inn H w x
  at_ : 0 < n → ∃ g off, A = some ⟨g, off, none⟩ ∧ stabT H w g E.ty ∧ ∀ i, i < n → w.rangeAt g (off + i * E.size) (E.cells (l.getD i default))

section
variable {α : Type} [Inhabited α] {E : El α} {H : Nat} {w w' : World}
theorem Sl.calm {_ : Inhabited Prop} {A : Option Addr} {n c : Nat} {l : List α} (h : Sl E H w A n c l) (hc : Calm H w w') : Sl E H w' A n c l :=
  ⟨h.len, h.cap, h.max, h.nil_, fun x hx => E.calm H w w' x (h.each x hx) hc, fun hn => by
    obtain ⟨g, off, e, hs, hr⟩ := h.at_ hn
    exact ⟨g, off, e, hs.calm E.hty hc, fun i hi j v hv => (hc.cell (p := ⟨g, off + i * E.size + j, none⟩) (hs.stab E.hty)).trans (hr i hi j v hv)⟩⟩
/-- A block of another type is written. -/
theorem Sl.other {_ : Inhabited Prop} {A : Option Addr} {n c g : Nat} {l : List α} {t : TypeId} {cs : Array Value} {fr : Nat × Nat} (h : Sl E H w A n c l) (hi : E.inner t = false) (hne : t ≠ E.ty) (hg : w.heap[g]? = some (.cells cs t fr)) (hH : H ≤ g) (hw : w.grownBy w' (some g)) : Sl E H w' A n c l :=
  ⟨h.len, h.cap, h.max, h.nil_, fun x hx => E.apart H w w' x g t cs fr hi (h.each x hx) hH hg hw, fun hn => by
    obtain ⟨k, off, e, hs, hr⟩ := h.at_ hn
    obtain ⟨a, b⟩ := hs.other hg hH hne hw
    exact ⟨k, off, e, b, fun i hi j v hv => (World.cell?_of_block (w := w) (w' := w') (a := ⟨k, off + i * E.size + j, none⟩) (hw.block k hs.1 (fun q => by injection q with q; exact a q))).trans (hr i hi j v hv)⟩⟩
theorem Sl.nil [Inhabited Prop] (E : El α) (H : Nat) (w : World) : Sl E H w none 0 0 [] := ⟨rfl, Nat.le_refl _, Nat.zero_le _, fun _ => ⟨rfl, rfl⟩, by simp, fun h => absurd h (by omega)⟩
theorem getD_mem {l : List α} {i : Nat} (h : i < l.length) : l.getD i default ∈ l := by
  rw [List.getD_eq_getElem?_getD, List.getElem?_eq_getElem h]
  exact List.getElem_mem h
theorem Sl.get {_ : Inhabited Prop} {A : Option Addr} {n c : Nat} {l : List α} (h : Sl E H w A n c l) {i : Nat} (hi : i < n) : E.inn H w (l.getD i default) := h.each _ (getD_mem (by rw [h.len]; exact hi))
theorem Sl.none_ {_ : Inhabited Prop} {n c : Nat} {l : List α} (h : Sl E H w none n c l) : l = [] := List.eq_nil_of_length_eq_zero (by rw [h.len]; exact (h.nil_ rfl).1)

/-- A block that is a row of such elements. -/
structure Row (E : El α) (t : TypeId) (w : World) (g n : Nat) (l : List α) : Prop where
  len : l.length = n
  bk : ∃ cs, Bk w g t cs ∧ cs.size = n * E.size
  at_ : ∀ i, i < n → w.rangeAt g (i * E.size) (E.cells (l.getD i default))
theorem Row.lt {t : TypeId} {g n : Nat} {l : List α} (h : Row E t w g n l) : g < w.heap.size := by obtain ⟨cs, h1, _⟩ := h.bk; exact h1.lt
theorem Row.same {t : TypeId} {g n : Nat} {l : List α} (h : Row E t w g n l) (hk : w'.heap[g]? = w.heap[g]?) : Row E t w' g n l := by
  obtain ⟨cs, h1, h2⟩ := h.bk
  exact ⟨h.len, ⟨cs, hk.trans h1, h2⟩, fun i hi j v hv => (World.cell?_of_block (w := w) (w' := w') (a := ⟨g, i * E.size + j, none⟩) hk).trans (h.at_ i hi j v hv)⟩
theorem Row.calm {t : TypeId} {g n : Nat} {l : List α} (h : Row E t w g n l) (ht : spT t = false) (hc : Calm H w w') : Row E t w' g n l := by
  obtain ⟨cs, h1, h2⟩ := h.bk
  exact h.same (hc.same (h1.stab ht))
theorem Row.plain {t : TypeId} {g n : Nat} {l : List α} (h : Row E t w g n l) (ht : spT t = false) : plainAt w g := by obtain ⟨cs, h1, _⟩ := h.bk; exact h1.plain ht
theorem mul_lt_end {i j n k : Nat} (hi : i < n) (hj : j < k) : i * k + j < n * k := by
  have : (i + 1) * k ≤ n * k := Nat.mul_le_mul_right _ hi
  rw [Nat.add_mul] at this
  omega
theorem Row.there {t : TypeId} {g n : Nat} {l : List α} (h : Row E t w g n l) {i : Nat} (hi : i < n) : w.there g (i * E.size) E.size := fun j hj => by
  obtain ⟨cs, h1, h2⟩ := h.bk
  refine ⟨?_, h1.frz _⟩
  rw [h1.cell]
  have := mul_lt_end hi hj
  rw [Array.getElem?_eq_getElem (by omega)]
  rfl
theorem bk_setCells {g : Nat} {t : TypeId} : ∀ (vs : List Value) (o : Nat) (w : World) (cs : Array Value), Bk w g t cs → ∃ cs', Bk (w.setCells g o vs) g t cs' ∧ cs'.size = cs.size
  | [], _, _, cs, h => ⟨cs, h, rfl⟩
  | v :: r, o, w, cs, h => by
    obtain ⟨cs', h1, h2⟩ := bk_setCells r (o + 1) _ _ (h.setc o v)
    exact ⟨cs', h1, by rw [h2]; simp⟩
theorem grown_setCells (g : Nat) : ∀ (vs : List Value) (o : Nat) (w : World), w.grownBy (w.setCells g o vs) (some g)
  | [], _, w => World.grownBy.refl w _
  | v :: r, o, w => grown_trans (grown_set w g o v) (grown_setCells g r (o + 1) _)
theorem getD_set {l : List α} {i j : Nat} {y : α} (hi : i < l.length) : (l.set i y).getD j default = if j = i then y else l.getD j default := by
  by_cases e : j = i
  · subst e; simp [List.getElem?_set, hi]
  · rw [if_neg e]; simp [List.getElem?_set, Ne.symm e]
/-- An element is written. -/
theorem Row.set {t : TypeId} {g n : Nat} {l : List α} (h : Row E t w g n l) {i : Nat} (hi : i < n) (y : α) : Row E t (w.setCells g (i * E.size) (E.cells y)) g n (l.set i y) := by
  obtain ⟨cs, h1, h2⟩ := h.bk
  obtain ⟨cs', h3, h4⟩ := bk_setCells (E.cells y) (i * E.size) w cs h1
  refine ⟨by simp [h.len], ⟨cs', h3, by rw [h4, h2]⟩, fun j hj => ?_⟩
  rw [getD_set (by rw [h.len]; exact hi)]
  split
  · rename_i e
    subst e
    exact World.rangeAt_setCells_same w g (j * E.size) (E.cells y) (by rw [E.len]; exact h.there hj)
  · rename_i e
    refine World.rangeAt_setCells_apart (h.at_ j hj) g (i * E.size) (E.cells y) (.inr ?_)
    rw [E.len, E.len]
    rcases Nat.lt_or_gt_of_ne e with q | q
    · left
      have := Nat.mul_le_mul_right E.size (show j + 1 ≤ i from q)
      rw [Nat.add_mul] at this; omega
    · right
      have := Nat.mul_le_mul_right E.size (show i + 1 ≤ j from q)
      rw [Nat.add_mul] at this; omega
/-- A row, as a slice. -/
theorem Row.sl [Inhabited Prop] {g n : Nat} {l : List α} (h : Row E E.ty w g n l) (hH : H ≤ g) (hm : n ≤ maxLen) (he : ∀ x ∈ l, E.inn H w x) : Sl E H w (some ⟨g, 0, none⟩) n n l := by
  obtain ⟨cs, h1, h2⟩ := h.bk
  refine ⟨h.len, Nat.le_refl _, hm, (fun e => nomatch e), he, fun _ => ⟨g, 0, rfl, ⟨h1.lt, .inr ⟨hH, cs, h1⟩, .inr ⟨cs, _, h1⟩⟩, fun i hi => ?_⟩⟩
  rw [Nat.zero_add]
  exact h.at_ i hi

/-- A new row of noughts. -/
theorem Row.made {t : TypeId} (W : World) (z : α) (za : Array Value) (hz : za.toList = E.cells z) (n : Nat) : Row E t (W.alloc (.cells (madeCells za (n * E.size)) t)) W.heap.size n (List.replicate n z) := by
  have hb := Bk.new W t (madeCells za (n * E.size))
  have hzs : za.size = E.size := by rw [← E.len z, ← hz]; simp
  refine ⟨by simp, ⟨_, hb, size_madeCells _ _⟩, fun i hi j v hv => ?_⟩
  have hj : j < E.size := by rw [← E.len z]; have := (List.getElem?_eq_some_iff.1 hv).1; simpa [hi] using this
  rw [hb.cell]
  have hlt := mul_lt_end hi hj
  unfold madeCells
  rw [Array.getElem?_map]
  simp only [Array.getElem?_range, if_pos hlt, Option.map_some, hzs]
  have hm : (i * E.size + j) % E.size = j := by rw [Nat.mul_comm, Nat.mul_add_mod, Nat.mod_eq_of_lt hj]
  have hv' : (E.cells z)[j]? = some v := by simpa [hi] using hv
  rw [← hz] at hv'
  rw [hm]
  have : za[j]? = some v := by simpa using hv'
  have hjz : j < za.size := by omega
  rw [getElem!_pos za j hjz]
  rw [Array.getElem?_eq_getElem hjz] at this
  exact this

/-- The cells of many, one behind the other. -/
theorem flat_get (E : El α) : ∀ (l : List α) (i j : Nat), i < l.length → j < E.size → (l.flatMap E.cells)[i * E.size + j]? = (E.cells (l.getD i default))[j]?
  | [], _, _, hi, _ => absurd hi (by simp)
  | x :: r, 0, j, _, hj => by
    rw [List.flatMap_cons, List.getElem?_append_left (by rw [E.len]; omega)]
    simp
  | x :: r, i + 1, j, hi, hj => by
    rw [List.flatMap_cons, List.getElem?_append_right (by rw [E.len, Nat.add_mul]; omega), E.len]
    have e : (i + 1) * E.size + j - E.size = i * E.size + j := by rw [Nat.add_mul]; omega
    rw [e, flat_get E r i j (by simpa using hi) hj]
    simp
theorem flat_len (E : El α) : ∀ l : List α, (l.flatMap E.cells).length = l.length * E.size
  | [] => by simp
  | x :: r => by rw [List.flatMap_cons, List.length_append, E.len, flat_len E r, List.length_cons, Nat.add_mul]; omega
theorem flat_one (E : El α) (l : List α) : ∀ v ∈ l.flatMap E.cells, v.oneCell' = true := fun v hv => by
  obtain ⟨x, _, hx⟩ := List.mem_flatMap.1 hv
  exact E.one x v hx

theorem run_copy_n {P : Program} (w : World) (dT sT ty elem : TypeId) (sz g dLen dCap : Nat) (a : Addr) (sLen sCap : Nat) (cur : Array Value) (t : TypeId) (cs : List Value)
    (hu : P.underlying dT = some (.slice elem)) (hs : (P.info? elem).map (·.size) = some sz)
    (hg : w.heap[g]? = some (.cells cur t (0, 0))) (hn : cs.length = Nat.min sLen dLen * sz)
    (hsrc : ∀ j v, cs[j]? = some v → w.cell? (a.add j) = some v) (hfit : cs.length ≤ cur.size) (h1 : ∀ v ∈ cs, v.oneCell' = true) :
    (Builtin.copy_ #[dT, sT] ty #[.slice (some ⟨g, 0, none⟩) dLen dCap, .slice (some a) sLen sCap]).run P w =
      .ok (goInt (Nat.min sLen dLen)) (w.setRow g (cs ++ cur.toList.drop cs.length).toArray) := by
  have hl := run_loadCells_list (P := P) w a cs hsrc
  have hst := run_storeCells_at P g 0 t cs 0 cur w hg (by simpa using hfit) h1
  cases hq : P.info? elem with
  | none => simp [hq] at hs
  | some i =>
    have hi : i.size = sz := by simpa [hq] using hs
    simp only [Nat.add_zero, Nat.zero_add, List.take_zero, List.nil_append] at hst
    rw [hn] at hl
    have hst' : (storeCells ⟨g, 0, none⟩ cs).run P w = .ok () (w.setRow g (cs ++ cur.toList.drop cs.length).toArray) := hst
    simp [Builtin.copy_, run_underlying hu, Builtin.lenOf, Builtin.firstCells, sizeOf, typeInfo, hq, hi, hl, hst']
theorem run_copy_no {P : Program} (w : World) (dT sT ty elem : TypeId) (sz g dLen dCap : Nat) (hu : P.underlying dT = some (.slice elem)) (hs : (P.info? elem).map (·.size) = some sz) :
    (Builtin.copy_ #[dT, sT] ty #[.slice (some ⟨g, 0, none⟩) dLen dCap, .slice none 0 0]).run P w = .ok (goInt 0) w := by
  cases hq : P.info? elem with
  | none => simp [hq] at hs
  | some i => simp [Builtin.copy_, run_underlying hu, Builtin.lenOf, Builtin.firstCells, sizeOf, typeInfo, hq, storeCells]

/-- What a copy leaves. -/
structure Copied (E : El α) (t : TypeId) (g n n0 : Nat) (xs zs : List α) (w w' : World) (zs' : List α) : Prop where
  row : Row E t w' g n zs'
  grown : w.grownBy w' (some g)
  get : ∀ i, i < n → zs'.getD i default = if i < n0 then xs.getD i default else zs.getD i default
/-- 'copy(passed, l)' into a row of one's own. -/
theorem wpList_copy_row [Inhabited Prop] {P : Program} {ops : Array Oper} {rest : List Oper} {o : Oper} {a : Act} {Q : Exit → Act → World → Prop} (hgd : o.guard = none) (d s : Operand) (dT sT : TypeId)
    (ho : o.op = .call { callee := .builtin .copy, args := #[d, s], argTypes := #[dT, sT] }) (elem : TypeId) (hu : P.underlying dT = some (.slice elem)) (hsz : (P.info? elem).map (·.size) = some E.size)
    {t : TypeId} {g n : Nat} {zs : List α} (hrow : Row E t w g n zs) {A : Option Addr} {n0 c0 : Nat} {xs : List α} (hsl : Sl E H w A n0 c0 xs) (dCap : Nat) (hd : a.eval d = .slice (some ⟨g, 0, none⟩) n dCap) (hs : a.eval s = .slice A n0 c0)
    (h : ∀ k w' zs', Hid (Copied E t g n n0 xs zs w w' zs') → wpList P ops Q rest (a.put o.dst k) w') : wpList P ops Q (o :: rest) a w := by
  cases A with
  | none =>
    obtain ⟨rfl, rfl⟩ := hsl.nil_ rfl
    refine wpList_plain hgd fun K hK => ?_
    have hrun := run_copy_no (P := P) w dT sT o.type elem E.size g n dCap hu hsz
    unfold Oper.wp
    simp [execOp, ho, resolve, invoke, builtin, hd, hs, hrun, Result.andThen]
    exact hK _ _ (h _ w zs (Lib.hid ⟨hrow, World.grownBy.refl w _, fun i hi => by rw [if_neg (by omega)]⟩))
  | some ad =>
    obtain ⟨cur, hb, hcs⟩ := hrow.bk
    obtain ⟨m, hmd⟩ : ∃ m, m = Nat.min n0 n := ⟨_, rfl⟩
    have hm1 : m ≤ n0 := by rw [hmd]; exact Nat.min_le_left _ _
    have hm2 : m ≤ n := by rw [hmd]; exact Nat.min_le_right _ _
    have hm3 : ∀ i, i < n0 → i < n → i < m := fun i a b => by rw [hmd]; exact Nat.lt_min.2 ⟨a, b⟩
    have hm : (xs.take m).length = m := by rw [List.length_take, hsl.len]; omega
    obtain ⟨C, hC⟩ : ∃ C, C = (xs.take m).flatMap E.cells := ⟨_, rfl⟩
    have hcl : C.length = m * E.size := by rw [hC, flat_len, hm]
    have hle : m * E.size ≤ n * E.size := Nat.mul_le_mul_right _ hm2
    have hCg : ∀ i j, i < m → j < E.size → C[i * E.size + j]? = (E.cells (xs.getD i default))[j]? := by
      intro i j hi hj
      rw [hC, flat_get E _ _ _ (by rw [hm]; exact hi) hj]
      have e2 : (xs.take m).getD i default = xs.getD i default := by simp [List.getD_eq_getElem?_getD, List.getElem?_take, hi]
      rw [e2]
    have hsrc : ∀ j v, C[j]? = some v → w.cell? (ad.add j) = some v := by
      intro j v hv
      have hj : j < m * E.size := by rw [← hcl]; exact (List.getElem?_eq_some_iff.1 hv).1
      have hi : j / E.size < m := Nat.div_lt_of_lt_mul (by rw [Nat.mul_comm]; exact hj)
      have hr : j % E.size < E.size := Nat.mod_lt _ E.pos
      obtain ⟨d, hd'⟩ : ∃ d, j / E.size = d := ⟨_, rfl⟩
      obtain ⟨r, hr'⟩ : ∃ r, j % E.size = r := ⟨_, rfl⟩
      have e : j = d * E.size + r := by rw [← hd', ← hr', Nat.mul_comm]; exact (Nat.div_add_mod j E.size).symm
      rw [hd'] at hi
      rw [hr'] at hr
      obtain ⟨g', off, e1, _, hc⟩ := hsl.at_ (by omega)
      injection e1 with e1
      subst e1
      rw [e, hCg d r hi hr] at hv
      have := hc d (by omega) r v hv
      rw [Addr.add_mid, ← this, e]
      congr 2
      omega
    have h1 : ∀ v ∈ C, v.oneCell' = true := by rw [hC]; exact flat_one E _
    have hrun := run_copy_n (P := P) w dT sT o.type elem E.size g n dCap ad n0 c0 cur t C hu hsz hb (by rw [← hmd]; exact hcl) hsrc (by rw [hcl, hcs]; exact hle) h1
    obtain ⟨zs', hzs'⟩ : ∃ zs', zs' = xs.take m ++ zs.drop m := ⟨_, rfl⟩
    have hget : ∀ i, i < n → zs'.getD i default = if i < n0 then xs.getD i default else zs.getD i default := by
      intro i hi
      rw [hzs', List.getD_eq_getElem?_getD]
      by_cases q : i < n0
      · rw [if_pos q, List.getElem?_append_left (by rw [hm]; exact hm3 i q hi), List.getElem?_take, if_pos (hm3 i q hi)]
        exact (List.getD_eq_getElem?_getD ..).symm
      · have hmn : m = n0 := by rw [hmd]; exact Nat.min_eq_left (by omega)
        rw [if_neg q, List.getElem?_append_right (by rw [hm, hmn]; omega), hm, hmn, List.getElem?_drop]
        have e : n0 + (i - n0) = i := by omega
        rw [e]
        exact (List.getD_eq_getElem?_getD ..).symm
    have hbn : Bk (w.setRow g (C ++ cur.toList.drop C.length).toArray) g t (C ++ cur.toList.drop C.length).toArray := setRow_heap w g cur _ t _ hb
    have R : Row E t (w.setRow g (C ++ cur.toList.drop C.length).toArray) g n zs' := by
      refine ⟨by rw [hzs', List.length_append, hm, List.length_drop, hrow.len]; omega, ⟨_, hbn, ?_⟩, fun i hi j v hv => ?_⟩
      · simp only [List.size_toArray, List.length_append, List.length_drop, hcl, Array.length_toList, hcs]
        omega
      · have hj : j < E.size := by rw [← E.len (zs'.getD i default)]; exact (List.getElem?_eq_some_iff.1 hv).1
        have hlt := mul_lt_end hi hj
        rw [hbn.cell]
        rw [hget i hi] at hv
        rw [List.getElem?_toArray]
        by_cases q : i < n0
        · rw [if_pos q] at hv
          rw [List.getElem?_append_left (by rw [hcl]; exact mul_lt_end (hm3 i q hi) hj), hCg i j (hm3 i q hi) hj]
          exact hv
        · rw [if_neg q] at hv
          have hmn : m = n0 := by rw [hmd]; exact Nat.min_eq_left (by omega)
          have hge : m * E.size ≤ i * E.size + j := Nat.le_trans (Nat.mul_le_mul_right _ (by omega)) (Nat.le_add_right _ _)
          rw [List.getElem?_append_right (by rw [hcl]; exact hge), List.getElem?_drop, hcl]
          have e : m * E.size + (i * E.size + j - m * E.size) = i * E.size + j := by omega
          rw [e]
          have := hrow.at_ i hi j v hv
          rw [hb.cell] at this
          rw [Array.getElem?_toList]
          exact this
    have G : w.grownBy (w.setRow g (C ++ cur.toList.drop C.length).toArray) (some g) := ⟨rfl, rfl, rfl, by simp [World.setRow], fun k _ hk => setRow_other w g k _ (fun q => hk (by simp [q]))⟩
    refine wpList_plain hgd fun K hK => ?_
    unfold Oper.wp
    simp only [execOp, ho, resolve, invoke, builtin, List.map_toArray, List.map_cons, List.map_nil, hd, hs, Sem.run_bind, Sem.run_pure, Result.andThen_ok, hrun]
    exact hK _ _ (h _ _ zs' (Lib.hid ⟨R, G, hget⟩))
end

section
/-- Numbers, locks, dirty pages. -/
def elI : El Int := ⟨1, fun x => [.int .i64 x], fun _ _ x => i64 x, fun _ _ _ _ h _ => h, fun _ => rfl, by intro x v hv; simp at hv; subst hv; rfl, by omega, 3, rfl, fun _ => false, fun _ _ _ _ _ _ _ _ _ h _ _ _ => h⟩
def elL : El Lk := ⟨2, fun k => [.string k.key, .bool k.x], fun _ _ k => 0 ≤ k.key.size, fun _ _ _ _ h _ => h, fun _ => rfl, by intro x v hv; simp at hv; rcases hv with rfl | rfl <;> rfl, by omega, 49, rfl, fun _ => false, fun _ _ _ _ _ _ _ _ _ h _ _ _ => h⟩
def elD : El Dt := ⟨2, fun d => [.int .i64 d.page, .int .i64 d.lsn], fun _ _ d => i64 d.page ∧ i64 d.lsn, fun _ _ _ _ h _ => h, fun _ => rfl, by intro x v hv; simp at hv; rcases hv with rfl | rfl <;> rfl, by omega, 89, rfl, fun _ => false, fun _ _ _ _ _ _ _ _ _ h _ _ _ => h⟩
/-- A row: its numbers, and two slices. -/
structure XwIn [Inhabited Prop] (H : Nat) (w : World) (x : Xw) : Prop where
  tx : i64 x.tx
  st : i64 x.st
  fi : i64 x.fi
  la : i64 x.la
  un : i64 x.un
  co : i64 x.co
  mem : Sl elI H w x.mA x.mn x.mc x.mem
  lks : Sl elL H w x.kA x.kn x.kc x.lks
def elR [Inhabited Prop] : El Xw := ⟨8, Xw.cells, XwIn, fun _ _ _ _ h hc => ⟨h.tx, h.st, h.fi, h.la, h.un, h.co, h.mem.calm hc, h.lks.calm hc⟩, fun _ => rfl, by intro x v hv; simp [Xw.cells] at hv; rcases hv with rfl | rfl | rfl | rfl | rfl | rfl | rfl | rfl <;> rfl, by omega, 51, rfl, fun t => t == 3 || t == 49, fun H w w' x g t cs fr hi h hH hg hw => ⟨h.tx, h.st, h.fi, h.la, h.un, h.co, h.mem.other rfl (by rintro rfl; simp [elI] at hi) hg hH hw, h.lks.other rfl (by rintro rfl; simp [elL] at hi) hg hH hw⟩⟩
/-- A deed. -/
structure XdIn [Inhabited Prop] (H : Nat) (w : World) (x : Xd) : Prop where
  tx : i64 x.tx
  mem : Sl elI H w x.mA x.mn x.mc x.mem
def elE [Inhabited Prop] : El Xd := ⟨2, Xd.cells, XdIn, fun _ _ _ _ h hc => ⟨h.tx, h.mem.calm hc⟩, fun _ => rfl, by intro x v hv; simp [Xd.cells] at hv; rcases hv with rfl | rfl <;> rfl, by omega, 53, rfl, fun t => t == 3, fun H w w' x g t cs fr hi h hH hg hw => ⟨h.tx, h.mem.other rfl (by rintro rfl; simp [elI] at hi) hg hH hw⟩⟩
/-- A record. -/
structure XrIn [Inhabited Prop] (H : Nat) (w : World) (x : Xr) : Prop where
  kind : i64 x.kind
  tx : i64 x.tx
  prev : i64 x.prev
  next : i64 x.next
  key : 0 ≤ x.key.size
  old : 0 ≤ x.old.data.size
  new : 0 ≤ x.new.data.size
  co : i64 x.co
  mem : Sl elI H w x.mA x.mn x.mc x.mem
  lks : Sl elL H w x.kA x.kn x.kc x.lks
  rows : Sl elR H w x.rA x.rn x.rc x.rows
  dirty : Sl elD H w x.dA x.dn x.dc x.dirty
  deeds : Sl elE H w x.eA x.en x.ec x.deeds
  past : Sl elI H w x.pA x.pn x.pc x.past
theorem XrIn.calm {_ : Inhabited Prop} {H : Nat} {w w' : World} {x : Xr} (h : XrIn H w x) (hc : Calm H w w') : XrIn H w' x :=
  ⟨h.kind, h.tx, h.prev, h.next, h.key, h.old, h.new, h.co, h.mem.calm hc, h.lks.calm hc, h.rows.calm hc, h.dirty.calm hc, h.deeds.calm hc, h.past.calm hc⟩
end
theorem stabT.up {H H' : Nat} {w : World} {k : Nat} {t : TypeId} (h : stabT H w k t) (hH : H ≤ H') : stabT H' w k t := ⟨h.1, .inl trivial, h.2.2.imp (fun q => Nat.lt_of_lt_of_le q hH) id⟩
theorem Sl.up {α : Type} [Inhabited α] {E : El α} {H H' : Nat} {w : World} {A : Option Addr} {n c : Nat} {l : List α} (h : Sl E H w A n c l) (hH : H ≤ H') (hi : ∀ x, E.inn H w x → E.inn H' w x) : Sl E H' w A n c l :=
  ⟨h.len, h.cap, h.max, h.nil_, fun x hx => hi x (h.each x hx), fun hn => by
    obtain ⟨g, off, e, hs, hr⟩ := h.at_ hn
    exact ⟨g, off, e, hs.up hH, hr⟩⟩
theorem XwIn.up {H H' : Nat} {w : World} {x : Xw} (h : XwIn H w x) (hH : H ≤ H') : XwIn H' w x := ⟨h.tx, h.st, h.fi, h.la, h.un, h.co, h.mem.up hH (fun _ q => q), h.lks.up hH (fun _ q => q)⟩
theorem XdIn.up {H H' : Nat} {w : World} {x : Xd} (h : XdIn H w x) (hH : H ≤ H') : XdIn H' w x := ⟨h.tx, h.mem.up hH (fun _ q => q)⟩
theorem XrIn.up {H H' : Nat} {w : World} {x : Xr} (h : XrIn H w x) (hH : H ≤ H') : XrIn H' w x :=
  ⟨h.kind, h.tx, h.prev, h.next, h.key, h.old, h.new, h.co, h.mem.up hH (fun _ q => q), h.lks.up hH (fun _ q => q), h.rows.up hH (fun _ q => XwIn.up q hH), h.dirty.up hH (fun _ q => q), h.deeds.up hH (fun _ q => XdIn.up q hH), h.past.up hH (fun _ q => q)⟩
section
theorem XrIn.other {_ : Inhabited Prop} {H g : Nat} {w w' : World} {x : Xr} {cs : Array Value} {fr : Nat × Nat} (h : XrIn H w x) (hg : w.heap[g]? = some (.cells cs 30 fr)) (hH : H ≤ g) (hw : w.grownBy w' (some g)) : XrIn H w' x :=
  ⟨h.kind, h.tx, h.prev, h.next, h.key, h.old, h.new, h.co, h.mem.other rfl (by decide) hg hH hw, h.lks.other rfl (by decide) hg hH hw, h.rows.other rfl (show 30 ≠ 51 by decide) hg hH hw, h.dirty.other rfl (by decide) hg hH hw, h.deeds.other rfl (show 30 ≠ 53 by decide) hg hH hw, h.past.other rfl (by decide) hg hH hw⟩
end
end Go.Proofs.Ytfldcddbmikfiaa

/- what a reader answers, as a codec says it. -/
namespace Go.Proofs.Ytfldcddbmikfiaa
open Go.RowKit
section
variable {H pb : Nat} {w : World}
theorem rpNum {b g : Nat} {l : List Int} {e : Nat} (most : Int) (hm : -9223372036854775808 ≤ most ∧ most ≤ 9223372036854775807) (h : Rd w 93 b g l e) :
    Calls Try.prog 67 #[.pointer (some ⟨b, 0, none⟩), .int .i64 most] w (RdPost 93 b g (pNum most (l, e)).2.1 (pNum most (l, e)).2.2 (.int .i64 (pNum most (l, e)).1) w) := by
  have := rNum_any b g l e most w h hm (numF l most).1 (numF l most).2.1 (numF l most).2.2 rfl
  have e1 := pPrim_val (numI most) (0 : Int) l e (Value.int .i64)
  have e2 : stepV (.int .i64 0) (.int .i64 ((numF l most).1 : Int)) e (numF l most).2.2 = _ := e1
  rw [e2] at this
  exact this
theorem rpText {b g : Nat} {l : List Int} {e : Nat} (most : Int) (hm : -9223372036854775808 ≤ most ∧ most ≤ 9223372036854775807) (h : Rd w 93 b g l e) :
    Calls Try.prog 92 #[.pointer (some ⟨b, 0, none⟩), .int .i64 most] w (RdPost 93 b g (pText most (l, e)).2.1 (pText most (l, e)).2.2 (.string (pText most (l, e)).1) w) := by
  have := rText_any b g l e most w h hm (textF l most).1 (textF l most).2.1 (textF l most).2.2 rfl
  have e1 := pPrim_val (textS most) ByteArray.empty l e Value.string
  have e2 : stepV (.string ByteArray.empty) (.string (strOfNums (textF l most).1)) e (textF l most).2.2 = _ := e1
  rw [e2] at this
  exact this
theorem rpFlag {b g : Nat} {l : List Int} {e : Nat} (h : Rd w 93 b g l e) :
    Calls Try.prog 94 #[.pointer (some ⟨b, 0, none⟩)] w (RdPost 93 b g (pFlag (l, e)).2.1 (pFlag (l, e)).2.2 (.bool (pFlag (l, e)).1) w) := by
  have := rFlag_any b g l e w h
  have e1 := pPrim_val flagF false l e Value.bool
  rw [e1] at this
  exact this
theorem pNum_range (most : Int) (hm : 0 ≤ most) (σ : Sg) : 0 ≤ (pNum most σ).1 ∧ (pNum most σ).1 ≤ most := by
  unfold pNum pPrim numI
  split
  · exact ⟨Int.le_refl _, hm⟩
  · split
    · exact ⟨Int.le_refl _, hm⟩
    · rename_i q
      show (0 : Int) ≤ ((numF σ.1 most).1 : Int) ∧ ((numF σ.1 most).1 : Int) ≤ most
      refine ⟨by omega, ?_⟩
      unfold numF at q ⊢
      split
      · simpa using hm
      · split
        · simpa using hm
        · rename_i q2; simp only [not_or, Int.not_lt] at q2; exact q2.2
theorem pText_size (most : Nat) (σ : Sg) : (pText most σ).1.size ≤ most := by
  unfold pText pPrim textS
  split
  · exact Nat.zero_le _
  · split
    · exact Nat.zero_le _
    · rename_i q
      show (strOfNums (textF σ.1 most).1).size ≤ most
      unfold textF at q ⊢
      split
      · exact Nat.zero_le _
      · split
        · exact Nat.zero_le _
        · rename_i q1 q2
          rw [if_neg q1, if_neg q2] at q
          have e : (strOfNums ((σ.1.drop (numF σ.1 most).2.1).take (numF σ.1 most).1)).size ≤ (numF σ.1 most).1 := by
            unfold strOfNums
            simp [ByteArray.size]
            omega
          refine Nat.le_trans e ?_
          have h3 : (numF σ.1 most).2.2 = 0 := by omega
          unfold numF at h3 ⊢
          split
          · exact Nat.zero_le _
          · split
            · exact Nat.zero_le _
            · rename_i q3; simp only [not_or, Int.not_lt] at q3
              show (takeF σ.1 0 0).1 ≤ most
              omega
theorem numL_le (n : Int) (hn : n ≤ 9223372036854775807) : (numL n).length ≤ 10 := numL_len n hn
end
end Go.Proofs.Ytfldcddbmikfiaa

/- a step of a pass: how many. -/
namespace Go.Proofs.Ytfldcddbmikfiaa
open Go.RowKit
section
variable {H pb : Nat} {w : World}

def cntI (most : Int) : Spc Int := ⟨pNum 256, numL, fun z => z ≤ most, id, 10⟩
/-- A number of elements. -/
def VC (_ : World) (v : Value) (y : Int) : Prop := v = .int .i64 y ∧ 0 ≤ y ∧ y ≤ 9223372036854775807
set_option maxRecDepth 100000 in
set_option maxHeartbeats 4000000 in
theorem count_any (s : Ps) (wr : Bool) (n most : Int) (h : Pst H w pb s wr) (hn : 0 ≤ n ∧ n ≤ 9223372036854775807) (hm : 0 ≤ most ∧ most ≤ 256) (hr : s.room 10) :
    Calls Try.prog 96 #[.pointer (some ⟨pb, 0, none⟩), .int .i64 n, .int .i64 most] w (RetV (cntI most) VC n H pb s wr w) := by
  have HE := Lib.hid (fun (w' : World) (s' : Ps) (h : Pst H w' pb s' wr) (b : Bool) => expect_any s' wr b h)
  cases s with
  | out l B =>
    obtain ⟨wb, m, c0, c1, _⟩ := h.writer
    have HP := Lib.hid h
    clear h
    have HR : Hid (B + 10 ≤ 100000000000000) := Lib.hid hr
    clear hr
    -- how the check comes out
    have fin : ∀ (wr1 : Bool) (w1 : World), Pst H w1 pb (.out l B) wr1 → Calm H w w1 → (wr1 = false ↔ wr = false ∧ (n ≤ most)) → (wr1 = true → RetV (cntI most) VC n H pb (.out l B) wr w (.returned (.int .i64 n)) w1) ∧
        (wr1 = false → ∃ wb1 m1, w1.cell? ⟨pb, 0, none⟩ = some (.pointer (some ⟨wb1, 0, none⟩)) ∧ Calls Try.prog 69 #[.pointer (some ⟨wb1, 0, none⟩), .int .i64 n] w1 (RetC H wb1 (m1 ++ numL n) w1) ∧
          ∀ e w2, RetC H wb1 (m1 ++ numL n) w1 e w2 → RetV (cntI most) VC n H pb (.out l B) wr w (.returned (.int .i64 n)) w2) := by
      intro wr1 w1 hp hc hiff
      refine ⟨fun e => ?_, fun e => ?_⟩
      · subst e
        exact ⟨_, n, .out l (B + 10), true, rfl, ⟨rfl, hn⟩, ⟨l, rfl, ⟨(fun h => nomatch h), (fun h => nomatch (hiff.2 h))⟩, fun h => nomatch h⟩, hp.mono (by omega), hc⟩
      · subst e
        have hok := (hiff.1 rfl).2
        obtain ⟨wb1, m1, d0, d1, d2, d3, d4, d5⟩ := hp.writer
        have hrr := HR.out
        refine ⟨wb1, m1, d0, wNum_calm H wb1 m1 n w1 d2 (by omega) (by omega) (by omega), fun e w2 hw => ?_⟩
        obtain ⟨p, q⟩ := d5 w2 e _ 10 hw (numL_len n (by omega))
        exact ⟨_, n, _, false, rfl, ⟨rfl, hn⟩, ⟨_, rfl, ⟨fun _ => ⟨(hiff.1 rfl).1, hok⟩, fun _ => rfl⟩, fun _ => ⟨rfl, rfl⟩⟩, p, hc.trans q⟩
    have FIN := Lib.hid fin
    clear fin
    go_enter Try.func96, Try.ntmps96
    go_wp2_with fail
    refine (HE.out w (.out l B) HP.out (decide (n ≤ most))).mono ?_
    rintro e v ⟨wr1, rfl, hiff, hp, hc⟩
    obtain ⟨F1, F2⟩ := FIN.out wr1 v hp hc (hiff.trans ⟨fun h => ⟨h.1, by simpa using h.2⟩, fun h => ⟨h.1, by simpa using h.2⟩⟩)
    clear hp hc hiff
    cases wr1 with
    | true =>
      have R := Lib.hid (F1 rfl)
      clear F1 F2
      go_wp2_with fail
      go_ret
      exact R.out
    | false =>
      obtain ⟨wb1, m1, d0, CW, R⟩ := F2 rfl
      have CW := Lib.hid CW
      have R := Lib.hid R
      clear F1 F2
      go_wp2_with fail
      refine CW.out.mono ?_
      rintro e w2 ⟨rfl, hw, hc, ho⟩
      have R := Lib.hid (R.out _ w2 ⟨rfl, hw, hc, ho⟩)
      clear hw hc ho
      go_wp2_with fail
      go_ret
      exact R.out
  | inp σ =>
    obtain ⟨rb, g, c1, R, K⟩ := h.reader
    have CR := Lib.hid (rpNum 256 (by omega) R.rd)
    have K := Lib.hid K
    clear h R hr
    go_enter Try.func96, Try.ntmps96
    go_wp2_with fail
    refine CR.out.mono ?_
    rintro e w1 ⟨rfl, hrd, hg⟩
    obtain ⟨hp1, hc1⟩ := K.out w1 (pNum 256 σ).2 hrd hg (pPrim_len _ _ _)
    have c0' : w1.cell? ⟨pb, 0, none⟩ = some (.pointer none) := by
      obtain ⟨rb', g', q1, q2, _⟩ := hp1
      exact q2.cell 0
    have HP1 := Lib.hid hp1
    have HC1 := Lib.hid hc1
    have HV : Hid (0 ≤ (pNum 256 σ).1 ∧ (pNum 256 σ).1 ≤ 9223372036854775807) := Lib.hid (by have := pNum_range 256 (by omega) σ; omega)
    have e0 : Hid ((pNum 256 (σ.1, σ.2)).1 = (pNum 256 σ).1) := Lib.hid rfl
    obtain ⟨y, hy⟩ : ∃ y, (pNum 256 σ).1 = y := ⟨_, rfl⟩
    have HY := Lib.hid hy
    have EY : (pNum 256 (σ.1, σ.2)).1 = y := hy
    rw [EY]
    rw [hy] at HV
    clear hp1 hc1 hrd hg K CR hy e0 EY
    have fin : ∀ (wr1 : Bool) (w2 w3 : World), Pst H w2 pb (.inp (pNum 256 σ).2) wr1 → Calm H w1 w2 → Below w2.heap.size w2 w3 → (wr1 = false ↔ wr = false ∧ (y ≤ most)) → RetV (cntI most) VC n H pb (.inp σ) wr w (.returned (.int .i64 y)) w3 := by
      intro wr1 w2 w3 hp hc hb hiff
      exact ⟨_, y, _, wr1, rfl, ⟨rfl, HV.out⟩, ⟨rfl, HY.out.symm, hiff⟩, hp.keeps (Keeps.of_below hb), (HC1.out.trans hc).trans (Calm.of_below hb)⟩
    have FIN := Lib.hid fin
    clear fin
    go_wp2_with fail
    refine (HE.out w1 (.inp (pNum 256 σ).2) HP1.out (decide (y ≤ most))).mono ?_
    rintro e v ⟨wr1, rfl, hiff, hp, hc⟩
    have F := Lib.hid (fun w3 hb => FIN.out wr1 v w3 hp hc hb (hiff.trans ⟨fun h => ⟨h.1, by simpa using h.2⟩, fun h => ⟨h.1, by simpa using h.2⟩⟩))
    have c0'' : v.cell? ⟨pb, 0, none⟩ = some (.pointer none) := by
      obtain ⟨rb', g', q1, q2, _⟩ := hp
      exact q2.cell 0
    clear hp hc hiff c0'
    cases wr1 with
    | true =>
      have R := Lib.hid (F.out v (Below.refl _ _))
      clear F
      go_wp2_with fail
      go_ret
      exact R.out
    | false =>
      have CW := Lib.hid (wNum_nil y v (by have := HV.out; omega))
      go_wp2_with fail
      refine CW.out.mono ?_
      rintro e w2 ⟨rfl, hb⟩
      have R := Lib.hid (F.out w2 hb)
      clear F hb
      go_wp2_with fail
      go_ret
      exact R.out
end
end Go.Proofs.Ytfldcddbmikfiaa

/- rec's list, in general: what holds at the head of its loop, and from one round to the next. -/
namespace Go.Proofs.Ytfldcddbmikfiaa
open Go.RowKit

/-- How locks, dirty pages, rows, deeds are passed on. -/
def lkSp : Spc Lk := ((textSp 1 16).pair flagSp).map (fun q : ByteArray × Bool => (⟨q.1, q.2⟩ : Lk)) (fun k => (k.key, k.x))
def dtSp : Spc Dt := ((numS 0 63).pair (numS 1 1099511627776)).map (fun q : Int × Int => (⟨q.1, q.2⟩ : Dt)) (fun d => (d.page, d.lsn))
def memSp : Spc (List Int) := (numS 0 7).list 8 (· < ·)
def lksSp : Spc (List Lk) := lkSp.list 64 (fun a b : Lk => kLt a.key b.key)
def rwSp : Spc Rw := ((((((((numS 1 1099511627776).pair (numS 1 4)).pair (numS 0 1099511627776)).pair (numS 0 1099511627776)).pair (numS 0 1099511627776)).pair (numS 0 7)).pair memSp).pair lksSp).map
  (fun q : ((((((Int × Int) × Int) × Int) × Int) × Int) × List Int) × List Lk => (⟨q.1.1.1.1.1.1.1, q.1.1.1.1.1.1.2, q.1.1.1.1.1.2, q.1.1.1.1.2, q.1.1.1.2, q.1.1.2, q.1.2, q.2⟩ : Rw))
  (fun r : Rw => (((((((r.tx, r.st), r.fi), r.la), r.un), r.co), r.mem), r.lks))
def ddSp : Spc Dd := ((numS 1 1099511627776).pair memSp).map (fun q : Int × List Int => (⟨q.1, q.2⟩ : Dd)) (fun d => (d.tx, d.mem))
def pastSp : Spc (List Int) := (numS 1 1099511627776).list 256 (· < ·)
def rwsSp : Spc (List Rw) := rwSp.list 64 (fun a b : Rw => a.tx < b.tx)
def dtsSp : Spc (List Dt) := dtSp.list 64 (fun a b : Dt => a.page < b.page)
def ddsSp : Spc (List Dd) := ddSp.list 64 (fun a b : Dd => a.tx < b.tx)
/-- A slice that reads as these. -/
def VL [Inhabited Prop] {α β : Type} [Inhabited α] (E : El α) (rd : α → β) (H : Nat) (w : World) (v : Value) (ys : List β) : Prop := ∃ A n c l, v = .slice A n c ∧ Sl E H w A n c l ∧ l.map rd = ys
/-- An element's value that reads as this. -/
def VE {α β : Type} (E : El α) (rd : α → β) (mk : α → Value) (H : Nat) (w : World) (v : Value) (y : β) : Prop := ∃ x, v = mk x ∧ E.inn H w x ∧ rd x = y

theorem xw0_in [Inhabited Prop] (H : Nat) (w : World) : elR.inn H w (default : Xw) := by
  have z : i64 0 := by unfold i64; omega
  exact ⟨z, z, z, z, z, z, Sl.nil elI H w, Sl.nil elL H w⟩
theorem xd0_in [Inhabited Prop] (H : Nat) (w : World) : elE.inn H w (default : Xd) := by
  have z : i64 0 := by unfold i64; omega
  exact ⟨z, Sl.nil elI H w⟩

section
variable {α β : Type} [Inhabited α] [Inhabited β] {E : El α} {rd : α → β} {S : Spc β} {lt : β → β → Prop} {H pb g n : Nat} {w : World} {zs0 : List α} {s0 : Ps} {wr0 : Bool}

theorem getD_map (hd : rd default = default) (l : List α) (i : Nat) : (l.map rd).getD i default = rd (l.getD i default) := by
  rw [List.getD_eq_getElem?_getD, List.getElem?_map, List.getD_eq_getElem?_getD]
  cases l[i]? <;> simp [hd]

/-- At the head of round k. -/
structure LRel (E : El α) (rd : α → β) (S : Spc β) (lt : β → β → Prop) (H pb g n : Nat) (w : World) (zs0 : List α) (s0 : Ps) (wr0 : Bool) (k : Nat) (wr : World) : Prop where
  low : w.heap.size ≤ g
  ex : ∃ zs s1 wr1, Pst H wr pb s1 wr1 ∧ Calm H w wr ∧ Row E E.ty wr g n zs ∧ GoesN S lt (zs0.map rd) s0 wr0 k ((zs.take k).map rd) s1 wr1 ∧ (∀ i, k ≤ i → i < n → zs.getD i default = zs0.getD i default) ∧ ∀ x ∈ zs, E.inn H wr x

/-- Behind 'passed[i] = each(element)'. -/
structure LMid (E : El α) (rd : α → β) (S : Spc β) (lt : β → β → Prop) (H pb g n : Nat) (w : World) (zs0 : List α) (s0 : Ps) (wr0 : Bool) (k : Nat) (zs zs' : List α) (x' : α) (s2 : Ps) (wr2 : Bool) (w2 : World) : Prop where
  low : w.heap.size ≤ g
  pst : Pst H w2 pb s2 wr2
  calm : Calm H w w2
  row : Row E E.ty w2 g n zs'
  set : zs' = zs.set k x'
  len : zs.length = n
  goes : ∃ s1 wr1, GoesN S lt (zs0.map rd) s0 wr0 k ((zs.take k).map rd) s1 wr1 ∧ Goes S (rd (zs0.getD k default)) s1 wr1 (rd x') s2 wr2
  rest : ∀ i, k < i → i < n → zs'.getD i default = zs0.getD i default
  each : ∀ x ∈ zs', E.inn H w2 x

theorem LMid.of {k : Nat} {zs : List α} {wr w1 : World} {s1 s2 : Ps} {wr1 wr2 : Bool} {x' : α} (hlow : w.heap.size ≤ g) (hH : H ≤ w.heap.size) (hi : E.inner E.ty = false) (hrow : Row E E.ty wr g n zs) (hg : GoesN S lt (zs0.map rd) s0 wr0 k ((zs.take k).map rd) s1 wr1)
    (hrest : ∀ i, k ≤ i → i < n → zs.getD i default = zs0.getD i default) (hin : ∀ x ∈ zs, E.inn H wr x) (hc0 : Calm H w wr) (hk : k < n)
    (hc : Calm H wr w1) (hp : Pst H w1 pb s2 wr2) (hx : E.inn H w1 x') (hgo : Goes S (rd (zs0.getD k default)) s1 wr1 (rd x') s2 wr2) :
    LMid E rd S lt H pb g n w zs0 s0 wr0 k zs (zs.set k x') x' s2 wr2 (w1.setCells g (k * E.size) (E.cells x')) := by
  have hrow1 := hrow.calm E.hty hc
  have hG := grown_setCells g (E.cells x') (k * E.size) w1
  have hc1 := hc0.trans hc
  refine ⟨hlow, hp.keeps (Keeps.grown hG (hrow1.plain E.hty)), ⟨hG.os.trans hc1.os, hG.tape.trans hc1.tape, hG.output.trans hc1.output, Nat.le_trans hc1.size hG.size, fun i hi hp => ?_⟩, hrow1.set hk x', rfl, hrow.len, ⟨s1, wr1, hg, hgo⟩, fun i h1 h2 => ?_, fun x hx' => ?_⟩
  · exact (hG.block i (Nat.lt_of_lt_of_le hi hc1.size) (fun q => by injection q with q; omega)).trans (hc1.block i hi hp)
  · rw [getD_set (by rw [hrow.len]; exact hk), if_neg (by omega)]
    exact hrest i (by omega) h2
  · obtain ⟨cs, b1, _⟩ := hrow1.bk
    refine E.apart H w1 _ x g E.ty cs _ hi ?_ (by omega) b1 hG
    rcases List.mem_or_eq_of_mem_set hx' with q | q
    · exact E.calm H wr w1 x (hin x q) hc
    · rw [q]; exact hx

theorem LMid.next {k : Nat} {zs zs' : List α} {x' : α} {s2 : Ps} {wr2 wr3 : Bool} {w2 w4 : World} (h : LMid E rd S lt H pb g n w zs0 s0 wr0 k zs zs' x' s2 wr2 w2) (hd : rd default = default) (hkeep : ∀ x, S.keep x = x) (hk : k < n) (hz : zs0.length = n) (hc : Calm H w2 w4) (hp : Pst H w4 pb s2 wr3)
    (h3 : wr3 = false ↔ wr2 = false ∧ (0 < k → lt (rd (zs'.getD (k - 1) default)) (rd (zs'.getD k default)))) : LRel E rd S lt H pb g n w zs0 s0 wr0 (k + 1) w4 := by
  obtain ⟨s1, wr1, g1, g2⟩ := h.goes
  have hkl : k < zs.length := by rw [h.len]; exact hk
  have e1 : zs'.getD k default = x' := by rw [h.set, getD_set hkl, if_pos rfl]
  have e2 : (zs'.take (k + 1)).map rd = (zs.take k).map rd ++ [rd x'] := by
    rw [h.set]
    have : (zs.set k x').take (k + 1) = zs.take k ++ [x'] := by
      apply List.ext_getElem?
      intro i
      rw [List.getElem?_take, List.getElem?_append, List.length_take]
      by_cases q : i < k
      · rw [if_pos (by omega), if_pos (by omega), List.getElem?_set, if_neg (by omega), List.getElem?_take, if_pos q]
      · by_cases q2 : i = k
        · subst q2
          rw [if_pos (by omega), if_neg (by omega), List.getElem?_set, if_pos rfl, if_pos hkl]
          have : i - min i zs.length = 0 := by omega
          rw [this]; rfl
        · rw [if_neg (by omega), if_neg (by omega)]
          rw [List.getElem?_eq_none]
          simp; omega
    rw [this, List.map_append]; rfl
  refine ⟨h.low, zs', s2, wr3, hp, h.calm.trans hc, h.row.calm E.hty hc, ?_, fun i a b => h.rest i (by omega) b, fun x hx => E.calm H w2 w4 x (h.each x hx) hc⟩
  rw [e2]
  refine g1.succ (by simp [hz]; exact hk) hkeep (by rw [getD_map hd]; exact g2) (h3.trans ?_)
  rw [e1]
  constructor
  · rintro ⟨a, b⟩
    refine ⟨a, fun h0 => ?_⟩
    have := b h0
    have e3 : ((zs.take k).map rd).getD (k - 1) default = rd (zs'.getD (k - 1) default) := by
      rw [getD_map hd, h.set, getD_set hkl, if_neg (by omega)]
      simp [List.getD_eq_getElem?_getD, List.getElem?_take, show k - 1 < k by omega]
    rw [e3]; exact this
  · rintro ⟨a, b⟩
    refine ⟨a, fun h0 => ?_⟩
    have := b h0
    have e3 : ((zs.take k).map rd).getD (k - 1) default = rd (zs'.getD (k - 1) default) := by
      rw [getD_map hd, h.set, getD_set hkl, if_neg (by omega)]
      simp [List.getD_eq_getElem?_getD, List.getElem?_take, show k - 1 < k by omega]
    rw [e3] at this; exact this

/-- Ahead of the loop. -/
theorem LRel.start [Inhabited Prop] {W w2 : World} {A : Option Addr} {n0 c0 : Nat} {xs zs zs' : List α} {s1 : Ps} {wr1 : Bool} (hlow : w.heap.size ≤ g) (hH : H ≤ w.heap.size) (hi : E.inner E.ty = false) (hp : Pst H W pb s1 wr1) (hc : Calm H w W) (hrow : Row E E.ty W g n zs) (hx : Sl E H W A n0 c0 xs)
    (hz : ∀ i, i < n → E.inn H W (zs.getD i default)) (h : Copied E E.ty g n n0 xs zs W w2 zs') : LRel E rd S lt H pb g n w zs' s1 wr1 0 w2 ∧ zs'.length = n ∧ ∀ i, i < n → i < xs.length → zs'.getD i default = xs.getD i default := by
  refine ⟨⟨hlow, zs', s1, wr1, hp.keeps (Keeps.grown h.grown (hrow.plain E.hty)), ⟨h.grown.os.trans hc.os, h.grown.tape.trans hc.tape, h.grown.output.trans hc.output, Nat.le_trans hc.size h.grown.size, fun k hk hp => (h.grown.block k (Nat.lt_of_lt_of_le hk hc.size) (fun q => by injection q with q; omega)).trans (hc.block k hk hp)⟩, h.row, GoesN.zero _ _ _ _ _, fun _ _ _ => rfl, fun x hx' => ?_⟩, h.row.len, fun i a b => by rw [h.get i a, if_pos (by rw [← hx.len]; exact b)]⟩
  obtain ⟨i, hi', rfl⟩ := List.getElem_of_mem hx'
  have hin : i < n := by rw [← h.row.len]; exact hi'
  obtain ⟨cs, b1, _⟩ := hrow.bk
  refine E.apart H W w2 _ g E.ty cs _ hi ?_ (by omega) b1 h.grown
  have e := h.get i hin
  rw [List.getD_eq_getElem?_getD, List.getElem?_eq_getElem hi'] at e
  have e' : zs'[i] = _ := e
  rw [e']
  split
  · rename_i q
    exact hx.get q
  · exact hz i hin

/-- The end of the loop. -/
theorem LRel.done [Inhabited Prop] {wr : World} {s : Ps} {wrx : Bool} {xs : List α} {z : Int} {most : Nat} (h : LRel E rd S lt H pb g n w zs0 s0 wr0 n wr) (hH : H ≤ w.heap.size) (hm : most ≤ 256) (hd : rd default = default) (hz0 : zs0.length = n) (c : Goes (cntS most) (((xs.map rd).length : Nat) : Int) s wrx z s0 wr0) (hn : (n : Int) = min z 256)
    (hzx : ∀ i, i < n → i < xs.length → zs0.getD i default = xs.getD i default) : RetV (S.list most lt) (VL E rd H) (xs.map rd) H pb s wrx w (.returned (.slice (some ⟨g, 0, none⟩) n n)) wr := by
  obtain ⟨zs, s1, wr1, hp, hc, hrow, hg, hr, hin⟩ := h.ex
  rw [List.take_of_length_le (by rw [hrow.len]; exact Nat.le_refl _)] at hg
  obtain ⟨s3, hle, hgo⟩ := Goes.list hm c hn (by rw [List.length_map]; exact hz0) (fun i a b => by rw [getD_map hd, getD_map hd, hzx i a (by simpa using b)]) hg
  exact ⟨_, zs.map rd, s3, wr1, rfl, ⟨_, _, _, zs, rfl, hrow.sl (Nat.le_trans hH h.low) (by unfold maxLen; omega) hin, rfl⟩, hgo, hp.le hle, hc⟩

/-- No elements. -/
theorem list_empty [Inhabited Prop] {wr : World} {s : Ps} {wrx : Bool} {xs : List α} {z : Int} {most : Nat} (hp : Pst H wr pb s0 wr0) (hc : Calm H w wr) (hm : most ≤ 256) (c : Goes (cntS most) (((xs.map rd).length : Nat) : Int) s wrx z s0 wr0) (hn : (0 : Int) = min z 256) :
    RetV (S.list most lt) (VL E rd H) (xs.map rd) H pb s wrx w (.returned (.slice none 0 0)) wr := by
  obtain ⟨s3, hle, hgo⟩ := Goes.list (S := S) (lt := lt) hm c (n := 0) hn (zs := []) rfl (fun i a => absurd a (by omega)) (GoesN.zero S lt [] s0 wr0)
  exact ⟨_, [], s3, wr0, rfl, ⟨none, 0, 0, [], rfl, Sl.nil E H wr, rfl⟩, hgo, hp.le hle, hc⟩
end
end Go.Proofs.Ytfldcddbmikfiaa
