/- What it says: contracts and plain mathematics that the laws' walks use, 1 of 6: each part's own remark says what; no condition. -/
import Derived.WalkKit
import Derived.Deep.Draws
import Derived.Lib.Hide
import Derived.Laws.AppendOwnNone
import Derived.Test.YtljpnngknmpdoaaDoorRows
import Derived.Lib.SliceRun
import Derived.Laws.BytesArg
import Derived.Lib.ConvBytes
import Derived.Lib.AppendStr
import Derived.Lib.Strings
import Derived.Below
import Derived.Deep.QuietTactic
import Derived.BigQuiet
import Derived.Laws.Build
import Derived.Laws.BitsAllLaws

set_option linter.unusedSimpArgs false
set_option linter.unusedVariables false
set_option linter.deprecated false
set_option linter.unusedSectionVars false
set_option linter.all false

/- a slice value reads as a list of bytes, and goes on reading so behind new blocks, draws, and writes to blocks of the call's own. No program is named; no condition. -/
namespace Go.Proofs.YtljpnngknmpdoaaDoor
open Go.RowKit

/-- The slice '.slice A n c' reads as the bytes l. -/
structure Byt (w : World) (A : Option Addr) (n c : Nat) (l : List Int) : Prop where
  len : l.length = n
  cap : n ≤ c
  max : c ≤ maxLen
  rng : ∀ x ∈ l, 0 ≤ x ∧ x < 256
  nil_ : A = none → n = 0 ∧ c = 0
  at_ : 0 < n → ∃ g off, A = some ⟨g, off, none⟩ ∧ ∀ i, i < n → w.cell? ⟨g, off + i, none⟩ = some (.int .u8 (l.getD i 0))

section
variable {w w' : World} {A : Option Addr} {n c : Nat} {l : List Int}

theorem Byt.nil (w : World) : Byt w none 0 0 [] := ⟨rfl, Nat.le_refl _, Nat.zero_le _, by simp, fun _ => ⟨rfl, rfl⟩, fun h => absurd h (by omega)⟩

theorem Byt.keep (h : Byt w A n c l) (hk : ∀ (p : Addr) u, w.cell? p = some u → w'.cell? p = some u) : Byt w' A n c l :=
  ⟨h.len, h.cap, h.max, h.rng, h.nil_, fun hn => by
    obtain ⟨g, off, e, hc⟩ := h.at_ hn
    exact ⟨g, off, e, fun i hi => hk _ _ (hc i hi)⟩⟩

theorem Byt.below (h : Byt w A n c l) (hb : Below w.heap.size w w') : Byt w' A n c l :=
  h.keep fun p _ hu => (hb.cell (World.block_lt_of_cell? w p hu)).trans hu

theorem Byt.drewN (h : Byt w A n c l) (k : Nat) : Byt (w.drewN k) A n c l := h.keep fun _ _ hu => hu
theorem Byt.drew (h : Byt w A n c l) : Byt w.drew A n c l := h.keep fun _ _ hu => hu

theorem Byt.alloc (h : Byt w A n c l) (o : Obj) : Byt (w.alloc o) A n c l :=
  h.below ((Below.refl _ _).alloc (Nat.le_refl _) o)

theorem Byt.lt_ (h : Byt w A n c l) (i : Nat) (hi : i < n) : 0 ≤ l.getD i 0 ∧ l.getD i 0 < 256 := by
  have hl : i < l.length := by rw [h.len]; exact hi
  have : l.getD i 0 = l[i] := by simp [List.getD, List.getElem?_eq_getElem hl]
  rw [this]
  exact h.rng _ (List.getElem_mem hl)

/-- What the call owns reads as bytes. -/
theorem Byt.of_own {base : Nat} {e : TypeId} (h : w.ownsRow base e 1 (.slice A n c) n (l.map (Value.int .u8))) (hr : ∀ x ∈ l, 0 ≤ x ∧ x < 256) : Byt w A n c l := by
  have hl : l.length = n := by simpa using h.1
  rcases h.2 with ⟨hv, hn⟩ | ⟨g, cap, cur, hv, hb, hg, hnc, hm, hs, ht⟩
  · injection hv with h1 h2 h3
    subst h1 h2 h3
    exact ⟨hl, Nat.le_refl _, Nat.zero_le _, hr, fun _ => ⟨rfl, rfl⟩, fun h => absurd h (by omega)⟩
  · injection hv with h1 h2 h3
    subst h1 h3
    refine ⟨hl, hnc, hm, hr, (fun h => nomatch h), fun _ => ⟨g, 0, rfl, fun i hi => ?_⟩⟩
    have := h.cells (g := g) rfl i (.int .u8 (l.getD i 0)) (by
      have hil : i < l.length := by omega
      simp [List.getElem?_map, List.getElem?_eq_getElem hil, List.getD])
    have hadd : (⟨g, 0, none⟩ : Addr).add i = ⟨g, 0 + i, none⟩ := by unfold Addr.add; split <;> simp_all
    rwa [hadd] at this

/-- A cut at the end: 's[:k]'. -/
theorem Byt.take (h : Byt w A n c l) (k : Nat) (hk : k ≤ n) : Byt w A k c (l.take k) := by
  refine ⟨by rw [List.length_take, h.len]; omega, by have := h.cap; omega, h.max, fun x hx => h.rng x (List.mem_of_mem_take hx), fun e => ⟨by have := (h.nil_ e).1; omega, (h.nil_ e).2⟩, fun hk0 => ?_⟩
  obtain ⟨g, off, e, hc⟩ := h.at_ (by omega)
  refine ⟨g, off, e, fun i hi => ?_⟩
  rw [hc i (by omega)]
  congr 2
  simp [List.getD, hi]

/-- The cells as a list, for the laws on append. -/
theorem Byt.cells (h : Byt w A n c l) (ad : Addr) (hA : A = some ad) : ∀ j u, (l.map (Value.int .u8))[j]? = some u → w.cell? (ad.add j) = some u := by
  intro j u hu
  rw [List.getElem?_map] at hu
  have hj : j < l.length := by
    rcases Nat.lt_or_ge j l.length with h1 | h1
    · exact h1
    · rw [List.getElem?_eq_none h1] at hu; simp at hu
  obtain ⟨g, off, e, hc⟩ := h.at_ (by rw [← h.len]; omega)
  rw [hA] at e
  injection e with e
  subst e
  rw [List.getElem?_eq_getElem hj] at hu
  have hadd : (⟨g, off, none⟩ : Addr).add j = ⟨g, off + j, none⟩ := by unfold Addr.add; split <;> simp_all
  rw [hadd, hc j (by rw [← h.len]; exact hj)]
  simp at hu
  rw [← hu]
  simp [List.getD, List.getElem?_eq_getElem hj]
end

theorem u8_one (l : List Int) : ∀ u ∈ l.map (Value.int .u8), u.oneCell' = true := by
  intro u hu
  obtain ⟨x, _, rfl⟩ := List.mem_map.1 hu
  rfl

/-- An operation whose guard says go. -/
theorem wpList_guarded {P : Program} {w : World} {ops : Array Oper} {rest : List Oper} {o : Oper} {a : Act} {Q : Exit → Act → World → Prop} (hw : Region.wanted o (yielded ops a.tmps) = true)
    (h : ∀ K : Act → World → Prop, (∀ a w, wpList P ops Q rest a w → K a w) → o.wp P a w K Q) : wpList P ops Q (o :: rest) a w :=
  wpList_step fun K hK => by rw [if_pos hw]; exact h K hK

theorem wp_append_byt {P : Program} {w : World} {o : Oper} {a : Act} {K : Act → World → Prop} {Q : Exit → Act → World → Prop} (s x : Operand) (t : TypeId)
    (ho : o.op = .call { callee := .builtin .append, args := #[s, x], argTypes := #[t, t] })
    (base : Nat) (e : TypeId) (i : TypeInfo) (ht : P.underlying t = some (.slice e)) (hi : P.info? e = some i) (hz : i.zero = some (.int .u8 0)) (hsize : i.size = 1) (hby : i.bytes = 1)
    (v : Value) (k : Nat) (xs : List Int) (hs : a.eval s = v) (hown : w.ownsRow base e 1 v k (xs.map (Value.int .u8)))
    (A : Option Addr) (n c : Nat) (l : List Int) (hx : a.eval x = .slice A n c) (hl : Byt w A n c l)
    (hbytes : k + n ≤ 140737488355328) (hbase : base ≤ w.heap.size)
    (h : ∀ A' c' w', w'.ownsRow base e 1 (.slice A' (k + n) c') (k + n) ((xs ++ l).map (Value.int .u8)) → w.grownBy w' v.ownBlock → K (a.put o.dst (.slice A' (k + n) c')) w') : o.wp P a w K Q := by
  have form : ∀ (v' : Value) (w' : World) (m : Nat) (ys : List Value), w'.ownsRow base e 1 v' m ys → ∃ A' c', v' = .slice A' m c' := by
    intro v' w' m ys ho'
    rcases ho'.2 with ⟨h1, h2⟩ | ⟨g, cap, _, h1, _⟩
    · subst h2; exact ⟨none, 0, h1⟩
    · exact ⟨_, _, h1⟩
  cases A with
  | none =>
    obtain ⟨rfl, rfl⟩ := hl.nil_ rfl
    have hl0 : l = [] := List.eq_nil_of_length_eq_zero hl.len
    subst hl0
    have hrun := run_append_owned_none (P := P) (w := w) base t o.type e i 1 ht hi v k _ hown
    obtain ⟨A', c', rfl⟩ := form _ _ _ _ hown
    have h' := h A' c' w
    simp only [Nat.add_zero, List.append_nil] at h'
    unfold Oper.wp
    simp [execOp, ho, resolve, invoke, builtin, hs, hx, hrun, Result.andThen]
    exact h' hown (World.grownBy.refl w _)
  | some ad =>
    refine wp_append_own w s x t ho base e i (.int .u8 0) 1 1 ht hi hz hsize hby rfl (by decide) v k _ hs hown ad n c (l.map (Value.int .u8)) hx (by simp [hl.len]) (hl.cells ad rfl) (u8_one l) (by unfold maxLen; omega) (by omega) hbase ?_
    intro v' w' h1 h2 _
    obtain ⟨A', c', rfl⟩ := form _ _ _ _ h1
    exact h A' c' w' (by simpa using h1) h2

/-- 'out = append(out, xs...)': out a row of the call's own, xs any slice of bytes. -/
theorem wpList_append_byt {P : Program} {w : World} {ops : Array Oper} {rest : List Oper} {o : Oper} {a : Act} {Q : Exit → Act → World → Prop} (hgd : o.guard = none) (s x : Operand) (t : TypeId)
    (ho : o.op = .call { callee := .builtin .append, args := #[s, x], argTypes := #[t, t] })
    (base : Nat) (e : TypeId) (i : TypeInfo) (ht : P.underlying t = some (.slice e)) (hi : P.info? e = some i) (hz : i.zero = some (.int .u8 0)) (hsize : i.size = 1) (hby : i.bytes = 1)
    (v : Value) (k : Nat) (xs : List Int) (hs : a.eval s = v) (hown : w.ownsRow base e 1 v k (xs.map (Value.int .u8)))
    (A : Option Addr) (n c : Nat) (l : List Int) (hx : a.eval x = .slice A n c) (hl : Byt w A n c l)
    (hbytes : k + n ≤ 140737488355328) (hbase : base ≤ w.heap.size)
    (h : ∀ A' c' w', w'.ownsRow base e 1 (.slice A' (k + n) c') (k + n) ((xs ++ l).map (Value.int .u8)) → w.grownBy w' v.ownBlock → wpList P ops Q rest (a.put o.dst (.slice A' (k + n) c')) w') :
    wpList P ops Q (o :: rest) a w :=
  wpList_plain hgd fun _ hK => wp_append_byt s x t ho base e i ht hi hz hsize hby v k xs hs hown A n c l hx hl hbytes hbase fun A' c' w' h1 h2 => hK _ _ (h A' c' w' h1 h2)

/-- The same behind a guard that says go. -/
theorem wpList_append_byt_g {P : Program} {w : World} {ops : Array Oper} {rest : List Oper} {o : Oper} {a : Act} {Q : Exit → Act → World → Prop} (hgd : Region.wanted o (yielded ops a.tmps) = true) (s x : Operand) (t : TypeId)
    (ho : o.op = .call { callee := .builtin .append, args := #[s, x], argTypes := #[t, t] })
    (base : Nat) (e : TypeId) (i : TypeInfo) (ht : P.underlying t = some (.slice e)) (hi : P.info? e = some i) (hz : i.zero = some (.int .u8 0)) (hsize : i.size = 1) (hby : i.bytes = 1)
    (v : Value) (k : Nat) (xs : List Int) (hs : a.eval s = v) (hown : w.ownsRow base e 1 v k (xs.map (Value.int .u8)))
    (A : Option Addr) (n c : Nat) (l : List Int) (hx : a.eval x = .slice A n c) (hl : Byt w A n c l)
    (hbytes : k + n ≤ 140737488355328) (hbase : base ≤ w.heap.size)
    (h : ∀ A' c' w', w'.ownsRow base e 1 (.slice A' (k + n) c') (k + n) ((xs ++ l).map (Value.int .u8)) → w.grownBy w' v.ownBlock → wpList P ops Q rest (a.put o.dst (.slice A' (k + n) c')) w') :
    wpList P ops Q (o :: rest) a w :=
  wpList_guarded hgd fun _ hK => wp_append_byt s x t ho base e i ht hi hz hsize hby v k xs hs hown A n c l hx hl hbytes hbase fun A' c' w' h1 h2 => hK _ _ (h A' c' w' h1 h2)

/-- 'T{x}': a new slice of one byte. -/
theorem own_one (W : World) (base : Nat) (e : TypeId) (x : Int) (hb : base ≤ W.heap.size) :
    (W.alloc (.cells #[.int .u8 x] e)).ownsRow base e 1 (.slice (some ⟨W.heap.size, 0, none⟩) 1 1) 1 ([x].map (Value.int .u8)) :=
  ⟨by simp, .inr ⟨W.heap.size, 1, _, rfl, hb, heap_alloc_new W _, Nat.le_refl _, by unfold maxLen; omega, by simp, by simp⟩⟩

/-- Block g is just the cells cs, of type t. -/
def Bk (w : World) (g : Nat) (t : TypeId) (cs : Array Value) : Prop := w.heap[g]? = some (.cells cs t (0, 0))

section
variable {w w' : World} {g : Nat} {t : TypeId} {cs : Array Value}
theorem Bk.lt (h : Bk w g t cs) : g < w.heap.size := (Array.getElem?_eq_some_iff.1 h).1
theorem Bk.cell (h : Bk w g t cs) (i : Nat) : w.cell? ⟨g, i, none⟩ = cs[i]? := cell_of_row w g i cs t (0, 0) h
theorem Bk.frz (h : Bk w g t cs) (i : Nat) : w.frozen? ⟨g, i, none⟩ = false := by
  unfold Bk at h
  simp [World.frozen?, h]
theorem Bk.new (w : World) (t : TypeId) (cs : Array Value) : Bk (w.alloc (.cells cs t)) w.heap.size t cs := heap_alloc_new w _
theorem Bk.setc (h : Bk w g t cs) (i : Nat) (u : Value) : Bk (w.setCell ⟨g, i, none⟩ u) g t (cs.setIfInBounds i u) := by
  unfold Bk at h ⊢
  simp [World.setCell, Array.getElem?_modify, h]
theorem Bk.bel (h : Bk w g t cs) {B : Nat} (hb : Below B w w') (hg : g < B) : Bk w' g t cs := (hb.block g hg).trans h
end

/-- A part of a block of bytes reads as a list. -/
theorem Byt.of_bk {w : World} {g : Nat} {t : TypeId} {cs : Array Value} (h : Bk w g t cs) (off n c : Nat) (l : List Int) (hl : l.length = n) (hc : n ≤ c) (hm : c ≤ maxLen) (hr : ∀ x ∈ l, 0 ≤ x ∧ x < 256)
    (ha : ∀ i, i < n → cs[off + i]? = some (.int .u8 (l.getD i 0))) : Byt w (some ⟨g, off, none⟩) n c l :=
  ⟨hl, hc, hm, hr, (fun h => nomatch h), fun _ => ⟨g, off, rfl, fun i hi => by rw [h.cell]; exact ha i hi⟩⟩

/-- 'T{x, y, ..}': a new block of bytes reads as them. -/
theorem Byt.lit (W : World) (t : TypeId) (l : List Int) (n : Nat) (hl : l.length = n) (hm : n ≤ maxLen) (hr : ∀ x ∈ l, 0 ≤ x ∧ x < 256) : Byt (W.alloc (.cells (l.map (Value.int .u8)).toArray t)) (some ⟨W.heap.size, 0, none⟩) n n l :=
  Byt.of_bk (Bk.new W t _) 0 n n l hl (Nat.le_refl _) hm hr (fun i hi => by
    have hil : i < l.length := by omega
    simp [List.getElem?_eq_getElem hil])

/-- The same where the block bears a mark ('[]byte("abc")' of a constant). -/
theorem Byt.lit_mark (W : World) (t : TypeId) (fr : Nat × Nat) (l : List Int) (n : Nat) (hl : l.length = n) (hm : n ≤ maxLen) (hr : ∀ x ∈ l, 0 ≤ x ∧ x < 256) : Byt (W.alloc (.cells (l.map (Value.int .u8)).toArray t fr)) (some ⟨W.heap.size, 0, none⟩) n n l :=
  ⟨hl, Nat.le_refl _, hm, hr, (fun h => nomatch h), fun _ => ⟨W.heap.size, 0, rfl, fun i hi => by
    have hil : i < l.length := by omega
    rw [cell_of_row _ _ _ _ _ _ (heap_alloc_new W _)]
    simp [List.getElem?_eq_getElem hil, List.getD]⟩⟩

/-- A call answers v; what was there reads as before. -/
def Ret (v : Value) (w : World) (e : Ending) (w' : World) : Prop := e = .returned v ∧ Below w.heap.size w w'

/-- A call hands back a slice that reads as l, in new memory; what was there reads as before. -/
def RetByt (l : List Int) (w : World) (e : Ending) (w' : World) : Prop :=
  ∃ A n c, e = .returned (.slice A n c) ∧ Byt w' A n c l ∧ Below w.heap.size w w'

/-- A slice that reads as l, and a number beside it. -/
def RetByt2 (l : List Int) (k : IntKind) (x : Int) (w : World) (e : Ending) (w' : World) : Prop :=
  ∃ A n c, e = .returned (.tuple #[.slice A n c, .int k x]) ∧ Byt w' A n c l ∧ Below w.heap.size w w'

/-- What the call says, and that it draws at most. -/
def Quiet (v : Value) (w : World) (e : Ending) (w' : World) : Prop := e = .returned v ∧ ∃ k, w' = w.drewN k

theorem below_drewN {B : Nat} {a w : World} (h : Below B a w) (n : Nat) : Below B a (w.drewN n) := ⟨h.os, h.tape, h.output, h.size, h.block⟩

theorem Below.then {w w1 w2 : World} (h : Below w.heap.size w w1) (k : Below w1.heap.size w1 w2) : Below w.heap.size w w2 :=
  h.trans (k.mono h.size)

/-- A call that draws at most, told as one that leaves what was there. -/
theorem Quiet.ret {P : Program} {f : FuncId} {args : Array Value} {v : Value} {w : World} (h : Calls P f args w (Quiet v w)) : Calls P f args w (Ret v w) :=
  h.mono fun _ _ ⟨he, k, hw⟩ => ⟨he, by rw [hw]; exact below_drewN (Below.refl _ _) k⟩

end Go.Proofs.YtljpnngknmpdoaaDoor

/- the statements' own() hands back the same bytes in new memory; the slice that comes in holds at most 2^47 bytes. -/
namespace Go.Proofs.YtljpnngknmpdoaaDoor
open Go.RowKit

theorem info_u8 : (Tryd.prog.info? 5).map (fun i => (i.zero, i.size, i.bytes)) = some (some (.int .u8 0), 1, 1) := by kernel_rfl

/-- A call hands back a row of its own that reads as l. -/
def RetOwn (l : List Int) (w : World) (e : Ending) (w' : World) : Prop :=
  ∃ A n c, e = .returned (.slice A n c) ∧ w'.ownsRow w.heap.size 5 1 (.slice A n c) n (l.map (Value.int .u8)) ∧ (∀ x ∈ l, 0 ≤ x ∧ x < 256) ∧ Below w.heap.size w w'

theorem RetOwn.byt {l : List Int} {w : World} {e : Ending} {w' : World} (h : RetOwn l w e w') : RetByt l w e w' := by
  obtain ⟨A, n, c, he, ho, hr, hb⟩ := h
  exact ⟨A, n, c, he, Byt.of_own ho hr, hb⟩

theorem own_end {w w' : World} {A' : Option Addr} {n c' : Nat} {l : List Int} (hr : ∀ x ∈ l, 0 ≤ x ∧ x < 256)
    (h1 : w'.ownsRow w.heap.size 5 1 (.slice A' n c') n (l.map (Value.int .u8))) (h2 : (w.alloc (.cells #[] 5)).grownBy w' (Value.ownBlock (.slice (some ⟨w.heap.size, 0, none⟩) 0 0))) :
    RetOwn l w (.returned (.slice A' n c')) w' :=
  ⟨A', n, c', rfl, h1, hr, ((Below.refl _ _).alloc (Nat.le_refl _) _).grown h2 (by simp) (by intro k hk; simp [Value.ownBlock] at hk; omega)⟩

/- What an append onto a row of one's own leaves. -/
theorem app_below {w1 w2 w3 : World} {v : Value} {k : Nat} {e : TypeId} {xs : List Value} (b2 : Below w1.heap.size w1 w2) (ho : w2.ownsRow w1.heap.size e 1 v k xs) (hg : w2.grownBy w3 v.ownBlock) : Below w1.heap.size w1 w3 :=
  b2.grown hg b2.size (fun i hi => (ho.lt i hi).1)

theorem app_byt {B : Nat} {w : World} {e : TypeId} {A : Option Addr} {m c : Nat} {xs ys : List Int} (h : w.ownsRow B e 1 (.slice A m c) m (xs.map (Value.int .u8) ++ ys.map (Value.int .u8))) (hx : ∀ x ∈ xs, 0 ≤ x ∧ x < 256) (hy : ∀ x ∈ ys, 0 ≤ x ∧ x < 256) : Byt w A m c (xs ++ ys) := by
  rw [← List.map_append] at h
  exact Byt.of_own h (fun x hx' => by
    rcases List.mem_append.1 hx' with h | h
    · exact hx x h
    · exact hy x h)

/-- n noughts. -/
def noughts (n : Nat) : Array Value := madeCells #[.int .u8 0] n
theorem noughts_size (n : Nat) : (noughts n).size = n := size_madeCells _ _

theorem make_bytes (n : Nat) (hn : n ≤ 281474976710656) (W : World) : (Instr.makeSlice 24 (.int .i64 (n : Int)) (.int .i64 (n : Int))).run Tryd.prog W =
    .ok (.slice (some ⟨W.heap.size, 0, none⟩) n n) (W.alloc (.cells (noughts n) 5)) := by
  obtain ⟨i0, hi, hz0, hz1, hz2⟩ := info_parts info_u8
  have := run_make (P := Tryd.prog) W 24 5 i0 (.int .u8 0) Tryd.underlying24 hi hz0 .i64 .i64 n n (by omega) (by omega) (by rw [hz2]; omega) (by omega)
  rw [this, hz1, Int.toNat_natCast, Nat.mul_one]
  rfl
end Go.Proofs.YtljpnngknmpdoaaDoor

/- strings as lists of bytes; '[]byte(s)', 'string(b)' and 'append(b, s...)' as the laws on slices of bytes want them. No program's function is named; no condition. -/
namespace Go.Proofs.YtljpnngknmpdoaaDoor
open Go.RowKit

/-- A string's bytes as numbers. -/
def nums (s : ByteArray) : List Int := s.data.toList.map fun b => (b.toNat : Int)

theorem nums_rng (s : ByteArray) : ∀ x ∈ nums s, 0 ≤ x ∧ x < 256 := by
  intro x hx
  obtain ⟨b, _, rfl⟩ := List.mem_map.1 hx
  have := b.toNat_lt
  omega

theorem nums_len (s : ByteArray) : (nums s).length = s.size := by
  unfold nums
  rw [List.length_map, Array.length_toList]
  rfl

theorem nums_str (l : List Int) (hr : ∀ x ∈ l, 0 ≤ x ∧ x < 256) : nums (strOfNums l) = l := by
  unfold nums
  rw [strOfNums_data, List.map_map]
  conv => rhs; rw [← List.map_id l]
  refine List.map_congr_left fun x hx => ?_
  have := hr x hx
  simp only [Function.comp, id, UInt8.toNat_ofNat']
  omega

theorem str_nums (s : ByteArray) : strOfNums (nums s) = s := by
  apply ByteArray.ext
  apply Array.ext'
  rw [strOfNums_data]
  unfold nums
  rw [List.map_map]
  conv => rhs; rw [← List.map_id s.data.toList]
  refine List.map_congr_left fun b _ => ?_
  simp [Function.comp]

theorem str_inj {l m : List Int} (hl : ∀ x ∈ l, 0 ≤ x ∧ x < 256) (hm : ∀ x ∈ m, 0 ≤ x ∧ x < 256) (h : strOfNums l = strOfNums m) : l = m := by
  rw [← nums_str l hl, ← nums_str m hm, h]

theorem strCells_nums (s : ByteArray) : Lib.strCells s = (nums s).map (Value.int .u8) := by
  unfold Lib.strCells nums
  rw [List.map_map]
  rfl

theorem nums_getD (s : ByteArray) (j : Nat) (hj : j < s.size) : (nums s).getD j 0 = ((s.data.toList.getD j 0).toNat : Int) := by
  have h : j < s.data.toList.length := by rw [Array.length_toList]; exact hj
  unfold nums
  simp only [List.getD, List.getElem?_map, List.getElem?_eq_getElem h, Option.map_some, Option.getD_some]

theorem bytesWorld_below (w : World) (e : TypeId) (s : ByteArray) : Below w.heap.size w (Lib.bytesWorld w e s) :=
  ⟨rfl, rfl, rfl, by rw [Lib.bytesWorld_size]; omega, fun k hk => Lib.bytesWorld_at_old w e s k hk⟩

/-- '[]byte(s)': new memory that reads as the string's bytes. -/
theorem Byt.ofString (w : World) (e : TypeId) (s : ByteArray) (hs : s.size ≤ maxLen) : Byt (Lib.bytesWorld w e s) (some ⟨w.heap.size, 0, none⟩) s.size (grownCap w s.size 0 e) (nums s) :=
  ⟨nums_len s, grownCap_ge w s.size 0 e, grownCap_le_maxLen w s.size 0 e hs, nums_rng s, (fun h => nomatch h), fun _ => ⟨w.heap.size, 0, rfl, fun i hi => by
    rw [Nat.zero_add, Lib.bytesWorld_cell w e s i hi, nums_getD s i hi]⟩⟩

theorem conv_str (w : World) (s : ByteArray) : (convert 9 24 (.string s)).run Tryd.prog w = .ok (.slice (some ⟨w.heap.size, 0, none⟩) s.size (grownCap w s.size 0 5)) (Lib.bytesWorld w 5 s) :=
  Lib.run_convert_string_bytes w _ _ _ s Tryd.underlying9 Tryd.underlying24 Tryd.underlying5

/-- 'string(b)': a string of just these bytes; nothing is turned. -/
theorem conv_byt {w : World} {A : Option Addr} {n c : Nat} {l : List Int} (h : Byt w A n c l) : (convert 24 9 (.slice A n c)).run Tryd.prog w = .ok (.string (strOfNums l)) w := by
  by_cases hn : 0 < n
  · obtain ⟨g, off, rfl, hc⟩ := h.at_ hn
    exact run_convert_bytes_arg w _ _ Tryd.underlying24 Tryd.underlying5 g off n c l h.len hc _ Tryd.underlying9
  · have h0 : n = 0 := by omega
    subst h0
    have e : l = [] := List.eq_nil_of_length_eq_zero h.len
    subst e
    cases A with
    | none => exact run_convert_bytes_nil w _ _ Tryd.underlying24 Tryd.underlying5 _ _ _ Tryd.underlying9
    | some a =>
      rw [run_convert_bytes_string w _ _ _ _ _ _ Tryd.underlying24 Tryd.underlying5 Tryd.underlying9]
      rw [run_bytesToString w a 0 c [] (by simpa using run_loadCells_list (P := Tryd.prog) w a [] (by simp))]
      rfl

theorem str_size (l : List Int) : (strOfNums l).size = l.length := strOfNums_size l

/-- Where 's[j:..]' begins. -/
def subA (A : Option Addr) (c j : Nat) : Option Addr := if c = j then A else A.map (·.add (j * 1))

/-- 's[j:k]' reads as that part. -/
theorem Byt.sub {w : World} {A : Option Addr} {n c : Nat} {l : List Int} (h : Byt w A n c l) (j k : Nat) (hjk : j ≤ k) (hk : k ≤ n) : Byt w (subA A c j) (k - j) (c - j) ((l.drop j).take (k - j)) := by
  have hcap := h.cap
  have hmax := h.max
  refine ⟨by rw [List.length_take, List.length_drop, h.len]; omega, by omega, by omega, fun x hx => h.rng x (List.mem_of_mem_drop (List.mem_of_mem_take hx)), fun e => ?_, fun hp => ?_⟩
  · have e' : A = none := by
      unfold subA at e
      split at e
      · exact e
      · cases A with
        | none => rfl
        | some a => simp at e
    have := h.nil_ e'
    omega
  · obtain ⟨g, off, h1, hc⟩ := h.at_ (by omega)
    subst h1
    refine ⟨g, off + j, ?_, fun i hi => ?_⟩
    · unfold subA
      rw [if_neg (by omega)]
      simp [Addr.add]
    · rw [Nat.add_assoc, hc (j + i) (by omega)]
      congr 2
      simp [List.getD, hi]

theorem elem25 : Tryd.prog.elem 24 = 5 := by kernel_rfl
theorem under25 : Tryd.prog.underlying 24 = some (.slice (Tryd.prog.elem 24)) := by kernel_rfl

theorem sz_u8 (W : World) : (sizeOf 5).run Tryd.prog W = .ok 1 W := by
  obtain ⟨i0, hi, hz0, hz1, hz2⟩ := info_parts info_u8
  simp [sizeOf, typeInfo, hi, hz1]

/-- 's[j:k]'. -/
theorem cut_lh {w : World} {A : Option Addr} {n c : Nat} {l : List Int} (h : Byt w A n c l) (j k : Nat) (hjk : j ≤ k) (hk : k ≤ n) (zj zk : Int) (ej : zj = j) (ek : zk = k) :
    ∃ B m d, (∀ v, (Instr.slice 24 (.slice A n c) (some (.int .i64 zj)) (some (.int .i64 zk)) none).run Tryd.prog v = .ok (.slice B m d) v) ∧ m = k - j ∧ Byt w B m d ((l.drop j).take (k - j)) := by
  have hcap := h.cap
  subst ej ek
  refine ⟨subA A c j, k - j, c - j, fun v => ?_, rfl, h.sub j k hjk hk⟩
  rw [run_slice_lh (P := Tryd.prog) (w := v) 24 A n c under25 .i64 .i64 j k (by omega) (by omega) (by omega), elem25, sz_u8]
  simp [sliced, Result.andThen, subA]

/-- 's[j:]'. -/
theorem cut_l {w : World} {A : Option Addr} {n c : Nat} {l : List Int} (h : Byt w A n c l) (j : Nat) (hj : j ≤ n) (zj : Int) (ej : zj = j) :
    ∃ B m d, (∀ v, (Instr.slice 24 (.slice A n c) (some (.int .i64 zj)) none none).run Tryd.prog v = .ok (.slice B m d) v) ∧ m = n - j ∧ Byt w B m d (l.drop j) := by
  have hcap := h.cap
  subst ej
  refine ⟨subA A c j, n - j, c - j, fun v => ?_, rfl, ?_⟩
  · rw [run_slice_l (P := Tryd.prog) (w := v) 24 A n c under25 .i64 j (by omega) (by omega), elem25, sz_u8]
    simp [sliced, Result.andThen, subA]
  · have := h.sub j n hj (Nat.le_refl _)
    rwa [List.take_of_length_le (by rw [List.length_drop, h.len]; omega)] at this

theorem subA_block {A : Option Addr} {c j : Nat} {a : Addr} (h : subA A c j = some a) : ∃ a', A = some a' ∧ a.block = a'.block := by
  unfold subA at h
  split at h
  · exact ⟨a, h, rfl⟩
  · cases A with
    | none => simp at h
    | some a' =>
      simp at h
      refine ⟨a', rfl, ?_⟩
      rw [← h]
      unfold Addr.add
      split <;> rfl

/-- 's[j:]', and in which block it lies. -/
theorem cut_lb {w : World} {A : Option Addr} {n c : Nat} {l : List Int} (h : Byt w A n c l) (j : Nat) (hj : j ≤ n) (zj : Int) (ej : zj = j) :
    ∃ B m d, (∀ v, (Instr.slice 24 (.slice A n c) (some (.int .i64 zj)) none none).run Tryd.prog v = .ok (.slice B m d) v) ∧ m = n - j ∧ Byt w B m d (l.drop j) ∧ ∀ a, B = some a → ∃ a', A = some a' ∧ a.block = a'.block := by
  have hcap := h.cap
  subst ej
  refine ⟨subA A c j, n - j, c - j, fun v => ?_, rfl, ?_, fun a ha => subA_block ha⟩
  · rw [run_slice_l (P := Tryd.prog) (w := v) 24 A n c under25 .i64 j (by omega) (by omega), elem25, sz_u8]
    simp [sliced, Result.andThen, subA]
  · have := h.sub j n hj (Nat.le_refl _)
    rwa [List.take_of_length_le (by rw [List.length_drop, h.len]; omega)] at this

/-- 's[:k]'. -/
theorem cut_h {w : World} {A : Option Addr} {n c : Nat} {l : List Int} (h : Byt w A n c l) (k : Nat) (hk : k ≤ n) (zk : Int) (ek : zk = k) :
    ∃ B d, (∀ v, (Instr.slice 24 (.slice A n c) none (some (.int .i64 zk)) none).run Tryd.prog v = .ok (.slice B k d) v) ∧ Byt w B k d (l.take k) := by
  have hcap := h.cap
  subst ek
  refine ⟨subA A c 0, c - 0, fun v => ?_, ?_⟩
  · rw [run_slice_h (P := Tryd.prog) (w := v) 24 A n c under25 .i64 k (by omega) (by omega), elem25, sz_u8]
    simp [sliced, Result.andThen, subA]
  · have := h.sub 0 k (Nat.zero_le _) hk
    simpa using this
end Go.Proofs.YtljpnngknmpdoaaDoor

/- plain mathematics of layer 1: digits to the base 128, what is read of them, big-endian bytes. No program is named; no condition. -/
namespace Go.Proofs.YtljpnngknmpdoaaDoor

/-- The digits ahead of the last one, 128 added to each. -/
def hiD (n : Nat) : List Int := if _h : n = 0 then [] else hiD (n / 128) ++ [((n : Int) % 128) + 128]
termination_by n
decreasing_by omega

/-- The varint encoding. -/
def shortL (n : Nat) : List Int := hiD (n / 128) ++ [((n : Int) % 128)]

theorem hiD_zero : hiD 0 = [] := by rw [hiD]; simp
theorem hiD_pos {n : Nat} (h : n ≠ 0) : hiD n = hiD (n / 128) ++ [((n : Int) % 128) + 128] := by rw [hiD]; simp [h]

theorem hiD_rng (n : Nat) : ∀ x ∈ hiD n, 128 ≤ x ∧ x < 256 := by
  induction n using Nat.strongRecOn with
  | _ n ih =>
    intro x hx
    by_cases h : n = 0
    · rw [h, hiD_zero] at hx; simp at hx
    · rw [hiD_pos h, List.mem_append] at hx
      rcases hx with hx | hx
      · exact ih (n / 128) (by omega) x hx
      · simp at hx; omega

theorem shortL_rng (n : Nat) : ∀ x ∈ shortL n, 0 ≤ x ∧ x < 256 := by
  intro x hx
  unfold shortL at hx
  rw [List.mem_append] at hx
  rcases hx with hx | hx
  · have := hiD_rng _ x hx; omega
  · simp at hx; omega

theorem hiD_len (n k : Nat) (h : n < 128 ^ k) : (hiD n).length ≤ k := by
  induction k generalizing n with
  | zero => have : n = 0 := by simpa using h
            rw [this, hiD_zero]; simp
  | succ k ih =>
    by_cases h0 : n = 0
    · rw [h0, hiD_zero]; simp
    · rw [hiD_pos h0]
      have := ih (n / 128) (by rw [Nat.pow_succ] at h; omega)
      simp; omega

theorem shortL_len (n : Nat) (h : n < 18446744073709551616) : (shortL n).length ≤ 10 := by
  unfold shortL
  have := hiD_len (n / 128) 9 (by omega)
  simp; omega

theorem shortL_pos (n : Nat) : 0 < (shortL n).length := by unfold shortL; simp

theorem hiD_mono (a : Nat) : ∀ b, a ≤ b → (hiD a).length ≤ (hiD b).length := by
  induction a using Nat.strongRecOn with
  | _ a ih =>
    intro b hab
    by_cases h : a = 0
    · rw [h, hiD_zero]; simp
    · rw [hiD_pos h, hiD_pos (n := b) (by omega)]
      have := ih (a / 128) (by omega) (b / 128) (by omega)
      simp; omega

theorem shortL_mono {a b : Nat} (h : a ≤ b) : (shortL a).length ≤ (shortL b).length := by
  unfold shortL
  have := hiD_mono (a / 128) (b / 128) (by omega)
  simp; omega

theorem short300 : shortL 300 = [130, 44] := by
  unfold shortL
  rw [hiD_pos (by decide), show 300 / 128 / 128 = 0 from rfl, hiD_zero]
  rfl

/-- What is read at the beginning: the number, how many bytes it has, the error's number. n: what is gathered; i: how many bytes are gone through. -/
def takeF : List Int → Nat → Nat → Nat × Nat × Nat
  | [], _, _ => (0, 0, 10)
  | c :: r, n, i => if i = 0 ∧ c = 128 then (0, 0, 11) else if 144115188075855872 ≤ n then (0, 0, 12) else
      if c < 128 then (n * 128 + (c % 128).toNat, i + 1, 0) else takeF r (n * 128 + (c % 128).toNat) (i + 1)

theorem takeF_cons (c : Int) (r : List Int) (n i : Nat) : takeF (c :: r) n i = if i = 0 ∧ c = 128 then (0, 0, 11) else if 144115188075855872 ≤ n then (0, 0, 12) else
      if c < 128 then (n * 128 + (c % 128).toNat, i + 1, 0) else takeF r (n * 128 + (c % 128).toNat) (i + 1) := rfl

/-- The digits of a number are gone through, and what stands behind them is read on. -/
theorem takeF_hiD (m : Nat) (hm : m < 144115188075855872) (rest : List Int) (hd : m = 0 → True) : takeF (hiD m ++ rest) 0 0 = takeF rest m (hiD m).length := by
  induction m using Nat.strongRecOn generalizing rest with
  | _ m ih =>
    by_cases h : m = 0
    · rw [h, hiD_zero]; rfl
    · rw [hiD_pos h, List.append_assoc, ih (m / 128) (by omega) (by omega) _ (fun _ => trivial)]
      have hl : (hiD (m / 128)).length = 0 → m / 128 = 0 := by
        intro hl
        by_cases h0 : m / 128 = 0
        · exact h0
        · rw [hiD_pos h0] at hl; simp at hl
      rw [List.cons_append, List.nil_append, takeF_cons, if_neg (by intro ⟨h1, h2⟩; have := hl h1; omega), if_neg (by omega), if_neg (by omega)]
      have e : m / 128 * 128 + ((((m : Int) % 128) + 128) % 128).toNat = m := by omega
      rw [e, List.length_append]
      congr 1

theorem takeF_short (n : Nat) (hn : n < 18446744073709551616) (rest : List Int) : takeF (shortL n ++ rest) 0 0 = (n, (shortL n).length, 0) := by
  unfold shortL
  rw [List.append_assoc, takeF_hiD _ (by omega) _ (fun _ => trivial)]
  rw [List.cons_append, List.nil_append, takeF_cons, if_neg (by omega), if_neg (by omega), if_pos (by omega)]
  have e : n / 128 * 128 + (((n : Int) % 128) % 128).toNat = n := by omega
  rw [e, List.length_append]
  congr 1

theorem takeF_cut (m : Nat) (hm : m < 144115188075855872) (c : Nat) (hc : c ≤ (hiD m).length) : takeF ((hiD m).take c) 0 0 = (0, 0, 10) := by
  induction m using Nat.strongRecOn generalizing c with
  | _ m ih =>
    by_cases h : m = 0
    · rw [h, hiD_zero]; simp [takeF]
    · by_cases hc1 : c ≤ (hiD (m / 128)).length
      · rw [hiD_pos h, List.take_append_of_le_length hc1]
        exact ih (m / 128) (by omega) (by omega) c hc1
      · have hl : (hiD m).length = (hiD (m / 128)).length + 1 := by rw [hiD_pos h]; simp
        rw [List.take_of_length_le (by omega)]
        have := takeF_hiD m hm [] (fun _ => trivial)
        rw [List.append_nil] at this
        rw [this]; rfl

/-- No beginning of a number's digits is read. -/
theorem takeF_short_cut (n : Nat) (hn : n < 18446744073709551616) (c : Nat) (hc : c < (shortL n).length) : takeF ((shortL n).take c) 0 0 = (0, 0, 10) := by
  unfold shortL at hc ⊢
  simp at hc
  rw [List.take_append_of_le_length (by omega)]
  exact takeF_cut _ (by omega) c (by omega)

/-- What is read is below 2^64, and its digits are just the bytes gone through. -/
theorem takeF_back (l : List Int) (hr : ∀ x ∈ l, 0 ≤ x ∧ x < 256) (done : List Int) (n i : Nat) (hd : done = hiD n) (hi : i = done.length) :
    ∀ z k, takeF l n i = (z, k, 0) → z < 18446744073709551616 ∧ i < k ∧ k ≤ i + l.length ∧ shortL z = (done ++ l).take k := by
  induction l generalizing done n i with
  | nil => intro z k h; simp [takeF] at h
  | cons c r ih =>
    intro z k h
    have hc := hr c (by simp)
    have hr' : ∀ x ∈ r, 0 ≤ x ∧ x < 256 := fun x hx => hr x (by simp [hx])
    rw [takeF_cons] at h
    by_cases h1 : i = 0 ∧ c = 128
    · rw [if_pos h1] at h; simp at h
    rw [if_neg h1] at h
    by_cases h2 : 144115188075855872 ≤ n
    · rw [if_pos h2] at h; simp at h
    rw [if_neg h2] at h
    have hn0 : i = 0 → n = 0 := by
      intro h0
      by_cases hn : n = 0
      · exact hn
      · rw [hd, hiD_pos hn] at hi; simp at hi; omega
    by_cases h3 : c < 128
    · rw [if_pos h3] at h
      simp only [Prod.mk.injEq, and_true] at h
      obtain ⟨hz, hk⟩ := h
      subst hk
      have hz' : z / 128 = n := by omega
      have hzm : ((z : Int) % 128) = c := by omega
      refine ⟨by omega, by omega, by simp, ?_⟩
      unfold shortL
      rw [hz', hzm, ← hd]
      rw [List.take_append, List.take_of_length_le (by omega)]
      have : i + 1 - done.length = 1 := by omega
      rw [this]; simp
    · rw [if_neg h3] at h
      have hne : n * 128 + (c % 128).toNat ≠ 0 := by
        intro h0
        have hn0' : n = 0 := by omega
        have hc0 : c = 128 := by omega
        have : i = 0 := by rw [hi, hd, hn0', hiD_zero]; rfl
        exact h1 ⟨this, hc0⟩
      have hstep : done ++ [c] = hiD (n * 128 + (c % 128).toNat) := by
        rw [hiD_pos hne]
        have e1 : (n * 128 + (c % 128).toNat) / 128 = n := by omega
        have e2 : ((n * 128 + (c % 128).toNat : Nat) : Int) % 128 + 128 = c := by omega
        rw [e1, e2, hd]
      obtain ⟨a1, a2, a3, a4⟩ := ih hr' (done ++ [c]) _ (i + 1) hstep (by simp [hi]) z k h
      refine ⟨a1, by omega, by simp; omega, ?_⟩
      rw [a4]; simp

theorem takeF_read (l : List Int) (hr : ∀ x ∈ l, 0 ≤ x ∧ x < 256) (z k : Nat) (h : takeF l 0 0 = (z, k, 0)) : z < 18446744073709551616 ∧ k ≤ l.length ∧ shortL z = l.take k := by
  obtain ⟨h1, _, h3, h4⟩ := takeF_back l hr [] 0 0 (by rw [hiD_zero]) rfl z k h
  exact ⟨h1, by omega, by simpa using h4⟩

theorem takeF_err (l : List Int) (n i : Nat) : (takeF l n i).2.2 = 0 ∨ (takeF l n i).2.2 = 10 ∨ (takeF l n i).2.2 = 11 ∨ (takeF l n i).2.2 = 12 := by
  induction l generalizing n i with
  | nil => simp [takeF]
  | cons c r ih =>
    rw [takeF_cons]
    by_cases h1 : i = 0 ∧ c = 128
    · rw [if_pos h1]; simp
    rw [if_neg h1]
    by_cases h2 : 144115188075855872 ≤ n
    · rw [if_pos h2]; simp
    rw [if_neg h2]
    by_cases h3 : c < 128
    · rw [if_pos h3]; simp
    · rw [if_neg h3]; exact ih _ _

/-- The big-endian bytes of n, k of them. -/
def wideL : Nat → Nat → List Int
  | 0, _ => []
  | k + 1, n => wideL k (n / 256) ++ [((n : Int) % 256)]

theorem wideL_len (k n : Nat) : (wideL k n).length = k := by
  induction k generalizing n with
  | zero => rfl
  | succ k ih => simp [wideL, ih]

theorem wideL_rng (k n : Nat) : ∀ x ∈ wideL k n, 0 ≤ x ∧ x < 256 := by
  induction k generalizing n with
  | zero => simp [wideL]
  | succ k ih =>
    intro x hx
    rw [wideL, List.mem_append] at hx
    rcases hx with hx | hx
    · exact ih _ x hx
    · simp at hx; omega

theorem wideL_at (k n i : Nat) (h : i < k) : (wideL k n).getD (k - 1 - i) 0 = ((n / 256 ^ i : Nat) : Int) % 256 := by
  induction k generalizing n i with
  | zero => omega
  | succ k ih =>
    cases i with
    | zero => simp [wideL, wideL_len, List.getD]
    | succ i =>
      have hlt : k + 1 - 1 - (i + 1) < (wideL k (n / 256)).length := by rw [wideL_len]; omega
      rw [wideL, List.getD, List.getElem?_append_left hlt]
      have := ih (n / 256) i (by omega)
      rw [List.getD, show k - 1 - i = k + 1 - 1 - (i + 1) from by omega] at this
      rw [this, Nat.div_div_eq_div_mul, Nat.pow_succ, Nat.mul_comm 256]

/-- The number whose big-endian bytes these are. -/
def ofWide (l : List Int) : Nat := l.foldl (fun n c => n * 256 + c.toNat) 0

theorem ofWide_snoc (l : List Int) (c : Int) : ofWide (l ++ [c]) = ofWide l * 256 + c.toNat := by simp [ofWide]

theorem ofWide_wideL (k n : Nat) (h : n < 256 ^ k) : ofWide (wideL k n) = n := by
  induction k generalizing n with
  | zero => have : n = 0 := by simpa using h
            rw [this]; rfl
  | succ k ih =>
    rw [wideL, ofWide_snoc, ih (n / 256) (by rw [Nat.pow_succ] at h; omega)]
    omega

theorem snocRec {α : Type} {p : List α → Prop} (nil : p []) (snoc : ∀ l c, p l → p (l ++ [c])) (l : List α) : p l := by
  have : ∀ n (l : List α), l.length = n → p l := by
    intro n
    induction n with
    | zero => intro l h; rw [List.eq_nil_of_length_eq_zero h]; exact nil
    | succ n ih =>
      intro l h
      have hne : l ≠ [] := by intro e; rw [e] at h; simp at h
      rw [← List.dropLast_concat_getLast hne]
      exact snoc _ _ (ih _ (by simp [h]))
  exact this _ l rfl

theorem ofWide_lt (l : List Int) (hr : ∀ x ∈ l, 0 ≤ x ∧ x < 256) : ofWide l < 256 ^ l.length := by
  induction l using snocRec with
  | nil => simp [ofWide]
  | snoc l c ih =>
    have := ih (fun x hx => hr x (by simp [hx]))
    have hc := hr c (by simp)
    rw [ofWide_snoc, List.length_append, List.length_singleton, Nat.pow_succ]
    omega

/-- What bytes are folded to. -/
def foldL (l : List Int) (n : Nat) : Nat := l.foldl (fun v c => (v * 31 + c.toNat) % n) 0

theorem foldL_snoc (l : List Int) (c : Int) (n : Nat) : foldL (l ++ [c]) n = (foldL l n * 31 + c.toNat) % n := by simp [foldL]

theorem foldL_lt (l : List Int) (n : Nat) (h : 0 < n) : foldL l n < n := by
  induction l using snocRec with
  | nil => exact h
  | snoc l c _ => rw [foldL_snoc]; exact Nat.mod_lt _ h

theorem foldL_step (l : List Int) (n k : Nat) (h : k < l.length) : foldL (l.take (k + 1)) n = (foldL (l.take k) n * 31 + (l.getD k 0).toNat) % n := by
  rw [List.take_succ_eq_append_getElem h, foldL_snoc]
  simp [List.getD, List.getElem?_eq_getElem h]
end Go.Proofs.YtljpnngknmpdoaaDoor

/- num.TakeShort and trothref01.TakeShort answer what 'takeF' reads of the bytes, and write nothing. -/
namespace Go.Proofs.YtljpnngknmpdoaaDoor
open Go.RowKit

def Take3 (k : IntKind) (l : List Int) (w : World) (e : Ending) (w' : World) : Prop :=
  e = .returned (.tuple #[.int .u64 ((takeF l 0 0).1 : Int), .int .i64 ((takeF l 0 0).2.1 : Int), .int k ((takeF l 0 0).2.2 : Int)]) ∧ ∃ m, w' = w.drewN m

theorem take3_of {k : IntKind} {l : List Int} {w w' : World} {a b c : Nat} {x y z : Int} (h : takeF l 0 0 = (a, b, c)) (hx : x = a) (hy : y = b) (hz : z = c) (hw : ∃ m, w' = w.drewN m) :
    Take3 k l w (.returned (.tuple #[.int .u64 x, .int .i64 y, .int k z])) w' := by
  subst hx hy hz
  exact ⟨by rw [h], hw⟩

/-- One step: what is read from place k on. -/
theorem takeF_at {l : List Int} {k m : Nat} (h : k < l.length) (e : takeF l 0 0 = takeF (l.drop k) m k) : takeF l 0 0 = if k = 0 ∧ l.getD k 0 = 128 then (0, 0, 11) else if 144115188075855872 ≤ m then (0, 0, 12) else
      if l.getD k 0 < 128 then (m * 128 + (l.getD k 0 % 128).toNat, k + 1, 0) else takeF (l.drop (k + 1)) (m * 128 + (l.getD k 0 % 128).toNat) (k + 1) := by
  rw [e, List.drop_eq_getElem_cons h, takeF_cons]
  have : l.getD k 0 = l[k] := by simp [List.getD, List.getElem?_eq_getElem h]
  rw [this]

set_option maxHeartbeats 1000000 in
theorem numTake_rows (g off n c : Nat) (l : List Int) (w : World) (h : Byt w (some ⟨g, off, none⟩) n c l) (hn : 0 < n) :
    Calls Tryd.prog 63 #[.slice (some ⟨g, off, none⟩) n c] w (Take3 .i64 l w) := by
  have hc0 : ∀ i, i < n → w.cell? ⟨g, off + i, none⟩ = some (.int .u8 (l.getD i 0)) := by
    obtain ⟨g1, o1, e, hc⟩ := h.at_ hn
    injection e with e; injection e with e1 e2; subst e1; subst e2
    exact hc
  have hcap := h.cap
  have hmax := h.max
  unfold maxLen at hmax
  have HL := Lib.hid h.len
  have HR := Lib.hid h.lt_
  have HC := Lib.hid hc0
  clear hc0 h
  go_enter Tryd.func63, Tryd.ntmps63
  go_wp2_with fail
  go_loop [5, 10] (fun s i => ∃ k m : Nat, k ≤ n ∧ m < 18446744073709551616 ∧ s = .int .u64 m ∧ i = .int .i64 k ∧ takeF l 0 0 = takeF (l.drop k) m k) (fun _ i => n - (intOf i).toNat)
  case atStart => exact ⟨0, 0, Nat.zero_le _, by omega, rfl, rfl, rfl⟩
  case round =>
    obtain ⟨k, m, hk, hm, rfl, rfl, ht⟩ := hrel
    have HT := Lib.hid ht
    clear ht
    by_cases hlt : k < n
    · have hx := HC.out k hlt
      have hr := HR.out k hlt
      have T := Lib.hid (takeF_at (by rw [HL.out]; exact hlt) HT.out)
      obtain ⟨x, ex⟩ : ∃ x, x = l.getD k 0 := ⟨_, rfl⟩
      rw [← ex] at hx hr T
      clear ex
      obtain ⟨hr0, hr1⟩ := hr
      by_cases h1 : k = 0 ∧ x = 128
      · obtain ⟨rfl, rfl⟩ := h1
        have T1 := T.out
        rw [if_pos ⟨rfl, rfl⟩] at T1
        have T2 := Lib.hid T1
        clear T1
        have hx' : w.cell? ⟨g, off, none⟩ = some (.int .u8 128) := hx
        clear hx
        go_wp2_with fail
        refine bodyPost_ret (results_tmp3 rfl _ _ _) rfl ?_
        exact take3_of T2.out rfl rfl rfl ⟨0, rfl⟩
      · have T1 := T.out
        rw [if_neg h1] at T1
        have HK := Lib.hid hk
        clear hk
        have two : ∀ {p : Prop}, (k = 0 → (x == 128) = false → p) → (((k : Int) == 0) = false → p) → p := by
          intro p a b
          by_cases h : k = 0
          · exact a h (by simp; intro e; exact h1 ⟨h, e⟩)
          · exact b (by simp; omega)
        clear h1
        have HX := Lib.hid hx
        clear hx
        by_cases h2 : 144115188075855872 ≤ m
        · rw [if_pos h2] at T1
          have T2 := Lib.hid T1
          have e2 : ((m : Int) / 144115188075855872 != 0) = true := by simp; omega
          clear T1 T h2 HT
          refine two ?_ ?_
          · rintro rfl hx1
            have hx := HX.out
            rw [Nat.add_zero] at hx
            clear two
            go_wp2_with fail
            refine bodyPost_ret (results_tmp3 rfl _ _ _) rfl ?_
            exact take3_of T2.out rfl rfl rfl ⟨0, rfl⟩
          · intro hk0
            have hx := HX.out
            clear two
            go_wp2_with fail
            refine bodyPost_ret (results_tmp3 rfl _ _ _) rfl ?_
            exact take3_of T2.out rfl rfl rfl ⟨0, rfl⟩
        · rw [if_neg h2] at T1
          have hm2 : (m : Int) < 144115188075855872 := by omega
          have e2 : ((m : Int) / 144115188075855872 != 0) = false := by simp; omega
          clear T HT h2
          by_cases h3 : x < 128
          · rw [if_pos h3] at T1
            have T2 := Lib.hid T1
            clear T1
            refine two ?_ ?_
            · rintro rfl hx1
              have hx := HX.out
              rw [Nat.add_zero] at hx
              clear two
              go_wp2_with fail
              refine bodyPost_ret (results_tmp3 rfl _ _ _) rfl ?_
              exact take3_of T2.out (by omega) (by omega) rfl ⟨0, rfl⟩
            · intro hk0
              have hx := HX.out
              clear two
              go_wp2_with fail
              refine bodyPost_ret (results_tmp3 rfl _ _ _) rfl ?_
              exact take3_of T2.out (by omega) (by omega) rfl ⟨0, rfl⟩
          · rw [if_neg h3] at T1
            have T2 := Lib.hid T1
            clear T1
            refine two ?_ ?_
            · rintro rfl hx1
              have hx := HX.out
              rw [Nat.add_zero] at hx
              clear two
              go_wp2_with fail
              have hk := HK.out
              go_round
              case rel => exact ⟨0 + 1, m * 128 + (x % 128).toNat, by omega, by omega, by congr 1; omega, by go_num, T2.out⟩
              case measure => simp [intOf]; omega
            · intro hk0
              have hx := HX.out
              clear two
              go_wp2_with fail
              have hk := HK.out
              go_round
              case rel => exact ⟨k + 1, m * 128 + (x % 128).toNat, by omega, by omega, by congr 1; omega, by go_num, T2.out⟩
              case measure => simp [intOf]; omega
    · have hkn : k = n := by omega
      subst hkn
      have T1 := HT.out
      rw [List.drop_of_length_le (by rw [HL.out]; omega)] at T1
      have T2 : Hid (takeF l 0 0 = (0, 0, 10)) := T1
      clear T1
      go_wp2_with fail
      refine bodyPost_ret (results_tmp3 rfl _ _ _) rfl ?_
      exact take3_of T2.out rfl rfl rfl ⟨0, rfl⟩

theorem numTake_any (A : Option Addr) (n c : Nat) (l : List Int) (w : World) (h : Byt w A n c l) :
    Calls Tryd.prog 63 #[.slice A n c] w (Take3 .i64 l w) := by
  by_cases hn : 0 < n
  · obtain ⟨g, off, rfl, _⟩ := h.at_ hn
    exact numTake_rows g off n c l w h hn
  · have h0 : n = 0 := by omega
    subst h0
    have e : l = [] := List.eq_nil_of_length_eq_zero h.len
    subst e
    clear h hn
    go_enter Tryd.func63, Tryd.ntmps63
    go_wp2_with fail
    refine wp_loop_rounds 1 ?_
    rw [rounds_succ]
    go_wp2_with fail
    refine bodyPost_ret (results_tmp3 rfl _ _ _) rfl ?_
    exact take3_of (a := 0) (b := 0) (c := 10) rfl rfl rfl rfl ⟨0, rfl⟩

theorem q128 (x : Int) : (18446744073709551615 - x % 128) / 128 = 144115188075855871 := by omega
attribute [local go_sem] q128

set_option maxHeartbeats 1000000 in
theorem refTake_rows (g off n c : Nat) (l : List Int) (w : World) (h : Byt w (some ⟨g, off, none⟩) n c l) (hn : 0 < n) :
    Calls Tryd.prog 55 #[.slice (some ⟨g, off, none⟩) n c] w (Take3 .i64 l w) := by
  have hc0 : ∀ i, i < n → w.cell? ⟨g, off + i, none⟩ = some (.int .u8 (l.getD i 0)) := by
    obtain ⟨g1, o1, e, hc⟩ := h.at_ hn
    injection e with e; injection e with e1 e2; subst e1; subst e2
    exact hc
  have hcap := h.cap
  have hmax := h.max
  unfold maxLen at hmax
  have HL := Lib.hid h.len
  have HR := Lib.hid h.lt_
  have HC := Lib.hid hc0
  clear hc0 h
  go_enter Tryd.func55, Tryd.ntmps55
  go_wp2_with fail
  go_loop [5, 6] (fun s i => ∃ k m : Nat, k ≤ n ∧ m < 18446744073709551616 ∧ s = .int .u64 m ∧ i = .int .i64 k ∧ takeF l 0 0 = takeF (l.drop k) m k) (fun _ i => n - (intOf i).toNat)
  case atStart => exact ⟨0, 0, Nat.zero_le _, by omega, rfl, rfl, rfl⟩
  case round =>
    obtain ⟨k, m, hk, hm, rfl, rfl, ht⟩ := hrel
    have HT := Lib.hid ht
    clear ht
    by_cases hlt : k < n
    · have hx := HC.out k hlt
      have hr := HR.out k hlt
      have T := Lib.hid (takeF_at (by rw [HL.out]; exact hlt) HT.out)
      obtain ⟨x, ex⟩ : ∃ x, x = l.getD k 0 := ⟨_, rfl⟩
      rw [← ex] at hx hr T
      clear ex
      obtain ⟨hr0, hr1⟩ := hr
      by_cases h1 : k = 0 ∧ x = 128
      · obtain ⟨rfl, rfl⟩ := h1
        have T1 := T.out
        rw [if_pos ⟨rfl, rfl⟩] at T1
        have T2 := Lib.hid T1
        clear T1
        have hx' : w.cell? ⟨g, off, none⟩ = some (.int .u8 128) := hx
        clear hx
        go_wp2_with fail
        refine bodyPost_ret (results_tmp3 rfl _ _ _) rfl ?_
        exact take3_of T2.out rfl rfl rfl ⟨0, rfl⟩
      · have T1 := T.out
        rw [if_neg h1] at T1
        have HK := Lib.hid hk
        clear hk
        have two : ∀ {p : Prop}, (k = 0 → (x == 128) = false → p) → (((k : Int) == 0) = false → p) → p := by
          intro p a b
          by_cases h : k = 0
          · exact a h (by simp; intro e; exact h1 ⟨h, e⟩)
          · exact b (by simp; omega)
        clear h1
        have HX := Lib.hid hx
        clear hx
        by_cases h2 : 144115188075855872 ≤ m
        · rw [if_pos h2] at T1
          have T2 := Lib.hid T1
          have e2 : (144115188075855871 : Int) < (m : Int) := by omega
          clear T1 T h2 HT
          refine two ?_ ?_
          · rintro rfl hx1
            have hx := HX.out
            rw [Nat.add_zero] at hx
            clear two
            go_wp2_with fail
            refine bodyPost_ret (results_tmp3 rfl _ _ _) rfl ?_
            exact take3_of T2.out rfl rfl rfl ⟨0, rfl⟩
          · intro hk0
            have hx := HX.out
            clear two
            go_wp2_with fail
            refine bodyPost_ret (results_tmp3 rfl _ _ _) rfl ?_
            exact take3_of T2.out rfl rfl rfl ⟨0, rfl⟩
        · rw [if_neg h2] at T1
          have hm2 : (m : Int) < 144115188075855872 := by omega
          have e2 : ¬ (144115188075855871 : Int) < (m : Int) := by omega
          clear T HT h2
          by_cases h3 : x < 128
          · rw [if_pos h3] at T1
            have T2 := Lib.hid T1
            clear T1
            refine two ?_ ?_
            · rintro rfl hx1
              have hx := HX.out
              rw [Nat.add_zero] at hx
              clear two
              go_wp2_with fail
              refine bodyPost_ret (results_tmp3 rfl _ _ _) rfl ?_
              exact take3_of T2.out (by omega) (by omega) rfl ⟨0, rfl⟩
            · intro hk0
              have hx := HX.out
              clear two
              go_wp2_with fail
              refine bodyPost_ret (results_tmp3 rfl _ _ _) rfl ?_
              exact take3_of T2.out (by omega) (by omega) rfl ⟨0, rfl⟩
          · rw [if_neg h3] at T1
            have T2 := Lib.hid T1
            clear T1
            refine two ?_ ?_
            · rintro rfl hx1
              have hx := HX.out
              rw [Nat.add_zero] at hx
              clear two
              go_wp2_with fail
              have hk := HK.out
              go_round
              case rel => exact ⟨0 + 1, m * 128 + (x % 128).toNat, by omega, by omega, by congr 1; omega, by go_num, T2.out⟩
              case measure => simp [intOf]; omega
            · intro hk0
              have hx := HX.out
              clear two
              go_wp2_with fail
              have hk := HK.out
              go_round
              case rel => exact ⟨k + 1, m * 128 + (x % 128).toNat, by omega, by omega, by congr 1; omega, by go_num, T2.out⟩
              case measure => simp [intOf]; omega
    · have hkn : k = n := by omega
      subst hkn
      have T1 := HT.out
      rw [List.drop_of_length_le (by rw [HL.out]; omega)] at T1
      have T2 : Hid (takeF l 0 0 = (0, 0, 10)) := T1
      clear T1
      go_wp2_with fail
      refine bodyPost_ret (results_tmp3 rfl _ _ _) rfl ?_
      exact take3_of T2.out rfl rfl rfl ⟨0, rfl⟩

theorem refTake_any (A : Option Addr) (n c : Nat) (l : List Int) (w : World) (h : Byt w A n c l) :
    Calls Tryd.prog 55 #[.slice A n c] w (Take3 .i64 l w) := by
  by_cases hn : 0 < n
  · obtain ⟨g, off, rfl, _⟩ := h.at_ hn
    exact refTake_rows g off n c l w h hn
  · have h0 : n = 0 := by omega
    subst h0
    have e : l = [] := List.eq_nil_of_length_eq_zero h.len
    subst e
    clear h hn
    go_enter Tryd.func55, Tryd.ntmps55
    go_wp2_with fail
    refine wp_loop_rounds 1 ?_
    rw [rounds_succ]
    go_wp2_with fail
    refine bodyPost_ret (results_tmp3 rfl _ _ _) rfl ?_
    exact take3_of (a := 0) (b := 0) (c := 10) rfl rfl rfl rfl ⟨0, rfl⟩


/-- The same, what is read being known. -/
theorem numTake_is (A : Option Addr) (n c : Nat) (l : List Int) (x i e : Nat) (w : World) (h : Byt w A n c l) (ht : takeF l 0 0 = (x, i, e)) :
    Calls Tryd.prog 63 #[.slice A n c] w (Quiet (.tuple #[.int .u64 x, .int .i64 i, .int .i64 e]) w) := by
  refine (numTake_any A n c l w h).mono fun e' w' hq => ?_
  unfold Take3 at hq
  rw [ht] at hq
  exact hq

/-- The same, what is read being known. -/
theorem refTake_is (A : Option Addr) (n c : Nat) (l : List Int) (x i e : Nat) (w : World) (h : Byt w A n c l) (ht : takeF l 0 0 = (x, i, e)) :
    Calls Tryd.prog 55 #[.slice A n c] w (Quiet (.tuple #[.int .u64 x, .int .i64 i, .int .i64 e]) w) := by
  refine (refTake_any A n c l w h).mono fun e' w' hq => ?_
  unfold Take3 at hq
  rw [ht] at hq
  exact hq
end Go.Proofs.YtljpnngknmpdoaaDoor

/- seal.firstNum and firstText answer the number, the text at the beginning of bytes; nothing is turned. -/
namespace Go.Proofs.YtljpnngknmpdoaaDoor
open Go.RowKit

/-- A number of at most 'most'. -/
def numF (l : List Int) (most : Int) : Nat × Nat × Nat :=
  if (takeF l 0 0).2.2 ≠ 0 then (0, 0, (takeF l 0 0).2.2) else if most < 0 ∨ most < ((takeF l 0 0).1 : Int) then (0, 0, 12) else ((takeF l 0 0).1, (takeF l 0 0).2.1, 0)

/-- A text of at most 'most' bytes, and how many bytes it has with its length. -/
def textF (l : List Int) (most : Int) : List Int × Nat × Nat :=
  if (numF l most).2.2 ≠ 0 then ([], 0, (numF l most).2.2) else if l.length - (numF l most).2.1 < (numF l most).1 then ([], 0, 10) else ((l.drop (numF l most).2.1).take (numF l most).1, (numF l most).2.1 + (numF l most).1, 0)

theorem numF_ok {l : List Int} (hr : ∀ x ∈ l, 0 ≤ x ∧ x < 256) {most : Int} (h : (numF l most).2.2 = 0) : ((numF l most).1 : Int) ≤ most ∧ (numF l most).2.1 ≤ l.length ∧ shortL (numF l most).1 = l.take (numF l most).2.1 := by
  unfold numF at h ⊢
  split at h
  · rename_i h0; exact absurd h h0
  · rename_i h0
    split at h
    · simp at h
    · rename_i h1
      rw [if_neg h0, if_neg h1]
      have := takeF_read l hr (takeF l 0 0).1 (takeF l 0 0).2.1 (Prod.ext rfl (Prod.ext rfl (by omega)))
      simp only [not_or, Int.not_lt] at h1
      exact ⟨h1.2, this.2.1, this.2.2⟩

set_option maxHeartbeats 1000000 in
theorem firstNum_any (A : Option Addr) (n c : Nat) (l : List Int) (most : Int) (w : World) (h : Byt w A n c l) (hm : -9223372036854775808 ≤ most ∧ most ≤ 9223372036854775807) (x k e : Nat) (hF : numF l most = (x, k, e)) :
    Calls Tryd.prog 60 #[.slice A n c, .int .i64 most] w (Quiet (.tuple #[.int .i64 x, .int .i64 k, .int .i64 e]) w) := by
  obtain ⟨x0, k0, e0, ht⟩ : ∃ x k e, takeF l 0 0 = (x, k, e) := ⟨_, _, _, rfl⟩
  have hlt : e0 = 0 → x0 < 18446744073709551616 := fun e => (takeF_read l h.rng x0 k0 (by rw [ht, e])).1
  have C := Lib.hid (numTake_is A n c l x0 k0 e0 w h ht)
  have hF' : (if e0 ≠ 0 then (0, 0, e0) else if most < 0 ∨ most < (x0 : Int) then (0, 0, 12) else (x0, k0, 0)) = (x, k, e) := by
    rw [← hF]; unfold numF; rw [ht]
  clear h ht hF
  by_cases h0 : e0 = 0
  · subst h0
    have hx := hlt rfl
    rw [if_neg (by simp)] at hF'
    clear hlt
    by_cases h1 : most < 0
    · rw [if_pos (Or.inl h1)] at hF'
      injection hF' with e1 e2
      injection e2 with e2 e3
      subst e1 e2 e3
      go_enter Tryd.func60, Tryd.ntmps60
      go_wp2_with fail
      refine C.out.mono ?_
      rintro e w1 ⟨rfl, m, rfl⟩
      go_wp2_with fail
      go_ret3
      exact ⟨rfl, m, rfl⟩
    · obtain ⟨q, rfl⟩ := Int.eq_ofNat_of_zero_le (Int.not_lt.1 h1)
      obtain ⟨_, hq⟩ := hm
      by_cases h2 : q < x0
      · rw [if_pos (Or.inr (by omega))] at hF'
        injection hF' with e1 e2
        injection e2 with e2 e3
        subst e1 e2 e3
        go_enter Tryd.func60, Tryd.ntmps60
        go_wp2_with fail
        refine C.out.mono ?_
        rintro e w1 ⟨rfl, m, rfl⟩
        go_wp2_with fail
        go_ret3
        exact ⟨rfl, m, rfl⟩
      · rw [if_neg (by omega)] at hF'
        injection hF' with e1 e2
        injection e2 with e2 e3
        subst e1 e2 e3
        go_enter Tryd.func60, Tryd.ntmps60
        go_wp2_with fail
        refine C.out.mono ?_
        rintro e w1 ⟨rfl, m, rfl⟩
        go_wp2_with fail
        go_ret3
        exact ⟨rfl, m, rfl⟩
  · rw [if_pos h0] at hF'
    injection hF' with e1 e2
    injection e2 with e2 e3
    subst e1 e2 e3
    have hne : ((e0 : Int) != 0) = true := by simp; omega
    clear hlt h0
    go_enter Tryd.func60, Tryd.ntmps60
    go_wp2_with fail
    refine C.out.mono ?_
    rintro e w1 ⟨rfl, m, rfl⟩
    go_wp2_with fail
    go_ret3
    exact ⟨rfl, m, rfl⟩

/-- A slice, a number and an error. -/
def Ret3 (l : List Int) (u e0 : Nat) (w : World) (e : Ending) (w' : World) : Prop :=
  ∃ A n c, e = .returned (.tuple #[.slice A n c, .int .i64 u, .int .i64 e0]) ∧ Byt w' A n c l ∧ Below w.heap.size w w'

/-- The same of a call that draws at most. -/
def Ret3Q (l : List Int) (u e0 : Nat) (w : World) (e : Ending) (w' : World) : Prop :=
  ∃ A n c, e = .returned (.tuple #[.slice A n c, .int .i64 u, .int .i64 e0]) ∧ Byt w A n c l ∧ ∃ m, w' = w.drewN m

set_option maxHeartbeats 1000000 in
theorem firstText_quiet (A : Option Addr) (n c : Nat) (l : List Int) (most : Int) (w : World) (h : Byt w A n c l) (hm : -9223372036854775808 ≤ most ∧ most ≤ 9223372036854775807) (b : List Int) (u e : Nat) (hF : textF l most = (b, u, e)) :
    Calls Tryd.prog 52 #[.slice A n c, .int .i64 most] w (Ret3Q b u e w) := by
  obtain ⟨x0, k0, e0, ht⟩ : ∃ x k e, numF l most = (x, k, e) := ⟨_, _, _, rfl⟩
  have hok := fun e => numF_ok h.rng (most := most) e
  rw [ht] at hok
  have C := Lib.hid (firstNum_any A n c l most w h hm x0 k0 e0 ht)
  have hF' : (if e0 ≠ 0 then ([], 0, e0) else if l.length - k0 < x0 then ([], 0, 10) else ((l.drop k0).take x0, k0 + x0, 0)) = (b, u, e) := by
    rw [← hF]; unfold textF; rw [ht]
  have hlen := h.len
  have hcap := h.cap
  have hmax := h.max
  unfold maxLen at hmax
  clear ht hF
  by_cases h0 : e0 = 0
  · subst h0
    obtain ⟨hx, hk, _⟩ := hok rfl
    simp only at hx hk
    rw [if_neg (by simp)] at hF'
    clear hok
    by_cases h2 : n - k0 < x0
    · rw [if_pos (by omega)] at hF'
      injection hF' with e1 e2
      injection e2 with e2 e3
      subst e1 e2 e3
      clear h
      have hkn : k0 ≤ n := by omega
      go_enter Tryd.func52, Tryd.ntmps52
      go_wp2_with fail
      refine C.out.mono ?_
      rintro e w1 ⟨rfl, m, rfl⟩
      go_wp2_with fail
      go_ret3
      exact ⟨none, 0, 0, rfl, Byt.nil _, _, rfl⟩
    · rw [if_neg (by omega)] at hF'
      injection hF' with e1 e2
      injection e2 with e2 e3
      subst e1 e2 e3
      have hkn : k0 ≤ n := by omega
      obtain ⟨B, m, d, hs, hmd, hb⟩ := cut_lh h k0 (k0 + x0) (by omega) (by omega) (k0 : Int) ((k0 : Int) + (x0 : Int)) rfl (by omega)
      rw [Nat.add_sub_cancel_left] at hmd hb
      have HB := Lib.hid hb
      clear h hb hmd
      go_enter Tryd.func52, Tryd.ntmps52
      go_wp2_with fail
      refine C.out.mono ?_
      rintro e w1 ⟨rfl, j, rfl⟩
      go_wp2_with fail
      go_ret3
      exact ⟨B, m, d, rfl, HB.out, j, rfl⟩
  · rw [if_pos h0] at hF'
    injection hF' with e1 e2
    injection e2 with e2 e3
    subst e1 e2 e3
    have hne : ((e0 : Int) != 0) = true := by simp; omega
    clear h0 hok
    go_enter Tryd.func52, Tryd.ntmps52
    go_wp2_with fail
    refine C.out.mono ?_
    rintro e w1 ⟨rfl, m, rfl⟩
    go_wp2_with fail
    go_ret3
    exact ⟨none, 0, 0, rfl, Byt.nil _, _, rfl⟩

theorem firstText_any (A : Option Addr) (n c : Nat) (l : List Int) (most : Int) (w : World) (h : Byt w A n c l) (hm : -9223372036854775808 ≤ most ∧ most ≤ 9223372036854775807) (b : List Int) (u e : Nat) (hF : textF l most = (b, u, e)) :
    Calls Tryd.prog 52 #[.slice A n c, .int .i64 most] w (Ret3 b u e w) :=
  (firstText_quiet A n c l most w h hm b u e hF).mono fun _ _ ⟨A', n', c', he, hb, m, hw⟩ => ⟨A', n', c', he, by rw [hw]; exact hb.drewN m, by rw [hw]; exact below_drewN (Below.refl _ _) m⟩
end Go.Proofs.YtljpnngknmpdoaaDoor

/- bytes.Clone hands back the same bytes in new memory. -/
namespace Go.Proofs.YtljpnngknmpdoaaDoor
open Go.RowKit

/-- The same, of bytes.Clone, the slice not nil. -/
theorem clone_own (ad : Addr) (n c : Nat) (l : List Int) (w : World) (h : Byt w (some ad) n c l) (hn : n ≤ 140737488355328) :
    Calls Tryd.prog 54 #[.slice (some ad) n c] w (RetOwn l w) := by
  obtain ⟨i0, hi, hz0, hz1, hz2⟩ := info_parts info_u8
  have hown0 := World.ownsRow_made (base := w.heap.size) (e := 5) (size := 1) w #[] 0 (Nat.le_refl _) (Nat.zero_le _) rfl
  have q := fun w : World => Lib.run_eql_slice_nil (P := Tryd.prog) w 24 5 (some ad) n c 0 0 Tryd.underlying24
  go_enter Tryd.func54, Tryd.ntmps54
  go_wp2_with (at_builtin; refine wpList_append_byt rfl _ _ 24 rfl w.heap.size 5 i0 Tryd.underlying24 hi hz0 hz1 hz2 _ 0 [] rfl (by exact hown0) (some ad) n c l rfl (h.alloc _) (by omega) (by simp) ?_)
  intro A' c' w' h1 h2
  have R := Lib.hid (own_end h.rng h1 h2)
  clear h1 h2 h hown0 q
  go_wp2
  go_ret
  exact R.out

/-- The same, told of the bytes alone. -/
theorem bclone_any (ad : Addr) (n c : Nat) (l : List Int) (w : World) (h : Byt w (some ad) n c l) (hn : n ≤ 140737488355328) :
    Calls Tryd.prog 54 #[.slice (some ad) n c] w (RetByt l w) := (clone_own ad n c l w h hn).mono fun _ _ h => h.byt
end Go.Proofs.YtljpnngknmpdoaaDoor

/- num.Short hands back a number's digits to the base 128, in new memory. -/
namespace Go.Proofs.YtljpnngknmpdoaaDoor
open Go.RowKit

/-- What is gathered so far, in the last cells of the array. -/
structure ArrRel (n : Nat) (w : World) (m at_ : Nat) (acc : List Int) (cs : Array Value) (wr : World) : Prop where
  blk : Bk wr w.heap.size 110 cs
  size : cs.size = 10
  len : acc.length + at_ = 10
  pos : 0 < acc.length
  cells : ∀ i, i < acc.length → cs[at_ + i]? = some (.int .u8 (acc.getD i 0))
  all : hiD (m / 128) ++ acc = shortL n
  bel : Below w.heap.size w wr

theorem ArrRel.more {n : Nat} {w : World} {m at_ : Nat} {acc : List Int} {cs : Array Value} {wr : World} (h : ArrRel n w m at_ acc cs wr) (hn : n < 18446744073709551616) (hm : m / 128 ≠ 0) : ∃ j, at_ = j + 1 := by
  have h1 := shortL_len n hn
  rw [← h.all, hiD_pos hm] at h1
  simp at h1
  have := h.len
  exact ⟨at_ - 1, by omega⟩

theorem ArrRel.step {n : Nat} {w : World} {m j : Nat} {acc : List Int} {cs : Array Value} {wr : World} (h : ArrRel n w m (j + 1) acc cs wr) (hm : m / 128 ≠ 0) :
    ArrRel n w (m / 128) j ((((m / 128 : Nat) : Int) % 128 + 128) :: acc) (cs.setIfInBounds j (.int .u8 (((m / 128 : Nat) : Int) % 128 + 128))) (wr.setCell ⟨w.heap.size, j, none⟩ (.int .u8 (((m / 128 : Nat) : Int) % 128 + 128))) := by
  have hl := h.len
  refine ⟨h.blk.setc j _, by simp [h.size], by simp; omega, by simp, fun i hi => ?_, by rw [← h.all, hiD_pos hm]; simp, h.bel.setCell (Nat.le_refl _) _⟩
  have hs := h.size
  cases i with
  | zero => simp [Array.getElem?_setIfInBounds, hs]; omega
  | succ i =>
    have := h.cells i (by simpa using hi)
    rw [Array.getElem?_setIfInBounds, if_neg (by omega)]
    rw [show j + (i + 1) = j + 1 + i from by omega, this]
    simp

theorem ArrRel.byt {n : Nat} {w : World} {m at_ : Nat} {acc : List Int} {cs : Array Value} {wr : World} (h : ArrRel n w m at_ acc cs wr) (hm : m / 128 = 0) : Byt wr (some ⟨w.heap.size, at_, none⟩) (10 - at_) (10 - at_) (shortL n) := by
  have e := h.all
  rw [hm, hiD_zero, List.nil_append] at e
  have hl := h.len
  rw [← e]
  exact Byt.of_bk h.blk at_ _ _ acc (by omega) (Nat.le_refl _) (by unfold maxLen; omega) (by rw [e]; exact shortL_rng n) (fun i hi => h.cells i (by omega))

theorem ArrRel.start (n : Nat) (w : World) : ArrRel n w n 9 [(n : Int) % 128] #[.int .u8 0, .int .u8 0, .int .u8 0, .int .u8 0, .int .u8 0, .int .u8 0, .int .u8 0, .int .u8 0, .int .u8 0, .int .u8 ((n : Int) % 128)]
    (w.alloc (.cells #[.int .u8 0, .int .u8 0, .int .u8 0, .int .u8 0, .int .u8 0, .int .u8 0, .int .u8 0, .int .u8 0, .int .u8 0, .int .u8 ((n : Int) % 128)] 110)) :=
  ⟨Bk.new _ _ _, rfl, rfl, by simp, fun i hi => by
    have : i = 0 := by simpa using hi
    subst this; rfl, rfl, (Below.refl _ _).alloc (Nat.le_refl _) _⟩

theorem arrayLen10 : Tryd.prog.arrayLen 110 = 10 := by kernel_rfl
theorem elem10 : Tryd.prog.elem 110 = 5 := by kernel_rfl
theorem under10 : Tryd.prog.underlying 110 = some (.array (Tryd.prog.arrayLen 110) (Tryd.prog.elem 110)) := by kernel_rfl
theorem size_u8 (W : World) : (sizeOf 5).run Tryd.prog W = .ok 1 W := by
  obtain ⟨i0, hi, hz0, hz1, hz2⟩ := info_parts info_u8
  simp [sizeOf, typeInfo, hi, hz1]

theorem slice10 (B at_ : Nat) (h : at_ ≤ 9) (W : World) :
    (Instr.sliceAt 110 (.pointer (some ⟨B, 0, none⟩)) (some (.int .i64 (at_ : Int))) none none).run Tryd.prog W = .ok (.slice (some ⟨B, at_, none⟩) (10 - at_) (10 - at_)) W := by
  rw [run_sliceAt_array_l (P := Tryd.prog) W _ _ under10 .i64 (at_ : Int) (by omega) (by rw [arrayLen10]; omega), elem10, size_u8, arrayLen10]
  simp [slicedAt, Result.andThen]
  rw [if_neg (by omega)]
  by_cases h0 : at_ = 0 <;> simp [Addr.add, h0]

set_option maxHeartbeats 1000000 in
theorem numShort_any (n : Nat) (hn : n < 18446744073709551616) (w : World) :
    Calls Tryd.prog 61 #[.int .u64 n] w (RetByt (shortL n) w) := by
  have R0 := Lib.hid (ArrRel.start n w)
  go_enter Tryd.func61, Tryd.ntmps61
  go_wp2_with fail
  go_step3
  go_wp2_with fail
  go_step3
  go_wp2_with fail
  go_loopw [0, 4] (fun s v wr => ∃ (m at_ : Nat) (acc : List Int) (cs : Array Value), m < 18446744073709551616 ∧ s = .int .u64 m ∧ v = .int .i64 at_ ∧ ArrRel n w m at_ acc cs wr) (fun s _ _ => (intOf s).toNat)
  case atStart => exact ⟨n, 9, _, _, hn, rfl, rfl, R0.out⟩
  case round =>
    obtain ⟨m, at_, acc, cs, hm, rfl, rfl, R⟩ := hrel
    have HR := Lib.hid R
    clear R
    by_cases h0 : m / 128 = 0
    · have hat : at_ ≤ 9 := by have := HR.out.len; have := HR.out.pos; omega
      have H0 := Lib.hid h0
      have hz : ((m : Int) / 128 == 0) = true := by simp; omega
      have hs := slice10 w.heap.size at_ hat
      have HB := Lib.hid (HR.out.byt h0)
      clear h0
      go_wp2_with (go_at_call 54; refine (bclone_any _ _ _ _ _ HB.out (by omega)).mono ?_; rintro e w1 ⟨A, k, c, rfl, hb, hbel⟩)
      rw [Exit.noGoto_ret]
      go_ret
      exact ⟨A, k, c, rfl, hb, Below.then HR.out.bel hbel⟩
    · obtain ⟨j, rfl⟩ := HR.out.more hn h0
      have hj : j ≤ 9 := by have := HR.out.len; omega
      have hge : (128 : Int) ≤ (m : Int) := by omega
      obtain ⟨u, hc⟩ : ∃ u, wr.cell? ⟨w.heap.size, j, none⟩ = some u := by
        rw [HR.out.blk.cell]; exact ⟨_, Array.getElem?_eq_getElem (by rw [HR.out.size]; omega)⟩
      have hf := HR.out.blk.frz j
      have R1 := Lib.hid (HR.out.step h0)
      go_wp2_with fail
      go_roundw
      case rel => exact ⟨m / 128, j, _, _, by omega, by go_num, rfl, R1.out⟩
      case measure => simp [intOf]; omega
end Go.Proofs.YtljpnngknmpdoaaDoor

/- a writer behind a pointer, and what its methods gather; nothing else that was there is turned. -/
namespace Go.Proofs.YtljpnngknmpdoaaDoor
open Go.RowKit

/-- A block of another type than bytes is no row of bytes. -/
theorem apart_row {w : World} {b base n : Nat} {t : TypeId} {cs : Array Value} {v : Value} {xs : List Value} (ht : t ≠ 5) (h : Bk w b t cs) (ho : w.ownsRow base 5 1 v n xs) : v.ownBlock ≠ some b := by
  rcases ho.2 with ⟨rfl, _⟩ | ⟨g, cap, cur, rfl, _, hg, _⟩
  · simp [Value.ownBlock]
  · intro e
    simp [Value.ownBlock] at e
    subst e
    unfold Bk at h
    rw [h] at hg
    simp at hg
    exact ht hg.2

/-- The writer at block b, and what it has gathered: memory of the call's own, from block number base on. -/
structure Wrt (w : World) (base b : Nat) (l : List Int) : Prop where
  low : base ≤ b
  rng : ∀ x ∈ l, 0 ≤ x ∧ x < 256
  ex : ∃ A n c, Bk w b 92 #[.slice A n c] ∧ w.ownsRow base 5 1 (.slice A n c) n (l.map (Value.int .u8))

theorem Wrt.lt {w : World} {base b : Nat} {l : List Int} (h : Wrt w base b l) : b < w.heap.size := by
  obtain ⟨A, n, c, hb, _⟩ := h.ex
  exact hb.lt

theorem Wrt.ret {w w' : World} {base b : Nat} {l : List Int} (h : Wrt w base b l) (hb : Below w.heap.size w w') : Wrt w' base b l := by
  obtain ⟨A, n, c, h1, h2⟩ := h.ex
  refine ⟨h.low, h.rng, A, n, c, h1.bel hb h1.lt, ?_⟩
  exact h2.kept (row := none) ⟨hb.os, hb.tape, hb.output, hb.size, fun k hk _ => hb.block k hk⟩ (by
    cases A with
    | none => exact .inl rfl
    | some a => exact .inr (by simp [Value.ownBlock]))

/-- What a writer's method leaves. -/
def RetW (base b : Nat) (l : List Int) (w : World) (e : Ending) (w' : World) : Prop := e = .returned (.tuple #[]) ∧ Wrt w' base b l ∧ Below base w w'

theorem put_end {base b : Nat} {l m : List Int} {w w1 : World} {A A' : Option Addr} {n c n' c' : Nat} (hlow : base ≤ b) (hb : Bk w b 92 #[.slice A n c]) (hbz : base ≤ w.heap.size)
    (ho : w.ownsRow base 5 1 (.slice A n c) n (l.map (Value.int .u8))) (hl : ∀ x ∈ l, 0 ≤ x ∧ x < 256) (hm : ∀ x ∈ m, 0 ≤ x ∧ x < 256)
    (h1 : w1.ownsRow base 5 1 (.slice A' n' c') n' (l.map (Value.int .u8) ++ m.map (Value.int .u8))) (h2 : w.grownBy w1 (Value.ownBlock (.slice A n c))) :
    RetW base b (l ++ m) w (.returned (.tuple #[])) (w1.setCell ⟨b, 0, none⟩ (.slice A' n' c')) := by
  rw [← List.map_append] at h1
  have hb1 : Bk w1 b 92 #[.slice A n c] := (h2.block b hb.lt (fun e => apart_row (by decide) hb ho e.symm)).trans hb
  refine ⟨rfl, ⟨hlow, fun x hx => ?_, A', n', c', ?_, ?_⟩, ?_⟩
  · rcases List.mem_append.1 hx with h | h
    · exact hl x h
    · exact hm x h
  · have := hb1.setc 0 (.slice A' n' c')
    simpa using this
  · refine h1.kept (row := some b) ⟨rfl, rfl, rfl, by simp [World.setCell], fun k hk hk' => ?_⟩ (.inr (apart_row (by decide) hb1 h1))
    exact Below.heap_setCell w1 _ _ k (fun e => hk' (by simp [e]))
  · exact (((Below.refl base w).grown h2 hbz (fun k hk => (ho.lt k hk).1)).setCell hlow _)

/-- Behind 'append': the writer's cell is there still. -/
theorem put_cell {base b : Nat} {l : List Int} {w w1 : World} {A : Option Addr} {n c : Nat} (hb : Bk w b 92 #[.slice A n c])
    (ho : w.ownsRow base 5 1 (.slice A n c) n (l.map (Value.int .u8))) (h2 : w.grownBy w1 (Value.ownBlock (.slice A n c))) :
    w1.cell? ⟨b, 0, none⟩ = some (.slice A n c) ∧ w1.frozen? ⟨b, 0, none⟩ = false := by
  have hb1 : Bk w1 b 92 #[.slice A n c] := (h2.block b hb.lt (fun e => apart_row (by decide) hb ho e.symm)).trans hb
  exact ⟨hb1.cell 0, hb1.frz 0⟩

set_option maxHeartbeats 1000000 in
theorem put_any (base b : Nat) (l m : List Int) (A : Option Addr) (n c : Nat) (w : World) (h : Wrt w base b l) (hm : Byt w A n c m) (hn : l.length + n ≤ 140737488355328) :
    Calls Tryd.prog 48 #[.pointer (some ⟨b, 0, none⟩), .slice A n c] w (RetW base b (l ++ m) w) := by
  obtain ⟨i0, hi, hz0, hz1, hz2⟩ := info_parts info_u8
  obtain ⟨A0, n0, c0, hb, ho⟩ := h.ex
  have hl0 : l.length = n0 := by simpa using ho.1
  have hcell : w.cell? ⟨b, 0, none⟩ = some (.slice A0 n0 c0) := hb.cell 0
  have hbz : base ≤ w.heap.size := by have := hb.lt; have := h.low; omega
  have HE := fun A' n' c' w1 h1 h2 => @put_end base b l m w w1 A0 A' n0 c0 n' c' h.low hb hbz ho h.rng hm.rng h1 h2
  have HC := fun w1 h2 => @put_cell base b l w w1 A0 n0 c0 hb ho h2
  have HE := Lib.hid HE
  have HC := Lib.hid HC
  have HO := Lib.hid ho
  clear h hb ho
  go_enter Tryd.func48, Tryd.ntmps48
  go_wp2_with (at_builtin; refine wpList_append_byt rfl _ _ 24 rfl base 5 i0 Tryd.underlying24 hi hz0 hz1 hz2 _ n0 l rfl (by exact HO.out) A n c m rfl hm (by omega) hbz ?_)
  intro A' c' w1 h1 h2
  obtain ⟨hc1, hf1⟩ := HC.out w1 h2
  have R := Lib.hid (HE.out _ _ _ w1 h1 h2)
  clear h1 h2 hcell hm HC HE
  go_wp2
  go_end0
  exact R.out

/-- A nil writer gathers nothing. -/
theorem put_nil (A : Option Addr) (n c : Nat) (w : World) :
    Calls Tryd.prog 48 #[.pointer none, .slice A n c] w (Ret (.tuple #[]) w) := by
  go_enter Tryd.func48, Tryd.ntmps48
  go_wp2
  go_end0
  exact ⟨rfl, Below.refl _ _⟩
end Go.Proofs.YtljpnngknmpdoaaDoor

/- what a writer's methods gather: a number, a byte, a flag, a text; a nil one gathers nothing; Bytes hands it back in new memory. -/
namespace Go.Proofs.YtljpnngknmpdoaaDoor
open Go.RowKit

theorem RetW.snd {base b : Nat} {l : List Int} {w w1 : World} {e : Ending} {w2 : World} (h1 : Below base w w1) (h : RetW base b l w1 e w2) : RetW base b l w e w2 := ⟨h.1, h.2.1, h1.trans h.2.2⟩

/-- Below base, where all of the writer's memory lies. -/
theorem Wrt.base_le {w : World} {base b : Nat} {l : List Int} (h : Wrt w base b l) : base ≤ w.heap.size := by have := h.lt; have := h.low; omega

/-- What Num writes. -/
def numL (n : Int) : List Int := shortL (max n 0).toNat
theorem numL_rng (n : Int) : ∀ x ∈ numL n, 0 ≤ x ∧ x < 256 := shortL_rng _
theorem numL_len (n : Int) (hn : n ≤ 9223372036854775807) : (numL n).length ≤ 10 := shortL_len _ (by omega)

theorem numL_nat (z : Nat) : numL (z : Int) = shortL z := by unfold numL; congr 1; omega
theorem numL_neg {n : Int} (h : n < 0) : numL n = shortL 0 := by unfold numL; congr 1; omega

set_option maxHeartbeats 1000000 in
theorem wNum_any (base b : Nat) (l : List Int) (n : Int) (w : World) (h : Wrt w base b l) (hn : -9223372036854775808 ≤ n ∧ n ≤ 9223372036854775807) (hl : l.length ≤ 140737488350000) :
    Calls Tryd.prog 56 #[.pointer (some ⟨b, 0, none⟩), .int .i64 n] w (RetW base b (l ++ numL n) w) := by
  have go : ∀ z : Nat, z ≤ 9223372036854775807 → ∀ (A : Option Addr) (k c : Nat) (w1 : World), Byt w1 A k c (shortL z) → Below w.heap.size w w1 → Calls Tryd.prog 48 #[.pointer (some ⟨b, 0, none⟩), .slice A k c] w1 (RetW base b (l ++ shortL z) w) := by
    intro z hz A k c w1 hb hbel
    have hk : k ≤ 10 := by rw [← hb.len]; exact shortL_len z (by omega)
    exact (put_any base b l (shortL z) A k c w1 (h.ret hbel) hb (by omega)).mono fun e w2 hr => hr.snd (hbel.mono h.base_le)
  have GO := Lib.hid go
  clear go h
  by_cases h0 : n < 0
  · rw [numL_neg h0]
    go_enter Tryd.func56, Tryd.ntmps56
    go_wp2_with fail
    refine (numShort_any 0 (by omega) w).mono ?_
    rintro e w1 ⟨A, k, c, rfl, hb, hbel⟩
    have C := Lib.hid (GO.out 0 (by omega) A k c w1 hb hbel)
    clear hb hbel
    go_wp2_with fail
    refine C.out.mono ?_
    rintro e w2 ⟨rfl, R⟩
    have R := Lib.hid R
    go_wp2_with fail
    go_end0
    exact ⟨rfl, R.out⟩
  · obtain ⟨z, rfl⟩ := Int.eq_ofNat_of_zero_le (Int.not_lt.1 h0)
    rw [numL_nat]
    obtain ⟨_, hz⟩ := hn
    go_enter Tryd.func56, Tryd.ntmps56
    go_wp2_with fail
    refine (numShort_any z (by omega) w).mono ?_
    rintro e w1 ⟨A, k, c, rfl, hb, hbel⟩
    have C := Lib.hid (GO.out z (by omega) A k c w1 hb hbel)
    clear hb hbel
    go_wp2_with fail
    refine C.out.mono ?_
    rintro e w2 ⟨rfl, R⟩
    have R := Lib.hid R
    go_wp2_with fail
    go_end0
    exact ⟨rfl, R.out⟩

set_option maxHeartbeats 1000000 in
theorem wNum_nil (n : Int) (w : World) (hn : -9223372036854775808 ≤ n ∧ n ≤ 9223372036854775807) :
    Calls Tryd.prog 56 #[.pointer none, .int .i64 n] w (Ret (.tuple #[]) w) := by
  by_cases h0 : n < 0
  · go_enter Tryd.func56, Tryd.ntmps56
    go_wp2_with fail
    refine (numShort_any 0 (by omega) w).mono ?_
    rintro e w1 ⟨A, k, c, rfl, hb, hbel⟩
    have L := Lib.hid hbel
    clear hb hbel
    go_wp2_with fail
    refine (put_nil _ _ _ _).mono ?_
    rintro e w2 ⟨rfl, b2⟩
    have R := Lib.hid (Below.then L.out b2)
    clear b2
    go_wp2_with fail
    go_end0
    exact ⟨rfl, R.out⟩
  · obtain ⟨z, rfl⟩ := Int.eq_ofNat_of_zero_le (Int.not_lt.1 h0)
    obtain ⟨_, hz⟩ := hn
    go_enter Tryd.func56, Tryd.ntmps56
    go_wp2_with fail
    refine (numShort_any z (by omega) w).mono ?_
    rintro e w1 ⟨A, k, c, rfl, hb, hbel⟩
    have L := Lib.hid hbel
    clear hb hbel
    go_wp2_with fail
    refine (put_nil _ _ _ _).mono ?_
    rintro e w2 ⟨rfl, b2⟩
    have R := Lib.hid (Below.then L.out b2)
    clear b2
    go_wp2_with fail
    go_end0
    exact ⟨rfl, R.out⟩

/-- A new slice of one byte, as 'put(c)' lays it. -/
theorem one_byt (W : World) (x : Int) (hx : 0 ≤ x ∧ x < 256) : Byt (W.alloc (.cells #[.int .u8 x] 5)) (some ⟨W.heap.size, 0, none⟩) 1 1 [x] :=
  Byt.of_own (own_one W W.heap.size 5 x (Nat.le_refl _)) (by intro y hy; simp at hy; subst hy; exact hx)

theorem put_one {w : World} {base b : Nat} {l : List Int} (h : Wrt w base b l) (x : Int) (hx : 0 ≤ x ∧ x < 256) (hl : l.length ≤ 140737488350000) :
    Calls Tryd.prog 48 #[.pointer (some ⟨b, 0, none⟩), .slice (some ⟨w.heap.size, 0, none⟩) 1 1] (w.alloc (.cells #[.int .u8 x] 5)) (RetW base b (l ++ [x]) w) :=
  (put_any base b l [x] _ 1 1 _ (h.ret ((Below.refl _ _).alloc (Nat.le_refl _) _)) (one_byt w x hx) (by omega)).mono fun e w2 hr => hr.snd ((Below.refl _ _).alloc h.base_le _)

/-- What Flag writes. -/
def flagL (is : Bool) : List Int := [if is then 1 else 0]
theorem flagL_rng (is : Bool) : ∀ x ∈ flagL is, 0 ≤ x ∧ x < 256 := by cases is <;> simp [flagL]

theorem one_nil (x : Int) (w : World) :
    Calls Tryd.prog 48 #[.pointer none, .slice (some ⟨w.heap.size, 0, none⟩) 1 1] (w.alloc (.cells #[.int .u8 x] 5)) (Ret (.tuple #[]) w) :=
  (put_nil _ _ _ _).mono fun _ _ ⟨he, hb⟩ => ⟨he, Below.then ((Below.refl _ _).alloc (Nat.le_refl _) _) hb⟩

/-- What Text writes. -/
def textL (m : List Int) : List Int := shortL m.length ++ m
theorem textL_rng {m : List Int} (h : ∀ x ∈ m, 0 ≤ x ∧ x < 256) : ∀ x ∈ textL m, 0 ≤ x ∧ x < 256 := fun x hx => by
  rcases List.mem_append.1 hx with h1 | h1
  · exact shortL_rng _ x h1
  · exact h x h1
theorem textL_len (m : List Int) (h : m.length ≤ 9223372036854775807) : (textL m).length ≤ m.length + 10 := by
  have := shortL_len m.length (by omega)
  simp [textL]; omega

set_option maxHeartbeats 1000000 in
theorem wText_any (base b : Nat) (l : List Int) (s : ByteArray) (w : World) (h : Wrt w base b l) (hs : l.length + s.size ≤ 140737488350000) :
    Calls Tryd.prog 47 #[.pointer (some ⟨b, 0, none⟩), .string s] w (RetW base b (l ++ textL (nums s)) w) := by
  have go : ∀ w1, RetW base b (l ++ numL (s.size : Int)) w (.returned (.tuple #[])) w1 → Calls Tryd.prog 48 #[.pointer (some ⟨b, 0, none⟩), .slice (some ⟨w1.heap.size, 0, none⟩) s.size (grownCap w1 s.size 0 5)] (Lib.bytesWorld w1 5 s) (RetW base b (l ++ textL (nums s)) w) := by
    intro w1 hr
    have hlen : (numL (s.size : Int)).length ≤ 10 := numL_len _ (by omega)
    have hb := bytesWorld_below w1 5 s
    have := put_any base b (l ++ numL (s.size : Int)) (nums s) _ _ _ _ (hr.2.1.ret hb) (Byt.ofString w1 5 s (by unfold maxLen; omega)) (by simp; omega)
    refine this.mono fun e w2 h2 => ?_
    have h3 := RetW.snd (hr.2.2.trans (hb.mono hr.2.1.base_le)) h2
    rw [List.append_assoc, numL_nat] at h3
    unfold textL
    rw [nums_len]
    exact h3
  have GO := Lib.hid go
  have CN := Lib.hid (wNum_any base b l (s.size : Int) w h (by omega) (by omega))
  have kc := conv_str
  clear go h
  go_enter Tryd.func47, Tryd.ntmps47
  go_wp2_with fail
  refine CN.out.mono ?_
  rintro e w1 ⟨rfl, R⟩
  have C := Lib.hid (GO.out w1 ⟨rfl, R⟩)
  clear R
  go_wp2_with fail
  refine C.out.mono ?_
  rintro e w2 ⟨rfl, R⟩
  have R := Lib.hid R
  go_wp2_with fail
  go_end0
  exact ⟨rfl, R.out⟩

set_option maxHeartbeats 1000000 in
theorem wText_nil (s : ByteArray) (w : World) (hs : s.size ≤ 140737488355328) :
    Calls Tryd.prog 47 #[.pointer none, .string s] w (Ret (.tuple #[]) w) := by
  have CN := Lib.hid (wNum_nil (s.size : Int) w (by omega))
  have kc := conv_str
  go_enter Tryd.func47, Tryd.ntmps47
  go_wp2_with fail
  refine CN.out.mono ?_
  rintro e w1 ⟨rfl, R⟩
  have R1 := Lib.hid R
  clear R
  go_wp2_with fail
  refine (put_nil _ _ _ _).mono ?_
  rintro e w2 ⟨rfl, R⟩
  have R := Lib.hid (Below.then (Below.then R1.out (bytesWorld_below _ _ _)) R)
  go_wp2_with fail
  go_end0
  exact ⟨rfl, R.out⟩

end Go.Proofs.YtljpnngknmpdoaaDoor

/- plain mathematics of CRC-32: the register's step over one bit is linear and one to one; bytes put in one behind the other are one great number put in at the start. No program is named; no condition. -/
namespace Go.Proofs.YtljpnngknmpdoaaDoor

def poly : Nat := 3988292384

/-- One bit more. -/
def stepBit (c : Nat) : Nat := if c % 2 = 1 then (c / 2) ^^^ poly else c / 2

/-- k bits more. -/
def steps : Nat → Nat → Nat
  | 0, c => c
  | k + 1, c => steps k (stepBit c)

theorem steps_add (j k c : Nat) : steps (j + k) c = steps k (steps j c) := by
  induction j generalizing c with
  | zero => rw [Nat.zero_add]; rfl
  | succ j ih => rw [Nat.add_right_comm]; exact ih (stepBit c)

theorem steps_succ (k c : Nat) : steps (k + 1) c = stepBit (steps k c) := by rw [steps_add k 1]; rfl

theorem xor_half (a b : Nat) : (a ^^^ b) / 2 = (a / 2) ^^^ (b / 2) := by
  apply Nat.eq_of_testBit_eq
  intro i
  simp [Nat.testBit_div_two]

theorem xor_low (a b : Nat) : (a ^^^ b) % 2 = (a % 2 + b % 2) % 2 := by
  have h := Nat.testBit_xor a b 0
  simp only [Nat.testBit_zero] at h
  rcases Nat.mod_two_eq_zero_or_one a with ha | ha <;> rcases Nat.mod_two_eq_zero_or_one b with hb | hb <;>
    rcases Nat.mod_two_eq_zero_or_one (a ^^^ b) with hc | hc <;> simp [ha, hb, hc] at h ⊢

theorem stepBit_xor (a b : Nat) : stepBit (a ^^^ b) = stepBit a ^^^ stepBit b := by
  unfold stepBit
  rw [xor_half, xor_low]
  rcases Nat.mod_two_eq_zero_or_one a with ha | ha <;> rcases Nat.mod_two_eq_zero_or_one b with hb | hb <;> simp [ha, hb]
  · rw [Nat.xor_assoc]
  · rw [Nat.xor_assoc, Nat.xor_assoc, Nat.xor_comm (b / 2)]
  · rw [Nat.xor_assoc, Nat.xor_comm (b / 2) poly, ← Nat.xor_assoc poly, Nat.xor_self, Nat.zero_xor]

theorem steps_xor (k a b : Nat) : steps k (a ^^^ b) = steps k a ^^^ steps k b := by
  induction k generalizing a b with
  | zero => rfl
  | succ k ih => rw [steps, stepBit_xor, ih]; rfl

theorem stepBit_zero : stepBit 0 = 0 := rfl
theorem steps_zero (k : Nat) : steps k 0 = 0 := by
  induction k with
  | zero => rfl
  | succ k ih => rw [steps, stepBit_zero, ih]

theorem stepBit_lt {c : Nat} (h : c < 4294967296) : stepBit c < 4294967296 := by
  unfold stepBit
  split
  · exact Nat.xor_lt_two_pow (n := 32) (by omega) (by decide)
  · omega

theorem steps_lt (k : Nat) {c : Nat} (h : c < 4294967296) : steps k c < 4294967296 := by
  induction k generalizing c with
  | zero => exact h
  | succ k ih => exact ih (stepBit_lt h)

theorem xor_eq_zero {a b : Nat} (h : a ^^^ b = 0) : a = b := by
  have : (a ^^^ b) ^^^ b = b := by rw [h, Nat.zero_xor]
  rwa [Nat.xor_assoc, Nat.xor_self, Nat.xor_zero] at this

theorem stepBit_ne {c : Nat} (h : c < 4294967296) (h0 : c ≠ 0) : stepBit c ≠ 0 := by
  unfold stepBit
  split
  · intro e
    have := xor_eq_zero e
    unfold poly at this
    omega
  · omega

theorem steps_ne (k : Nat) {c : Nat} (h : c < 4294967296) (h0 : c ≠ 0) : steps k c ≠ 0 := by
  induction k generalizing c with
  | zero => exact h0
  | succ k ih => exact ih (stepBit_lt h) (stepBit_ne h h0)

theorem steps_inj (k : Nat) {a b : Nat} (ha : a < 4294967296) (hb : b < 4294967296) (h : steps k a = steps k b) : a = b := by
  by_cases e : a ^^^ b = 0
  · exact xor_eq_zero e
  · exfalso
    refine steps_ne k (Nat.xor_lt_two_pow (n := 32) ha hb) e ?_
    rw [steps_xor, h, Nat.xor_self]

/-- What stands high up comes down. -/
theorem steps_shift (k c : Nat) : steps k (c * 2 ^ k) = c := by
  induction k with
  | zero => simp [steps]
  | succ k ih =>
    have e : c * 2 ^ (k + 1) = (c * 2 ^ k) * 2 := by rw [Nat.pow_succ, Nat.mul_assoc]
    rw [steps, stepBit, e, if_neg (by omega), Nat.mul_div_cancel _ (by decide), ih]

/-- Bytes as one number, the first one lowest. -/
def leN : List Int → Nat
  | [] => 0
  | x :: r => x.toNat + 256 * leN r

/-- A byte more. -/
def stepByte (c : Nat) (x : Int) : Nat := steps 8 (c ^^^ x.toNat)

/-- Bytes more. -/
def crcFrom (c : Nat) (l : List Int) : Nat := l.foldl stepByte c

theorem crcFrom_cons (c : Nat) (x : Int) (l : List Int) : crcFrom c (x :: l) = crcFrom (stepByte c x) l := rfl
theorem crcFrom_append (c : Nat) (l m : List Int) : crcFrom c (l ++ m) = crcFrom (crcFrom c l) m := by simp [crcFrom]
theorem crcFrom_snoc (c : Nat) (l : List Int) (x : Int) : crcFrom c (l ++ [x]) = stepByte (crcFrom c l) x := by simp [crcFrom]

theorem add_eq_xor (x n : Nat) (h : x < 256) : x + 256 * n = x ^^^ (n * 256) := by
  have e : n * 256 = n <<< 8 := by rw [Nat.shiftLeft_eq]
  rw [e, Nat.mul_comm]
  have h1 : n * 256 + x = n <<< 8 ||| x := by rw [← Nat.shiftLeft_add_eq_or_of_lt (by simpa using h) n, Nat.shiftLeft_eq]
  have h2 : (n <<< 8) ^^^ x = n <<< 8 ||| x := by
    apply Nat.eq_of_testBit_eq
    intro i
    simp only [Nat.testBit_xor, Nat.testBit_or, Nat.testBit_shiftLeft]
    by_cases hi : 8 ≤ i
    · have : x.testBit i = false := Nat.testBit_lt_two_pow (Nat.lt_of_lt_of_le h (by
        have : 2 ^ 8 ≤ 2 ^ i := Nat.pow_le_pow_right (by decide) hi
        simpa using this))
      simp [this]
    · simp [hi]
  rw [Nat.add_comm, h1, ← h2, Nat.xor_comm]

theorem crcFrom_num (l : List Int) (hr : ∀ x ∈ l, 0 ≤ x ∧ x < 256) (c : Nat) : crcFrom c l = steps (8 * l.length) (c ^^^ leN l) := by
  induction l generalizing c with
  | nil => simp [crcFrom, leN, steps]
  | cons x r ih =>
    have hx := hr x (by simp)
    rw [crcFrom_cons, ih (fun y hy => hr y (by simp [hy])), leN, add_eq_xor _ _ (by omega)]
    rw [List.length_cons, show 8 * (r.length + 1) = 8 + 8 * r.length from by omega, steps_add]
    congr 1
    rw [← Nat.xor_assoc, steps_xor 8 _ (leN r * 256), stepByte]
    congr 1
    exact (steps_shift 8 (leN r)).symm

def ones : Nat := 4294967295

/-- The checksum. -/
def crcL (l : List Int) : Nat := crcFrom ones l ^^^ ones

theorem crcFrom_lt (l : List Int) (hr : ∀ x ∈ l, 0 ≤ x ∧ x < 256) (c : Nat) (hc : c < 4294967296) : crcFrom c l < 4294967296 := by
  induction l generalizing c with
  | nil => exact hc
  | cons x r ih =>
    have hx := hr x (by simp)
    exact ih (fun y hy => hr y (by simp [hy])) _ (steps_lt 8 (Nat.xor_lt_two_pow (n := 32) hc (by omega)))

theorem crcL_lt (l : List Int) (hr : ∀ x ∈ l, 0 ≤ x ∧ x < 256) : crcL l < 4294967296 :=
  Nat.xor_lt_two_pow (n := 32) (crcFrom_lt l hr _ (by decide)) (by decide)

/-- Two checksums told by their texts' numbers. -/
theorem crcL_xor (l m : List Int) (hl : ∀ x ∈ l, 0 ≤ x ∧ x < 256) (hm : ∀ x ∈ m, 0 ≤ x ∧ x < 256) (he : l.length = m.length) : crcL l ^^^ crcL m = steps (8 * l.length) (leN l ^^^ leN m) := by
  unfold crcL
  rw [crcFrom_num l hl, crcFrom_num m hm, ← he, steps_xor, steps_xor, steps_xor]
  generalize steps (8 * l.length) ones = a
  generalize steps (8 * l.length) (leN l) = b
  generalize steps (8 * l.length) (leN m) = c
  apply Nat.eq_of_testBit_eq
  intro i
  simp only [Nat.testBit_xor]
  cases a.testBit i <;> cases b.testBit i <;> cases c.testBit i <;> cases ones.testBit i <;> rfl

/-- P2.4: where up to 32 neighbouring bits are other ones the checksum is another one. -/
theorem crc_turned (l m : List Int) (hl : ∀ x ∈ l, 0 ≤ x ∧ x < 256) (hm : ∀ x ∈ m, 0 ≤ x ∧ x < 256) (he : l.length = m.length) (at_ u : Nat) (hat : at_ ≤ 8 * l.length) (hu : u < 4294967296) (h : leN m = leN l ^^^ (u * 2 ^ at_)) : crcL l = crcL m ↔ u = 0 := by
  have e : leN l ^^^ leN m = u * 2 ^ at_ := by rw [h, ← Nat.xor_assoc, Nat.xor_self, Nat.zero_xor]
  have x := crcL_xor l m hl hm he
  rw [e, show 8 * l.length = at_ + (8 * l.length - at_) from by omega, steps_add, steps_shift] at x
  constructor
  · intro hc
    by_cases h0 : u = 0
    · exact h0
    · exfalso
      rw [hc, Nat.xor_self] at x
      exact steps_ne _ hu h0 x.symm
  · intro h0
    rw [h0, steps_zero] at x
    exact xor_eq_zero x

theorem leN_cons (x : Int) (r : List Int) (h : 0 ≤ x ∧ x < 256) : leN (x :: r) = x.toNat ^^^ (leN r * 256) := by
  rw [leN, add_eq_xor _ _ (by omega)]

theorem xor_mul256 (a b : Nat) : (a ^^^ b) * 256 = (a * 256) ^^^ (b * 256) := by
  have e : ∀ n : Nat, n * 256 = n <<< 8 := fun n => by rw [Nat.shiftLeft_eq]
  rw [e, e, e]
  apply Nat.eq_of_testBit_eq
  intro i
  simp only [Nat.testBit_xor, Nat.testBit_shiftLeft]
  by_cases h : 8 ≤ i <;> simp [h]

/-- One bit of one byte is turned. -/
theorem leN_turn (l : List Int) (hr : ∀ x ∈ l, 0 ≤ x ∧ x < 256) (j b : Nat) (hj : j < l.length) (hb : b < 8) :
    leN (l.set j (((l.getD j 0).toNat ^^^ 2 ^ b : Nat) : Int)) = leN l ^^^ 2 ^ (8 * j + b) := by
  have hpb : 2 ^ b < 256 := Nat.lt_of_le_of_lt (Nat.pow_le_pow_right (by decide) (show b ≤ 7 by omega)) (by decide)
  induction l generalizing j with
  | nil => simp at hj
  | cons x r ih =>
    have hx := hr x (by simp)
    have hr' : ∀ y ∈ r, 0 ≤ y ∧ y < 256 := fun y hy => hr y (by simp [hy])
    cases j with
    | zero =>
      have hlt : x.toNat ^^^ 2 ^ b < 256 := Nat.xor_lt_two_pow (n := 8) (by omega) hpb
      simp only [List.set_cons_zero, List.getD_cons_zero, Nat.mul_zero, Nat.zero_add]
      rw [leN_cons _ _ (by omega), leN_cons _ _ hx, Int.toNat_natCast, Nat.xor_assoc, Nat.xor_assoc, Nat.xor_comm (2 ^ b)]
    | succ j =>
      simp only [List.set_cons_succ, List.getD_cons_succ]
      rw [leN_cons _ _ hx, leN_cons _ _ hx, ih hr' j (by simpa using hj), xor_mul256, ← Nat.xor_assoc]
      congr 1
      rw [show 8 * (j + 1) + b = 8 * j + b + 8 from by omega, Nat.pow_add _ _ 8]

/-- P2.2: a text behind another one. -/
theorem crc_join (l m : List Int) (hm : ∀ x ∈ m, 0 ≤ x ∧ x < 256) : crcL (l ++ m) = steps (8 * m.length) (crcL l) ^^^ crcL m := by
  unfold crcL
  rw [crcFrom_append, crcFrom_num m hm, crcFrom_num m hm, steps_xor, steps_xor, steps_xor]
  generalize steps (8 * m.length) ones = a
  generalize steps (8 * m.length) (leN m) = b
  generalize steps (8 * m.length) (crcFrom ones l) = c
  apply Nat.eq_of_testBit_eq
  intro i
  simp only [Nat.testBit_xor]
  cases a.testBit i <;> cases b.testBit i <;> cases c.testBit i <;> cases ones.testBit i <;> rfl

/-- What stands below bit k, and what stands from it on. -/
theorem split_xor (k c : Nat) : (c % 2 ^ k) ^^^ (c / 2 ^ k * 2 ^ k) = c := by
  have e : c / 2 ^ k * 2 ^ k = (c >>> k) <<< k := by rw [Nat.shiftLeft_eq, Nat.shiftRight_eq_div_pow]
  rw [e]
  apply Nat.eq_of_testBit_eq
  intro i
  simp only [Nat.testBit_xor, Nat.testBit_mod_two_pow, Nat.testBit_shiftLeft, Nat.testBit_shiftRight]
  by_cases h : i < k
  · have h2 : ¬ k ≤ i := by omega
    simp [h, h2]
  · have h1 : k ≤ i := by omega
    have : k + (i - k) = i := by omega
    simp [h, h1, this]

/-- What the four lowest bits leave behind. -/
def nib : Nat → Nat
  | 0 => 0x00000000 | 1 => 0x1DB71064 | 2 => 0x3B6E20C8 | 3 => 0x26D930AC
  | 4 => 0x76DC4190 | 5 => 0x6B6B51F4 | 6 => 0x4DB26158 | 7 => 0x5005713C
  | 8 => 0xEDB88320 | 9 => 0xF00F9344 | 10 => 0xD6D6A3E8 | 11 => 0xCB61B38C
  | 12 => 0x9B64C2B0 | 13 => 0x86D3D2D4 | 14 => 0xA00AE278 | 15 => 0xBDBDF21C
  | _ => 0

theorem nib_steps (c : Nat) (h : c < 16) : steps 4 c = nib c := by
  have : c = 0 ∨ c = 1 ∨ c = 2 ∨ c = 3 ∨ c = 4 ∨ c = 5 ∨ c = 6 ∨ c = 7 ∨ c = 8 ∨ c = 9 ∨ c = 10 ∨ c = 11 ∨ c = 12 ∨ c = 13 ∨ c = 14 ∨ c = 15 := by omega
  rcases this with h | h | h | h | h | h | h | h | h | h | h | h | h | h | h | h <;> subst h <;> decide +kernel

theorem steps4 (c : Nat) : steps 4 c = (c / 16) ^^^ nib (c % 16) := by
  have e := split_xor 4 c
  have h16 : (2 : Nat) ^ 4 = 16 := rfl
  rw [h16] at e
  have : steps 4 c = steps 4 ((c % 16) ^^^ (c / 16 * 16)) := by rw [e]
  rw [this, steps_xor, nib_steps _ (Nat.mod_lt _ (by decide)), Nat.xor_comm]
  congr 1
  exact steps_shift 4 _

theorem steps8 (c : Nat) : steps 8 c = (steps 4 c / 16) ^^^ nib (steps 4 c % 16) := by
  rw [show (8 : Nat) = 4 + 4 from rfl, steps_add, steps4 (steps 4 c)]

/-- A register behind a linear change of which column i is m i: its first n bits. -/
def timesL (m : Nat → Nat) (c : Nat) : Nat → Nat
  | 0 => 0
  | n + 1 => if c / 2 ^ n % 2 = 1 then timesL m c n ^^^ m n else timesL m c n

theorem timesL_steps (k c : Nat) (n : Nat) : timesL (fun i => steps k (2 ^ i)) c n = steps k (c % 2 ^ n) := by
  induction n with
  | zero => simp [timesL, steps_zero, Nat.mod_one]
  | succ n ih =>
    rw [timesL, ih]
    have e := split_xor n (c % 2 ^ (n + 1))
    have e1 : c % 2 ^ (n + 1) % 2 ^ n = c % 2 ^ n := Nat.mod_mod_of_dvd _ ⟨2, by rw [Nat.pow_succ]⟩
    have e2 : c % 2 ^ (n + 1) / 2 ^ n = c / 2 ^ n % 2 := by rw [Nat.pow_succ, Nat.mod_mul_right_div_self]
    rw [e1, e2] at e
    rw [← e, steps_xor]
    split
    · rename_i h
      rw [h, Nat.one_mul]
    · rename_i h
      rw [show c / 2 ^ n % 2 = 0 from by omega, Nat.zero_mul, steps_zero, Nat.xor_zero]

theorem timesL_congr (m m' : Nat → Nat) (c n : Nat) (h : ∀ i, i < n → m i = m' i) : timesL m c n = timesL m' c n := by
  induction n with
  | zero => rfl
  | succ n ih => rw [timesL, timesL, ih (fun i hi => h i (by omega)), h n (by omega)]

theorem timesL_all (k c : Nat) (hc : c < 4294967296) (m : Nat → Nat) (h : ∀ i, i < 32 → m i = steps k (2 ^ i)) : timesL m c 32 = steps k c := by
  rw [timesL_congr m (fun i => steps k (2 ^ i)) c 32 h, timesL_steps, Nat.mod_eq_of_lt (by simpa using hc)]

/-- One bit back. -/
def unstep (r : Nat) : Nat := if r / 2147483648 = 1 then (r ^^^ poly) * 2 + 1 else r * 2

theorem xor_poly_lt (r : Nat) (_h : r < 4294967296) (h1 : r / 2147483648 = 1) : (r ^^^ poly) < 2147483648 := by
  have h31 : (r ^^^ poly) / 2147483648 = 0 := by
    have e : ∀ x : Nat, x / 2147483648 = x >>> 31 := fun x => by rw [Nat.shiftRight_eq_div_pow]
    rw [e, Nat.shiftRight_xor_distrib, ← e, ← e, h1]
    rfl
  omega

theorem unstep_lt (r : Nat) (h : r < 4294967296) : unstep r < 4294967296 := by
  unfold unstep
  split
  · rename_i h1
    have := xor_poly_lt r h h1
    omega
  · omega

theorem step_unstep (r : Nat) (_h : r < 4294967296) : stepBit (unstep r) = r := by
  unfold unstep
  split
  · rename_i h1
    rw [stepBit, if_pos (by omega), show ((r ^^^ poly) * 2 + 1) / 2 = r ^^^ poly from by omega, Nat.xor_assoc, Nat.xor_self, Nat.xor_zero]
  · rw [stepBit, if_neg (by omega)]
    omega

/-- k bits back. -/
def unsteps : Nat → Nat → Nat
  | 0, r => r
  | k + 1, r => unstep (unsteps k r)

theorem unsteps_lt (k r : Nat) (h : r < 4294967296) : unsteps k r < 4294967296 := by
  induction k with
  | zero => exact h
  | succ k ih => exact unstep_lt _ ih

theorem steps_unsteps (k r : Nat) (h : r < 4294967296) : steps k (unsteps k r) = r := by
  induction k with
  | zero => rfl
  | succ k ih => rw [steps, unsteps, step_unstep _ (unsteps_lt k r h), ih]

/-- The four bytes of a word, the lowest one first. -/
def le4 (x : Nat) : List Int := [((x % 256 : Nat) : Int), ((x / 256 % 256 : Nat) : Int), ((x / 65536 % 256 : Nat) : Int), ((x / 16777216 % 256 : Nat) : Int)]

theorem le4_rng (x : Nat) : ∀ y ∈ le4 x, 0 ≤ y ∧ y < 256 := by
  intro y hy
  simp only [le4, List.mem_cons, List.not_mem_nil, or_false] at hy
  rcases hy with h | h | h | h <;> subst h <;> omega

theorem leN_le4 (x : Nat) (h : x < 4294967296) : leN (le4 x) = x := by
  simp only [le4, leN, Int.toNat_natCast]
  omega

/-- P2.3: the four bytes that make the register what it was wanted to be. -/
theorem crc_patched (l : List Int) (hl : ∀ x ∈ l, 0 ≤ x ∧ x < 256) (want : Nat) (hw : want < 4294967296) :
    crcL (l ++ le4 ((crcL l ^^^ ones) ^^^ unsteps 32 (want ^^^ ones))) = want := by
  have hx : want ^^^ ones < 4294967296 := Nat.xor_lt_two_pow (n := 32) hw (by decide)
  have hu := unsteps_lt 32 _ hx
  have hc : crcL l ^^^ ones = crcFrom ones l := by unfold crcL; rw [Nat.xor_assoc, Nat.xor_self, Nat.xor_zero]
  rw [hc]
  have hlt := crcFrom_lt l hl ones (by decide)
  have hp : crcFrom ones l ^^^ unsteps 32 (want ^^^ ones) < 4294967296 := Nat.xor_lt_two_pow (n := 32) hlt hu
  unfold crcL
  rw [crcFrom_append, crcFrom_num _ (le4_rng _), leN_le4 _ hp, ← Nat.xor_assoc, Nat.xor_self, Nat.zero_xor]
  rw [show 8 * (le4 (crcFrom ones l ^^^ unsteps 32 (want ^^^ ones))).length = 32 from rfl, steps_unsteps _ _ hx, Nat.xor_assoc, Nat.xor_self, Nat.xor_zero]

theorem crcL_nil : crcL [] = 0 := by decide +kernel
theorem crcL_awake : crcL [49, 50, 51, 52, 53, 54, 55, 56, 57] = 3421780262 := by decide +kernel

end Go.Proofs.YtljpnngknmpdoaaDoor

/- crc.shiftByte and trothref02.Step shift a register by eight bits, crc.unshift back by 32; nothing is turned. The table reads as its text lays it. -/
namespace Go.Proofs.YtljpnngknmpdoaaDoor
open Go.RowKit

/-- The table's cells. -/
def Tab (w : World) : Prop := ∀ i : Nat, i < 16 → w.cell? ⟨0, i, none⟩ = some (.int .u32 (nib i))

theorem Tab.below {w w' : World} {B : Nat} (h : Tab w) (hb : Below B w w') (hB : 0 < B) : Tab w' := fun i hi => (hb.cell (p := ⟨0, i, none⟩) hB).trans (h i hi)

/-- What a call answers; nothing is turned. -/
def Same32 (x : Int) (w : World) (e : Ending) (w' : World) : Prop := e = .returned (.int .u32 x) ∧ w = w'

theorem xor32 (a b : Nat) (ha : a < 4294967296) (hb : b < 4294967296) : bits .xor .u32 (a : Int) (b : Int) = ((a ^^^ b : Nat) : Int) := u32_xor_nat a b ha hb

theorem and15 (c : Nat) (hc : c < 4294967296) : bits .and .u32 (c : Int) 15 = ((c % 16 : Nat) : Int) := by
  have := u32_and_nat c 15 hc (by omega)
  rw [show ((15 : Nat) : Int) = 15 from rfl] at this
  rw [this]
  congr 1
  exact Nat.and_two_pow_sub_one_eq_mod c 4

theorem nib_lt (m : Nat) (h : m < 16) : nib m < 4294967296 := by
  rw [← nib_steps m h]
  exact steps_lt 4 (by omega)

/-- Four bits by the table: what the walk asks. -/
theorem four (c : Nat) (hc : c < 4294967296) (w : World) (hT : Tab w) : ∃ m q t : Nat, bits .and .u32 (c : Int) 15 = (m : Int) ∧ m < 16 ∧ (c : Int) / 16 = (q : Int) ∧ w.cell? ⟨0, m, none⟩ = some (.int .u32 (t : Int)) ∧ bits .xor .u32 (q : Int) (t : Int) = ((steps 4 c : Nat) : Int) := by
  have hm : c % 16 < 16 := Nat.mod_lt _ (by decide)
  refine ⟨c % 16, c / 16, nib (c % 16), and15 c hc, hm, by simp, hT _ hm, ?_⟩
  rw [xor32 _ _ (by omega) (nib_lt _ hm), steps4]

set_option maxHeartbeats 1000000 in
theorem shiftByte_any (c : Nat) (hc : c < 4294967296) (w : World) (hT : Tab w) :
    Calls Tryd.prog 62 #[.int .u32 c] w (Same32 (steps 8 c : Nat) w) := by
  have h4 : steps 4 c < 4294967296 := steps_lt 4 hc
  obtain ⟨m, q, t, e1, hm, e2, e3, e4⟩ := four c hc w hT
  obtain ⟨m', q', t', f1, hm', f2, f3, f4⟩ := four (steps 4 c) h4 w hT
  have e8 : steps 4 (steps 4 c) = steps 8 c := by rw [show (8 : Nat) = 4 + 4 from rfl, steps_add]
  rw [e8] at f4
  obtain ⟨r, hr⟩ : ∃ r, steps 4 c = r := ⟨_, rfl⟩
  obtain ⟨z, hz⟩ : ∃ z, steps 8 c = z := ⟨_, rfl⟩
  rw [hz] at f4
  rw [hr] at e4 f1 f2 h4
  rw [hz]
  clear hT hr hz e8
  go_enter Tryd.func62, Tryd.ntmps62
  go_wp2_with fail
  go_ret
  exact ⟨rfl, rfl⟩

theorem stepBit_odd (c r : Nat) (hc : c < 4294967296) (h : c % 2 = 1) (hr : stepBit c = r) : bits .xor .u32 ((c / 2 : Nat) : Int) 3988292384 = (r : Int) := by
  rw [stepBit, if_pos h] at hr
  have := xor32 (c / 2) poly (by omega) (by decide)
  rw [hr] at this
  exact this

theorem stepBit_even (c r : Nat) (h : ¬ c % 2 = 1) (hr : stepBit c = r) : c / 2 = r := by rwa [stepBit, if_neg h] at hr

set_option maxHeartbeats 1000000 in
theorem refStep_any (c x : Nat) (hc : c < 4294967296) (hx : x < 256) (w : World) :
    Calls Tryd.prog 59 #[.int .u32 c, .int .u8 x] w (Same32 (steps 8 (c ^^^ x) : Nat) w) := by
  have e0 := xor32 c x hc (by omega)
  have hd : c ^^^ x < 4294967296 := Nat.xor_lt_two_pow (n := 32) hc (by omega)
  obtain ⟨d, ed⟩ : ∃ d, c ^^^ x = d := ⟨_, rfl⟩
  rw [ed] at e0 hd ⊢
  clear ed
  go_enter Tryd.func59, Tryd.ntmps59
  go_wp2_with fail
  clear e0
  go_loop [0, 5] (fun s j => ∃ i v : Nat, i ≤ 8 ∧ v < 4294967296 ∧ s = .int .u32 v ∧ j = .int .i64 i ∧ v = steps i d) (fun _ j => 8 - (intOf j).toNat)
  case atStart => exact ⟨0, d, Nat.zero_le _, hd, rfl, rfl, rfl⟩
  case round =>
    obtain ⟨i, v, hi, hv, rfl, rfl, ev⟩ := hrel
    have EV := Lib.hid ev
    clear ev
    by_cases hlt : i < 8
    · obtain ⟨r, er⟩ : ∃ r, stepBit v = r := ⟨_, rfl⟩
      have hr : r < 4294967296 := by rw [← er]; exact stepBit_lt hv
      have ER : Hid (r = steps (i + 1) d) := Lib.hid (by rw [steps_succ, ← EV.out, er])
      by_cases hodd : v % 2 = 1
      · have e1 := stepBit_odd v r hv hodd er
        obtain ⟨h, eh⟩ : ∃ h, v / 2 = h := ⟨_, rfl⟩
        have e2 : (v : Int) / 2 = (h : Int) := by omega
        have e3 : (v : Int) % 2 = 1 := by omega
        rw [eh] at e1
        clear er hodd eh
        go_wp2_with fail
        clear e1 e2 e3
        go_round
        case rel => exact ⟨i + 1, r, by omega, hr, rfl, by go_num, ER.out⟩
        case measure => simp [intOf]; omega
      · have e1 := stepBit_even v r hodd er
        have e2 : (v : Int) / 2 = (r : Int) := by omega
        have e3 : (v : Int) % 2 = 0 := by omega
        clear er hodd e1
        go_wp2_with fail
        clear e2 e3
        go_round
        case rel => exact ⟨i + 1, r, by omega, hr, rfl, by go_num, ER.out⟩
        case measure => simp [intOf]; omega
    · have HI : Hid (i = 8) := Lib.hid (by omega)
      go_wp2_with fail
      go_ret
      exact ⟨by rw [EV.out, HI.out]; rfl, rfl⟩

theorem bit_of (c i : Nat) (hc : c < 4294967296) : bits .and .u32 ((c : Int) / 2 ^ i) 1 = ((c / 2 ^ i % 2 : Nat) : Int) := by
  have e : (c : Int) / 2 ^ i = ((c / 2 ^ i : Nat) : Int) := by simp
  rw [e]
  have hlt : c / 2 ^ i < 4294967296 := Nat.lt_of_le_of_lt (Nat.div_le_self _ _) hc
  have := u32_and_nat (c / 2 ^ i) 1 hlt (by omega)
  rw [show ((1 : Nat) : Int) = 1 from rfl] at this
  rw [this, Nat.and_one_is_mod]
end Go.Proofs.YtljpnngknmpdoaaDoor

/- crc.Sum and trothref02.Sum answer the checksum of what a slice reads as; nothing is turned. -/
namespace Go.Proofs.YtljpnngknmpdoaaDoor
open Go.RowKit

theorem crc_next (l : List Int) (k : Nat) (hk : k < l.length) (x : Nat) (hx : l.getD k 0 = (x : Int)) : crcFrom ones (l.take (k + 1)) = steps 8 (crcFrom ones (l.take k) ^^^ x) := by
  rw [List.take_succ_eq_append_getElem hk, crcFrom_snoc, stepByte]
  simp [List.getD, List.getElem?_eq_getElem hk] at hx
  rw [hx, Int.toNat_natCast]

theorem not32 (v : Nat) (h : v < 4294967296) : bits .xor .u32 (v : Int) 4294967295 = ((v ^^^ ones : Nat) : Int) := by
  have := xor32 v 4294967295 h (by omega)
  exact this

theorem not_u32 (v : Nat) (h : v < 4294967296) : bits .xor .u32 IntKind.u32.max (v : Int) = ((v ^^^ ones : Nat) : Int) := by
  have := xor32 4294967295 v (by omega) h
  rw [Nat.xor_comm] at this
  exact this

theorem ret32 {a b : Int} (h : a = b) : Ending.returned (.int .u32 a) = .returned (.int .u32 b) := by rw [h]

set_option maxHeartbeats 1000000 in
theorem crcSum_rows (g off n c : Nat) (l : List Int) (w : World) (h : Byt w (some ⟨g, off, none⟩) n c l) (hn : 0 < n) (hT : Tab w) :
    Calls Tryd.prog 57 #[.slice (some ⟨g, off, none⟩) n c] w (Same32 (crcL l : Nat) w) := by
  have hc0 : ∀ i, i < n → w.cell? ⟨g, off + i, none⟩ = some (.int .u8 (l.getD i 0)) := by
    obtain ⟨g1, o1, e, hc⟩ := h.at_ hn
    injection e with e; injection e with e1 e2; subst e1; subst e2
    exact hc
  have hcap := h.cap
  have hmax := h.max
  unfold maxLen at hmax
  have HL := Lib.hid h.len
  have HR := Lib.hid h.lt_
  have HC := Lib.hid hc0
  have HT := Lib.hid hT
  clear hc0 h hT
  go_enter Tryd.func57, Tryd.ntmps57
  go_wp2_with fail
  go_loop [3, 8] (fun s j => ∃ i v : Nat, i ≤ n ∧ v < 4294967296 ∧ s = .int .u32 v ∧ j = .int .i64 i ∧ v = crcFrom ones (l.take i)) (fun _ j => n - (intOf j).toNat)
  case atStart => exact ⟨0, ones, Nat.zero_le _, by decide, rfl, rfl, rfl⟩
  case round =>
    obtain ⟨i, v, hin, hv, rfl, rfl, ev⟩ := hrel
    have EV := Lib.hid ev
    clear ev
    by_cases hlt : i < n
    · have hx := HC.out i hlt
      have hr := HR.out i hlt
      obtain ⟨x, ex⟩ : ∃ x : Nat, x = (l.getD i 0).toNat := ⟨_, rfl⟩
      have exi : l.getD i 0 = (x : Int) := by omega
      rw [exi] at hx hr
      have hx256 : x < 256 := by omega
      have hst := crc_next l i (by rw [HL.out]; exact hlt) x exi
      rw [← EV.out] at hst
      have hxor := xor32 v x hv (by omega)
      have hd : v ^^^ x < 4294967296 := Nat.xor_lt_two_pow (n := 32) hv (by omega)
      obtain ⟨d, ed⟩ : ∃ d, v ^^^ x = d := ⟨_, rfl⟩
      rw [ed] at hst hxor hd
      have CS := shiftByte_any d hd w HT.out
      have hs8 : steps 8 d < 4294967296 := steps_lt 8 hd
      obtain ⟨z, ez⟩ : ∃ z, steps 8 d = z := ⟨_, rfl⟩
      rw [ez] at CS hst hs8
      have HST := Lib.hid hst
      have HCS := Lib.hid CS
      obtain ⟨hr0, hr1⟩ := hr
      clear exi ex ed ez hst CS hr0 hr1
      go_wp2_with fail
      refine HCS.out.mono ?_
      rintro e w1 ⟨rfl, rfl⟩
      clear hxor hx
      go_wp2_with fail
      go_round
      case rel => exact ⟨i + 1, z, by omega, hs8, rfl, by go_num, HST.out.symm⟩
      case measure => simp [intOf]; omega
    · have hik : i = n := by omega
      subst hik
      have e := EV.out
      rw [List.take_of_length_le (by rw [HL.out]; omega)] at e
      have E := Lib.hid e
      clear e
      go_wp2_with fail
      go_ret
      exact ⟨ret32 (by rw [not_u32 v hv, E.out]; rfl), rfl⟩

set_option maxHeartbeats 1000000 in
theorem crcSum_any (A : Option Addr) (n c : Nat) (l : List Int) (w : World) (h : Byt w A n c l) (hT : Tab w) :
    Calls Tryd.prog 57 #[.slice A n c] w (Same32 (crcL l : Nat) w) := by
  by_cases hn : 0 < n
  · obtain ⟨g, off, rfl, _⟩ := h.at_ hn
    exact crcSum_rows g off n c l w h hn hT
  · have h0 : n = 0 := by omega
    subst h0
    have e : l = [] := List.eq_nil_of_length_eq_zero h.len
    subst e
    clear h hn hT
    go_enter Tryd.func57, Tryd.ntmps57
    go_wp2_with fail
    refine wp_loop_rounds 1 ?_
    rw [rounds_succ]
    go_wp2_with fail
    go_ret
    exact ⟨ret32 (by rw [crcL_nil]; rfl), rfl⟩

set_option maxHeartbeats 1000000 in
theorem refSum_rows (g off n c : Nat) (l : List Int) (w : World) (h : Byt w (some ⟨g, off, none⟩) n c l) (hn : 0 < n) :
    Calls Tryd.prog 51 #[.slice (some ⟨g, off, none⟩) n c] w (Same32 (crcL l : Nat) w) := by
  have hc0 : ∀ i, i < n → w.cell? ⟨g, off + i, none⟩ = some (.int .u8 (l.getD i 0)) := by
    obtain ⟨g1, o1, e, hc⟩ := h.at_ hn
    injection e with e; injection e with e1 e2; subst e1; subst e2
    exact hc
  have hcap := h.cap
  have hmax := h.max
  unfold maxLen at hmax
  have HL := Lib.hid h.len
  have HR := Lib.hid h.lt_
  have HC := Lib.hid hc0
  clear hc0 h
  go_enter Tryd.func51, Tryd.ntmps51
  go_wp2_with fail
  go_loop [3, 4] (fun s j => ∃ i v : Nat, i ≤ n ∧ v < 4294967296 ∧ s = .int .u32 v ∧ j = .int .i64 i ∧ v = crcFrom ones (l.take i)) (fun _ j => n - (intOf j).toNat)
  case atStart => exact ⟨0, ones, Nat.zero_le _, by decide, rfl, rfl, rfl⟩
  case round =>
    obtain ⟨i, v, hin, hv, rfl, rfl, ev⟩ := hrel
    have EV := Lib.hid ev
    clear ev
    by_cases hlt : i < n
    · have hx := HC.out i hlt
      have hr := HR.out i hlt
      obtain ⟨x, ex⟩ : ∃ x : Nat, x = (l.getD i 0).toNat := ⟨_, rfl⟩
      have exi : l.getD i 0 = (x : Int) := by omega
      rw [exi] at hx hr
      have hx256 : x < 256 := by omega
      have hst := crc_next l i (by rw [HL.out]; exact hlt) x exi
      rw [← EV.out] at hst
      have CS := fun w => refStep_any v x hv hx256 w
      have hs8 : steps 8 (v ^^^ x) < 4294967296 := steps_lt 8 (Nat.xor_lt_two_pow (n := 32) hv (by omega))
      obtain ⟨z, ez⟩ : ∃ z, steps 8 (v ^^^ x) = z := ⟨_, rfl⟩
      rw [ez] at CS hst hs8
      have HST := Lib.hid hst
      have HCS := Lib.hid CS
      obtain ⟨hr0, hr1⟩ := hr
      clear exi ex ez hst CS hr0 hr1
      go_wp2_with fail
      refine (HCS.out _).mono ?_
      rintro e w1 ⟨rfl, rfl⟩
      clear hx
      go_wp2_with fail
      go_round
      case rel => exact ⟨i + 1, z, by omega, hs8, rfl, by go_num, HST.out.symm⟩
      case measure => simp [intOf]; omega
    · have hik : i = n := by omega
      subst hik
      have e := EV.out
      rw [List.take_of_length_le (by rw [HL.out]; omega)] at e
      have E := Lib.hid e
      clear e
      go_wp2_with fail
      go_ret
      exact ⟨ret32 (by rw [not32 v hv, E.out]; rfl), rfl⟩

set_option maxHeartbeats 1000000 in
theorem refSum_any (A : Option Addr) (n c : Nat) (l : List Int) (w : World) (h : Byt w A n c l) :
    Calls Tryd.prog 51 #[.slice A n c] w (Same32 (crcL l : Nat) w) := by
  by_cases hn : 0 < n
  · obtain ⟨g, off, rfl, _⟩ := h.at_ hn
    exact refSum_rows g off n c l w h hn
  · have h0 : n = 0 := by omega
    subst h0
    have e : l = [] := List.eq_nil_of_length_eq_zero h.len
    subst e
    clear h hn
    go_enter Tryd.func51, Tryd.ntmps51
    go_wp2_with fail
    refine wp_loop_rounds 1 ?_
    rw [rounds_succ]
    go_wp2_with fail
    go_ret
    exact ⟨ret32 (by rw [crcL_nil]; rfl), rfl⟩
end Go.Proofs.YtljpnngknmpdoaaDoor
