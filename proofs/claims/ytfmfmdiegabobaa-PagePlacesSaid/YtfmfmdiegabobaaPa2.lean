/- What it says: contracts and plain mathematics that the laws' walks use, 2 of 5: each part's own remark says what; no condition. -/
import Derived.Test.YtfmfmdiegabobaaPa1
import Derived.StillTailTactics
import Derived.Deep.MidRow
import Derived.Laws.Tables
import Derived.Deep.WholeRow
import GoSem.Builtin.Clear
import Derived.Deep.AppendLies
import Derived.Deep.QuietTactic
import Derived.Lib.QuietBelow
import Derived.BigQuiet
import Derived.Laws.Cover1
import Derived.WalkMore
import Derived.LoopTactic
import Derived.Deep.CutBlock
import Derived.Handy
import Derived.Deep.RegionHeld

set_option linter.unusedSimpArgs false
set_option linter.unusedVariables false
set_option linter.deprecated false
set_option linter.unusedSectionVars false
set_option linter.all false
namespace Go.Proofs.Ytfmfmdiegabobaa

/- which blocks a call may turn; things in memory, each with the blocks that are its own; two such things side by side. No program is named; no condition. -/
section
open Go.RowKit
structure Fr (F : Nat → Prop) (w w' : World) : Prop where
  os : w'.os = w.os
  tape : w'.tape = w.tape
  output : w'.output = w.output
  size : w.heap.size ≤ w'.heap.size
  block : ∀ k, k < w.heap.size → ¬ F k → w'.heap[k]? = w.heap[k]?
def grow (F : Nat → Prop) (w w' : World) : Nat → Prop := fun k => F k ∨ (w.heap.size ≤ k ∧ k < w'.heap.size)
def fresh (w w' : World) : Nat → Prop := fun k => w.heap.size ≤ k ∧ k < w'.heap.size
section
variable {F G : Nat → Prop} {w w1 w2 : World}
theorem Fr.refl (F : Nat → Prop) (w : World) : Fr F w w := ⟨rfl, rfl, rfl, Nat.le_refl _, fun _ _ _ => rfl⟩
theorem Fr.trans (h : Fr F w w1) (k : Fr (grow F w w1) w1 w2) : Fr F w w2 :=
  ⟨k.os.trans h.os, k.tape.trans h.tape, k.output.trans h.output, Nat.le_trans h.size k.size, fun i hi hn => (k.block i (Nat.lt_of_lt_of_le hi h.size) (fun g => by
    rcases g with g | g
    · exact hn g
    · omega)).trans (h.block i hi hn)⟩
theorem Fr.mono (h : Fr F w w1) (hFG : ∀ k, F k → G k) : Fr G w w1 := ⟨h.os, h.tape, h.output, h.size, fun k hk hn => h.block k hk (fun f => hn (hFG k f))⟩
theorem Fr.then (h : Fr F w w1) (k : Fr F w1 w2) : Fr F w w2 := h.trans (k.mono fun _ f => .inl f)
theorem Fr.below {B : Nat} (h : Fr F w w1) (hB : B ≤ w.heap.size) (hF : ∀ k, F k → B ≤ k) : Below B w w1 :=
  ⟨h.os, h.tape, h.output, h.size, fun k hk => h.block k (by omega) (fun f => by have := hF k f; omega)⟩
theorem Fr.setCell (h : Fr F w w1) {a : Addr} (ha : F a.block) (u : Value) : Fr F w (w1.setCell a u) :=
  ⟨h.os, h.tape, h.output, by simpa [World.setCell] using h.size, fun k hk hn => (Below.heap_setCell w1 a u k (fun e => hn (e ▸ ha))).trans (h.block k hk hn)⟩
theorem Fr.grown (h : Fr F w w1) {row : Option Nat} (hg : w1.grownBy w2 row) (hr : ∀ k, row = some k → F k ∨ w.heap.size ≤ k) : Fr F w w2 :=
  h.trans ⟨hg.os, hg.tape, hg.output, hg.size, fun k hk hn => hg.block k hk (fun e => by
    rcases hr k e.symm with h | h
    · exact hn (.inl h)
    · exact hn (.inr ⟨h, hk⟩))⟩
theorem Fr.alloc (h : Fr F w w1) (o : Obj) : Fr F w (w1.alloc o) := h.grown (row := none) (World.grownBy_alloc w1 o none) (fun _ e => nomatch e)
theorem Fr.drewN (h : Fr F w w1) (n : Nat) : Fr F w (w1.drewN n) := ⟨h.os, h.tape, h.output, h.size, h.block⟩
end
structure Res where
  is : World → (Nat → Prop) → Prop
  lt : ∀ w F, is w F → ∀ k, F k → k < w.heap.size
  keep : ∀ w w' F, is w F → w.heap.size ≤ w'.heap.size → (∀ k, F k → w'.heap[k]? = w.heap[k]?) → is w' F
def Res.star (R S : Res) : Res where
  is w F := ∃ F1 F2, R.is w F1 ∧ S.is w F2 ∧ (∀ k, F1 k → ¬ F2 k) ∧ (∀ k, F1 k → F k) ∧ (∀ k, F2 k → F k) ∧ ∀ k, F k → k < w.heap.size
  lt _ _ := fun ⟨_, _, _, _, _, _, _, h⟩ => h
  keep w w' F := fun ⟨F1, F2, h1, h2, h3, h4, h5, h6⟩ hs hk => ⟨F1, F2, R.keep w w' F1 h1 hs (fun k f => hk k (h4 k f)), S.keep w w' F2 h2 hs (fun k f => hk k (h5 k f)), h3, h4, h5, fun k f => Nat.lt_of_lt_of_le (h6 k f) hs⟩
def Has (B : Nat) (R : Res) (w : World) : Prop := ∃ F, R.is w F ∧ ∀ k, F k → B ≤ k
section
variable {B : Nat} {R S : Res} {w w' : World}
theorem Has.below (h : Has B R w) (hb : Below w.heap.size w w') : Has B R w' := by
  obtain ⟨F, h1, h2⟩ := h
  exact ⟨F, R.keep w w' F h1 hb.size (fun k f => hb.block k (R.lt w F h1 k f)), h2⟩
theorem Has.ex (h : Has B R w) : ∃ F, R.is w F := ⟨h.choose, h.choose_spec.1⟩
theorem Has.new (h : Has B S w) (hB : B ≤ w.heap.size) (hb : Below w.heap.size w w') (hr : R.is w' (fresh w w')) : Has B (R.star S) w' := by
  obtain ⟨F, h1, h2⟩ := h
  refine ⟨fun k => fresh w w' k ∨ F k, ⟨fresh w w', F, hr, S.keep w w' F h1 hb.size (fun k f => hb.block k (S.lt w F h1 k f)), ?_, fun _ f => .inl f, fun _ f => .inr f, ?_⟩, ?_⟩
  · intro k f g
    have := S.lt w F h1 k g
    have := f.1
    omega
  · intro k f
    rcases f with f | f
    · exact f.2
    · exact Nat.lt_of_lt_of_le (S.lt w F h1 k f) hb.size
  · intro k f
    rcases f with f | f
    · have := f.1
      omega
    · exact h2 k f
theorem Has.first (hB : B ≤ w.heap.size) (hr : R.is w' (fresh w w')) : Has B R w' := ⟨_, hr, fun k f => by have := f.1; omega⟩
end
theorem Bk.eq {w w' : World} {g : Nat} {t : TypeId} {cs : Array Value} (h : Bk w g t cs) (hk : w'.heap[g]? = w.heap[g]?) : Bk w' g t cs := hk.trans h
end

/- steps of a region by an equation of the operation's run: a whole array loaded, a struct built, a slice of one struct, a new variable. No program is named; no condition. -/
section
open Go.RowKit
section
variable {P : Program} {w w' : World} {ops : Array Oper} {rest : List Oper} {o : Oper} {a : Act}
theorem wanted_plain (hgd : o.guard = none) : Region.wanted o (yielded ops a.tmps) = true := by simp [Region.wanted, hgd]
theorem exec_buildSlice {t : TypeId} {n : Nat} {parts : Array (Nat × Operand)} (ho : o.op = .buildSlice t n parts) (ps : List (Nat × Value)) (he : (parts.toList.map fun x => (x.1, a.eval x.2)) = ps) {v : Value} (hb : (Instr.buildSlice t n ps.toArray).run P w = .ok v w') :
    (execOp a.eval o).run P w = .ok (.value v) w' := by
  have he' : (parts.map fun x => (x.1, a.eval x.2)) = ps.toArray := by
    apply Array.toList_inj.1
    rw [Array.toList_map, he]
  unfold execOp
  simp only [ho, Sem.run_bind]
  rw [he', hb]
  rfl
theorem exec_alloc {t : TypeId} (ho : o.op = .alloc t) {z : Value} (hz : ∀ w, (zeroValue t).run P w = .ok z w) :
    (execOp a.eval o).run P w = .ok (.value (.pointer (some ⟨w.heap.size, 0, none⟩))) (w.alloc (.cells z.cells t)) := by
  unfold execOp
  simp only [ho, Sem.run_bind, Instr.alloc, hz, Result.andThen_ok]
  rfl
theorem exec_slice {t : TypeId} {x : Operand} {lo hi mx : Option Operand} (ho : o.op = .slice t x lo hi mx) {v : Value} (hb : (Instr.sliceAt t (a.eval x) (lo.map a.eval) (hi.map a.eval) (mx.map a.eval)).run P w = .ok v w') :
    (execOp a.eval o).run P w = .ok (.value v) w' := by
  unfold execOp
  simp only [ho, Sem.run_bind]
  rw [hb]
  rfl
theorem exec_allocA {t : TypeId} (ho : o.op = .alloc t) {z : Array Value} (hz : ∀ w, (zeroValue t).run P w = .ok (.agg z) w) :
    (execOp a.eval o).run P w = .ok (.value (.pointer (some ⟨w.heap.size, 0, none⟩))) (w.alloc (.cells z t)) := exec_alloc ho hz
end
end

/- bytes in a block of bytes; slices of elements of several cells; rows of one's own of unlike types stay apart; one element more; parts of bytes by three indices. No condition. -/
section
open Go.RowKit
theorem own_form {w : World} {base n : Nat} {e : TypeId} {size : Nat} {v : Value} {xs : List Value} (h : w.ownsRow base e size v n xs) : ∃ A c, v = .slice A n c := by
  rcases h.2 with ⟨h1, h2⟩ | ⟨g, cap, _, h1, _⟩
  · subst h2; exact ⟨none, 0, h1⟩
  · exact ⟨_, _, h1⟩
theorem own_ty {w : World} {base n q : Nat} {e : TypeId} {size : Nat} {v : Value} {xs : List Value} (h : w.ownsRow base e size v n xs) (hq : v.ownBlock = some q) : ∃ cur, w.heap[q]? = some (.cells cur e (0, 0)) := by
  rcases h.2 with ⟨h1, h2⟩ | ⟨g, cap, cur, h1, _, hg, _⟩
  · rw [h1] at hq; simp [Value.ownBlock] at hq
  · rw [h1] at hq
    simp [Value.ownBlock] at hq
    subst hq
    exact ⟨cur, hg⟩
theorem own_stay {w w' : World} {base n : Nat} {e : TypeId} {size : Nat} {v : Value} {xs : List Value} (h : w.ownsRow base e size v n xs) (hk : ∀ k, v.ownBlock = some k → w'.heap[k]? = w.heap[k]?) : w'.ownsRow base e size v n xs := by
  obtain ⟨h1, h2⟩ := h
  refine ⟨h1, ?_⟩
  rcases h2 with h2 | ⟨g, cap, cur, hv, hb, hg, r⟩
  · exact .inl h2
  · exact .inr ⟨g, cap, cur, hv, hb, (hk g (by rw [hv]; rfl)).trans hg, r⟩
theorem bk_apart {w w' : World} {b k n g : Nat} {e t : TypeId} {v : Value} {xs : List Value} {cs : Array Value} (h : w.ownsRow b e k v n xs) (hb : Bk w g t cs) (he : e ≠ t) (hg : w.grownBy w' v.ownBlock) : Bk w' g t cs :=
  (hg.block g hb.lt (fun eq => by
    obtain ⟨c1, h1⟩ := own_ty h eq.symm
    unfold Bk at hb
    rw [h1] at hb
    injection hb with hb
    injection hb with _ hb
    exact he hb)).trans hb
theorem own_set {w : World} {b k n g i : Nat} {e t : TypeId} {v u : Value} {xs : List Value} {cs : Array Value} (h : w.ownsRow b e k v n xs) (hb : Bk w g t cs) (he : e ≠ t) : (w.setCell ⟨g, i, none⟩ u).ownsRow b e k v n xs :=
  own_stay h (fun q hq => Below.heap_setCell w ⟨g, i, none⟩ u q (fun eq => by
    obtain ⟨c1, h1⟩ := own_ty h hq
    have eq' : q = g := eq
    subst eq'
    unfold Bk at hb
    rw [h1] at hb
    injection hb with hb
    injection hb with _ hb
    exact he hb))
def u8At (w : World) (A : Option Addr) : Prop := ∀ a, A = some a → ∃ cs fr, w.heap[a.block]? = some (.cells cs 5 fr)
structure Bty (w : World) (A : Option Addr) (n c : Nat) (l : List Int) : Prop where
  byt : Byt w A n c l
  ty : u8At w A
section
variable {w w' : World} {A : Option Addr} {n c : Nat} {l : List Int}
theorem u8At.lt (h : u8At w A) : ∀ a, A = some a → a.block < w.heap.size := fun a ha => by
  obtain ⟨cs, fr, e⟩ := h a ha
  exact (Array.getElem?_eq_some_iff.1 e).1
theorem u8At.stay (h : u8At w A) (hk : ∀ a, A = some a → w'.heap[a.block]? = w.heap[a.block]?) : u8At w' A := fun a ha => by
  obtain ⟨cs, fr, e⟩ := h a ha
  exact ⟨cs, fr, (hk a ha).trans e⟩
theorem Byt.stay_ (h : Byt w A n c l) (hk : ∀ a, A = some a → w'.heap[a.block]? = w.heap[a.block]?) : Byt w' A n c l :=
  ⟨h.len, h.cap, h.max, h.rng, h.nil_, fun hn => by
    obtain ⟨g, off, e, hc⟩ := h.at_ hn
    exact ⟨g, off, e, fun i hi => (World.cell?_of_block (w := w) (w' := w') (a := ⟨g, off + i, none⟩) (hk ⟨g, off, none⟩ e)).trans (hc i hi)⟩⟩
theorem Bty.stay (h : Bty w A n c l) (hk : ∀ a, A = some a → w'.heap[a.block]? = w.heap[a.block]?) : Bty w' A n c l := ⟨h.byt.stay_ hk, h.ty.stay hk⟩
theorem Bty.below (h : Bty w A n c l) (hb : Below w.heap.size w w') : Bty w' A n c l := h.stay (fun a ha => hb.block _ (h.ty.lt a ha))
theorem Bty.nil (w : World) : Bty w none 0 0 [] := ⟨Byt.nil w, fun _ h => nomatch h⟩
theorem Bty.of_own {base : Nat} (h : w.ownsRow base 5 1 (.slice A n c) n (l.map (Value.int .u8))) (hr : ∀ x ∈ l, 0 ≤ x ∧ x < 256) : Bty w A n c l := by
  refine ⟨Byt.of_own h hr, fun a ha => ?_⟩
  obtain ⟨cur, hc⟩ := own_ty h (q := a.block) (by rw [ha]; rfl)
  exact ⟨cur, _, hc⟩
theorem Bty.ofString (w : World) (s : ByteArray) (hs : s.size ≤ maxLen) : Bty (Lib.bytesWorld w 5 s) (some ⟨w.heap.size, 0, none⟩) s.size (grownCap w s.size 0 5) (nums s) := by
  refine ⟨Byt.ofString w _ s hs, fun a ha => ?_⟩
  injection ha with ha
  subst ha
  exact ⟨_, _, Lib.bytesWorld_at_new w 5 s⟩
theorem Bty.apart {b k m : Nat} {e : TypeId} {v : Value} {xs : List Value} (h : Bty w A n c l) (ho : w.ownsRow b e k v m xs) (he : e ≠ 5) (hg : w.grownBy w' v.ownBlock) : Bty w' A n c l :=
  h.stay (fun a ha => hg.block _ (h.ty.lt a ha) (fun eq => by
    obtain ⟨c1, h1⟩ := own_ty ho eq.symm
    obtain ⟨cs, fr, h2⟩ := h.ty a ha
    rw [h1] at h2
    injection h2 with h2
    injection h2 with _ h2
    exact he h2))
theorem Bty.set {g i : Nat} {t : TypeId} {u : Value} {cs : Array Value} (h : Bty w A n c l) (hb : Bk w g t cs) (ht : t ≠ 5) : Bty (w.setCell ⟨g, i, none⟩ u) A n c l :=
  h.stay (fun a ha => Below.heap_setCell w ⟨g, i, none⟩ u _ (fun eq => by
    obtain ⟨cs', fr, h2⟩ := h.ty a ha
    have eq' : a.block = g := eq
    unfold Bk at hb
    rw [eq', hb] at h2
    injection h2 with h2
    injection h2 with _ h2
    exact ht h2))
end
structure Flt (w : World) (A : Option Addr) (n c k : Nat) (vs : List Value) : Prop where
  len : vs.length = n * k
  cap : n ≤ c
  max : c ≤ maxLen
  nil_ : A = none → n = 0 ∧ c = 0
  at_ : 0 < n → ∃ g off, A = some ⟨g, off, none⟩ ∧ ∀ j v, vs[j]? = some v → w.cell? ⟨g, off + j, none⟩ = some v
section
variable {w w' : World} {A : Option Addr} {n c k : Nat} {vs : List Value}
theorem Flt.nil (w : World) (k : Nat) : Flt w none 0 0 k [] := ⟨by simp, Nat.le_refl _, Nat.zero_le _, fun _ => ⟨rfl, rfl⟩, fun h => absurd h (by omega)⟩
theorem Flt.keep (h : Flt w A n c k vs) (hk : ∀ (p : Addr) u, w.cell? p = some u → w'.cell? p = some u) : Flt w' A n c k vs :=
  ⟨h.len, h.cap, h.max, h.nil_, fun hn => by
    obtain ⟨g, off, e, hc⟩ := h.at_ hn
    exact ⟨g, off, e, fun j v hv => hk _ _ (hc j v hv)⟩⟩
theorem Flt.below (h : Flt w A n c k vs) (hb : Below w.heap.size w w') : Flt w' A n c k vs := h.keep fun p _ hu => (hb.cell (World.block_lt_of_cell? w p hu)).trans hu
theorem Flt.of_own {base : Nat} {e : TypeId} (h : w.ownsRow base e k (.slice A n c) n vs) : Flt w A n c k vs := by
  have hl := h.1
  rcases h.2 with ⟨hv, hn⟩ | ⟨g, cap, cur, hv, hb, hg, hnc, hm, hs, ht⟩
  · injection hv with h1 h2 h3
    subst h1 h2 h3
    exact ⟨hl, Nat.le_refl _, Nat.zero_le _, fun _ => ⟨rfl, rfl⟩, fun h => absurd h (by omega)⟩
  · injection hv with h1 h2 h3
    subst h1 h3
    refine ⟨hl, hnc, hm, (fun h => nomatch h), fun _ => ⟨g, 0, rfl, fun i v hv => ?_⟩⟩
    have := h.cells (g := g) rfl i v hv
    have hadd : (⟨g, 0, none⟩ : Addr).add i = ⟨g, 0 + i, none⟩ := by unfold Addr.add; split <;> simp_all
    rwa [hadd] at this
theorem Flt.take (h : Flt w A n c k vs) (m : Nat) (hm : m ≤ n) : Flt w A m c k (vs.take (m * k)) := by
  refine ⟨by rw [List.length_take, h.len, Nat.min_eq_left (Nat.mul_le_mul_right _ hm)], by have := h.cap; omega, h.max, fun e => ⟨by have := (h.nil_ e).1; omega, (h.nil_ e).2⟩, fun hk0 => ?_⟩
  obtain ⟨g, off, e, hc⟩ := h.at_ (by omega)
  refine ⟨g, off, e, fun i v hi => hc i v ?_⟩
  rw [List.getElem?_take] at hi
  split at hi
  · exact hi
  · cases hi
theorem Flt.news (h : Flt w A n c k vs) (ad : Addr) (hA : A = some ad) : ∀ j u, vs[j]? = some u → w.cell? (ad.add j) = some u := by
  intro j u hu
  have hj : j < n * k := by rw [← h.len]; exact (List.getElem?_eq_some_iff.1 hu).1
  have hn : 0 < n := by
    rcases Nat.eq_zero_or_pos n with q | q
    · subst q; simp at hj
    · exact q
  obtain ⟨g, off, e, hc⟩ := h.at_ hn
  rw [hA] at e
  injection e with e
  subst e
  have hadd : (⟨g, off, none⟩ : Addr).add j = ⟨g, off + j, none⟩ := by unfold Addr.add; split <;> simp_all
  rw [hadd]
  exact hc j u hu
end
theorem flatL_len {α : Type} (f : α → List Value) (k : Nat) (hf : ∀ x, (f x).length = k) : ∀ l : List α, (l.flatMap f).length = l.length * k
  | [] => by simp
  | x :: r => by rw [List.flatMap_cons, List.length_append, hf, flatL_len f k hf r, List.length_cons, Nat.add_mul]; omega
theorem flatL_get {α : Type} (d : α) (f : α → List Value) (k : Nat) (hf : ∀ x, (f x).length = k) : ∀ (l : List α) (i j : Nat), i < l.length → j < k → (l.flatMap f)[i * k + j]? = (f (l.getD i d))[j]?
  | [], _, _, hi, _ => absurd hi (by simp)
  | x :: r, 0, j, _, hj => by
    rw [List.flatMap_cons, List.getElem?_append_left (by rw [hf]; omega)]
    simp
  | x :: r, i + 1, j, hi, hj => by
    rw [List.flatMap_cons, List.getElem?_append_right (by rw [hf, Nat.add_mul]; omega), hf]
    have e : (i + 1) * k + j - k = i * k + j := by rw [Nat.add_mul]; omega
    rw [e, flatL_get d f k hf r i j (by simpa using hi) hj]
    simp
theorem flatL_take {α : Type} (f : α → List Value) (k : Nat) (hf : ∀ x, (f x).length = k) (l : List α) (m : Nat) : (l.flatMap f).take (m * k) = (l.take m).flatMap f := by
  induction l generalizing m with
  | nil => simp
  | cons x r ih =>
    cases m with
    | zero => simp
    | succ m =>
      rw [List.flatMap_cons, List.take_succ_cons, List.flatMap_cons, List.take_append, hf, List.take_of_length_le (by rw [hf, Nat.add_mul]; omega)]
      congr 1
      rw [show (m + 1) * k - k = m * k by rw [Nat.add_mul]; omega, ih]
theorem Flt.at_get {α : Type} {w : World} {A : Option Addr} {n c k : Nat} {l : List α} (d : α) (f : α → List Value) (hf : ∀ x, (f x).length = k) (h : Flt w A n c k (l.flatMap f)) (hl : l.length = n) (hn : 0 < n) :
    ∃ g off, A = some ⟨g, off, none⟩ ∧ ∀ i, i < n → ∀ j v, (f (l.getD i d))[j]? = some v → w.cell? ⟨g, off + i * k + j, none⟩ = some v := by
  obtain ⟨g, off, e, hc⟩ := h.at_ hn
  refine ⟨g, off, e, fun i hi j v hv => ?_⟩
  have hj : j < k := by rw [← hf (l.getD i d)]; exact (List.getElem?_eq_some_iff.1 hv).1
  rw [Nat.add_assoc]
  exact hc _ v (by rw [flatL_get d f k hf l i j (by omega) hj]; exact hv)
end

/- page.isValue, isCell, isPage; trothref07.Key, Value; trothref10.May: each answers whether what it is asked of may be. -/
section
open Go.RowKit
def Cl.cells (c : Cl) : List Value := [.string c.key, .bool c.val.has, .string c.val.data]
theorem Cl.cells_len (c : Cl) : c.cells.length = 3 := rfl
structure Pcs (w : World) (A : Option Addr) (n c : Nat) (l : List Cl) : Prop where
  flt : Flt w A n c 3 (l.flatMap Cl.cells)
  len : l.length = n
theorem Pcs.below {w w' : World} {A : Option Addr} {n c : Nat} {l : List Cl} (h : Pcs w A n c l) (hb : Below w.heap.size w w') : Pcs w' A n c l := ⟨h.flt.below hb, h.len⟩
theorem Pcs.get {w : World} {A : Option Addr} {n c : Nat} {l : List Cl} (h : Pcs w A n c l) (hn : 0 < n) : ∃ g off, A = some ⟨g, off, none⟩ ∧ g < w.heap.size ∧ ∀ i, i < n →
    w.cell? ⟨g, off + i * 3, none⟩ = some (.string (l.getD i default).key) ∧ w.cell? ⟨g, off + i * 3 + 1, none⟩ = some (.bool (l.getD i default).val.has) ∧ w.cell? ⟨g, off + i * 3 + 2, none⟩ = some (.string (l.getD i default).val.data) := by
  obtain ⟨g, off, rfl, hc⟩ := h.flt.at_get (default : Cl) Cl.cells Cl.cells_len h.len hn
  refine ⟨g, off, rfl, ?_, fun i hi => ⟨hc i hi 0 _ rfl, hc i hi 1 _ rfl, hc i hi 2 _ rfl⟩⟩
  exact World.block_lt_of_cell? w _ (hc 0 hn 0 _ rfl)
theorem ret_dec {P : Prop} [Decidable P] {b : Bool} {w w' : World} (h : b = true ↔ P) (hb : Below w.heap.size w w') : Ret (.bool (decide P)) w (.returned (.bool b)) w' :=
  ⟨by
    have : decide P = b := by
      cases b
      · exact decide_eq_false (fun q => by have := h.2 q; cases this)
      · exact decide_eq_true (h.1 rfl)
    rw [this], hb⟩
theorem ret_yes {P : Prop} [Decidable P] {w w' : World} (h : P) (hb : Below w.heap.size w w') : Ret (.bool (decide P)) w (.returned (.bool true)) w' := ret_dec ⟨fun _ => h, fun _ => rfl⟩ hb
theorem ret_no {P : Prop} [Decidable P] {w w' : World} (h : ¬ P) (hb : Below w.heap.size w w') : Ret (.bool (decide P)) w (.returned (.bool false)) w' := ret_dec ⟨(fun q => nomatch q), fun q => absurd q h⟩ hb
theorem str_empty (d : ByteArray) : d.toList.isEmpty = true ↔ d = ByteArray.empty := by
  rw [List.isEmpty_iff]
  constructor
  · intro q
    exact ba_inj (by rw [q]; simp)
  · intro q
    rw [q]
    simp
set_option maxHeartbeats 2000000 in
theorem isValue_any (v : Vl) (w : World) : Calls Try.prog 63 #[.agg #[.bool v.has, .string v.data]] w (Ret (.bool (decide (vlOk v))) w) := by
  obtain ⟨hs, d⟩ := v
  have HB : Hid (Below w.heap.size w (w.alloc (.cells #[.bool hs, .string d] 42))) := Lib.hid ((Below.refl _ _).alloc (Nat.le_refl _) _)
  show Calls _ _ #[.agg #[.bool hs, .string d]] w _
  cases hs with
  | true =>
    have HV : vlOk ⟨true, d⟩ ↔ (d.size : Int) ≤ 32 := Iff.rfl
    by_cases h1 : (d.size : Int) ≤ 32
    · have R := Lib.hid (ret_yes (HV.2 h1) HB.out)
      clear HV HB
      go_enter Try.func63, Try.ntmps63
      go_wp2
      go_ret
      exact R.out
    · have R := Lib.hid (ret_no (fun q => h1 (HV.1 q)) HB.out)
      clear HV HB
      go_enter Try.func63, Try.ntmps63
      go_wp2
      go_ret
      exact R.out
  | false =>
    have HV : vlOk ⟨false, d⟩ ↔ d = ByteArray.empty := by unfold vlOk; simp
    have R := Lib.hid (ret_dec ((str_empty d).trans HV.symm) HB.out)
    clear HV HB
    go_enter Try.func63, Try.ntmps63
    go_wp2
    go_ret
    exact R.out
set_option maxHeartbeats 2000000 in
theorem refValue_any (v : Vl) (w : World) : Calls Try.prog 26 #[.agg #[.bool v.has, .string v.data]] w (Ret (.bool (decide (vlOk v))) w) := by
  obtain ⟨hs, d⟩ := v
  have HB : Hid (Below w.heap.size w (w.alloc (.cells #[.bool hs, .string d] 42))) := Lib.hid ((Below.refl _ _).alloc (Nat.le_refl _) _)
  show Calls _ _ #[.agg #[.bool hs, .string d]] w _
  cases hs with
  | true =>
    have HV : vlOk ⟨true, d⟩ ↔ (d.size : Int) ≤ 32 := Iff.rfl
    by_cases h1 : (d.size : Int) ≤ 32
    · have R := Lib.hid (ret_yes (HV.2 h1) HB.out)
      clear HV HB
      go_enter Try.func26, Try.ntmps26
      go_wp2
      go_ret
      exact R.out
    · have R := Lib.hid (ret_no (fun q => h1 (HV.1 q)) HB.out)
      clear HV HB
      go_enter Try.func26, Try.ntmps26
      go_wp2
      go_ret
      exact R.out
  | false =>
    have HV : vlOk ⟨false, d⟩ ↔ d = ByteArray.empty := by unfold vlOk; simp
    have R := Lib.hid (ret_dec ((str_empty d).trans HV.symm) HB.out)
    clear HV HB
    go_enter Try.func26, Try.ntmps26
    go_wp2
    go_ret
    exact R.out
set_option maxHeartbeats 1000000 in
theorem rKey_any (k : ByteArray) (w : World) : Calls Try.prog 25 #[.string k] w (Ret (.bool (decide (keyOk k))) w) := by
  by_cases h1 : 1 ≤ k.size
  · have h1' : (1 : Int) ≤ (k.size : Int) := by omega
    by_cases h2 : k.size ≤ 16
    · have h2' : (k.size : Int) ≤ 16 := by omega
      have R := Lib.hid (ret_yes (P := keyOk k) ⟨h1, h2⟩ (Below.refl _ w))
      go_enter Try.func25, Try.ntmps25
      go_wp2
      go_ret
      exact R.out
    · have h2' : ¬ (k.size : Int) ≤ 16 := by omega
      have R := Lib.hid (ret_no (P := keyOk k) (fun q => h2 q.2) (Below.refl _ w))
      go_enter Try.func25, Try.ntmps25
      go_wp2
      go_ret
      exact R.out
  · have h1' : ¬ (1 : Int) ≤ (k.size : Int) := by omega
    have R := Lib.hid (ret_no (P := keyOk k) (fun q => h1 q.1) (Below.refl _ w))
    go_enter Try.func25, Try.ntmps25
    go_wp2
    go_ret
    exact R.out
set_option maxHeartbeats 2000000 in
theorem isCell_any (c : Cl) (w : World) : Calls Try.prog 41 #[.agg c.cells.toArray] w (Ret (.bool (decide (clOk c))) w) := by
  obtain ⟨k, ⟨hs, d⟩⟩ := c
  show Calls _ _ #[.agg #[.string k, .bool hs, .string d]] w _
  obtain ⟨W, hW⟩ : ∃ W, W = w.alloc (.cells #[.string k, .bool hs, .string d] 54) := ⟨_, rfl⟩
  have HB : Hid (Below w.heap.size w (w.alloc (.cells #[.string k, .bool hs, .string d] 54))) := Lib.hid ((Below.refl _ _).alloc (Nat.le_refl _) _)
  by_cases h1 : 1 ≤ k.size
  · have h1' : (0 : Int) < (k.size : Int) := by omega
    by_cases h2 : k.size ≤ 16
    · have h2' : (k.size : Int) ≤ 16 := by omega
      have e : decide (clOk ⟨k, ⟨hs, d⟩⟩) = decide (vlOk ⟨hs, d⟩) := by
        by_cases hv : vlOk ⟨hs, d⟩
        · rw [decide_eq_true hv]; exact decide_eq_true ⟨⟨h1, h2⟩, hv⟩
        · rw [decide_eq_false hv]; exact decide_eq_false (fun q => hv q.2)
      rw [e]
      obtain ⟨b, hb⟩ : ∃ b, decide (vlOk ⟨hs, d⟩) = b := ⟨_, rfl⟩
      have C := Lib.hid (fun W => isValue_any ⟨hs, d⟩ W)
      rw [hb] at C ⊢
      clear e hb
      go_enter Try.func41, Try.ntmps41
      go_wp2_with fail
      refine (C.out _).mono ?_
      rintro e w1 ⟨rfl, b1⟩
      have B1 := Lib.hid (Below.then HB.out b1)
      clear b1
      go_wp2_with fail
      go_ret
      exact ⟨rfl, B1.out⟩
    · have h2' : ¬ (k.size : Int) ≤ 16 := by omega
      have R := Lib.hid (ret_no (P := clOk ⟨k, ⟨hs, d⟩⟩) (fun q => h2 q.1.2) HB.out)
      clear HB
      go_enter Try.func41, Try.ntmps41
      go_wp2_with fail
      go_ret
      exact R.out
  · have h1' : ¬ (0 : Int) < (k.size : Int) := by omega
    have R := Lib.hid (ret_no (P := clOk ⟨k, ⟨hs, d⟩⟩) (fun q => h1 q.1.1) HB.out)
    clear HB
    go_enter Try.func41, Try.ntmps41
    go_wp2_with fail
    go_ret
    exact R.out
end

/- page.isPage and trothref10.May answer whether a page may be. -/
section
open Go.RowKit
def upTo (l : List Cl) (k : Nat) : Prop := ∀ i, i < k → clOk (l.getD i default) ∧ (0 < i → kLt (l.getD (i - 1) default).key (l.getD i default).key)
theorem upTo_next {l : List Cl} {k : Nat} (h : upTo l k) (h1 : clOk (l.getD k default)) (h2 : 0 < k → kLt (l.getD (k - 1) default).key (l.getD k default).key) : upTo l (k + 1) := fun i hi => by
  rcases Nat.lt_or_ge i k with q | q
  · exact h i q
  · obtain rfl : i = k := by omega
    exact ⟨h1, h2⟩
theorem rises_no {l : List Cl} {k : Nat} (hk : k < l.length) (h : ¬ (clOk (l.getD k default) ∧ (0 < k → kLt (l.getD (k - 1) default).key (l.getD k default).key))) : ¬ clsOk l := fun q => h (q k hk)
theorem pgOk_iff (lsn : Int) (l : List Cl) : (⟨lsn, l⟩ : Pg).ok ↔ (0 ≤ lsn ∧ lsn ≤ 1099511627776) ∧ l.length ≤ 4 ∧ clsOk l := Iff.rfl
set_option maxRecDepth 100000 in
set_option maxHeartbeats 4000000 in
theorem isPage_any (lsn : Int) (A : Option Addr) (n c : Nat) (l : List Cl) (w : World) (h : Pcs w A n c l) : Calls Try.prog 27 #[.agg #[.int .i64 lsn, .slice A n c]] w (Ret (.bool (decide ((⟨lsn, l⟩ : Pg).ok))) w) := by
  have hcap := h.flt.cap
  have hmax := h.flt.max
  unfold maxLen at hmax
  have hlen := h.len
  obtain ⟨W0, hW0⟩ : ∃ W, W = w.alloc (.cells #[.int .i64 lsn, .slice A n c] 24) := ⟨_, rfl⟩
  have HB : Hid (Below w.heap.size w W0) := Lib.hid (by rw [hW0]; exact (Below.refl _ _).alloc (Nat.le_refl _) _)
  have BK : Hid (Bk W0 w.heap.size 24 #[.int .i64 lsn, .slice A n c]) := Lib.hid (by rw [hW0]; exact Bk.new w _ _)
  have OKI := Lib.hid (pgOk_iff lsn l)
  by_cases h0 : 0 ≤ lsn
  rotate_left
  · have R := Lib.hid (ret_no (P := (⟨lsn, l⟩ : Pg).ok) (fun q => h0 q.1.1) HB.out)
    have hW := Lib.hid hW0
    clear HB BK OKI hW0 h
    go_enter Try.func27, Try.ntmps27
    go_wp2_with fail
    go_ret
    rw [hW.out] at R
    exact R.out
  by_cases h1 : lsn ≤ 1099511627776
  rotate_left
  · have R := Lib.hid (ret_no (P := (⟨lsn, l⟩ : Pg).ok) (fun q => h1 q.1.2) HB.out)
    have hW := Lib.hid hW0
    clear HB BK OKI hW0 h
    go_enter Try.func27, Try.ntmps27
    go_wp2_with fail
    go_ret
    rw [hW.out] at R
    exact R.out
  by_cases h2 : n ≤ 4
  rotate_left
  · have R := Lib.hid (ret_no (P := (⟨lsn, l⟩ : Pg).ok) (fun q => h2 (by rw [← hlen]; exact q.2.1)) HB.out)
    have hW := Lib.hid hW0
    have h2' : ¬ (n : Int) ≤ 4 := by omega
    clear HB BK OKI hW0 h
    go_enter Try.func27, Try.ntmps27
    go_wp2_with fail
    go_ret
    rw [hW.out] at R
    exact R.out
  have h2' : (n : Int) ≤ 4 := by omega
  have YES : Hid (clsOk l → ∀ w', Below W0.heap.size W0 w' → Ret (.bool (decide ((⟨lsn, l⟩ : Pg).ok))) w (.returned (.bool true)) w') := Lib.hid (fun q w' hb => ret_yes (OKI.out.2 ⟨⟨h0, h1⟩, by omega, q⟩) (Below.then HB.out hb))
  have NO : Hid (¬ clsOk l → ∀ w', Below W0.heap.size W0 w' → Ret (.bool (decide ((⟨lsn, l⟩ : Pg).ok))) w (.returned (.bool false)) w') := Lib.hid (fun q w' hb => ret_no (fun z => q (OKI.out.1 z).2.2) (Below.then HB.out hb))
  have hW := Lib.hid hW0
  have HP := Lib.hid (h.below HB.out)
  have hc1 : W0.cell? ⟨w.heap.size, 1, none⟩ = some (.slice A n c) := BK.out.cell 1
  clear OKI hW0 h
  go_enter Try.func27, Try.ntmps27
  go_upto_region 3 with fail
  rw [← hW.out]
  go_wp2_with fail
  go_loopw [22] (fun y wr => ∃ k : Nat, k ≤ n ∧ y = .int .i64 k ∧ Below W0.heap.size W0 wr ∧ upTo l k) (fun y _ => n - (intOf y).toNat)
  case atStart => exact ⟨0, Nat.zero_le _, rfl, Below.refl _ _, fun i hi => absurd hi (by omega)⟩
  case round =>
    obtain ⟨k, hk, rfl, hb, hu⟩ := hrel
    by_cases hlt : k < n
    · obtain ⟨g, off, rfl, _, hc⟩ := (HP.out.below hb).get (by omega)
      obtain ⟨a0, a1, a2⟩ := hc k hlt
      have HPR := Lib.hid hc
      obtain ⟨x, hx⟩ : ∃ x, l.getD k default = x := ⟨_, rfl⟩
      rw [hx] at a0 a1 a2
      obtain ⟨key, ⟨hs, d⟩⟩ := x
      simp only at a0 a1 a2
      have HX := Lib.hid hx
      have HU := Lib.hid hu
      have HBB := Lib.hid hb
      have hcp : wr.cell? ⟨w.heap.size, 1, none⟩ = some (.slice (some ⟨g, off, none⟩) n c) := (BK.out.bel hb BK.out.lt).cell 1
      clear hc hb hu hx
      go_wp2_with fail
      obtain ⟨W1, hW1⟩ : ∃ W, W = wr.alloc (.cells #[.string key, .bool hs, .string d] 54) := ⟨_, rfl⟩
      have bW1 : Below wr.heap.size wr W1 := by rw [hW1]; exact (Below.refl _ _).alloc (Nat.le_refl _) _
      have bk1 : Bk W1 wr.heap.size 54 #[.string key, .bool hs, .string d] := by rw [hW1]; exact Bk.new wr _ _
      rw [← hW1]
      have f0 : ∀ d' os, (Go.Sort.grow (redrawn W1 d') os).cell? ⟨wr.heap.size, 0, none⟩ = some (.string key) := cell_regrown (bk1.cell 0)
      have f1 : ∀ d' os, (Go.Sort.grow (redrawn W1 d') os).cell? ⟨wr.heap.size, 1, none⟩ = some (.bool hs) := cell_regrown (bk1.cell 1)
      have f2 : ∀ d' os, (Go.Sort.grow (redrawn W1 d') os).cell? ⟨wr.heap.size, 2, none⟩ = some (.string d) := cell_regrown (bk1.cell 2)
      have fp : ∀ d' os, (Go.Sort.grow (redrawn W1 d') os).cell? ⟨w.heap.size, 1, none⟩ = some (.slice (some ⟨g, off, none⟩) n c) := cell_regrown ((bW1.cell (World.block_lt_of_cell? wr _ hcp)).trans hcp)
      have BW := Lib.hid (Below.then HBB.out bW1)
      have BW1 := Lib.hid bW1
      have C := Lib.hid (fun W => isCell_any ⟨key, ⟨hs, d⟩⟩ W)
      clear hW1 bW1 bk1 a0 a1 a2 hcp
      by_cases hok : clOk ⟨key, ⟨hs, d⟩⟩
      · rw [decide_eq_true hok] at C
        rcases Nat.eq_zero_or_pos k with hk0 | hk0
        · subst hk0
          have HN : Hid (upTo l (0 + 1)) := Lib.hid (upTo_next HU.out (by rw [HX.out]; exact hok) (fun q => absurd q (by omega)))
          clear hok
          refine wp_region_quiet_below (by kernel_rfl) (by kernel_rfl) ?_
          repeat (any_goals (first | go_big_quiet_step ((go_at_call 41; exact Calls.regrown_of (C.out _))) | quiet_step ((go_at_call 41; exact Calls.regrown_of (C.out _)))))
          refine wpQuiet_nil ?_
          intro _ hw'
          obtain ⟨⟨dq, osq⟩, hw''⟩ := hw'
          subst hw''
          have L11 := Lib.hid (Below.then BW.out (below_regrown W1 dq osq))
          clear BW f0 f1 f2 fp C
          go_wp2_with fail
          go_roundw
          case rel => exact ⟨0 + 1, by omega, by go_num, L11.out, HN.out⟩
          case measure => simp [intOf]; omega
        · obtain ⟨m, rfl⟩ : ∃ m, k = m + 1 := ⟨k - 1, by omega⟩
          obtain ⟨b0, _, _⟩ := HPR.out m (by omega)
          obtain ⟨pk, hpk⟩ : ∃ x, (l.getD m default).key = x := ⟨_, rfl⟩
          rw [hpk] at b0
          have fq : ∀ d' os, (Go.Sort.grow (redrawn W1 d') os).cell? ⟨g, off + m * 3, none⟩ = some (.string pk) := cell_regrown ((BW1.out.cell (World.block_lt_of_cell? wr _ b0)).trans b0)
          clear b0
          by_cases hlt2 : kLt pk key
          · have hA : Op.bytesLess key.toList pk.toList = false := by
              have := kLt_asym hlt2
              unfold kLt at this
              simpa using this
            have hB : (key.toList == pk.toList) = false := by
              rw [beq_eq_false_iff_ne]
              exact fun q => kLt_ne hlt2 (ba_inj q).symm
            have HN : Hid (upTo l (m + 1 + 1)) := Lib.hid (upTo_next HU.out (by rw [HX.out]; exact hok) (fun _ => by rw [Nat.add_sub_cancel, hpk, HX.out]; exact hlt2))
            clear hok hlt2 hpk
            refine wp_region_quiet_below (by kernel_rfl) (by kernel_rfl) ?_
            repeat (any_goals (first | go_big_quiet_step ((go_at_call 41; exact Calls.regrown_of (C.out _))) | quiet_step ((go_at_call 41; exact Calls.regrown_of (C.out _)))))
            refine wpQuiet_nil ?_
            intro _ hw'
            obtain ⟨⟨dq, osq⟩, hw''⟩ := hw'
            subst hw''
            have L11 := Lib.hid (Below.then BW.out (below_regrown W1 dq osq))
            clear BW f0 f1 f2 fp C fq
            go_wp2_with fail
            go_roundw
            case rel => exact ⟨m + 1 + 1, by omega, by go_num, L11.out, HN.out⟩
            case measure => simp [intOf]; omega
          · have HNO : Hid (¬ clsOk l) := Lib.hid (rises_no (k := m + 1) (by omega) (fun q => hlt2 (by have := q.2 (by omega); rw [Nat.add_sub_cancel, hpk, HX.out] at this; exact this)))
            by_cases heq : key = pk
            · subst heq
              have hB : (key.toList == key.toList) = true := by simp
              clear hok hlt2 hpk
              refine wp_region_quiet_below (by kernel_rfl) (by kernel_rfl) ?_
              repeat (any_goals (first | go_big_quiet_step ((go_at_call 41; exact Calls.regrown_of (C.out _))) | quiet_step ((go_at_call 41; exact Calls.regrown_of (C.out _)))))
              refine wpQuiet_nil ?_
              intro _ hw'
              obtain ⟨⟨dq, osq⟩, hw''⟩ := hw'
              subst hw''
              have L11 := Lib.hid (Below.then BW.out (below_regrown W1 dq osq))
              have R := Lib.hid (NO.out HNO.out _ L11.out)
              clear BW f0 f1 f2 fp C L11
              go_wp2_with fail
              go_ret
              exact R.out
            · have hA : Op.bytesLess key.toList pk.toList = true := kLt_tri hlt2 (fun q => heq q.symm)
              clear hok hlt2 hpk heq
              refine wp_region_quiet_below (by kernel_rfl) (by kernel_rfl) ?_
              repeat (any_goals (first | go_big_quiet_step ((go_at_call 41; exact Calls.regrown_of (C.out _))) | quiet_step ((go_at_call 41; exact Calls.regrown_of (C.out _)))))
              refine wpQuiet_nil ?_
              intro _ hw'
              obtain ⟨⟨dq, osq⟩, hw''⟩ := hw'
              subst hw''
              have L11 := Lib.hid (Below.then BW.out (below_regrown W1 dq osq))
              have R := Lib.hid (NO.out HNO.out _ L11.out)
              clear BW f0 f1 f2 fp C L11
              go_wp2_with fail
              go_ret
              exact R.out
      · rw [decide_eq_false hok] at C
        have HNO : Hid (¬ clsOk l) := Lib.hid (rises_no (k := k) (by omega) (fun q => hok (by have := q.1; rw [HX.out] at this; exact this)))
        clear hok
        refine wp_region_quiet_below (by kernel_rfl) (by kernel_rfl) ?_
        repeat (any_goals (first | go_big_quiet_step ((go_at_call 41; exact Calls.regrown_of (C.out _))) | quiet_step ((go_at_call 41; exact Calls.regrown_of (C.out _)))))
        refine wpQuiet_nil ?_
        intro _ hw'
        obtain ⟨⟨dq, osq⟩, hw''⟩ := hw'
        subst hw''
        have L11 := Lib.hid (Below.then BW.out (below_regrown W1 dq osq))
        have R := Lib.hid (NO.out HNO.out _ L11.out)
        clear BW f0 f1 f2 fp C L11
        go_wp2_with fail
        go_ret
        exact R.out
    · obtain rfl : k = n := by omega
      have R := Lib.hid (YES.out (fun i hi => hu i (by omega)) _ hb)
      clear hb hu hlt
      go_wp2_with fail
      go_ret
      exact R.out
end

/- trothref10.May answers whether a page may be. -/
section
open Go.RowKit
set_option maxRecDepth 100000 in
set_option maxHeartbeats 4000000 in
theorem may10_any (lsn : Int) (A : Option Addr) (n c : Nat) (l : List Cl) (w : World) (h : Pcs w A n c l) : Calls Try.prog 31 #[.agg #[.int .i64 lsn, .slice A n c]] w (Ret (.bool (decide ((⟨lsn, l⟩ : Pg).ok))) w) := by
  have hcap := h.flt.cap
  have hmax := h.flt.max
  unfold maxLen at hmax
  have hlen := h.len
  obtain ⟨W0, hW0⟩ : ∃ W, W = w.alloc (.cells #[.int .i64 lsn, .slice A n c] 24) := ⟨_, rfl⟩
  have HB : Hid (Below w.heap.size w W0) := Lib.hid (by rw [hW0]; exact (Below.refl _ _).alloc (Nat.le_refl _) _)
  have BK : Hid (Bk W0 w.heap.size 24 #[.int .i64 lsn, .slice A n c]) := Lib.hid (by rw [hW0]; exact Bk.new w _ _)
  have OKI := Lib.hid (pgOk_iff lsn l)
  by_cases h0 : 0 ≤ lsn
  rotate_left
  · have R := Lib.hid (ret_no (P := (⟨lsn, l⟩ : Pg).ok) (fun q => h0 q.1.1) HB.out)
    have hW := Lib.hid hW0
    clear HB BK OKI hW0 h
    go_enter Try.func31, Try.ntmps31
    go_wp2_with fail
    go_ret
    rw [hW.out] at R
    exact R.out
  by_cases h1 : lsn ≤ 1099511627776
  rotate_left
  · have R := Lib.hid (ret_no (P := (⟨lsn, l⟩ : Pg).ok) (fun q => h1 q.1.2) HB.out)
    have hW := Lib.hid hW0
    clear HB BK OKI hW0 h
    go_enter Try.func31, Try.ntmps31
    go_wp2_with fail
    go_ret
    rw [hW.out] at R
    exact R.out
  by_cases h2 : n ≤ 4
  rotate_left
  · have R := Lib.hid (ret_no (P := (⟨lsn, l⟩ : Pg).ok) (fun q => h2 (by rw [← hlen]; exact q.2.1)) HB.out)
    have hW := Lib.hid hW0
    have h2' : ¬ (n : Int) ≤ 4 := by omega
    clear HB BK OKI hW0 h
    go_enter Try.func31, Try.ntmps31
    go_wp2_with fail
    go_ret
    rw [hW.out] at R
    exact R.out
  have h2' : (n : Int) ≤ 4 := by omega
  have YES : Hid (clsOk l → ∀ w', Below W0.heap.size W0 w' → Ret (.bool (decide ((⟨lsn, l⟩ : Pg).ok))) w (.returned (.bool true)) w') := Lib.hid (fun q w' hb => ret_yes (OKI.out.2 ⟨⟨h0, h1⟩, by omega, q⟩) (Below.then HB.out hb))
  have NO : Hid (¬ clsOk l → ∀ w', Below W0.heap.size W0 w' → Ret (.bool (decide ((⟨lsn, l⟩ : Pg).ok))) w (.returned (.bool false)) w') := Lib.hid (fun q w' hb => ret_no (fun z => q (OKI.out.1 z).2.2) (Below.then HB.out hb))
  have hW := Lib.hid hW0
  have HP := Lib.hid (h.below HB.out)
  have hc1 : W0.cell? ⟨w.heap.size, 1, none⟩ = some (.slice A n c) := BK.out.cell 1
  clear OKI hW0 h
  go_enter Try.func31, Try.ntmps31
  go_upto_region 3 with fail
  rw [← hW.out]
  go_wp2_with fail
  go_loopw [3] (fun y wr => ∃ k : Nat, k ≤ n ∧ y = .int .i64 k ∧ Below W0.heap.size W0 wr ∧ upTo l k) (fun y _ => n - (intOf y).toNat)
  case atStart => exact ⟨0, Nat.zero_le _, rfl, Below.refl _ _, fun i hi => absurd hi (by omega)⟩
  case round =>
    obtain ⟨k, hk, rfl, hb, hu⟩ := hrel
    have hcp : wr.cell? ⟨w.heap.size, 1, none⟩ = some (.slice A n c) := (BK.out.bel hb BK.out.lt).cell 1
    by_cases hlt : k < n
    · obtain ⟨g, off, rfl, _, hc⟩ := (HP.out.below hb).get (by omega)
      obtain ⟨a0, a1, a2⟩ := hc k hlt
      have HPR := Lib.hid hc
      obtain ⟨x, hx⟩ : ∃ x, l.getD k default = x := ⟨_, rfl⟩
      rw [hx] at a0 a1 a2
      obtain ⟨key, ⟨hs, d⟩⟩ := x
      simp only at a0 a1 a2
      have HX := Lib.hid hx
      have HU := Lib.hid hu
      have HBB := Lib.hid hb
      clear hc hb hu hx
      go_wp2_with fail
      obtain ⟨W1, hW1⟩ : ∃ W, W = wr.alloc (.cells #[.string key, .bool hs, .string d] 54) := ⟨_, rfl⟩
      have bW1 : Below wr.heap.size wr W1 := by rw [hW1]; exact (Below.refl _ _).alloc (Nat.le_refl _) _
      have bk1 : Bk W1 wr.heap.size 54 #[.string key, .bool hs, .string d] := by rw [hW1]; exact Bk.new wr _ _
      rw [← hW1]
      have f0 : ∀ d' os, (Go.Sort.grow (redrawn W1 d') os).cell? ⟨wr.heap.size, 0, none⟩ = some (.string key) := cell_regrown (bk1.cell 0)
      have f1 : ∀ d' os, (Go.Sort.grow (redrawn W1 d') os).cell? ⟨wr.heap.size, 1, none⟩ = some (.bool hs) := cell_regrown (bk1.cell 1)
      have f2 : ∀ d' os, (Go.Sort.grow (redrawn W1 d') os).cell? ⟨wr.heap.size, 2, none⟩ = some (.string d) := cell_regrown (bk1.cell 2)
      have fp : ∀ d' os, (Go.Sort.grow (redrawn W1 d') os).cell? ⟨w.heap.size, 1, none⟩ = some (.slice (some ⟨g, off, none⟩) n c) := cell_regrown ((bW1.cell (World.block_lt_of_cell? wr _ hcp)).trans hcp)
      have BW := Lib.hid (Below.then HBB.out bW1)
      have BW1 := Lib.hid bW1
      have CK := Lib.hid (fun W => rKey_any key W)
      have CV := Lib.hid (fun W => refValue_any ⟨hs, d⟩ W)
      clear hW1 bW1 bk1 a0 a1 a2 hcp
      by_cases hok : clOk ⟨key, ⟨hs, d⟩⟩
      · rw [decide_eq_true hok.1] at CK
        rw [decide_eq_true hok.2] at CV
        rcases Nat.eq_zero_or_pos k with hk0 | hk0
        · subst hk0
          have HN : Hid (upTo l (0 + 1)) := Lib.hid (upTo_next HU.out (by rw [HX.out]; exact hok) (fun q => absurd q (by omega)))
          clear hok
          refine wp_region_quiet_below (by kernel_rfl) (by kernel_rfl) ?_
          repeat (any_goals (first | go_big_quiet_step ((first | (go_at_call 25; exact Calls.regrown_of (CK.out _)) | (go_at_call 26; exact Calls.regrown_of (CV.out _)))) | quiet_step ((first | (go_at_call 25; exact Calls.regrown_of (CK.out _)) | (go_at_call 26; exact Calls.regrown_of (CV.out _))))))
          refine wpQuiet_nil ?_
          intro _ hw'
          obtain ⟨⟨dq, osq⟩, hw''⟩ := hw'
          subst hw''
          have L11 := Lib.hid (Below.then BW.out (below_regrown W1 dq osq))
          clear BW f0 f1 f2 fp CK CV
          go_wp2_with fail
          go_roundw
          case rel => exact ⟨0 + 1, by omega, by go_num, L11.out, HN.out⟩
          case measure => simp [intOf]; omega
        · obtain ⟨m, rfl⟩ : ∃ m, k = m + 1 := ⟨k - 1, by omega⟩
          obtain ⟨b0, _, _⟩ := HPR.out m (by omega)
          obtain ⟨pk, hpk⟩ : ∃ x, (l.getD m default).key = x := ⟨_, rfl⟩
          rw [hpk] at b0
          have fq : ∀ d' os, (Go.Sort.grow (redrawn W1 d') os).cell? ⟨g, off + m * 3, none⟩ = some (.string pk) := cell_regrown ((BW1.out.cell (World.block_lt_of_cell? wr _ b0)).trans b0)
          clear b0
          by_cases hlt2 : kLt pk key
          · have hA : Op.bytesLess pk.toList key.toList = true := hlt2
            have HN : Hid (upTo l (m + 1 + 1)) := Lib.hid (upTo_next HU.out (by rw [HX.out]; exact hok) (fun _ => by rw [Nat.add_sub_cancel, hpk, HX.out]; exact hlt2))
            clear hok hlt2 hpk
            refine wp_region_quiet_below (by kernel_rfl) (by kernel_rfl) ?_
            repeat (any_goals (first | go_big_quiet_step ((first | (go_at_call 25; exact Calls.regrown_of (CK.out _)) | (go_at_call 26; exact Calls.regrown_of (CV.out _)))) | quiet_step ((first | (go_at_call 25; exact Calls.regrown_of (CK.out _)) | (go_at_call 26; exact Calls.regrown_of (CV.out _))))))
            refine wpQuiet_nil ?_
            intro _ hw'
            obtain ⟨⟨dq, osq⟩, hw''⟩ := hw'
            subst hw''
            have L11 := Lib.hid (Below.then BW.out (below_regrown W1 dq osq))
            clear BW f0 f1 f2 fp CK CV fq
            go_wp2_with fail
            go_roundw
            case rel => exact ⟨m + 1 + 1, by omega, by go_num, L11.out, HN.out⟩
            case measure => simp [intOf]; omega
          · have HNO : Hid (¬ clsOk l) := Lib.hid (rises_no (k := m + 1) (by omega) (fun q => hlt2 (by have := q.2 (by omega); rw [Nat.add_sub_cancel, hpk, HX.out] at this; exact this)))
            have hA : Op.bytesLess pk.toList key.toList = false := by
              unfold kLt at hlt2
              simpa using hlt2
            clear hok hlt2 hpk
            refine wp_region_quiet_below (by kernel_rfl) (by kernel_rfl) ?_
            repeat (any_goals (first | go_big_quiet_step ((first | (go_at_call 25; exact Calls.regrown_of (CK.out _)) | (go_at_call 26; exact Calls.regrown_of (CV.out _)))) | quiet_step ((first | (go_at_call 25; exact Calls.regrown_of (CK.out _)) | (go_at_call 26; exact Calls.regrown_of (CV.out _))))))
            refine wpQuiet_nil ?_
            intro _ hw'
            obtain ⟨⟨dq, osq⟩, hw''⟩ := hw'
            subst hw''
            have L11 := Lib.hid (Below.then BW.out (below_regrown W1 dq osq))
            have R := Lib.hid (NO.out HNO.out _ L11.out)
            clear BW f0 f1 f2 fp CK CV L11
            go_wp2_with fail
            go_ret
            exact R.out
      · have HNO : Hid (¬ clsOk l) := Lib.hid (rises_no (k := k) (by omega) (fun q => hok (by have := q.1; rw [HX.out] at this; exact this)))
        by_cases hk1 : keyOk key
        · have hv : ¬ vlOk ⟨hs, d⟩ := fun q => hok ⟨hk1, q⟩
          rw [decide_eq_true hk1] at CK
          rw [decide_eq_false hv] at CV
          clear hok hk1 hv
          refine wp_region_quiet_below (by kernel_rfl) (by kernel_rfl) ?_
          repeat (any_goals (first | go_big_quiet_step ((first | (go_at_call 25; exact Calls.regrown_of (CK.out _)) | (go_at_call 26; exact Calls.regrown_of (CV.out _)))) | quiet_step ((first | (go_at_call 25; exact Calls.regrown_of (CK.out _)) | (go_at_call 26; exact Calls.regrown_of (CV.out _))))))
          refine wpQuiet_nil ?_
          intro _ hw'
          obtain ⟨⟨dq, osq⟩, hw''⟩ := hw'
          subst hw''
          have L11 := Lib.hid (Below.then BW.out (below_regrown W1 dq osq))
          have R := Lib.hid (NO.out HNO.out _ L11.out)
          clear BW f0 f1 f2 fp CK CV L11
          go_wp2_with fail
          go_ret
          exact R.out
        · rw [decide_eq_false hk1] at CK
          clear hok hk1
          refine wp_region_quiet_below (by kernel_rfl) (by kernel_rfl) ?_
          repeat (any_goals (first | go_big_quiet_step ((first | (go_at_call 25; exact Calls.regrown_of (CK.out _)) | (go_at_call 26; exact Calls.regrown_of (CV.out _)))) | quiet_step ((first | (go_at_call 25; exact Calls.regrown_of (CK.out _)) | (go_at_call 26; exact Calls.regrown_of (CV.out _))))))
          refine wpQuiet_nil ?_
          intro _ hw'
          obtain ⟨⟨dq, osq⟩, hw''⟩ := hw'
          subst hw''
          have L11 := Lib.hid (Below.then BW.out (below_regrown W1 dq osq))
          have R := Lib.hid (NO.out HNO.out _ L11.out)
          clear BW f0 f1 f2 fp CK CV L11
          go_wp2_with fail
          go_ret
          exact R.out
    · obtain rfl : k = n := by omega
      have R := Lib.hid (YES.out (fun i hi => hu i (by omega)) _ hb)
      clear hb hu hlt
      go_wp2_with fail
      go_ret
      exact R.out
end

/- page.indexOf, Get, Room and trothref10.Get, has, Room: the first cell of a key. -/
section
open Go.RowKit
def noneTo (l : List Cl) (k : ByteArray) (j : Nat) : Prop := ∀ i, i < j → (l.getD i default).key ≠ k
theorem noneTo_next {l : List Cl} {k : ByteArray} {j : Nat} (h : noneTo l k j) (h1 : (l.getD j default).key ≠ k) : noneTo l k (j + 1) := fun i hi => by
  rcases Nat.lt_or_ge i j with q | q
  · exact h i q
  · obtain rfl : i = j := by omega
    exact h1
theorem first_at {k : ByteArray} : ∀ {l : List Cl} {j : Nat}, j < l.length → noneTo l k j → (l.getD j default).key = k → getC l k = some (l.getD j default) ∧ hasC l k = true
  | [], _, h, _, _ => absurd h (by simp)
  | c :: r, 0, _, _, e => by
    have e' : c.key = k := by simpa using e
    unfold getC hasC
    simp [e']
  | c :: r, j + 1, h, hn, e => by
    have h0 : c.key ≠ k := by simpa using hn 0 (by omega)
    obtain ⟨h1, h2⟩ := first_at (l := r) (j := j) (by simpa using h) (fun i hi => by simpa using hn (i + 1) (by omega)) (by simpa using e)
    unfold getC hasC at *
    constructor
    · rw [List.find?_cons_of_neg (by simpa using h0), h1]
      simp
    · rw [List.any_cons, h2]
      simp
theorem first_none {k : ByteArray} {l : List Cl} (h : noneTo l k l.length) : getC l k = none ∧ hasC l k = false := by
  have h' : ∀ x ∈ l, x.key ≠ k := fun x hx => by
    obtain ⟨i, hi, rfl⟩ := List.getElem_of_mem hx
    have := h i hi
    rwa [List.getD_eq_getElem?_getD, List.getElem?_eq_getElem hi] at this
  refine ⟨find_none h', ?_⟩
  cases q : hasC l k with
  | false => rfl
  | true =>
    obtain ⟨x, hx, e⟩ := (has_iff l k).1 q
    exact absurd e (h' x hx)
def Idx (l : List Cl) (k : ByteArray) (j : Int) : Prop := (∃ m : Nat, j = m ∧ m < l.length ∧ getC l k = some (l.getD m default) ∧ hasC l k = true) ∨ (j = -1 ∧ getC l k = none ∧ hasC l k = false)
def RetIdx (l : List Cl) (k : ByteArray) (w : World) (e : Ending) (w' : World) : Prop := ∃ j : Int, e = .returned (.int .i64 j) ∧ Idx l k j ∧ Below w.heap.size w w'
theorem beq_key {a b : ByteArray} : (a.toList == b.toList) = decide (a = b) := by
  by_cases h : a = b
  · subst h; simp
  · rw [decide_eq_false h, beq_eq_false_iff_ne]
    exact fun q => h (ba_inj q)
set_option maxHeartbeats 1000000 in
theorem isKey_any (x : Cl) (q : Addr) (k : ByteArray) (w : World) (hq : w.cell? q = some (.string k)) :
    Calls Try.prog 67 #[.agg x.cells.toArray, .pointer (some q)] w (Ret (.bool (decide (x.key = k))) w) := by
  obtain ⟨key, ⟨hs, d⟩⟩ := x
  show Calls _ _ #[.agg #[.string key, .bool hs, .string d], .pointer (some q)] w _
  have HB : Hid (Below w.heap.size w (w.alloc (.cells #[.string key, .bool hs, .string d] 54))) := Lib.hid ((Below.refl _ _).alloc (Nat.le_refl _) _)
  have hq' : (w.alloc (.cells #[.string key, .bool hs, .string d] 54)).cell? q = some (.string k) := (HB.out.cell (World.block_lt_of_cell? w _ hq)).trans hq
  go_enter Try.func67, Try.ntmps67
  go_wp2_with fail
  go_ret
  exact ⟨by rw [← beq_key]; rfl, HB.out⟩
set_option maxRecDepth 100000 in
set_option maxHeartbeats 4000000 in
theorem indexFunc_any (A : Option Addr) (n c : Nat) (l : List Cl) (q : Addr) (k : ByteArray) (w : World) (h : Pcs w A n c l) (hq : w.cell? q = some (.string k)) :
    Calls Try.prog 66 #[.slice A n c, .func (.func 67) #[] #[.pointer (some q)]] w (RetIdx l k w) := by
  have hcap := h.flt.cap
  have hmax := h.flt.max
  unfold maxLen at hmax
  have HP := Lib.hid h
  have hlen := Lib.hid h.len
  have HQ : Hid (∀ W, Below w.heap.size w W → W.cell? q = some (.string k)) := Lib.hid (fun W hb => (hb.cell (World.block_lt_of_cell? w _ hq)).trans hq)
  clear h hq
  go_enter Try.func66, Try.ntmps66
  go_wp2_with fail
  go_loopw [8] (fun y wr => ∃ j : Nat, j ≤ n ∧ y = .int .i64 j ∧ Below w.heap.size w wr ∧ noneTo l k j) (fun y _ => n - (intOf y).toNat)
  case atStart => exact ⟨0, Nat.zero_le _, rfl, Below.refl _ _, fun i hi => absurd hi (by omega)⟩
  case round =>
    obtain ⟨j, hj, rfl, hb, hu⟩ := hrel
    have HB := Lib.hid hb
    have HU := Lib.hid hu
    by_cases hlt : j < n
    · obtain ⟨g, off, rfl, _, hc⟩ := (HP.out.below hb).get (by omega)
      obtain ⟨a0, a1, a2⟩ := hc j hlt
      obtain ⟨x, hx⟩ : ∃ x, l.getD j default = x := ⟨_, rfl⟩
      rw [hx] at a0 a1 a2
      obtain ⟨key, ⟨hs, d⟩⟩ := x
      simp only at a0 a1 a2
      have HX := Lib.hid hx
      clear hc hb hu hx
      obtain ⟨b, hbk⟩ : ∃ b, decide (key = k) = b := ⟨_, rfl⟩
      have C : Hid (∀ W, W.cell? q = some (.string k) → Calls Try.prog 67 #[.agg #[.string key, .bool hs, .string d], .pointer (some q)] W (Ret (.bool b) W)) := Lib.hid (fun W hW => by rw [← hbk]; exact isKey_any ⟨key, ⟨hs, d⟩⟩ q k W hW)
      have HBK := Lib.hid hbk
      clear hbk
      go_wp2_with fail
      refine (C.out _ (HQ.out _ HB.out)).mono ?_
      rintro e w1 ⟨rfl, b1⟩
      have B1 := Lib.hid (Below.then HB.out b1)
      clear b1 C a0 a1 a2
      cases b with
      | true =>
        have R : Hid (RetIdx l k w (.returned (.int .i64 (j : Int))) w1) := Lib.hid ⟨j, rfl, .inl ⟨j, rfl, by rw [hlen.out]; exact hlt, first_at (by rw [hlen.out]; exact hlt) HU.out (by rw [HX.out]; exact of_decide_eq_true HBK.out)⟩, B1.out⟩
        clear B1 HU HX HBK HB
        go_wp2_with fail
        (try rw [Exit.noGoto_ret])
        go_ret
        exact R.out
      | false =>
        have HN : Hid (noneTo l k (j + 1)) := Lib.hid (noneTo_next HU.out (by rw [HX.out]; exact of_decide_eq_false HBK.out))
        clear HU HX HBK HB
        go_wp2_with fail
        go_roundw
        case rel => exact ⟨j + 1, by omega, by go_num, B1.out, HN.out⟩
        case measure => simp [intOf]; omega
    · obtain rfl : j = n := by omega
      have R : Hid (RetIdx l k w (.returned (.int .i64 (-1))) wr) := Lib.hid ⟨-1, rfl, .inr ⟨rfl, first_none (by rw [hlen.out]; exact HU.out)⟩, HB.out⟩
      clear hb hu hlt HU HB
      go_wp2_with fail
      go_ret
      exact R.out
set_option maxHeartbeats 1000000 in
theorem indexOf_any (A : Option Addr) (n c : Nat) (l : List Cl) (k : ByteArray) (w : World) (h : Pcs w A n c l) :
    Calls Try.prog 46 #[.slice A n c, .string k] w (RetIdx l k w) := by
  obtain ⟨W0, hW0⟩ : ∃ W, W = w.alloc (.cells #[.string k] 9) := ⟨_, rfl⟩
  have HB : Hid (Below w.heap.size w W0) := Lib.hid (by rw [hW0]; exact (Below.refl _ _).alloc (Nat.le_refl _) _)
  have BK : Hid (Bk W0 w.heap.size 9 #[.string k]) := Lib.hid (by rw [hW0]; exact Bk.new w _ _)
  have C := Lib.hid (indexFunc_any A n c l ⟨w.heap.size, 0, none⟩ k W0 (h.below HB.out) (BK.out.cell 0))
  have HW := Lib.hid hW0
  clear h hW0
  go_enter Try.func46, Try.ntmps46
  go_upto_region 1 with fail
  rw [← HW.out]
  go_wp2_with fail
  refine C.out.mono ?_
  rintro e w1 ⟨j, rfl, hj, b1⟩
  have R : Hid (RetIdx l k w (.returned (.int .i64 j)) w1) := Lib.hid ⟨j, rfl, hj, Below.then HB.out b1⟩
  clear hj b1
  go_wp2_with fail
  go_ret
  exact R.out
theorem vl_inf : (Try.prog.info? 42).map (·.size) = some 2 := by kernel_rfl
theorem pg_inf : (Try.prog.info? 24).map (·.size) = some 2 := by kernel_rfl
abbrev pgV (lsn : Int) (A : Option Addr) (n c : Nat) : Value := .agg #[.int .i64 lsn, .slice A n c]
abbrev vlV (v : Vl) : Value := .agg #[.bool v.has, .string v.data]
set_option maxRecDepth 100000 in
set_option maxHeartbeats 4000000 in
theorem get_any (lsn : Int) (A : Option Addr) (n c : Nat) (l : List Cl) (k : ByteArray) (w : World) (h : Pcs w A n c l) :
    Calls Try.prog 19 #[pgV lsn A n c, .string k] w (Ret (vlV (getV l k)) w) := by
  have hcap := h.flt.cap
  have hmax := h.flt.max
  unfold maxLen at hmax
  have hlen := Lib.hid h.len
  obtain ⟨W0, hW0⟩ : ∃ W, W = (w.alloc (.cells #[.int .i64 lsn, .slice A n c] 24)).alloc (.cells #[.bool false, .string ⟨#[]⟩] 42) := ⟨_, rfl⟩
  have HB : Hid (Below w.heap.size w W0) := Lib.hid (by rw [hW0]; exact ((Below.refl _ _).alloc (Nat.le_refl _) _).alloc (by simp) _)
  have BP : Hid (Bk W0 w.heap.size 24 #[.int .i64 lsn, .slice A n c]) := Lib.hid (by rw [hW0]; exact (Bk.new w _ _).bel ((Below.refl _ _).alloc (Nat.le_refl _) _) (by simp))
  have BV : Hid (Bk W0 (w.heap.size + 1) 42 #[.bool false, .string ⟨#[]⟩]) := Lib.hid (by
    rw [hW0]
    have := Bk.new (w.alloc (.cells #[.int .i64 lsn, .slice A n c] 24)) 42 #[.bool false, .string ⟨#[]⟩]
    rwa [World.size_alloc] at this)
  have HP := Lib.hid (h.below HB.out)
  have C := Lib.hid (indexOf_any A n c l k W0 HP.out)
  have hc1 : W0.cell? ⟨w.heap.size, 1, none⟩ = some (.slice A n c) := BP.out.cell 1
  have HW := Lib.hid hW0
  clear h hW0
  go_enter Try.func19, Try.ntmps19
  go_upto_region 1 with fail
  rw [← HW.out]
  go_wp2_with fail
  refine C.out.mono ?_
  rintro e w1 ⟨j, rfl, hj, b1⟩
  have B1 := Lib.hid b1
  have BV1 := Lib.hid (BV.out.bel b1 BV.out.lt)
  have hcq : w1.cell? ⟨w.heap.size, 1, none⟩ = some (.slice A n c) := (BP.out.bel b1 BP.out.lt).cell 1
  have hf0 : w1.frozen? ⟨w.heap.size + 1, 0, none⟩ = false := BV1.out.frz 0
  have hf1 : w1.frozen? ⟨w.heap.size + 1, 1, none⟩ = false := BV1.out.frz 1
  have hv0 : w1.cell? ⟨w.heap.size + 1, 0, none⟩ = some (.bool false) := BV1.out.cell 0
  have hv1 : w1.cell? ⟨w.heap.size + 1, 1, none⟩ = some (.string ⟨#[]⟩) := BV1.out.cell 1
  have HP1 := Lib.hid (HP.out.below b1)
  clear hc1 b1
  rcases hj with ⟨m, rfl, hm, hg, _⟩ | ⟨rfl, hg, _⟩
  · have hmn : m < n := by rw [← hlen.out]; exact hm
    obtain ⟨g, off, rfl, _, hc⟩ := HP1.out.get (by omega)
    obtain ⟨a0, a1, a2⟩ := hc m hmn
    have hgv : getV l k = (l.getD m default).val := by unfold getV; rw [hg]; rfl
    have HG : Hid (getV l k = (l.getD m default).val) := Lib.hid hgv
    clear hgv hg hc hm
    obtain ⟨x, hx⟩ : ∃ x, l.getD m default = x := ⟨_, rfl⟩
    rw [hx] at a0 a1 a2 HG
    clear hx
    obtain ⟨key, ⟨hs, d⟩⟩ := x
    simp only at a0 a1 a2
    go_wp2_with fail
    have FB : Hid (Bk ((w1.setCell ⟨w.heap.size + 1, 0, none⟩ (.bool hs)).setCell ⟨w.heap.size + 1, 1, none⟩ (.string d)) (w.heap.size + 1) 42 #[.bool hs, .string d]) := Lib.hid (by simpa using (BV1.out.setc 0 (.bool hs)).setc 1 (.string d))
    have RB : Hid (Below w.heap.size w ((w1.setCell ⟨w.heap.size + 1, 0, none⟩ (.bool hs)).setCell ⟨w.heap.size + 1, 1, none⟩ (.string d))) := Lib.hid (((Below.then HB.out B1.out).setCell (p := ⟨w.heap.size + 1, 0, none⟩) (by simp) _).setCell (p := ⟨w.heap.size + 1, 1, none⟩) (by simp) _)
    (try simp only [Exit.inBlock, Exit.then])
    refine bodyPost_ret (results_cell_row (p := 4) (ty := 42) rfl _ _ (w.heap.size + 1) 42 _ (0, 0) _ rfl FB.out Try.underlying42 rfl vl_inf) rfl ?_
    exact ⟨by rw [HG.out], RB.out⟩
  · have hgv : getV l k = vl0 := by unfold getV; rw [hg]; rfl
    have HG : Hid (getV l k = vl0) := Lib.hid hgv
    clear hgv hg
    go_wp2_with fail
    have FB : Hid (Bk ((w1.setCell ⟨w.heap.size + 1, 0, none⟩ (.bool false)).setCell ⟨w.heap.size + 1, 1, none⟩ (.string ⟨#[]⟩)) (w.heap.size + 1) 42 #[.bool false, .string ⟨#[]⟩]) := Lib.hid (by simpa using (BV1.out.setc 0 (.bool false)).setc 1 (.string ⟨#[]⟩))
    have RB : Hid (Below w.heap.size w ((w1.setCell ⟨w.heap.size + 1, 0, none⟩ (.bool false)).setCell ⟨w.heap.size + 1, 1, none⟩ (.string ⟨#[]⟩))) := Lib.hid (((Below.then HB.out B1.out).setCell (p := ⟨w.heap.size + 1, 0, none⟩) (by simp) _).setCell (p := ⟨w.heap.size + 1, 1, none⟩) (by simp) _)
    (try simp only [Exit.inBlock, Exit.then])
    refine bodyPost_ret (results_cell_row (p := 4) (ty := 42) rfl _ _ (w.heap.size + 1) 42 _ (0, 0) _ rfl FB.out Try.underlying42 rfl vl_inf) rfl ?_
    exact ⟨by rw [HG.out]; rfl, RB.out⟩
set_option maxRecDepth 100000 in
set_option maxHeartbeats 4000000 in
theorem room_any (lsn : Int) (A : Option Addr) (n c : Nat) (l : List Cl) (k : ByteArray) (w : World) (h : Pcs w A n c l) :
    Calls Try.prog 21 #[pgV lsn A n c, .string k] w (Ret (.bool (roomC l k)) w) := by
  have hcap := h.flt.cap
  have hmax := h.flt.max
  unfold maxLen at hmax
  have hlen := Lib.hid h.len
  obtain ⟨W0, hW0⟩ : ∃ W, W = w.alloc (.cells #[.int .i64 lsn, .slice A n c] 24) := ⟨_, rfl⟩
  have HB : Hid (Below w.heap.size w W0) := Lib.hid (by rw [hW0]; exact (Below.refl _ _).alloc (Nat.le_refl _) _)
  have BP : Hid (Bk W0 w.heap.size 24 #[.int .i64 lsn, .slice A n c]) := Lib.hid (by rw [hW0]; exact Bk.new w _ _)
  have C := Lib.hid (indexOf_any A n c l k W0 (h.below HB.out))
  have hc1 : W0.cell? ⟨w.heap.size, 1, none⟩ = some (.slice A n c) := BP.out.cell 1
  have HW := Lib.hid hW0
  clear h hW0
  go_enter Try.func21, Try.ntmps21
  go_upto_region 1 with fail
  rw [← HW.out]
  go_wp2_with fail
  refine C.out.mono ?_
  rintro e w1 ⟨j, rfl, hj, b1⟩
  have B1 := Lib.hid (Below.then HB.out b1)
  have hcq : w1.cell? ⟨w.heap.size, 1, none⟩ = some (.slice A n c) := (BP.out.bel b1 BP.out.lt).cell 1
  clear hc1 b1
  rcases hj with ⟨m, rfl, hm, _, hh⟩ | ⟨rfl, _, hh⟩
  · have E : Hid (roomC l k = true) := Lib.hid (by unfold roomC; rw [hh]; rfl)
    clear hh hm
    have hm0 : (0 : Int) ≤ (m : Int) := by omega
    go_wp2_with fail
    go_ret
    exact ⟨by rw [E.out]; simp, B1.out⟩
  · have E : Hid (roomC l k = decide (n < 4)) := Lib.hid (by unfold roomC; rw [hh, hlen.out]; rfl)
    clear hh
    by_cases h4 : n < 4
    · have h4' : (n : Int) < 4 := by omega
      go_wp2_with fail
      go_ret
      exact ⟨by rw [E.out]; simp [h4], B1.out⟩
    · have h4' : ¬ (n : Int) < 4 := by omega
      go_wp2_with fail
      go_ret
      exact ⟨by rw [E.out]; simp [h4]; omega, B1.out⟩
set_option maxRecDepth 100000 in
set_option maxHeartbeats 4000000 in
theorem refHas_any (lsn : Int) (A : Option Addr) (n c : Nat) (l : List Cl) (k : ByteArray) (w : World) (h : Pcs w A n c l) :
    Calls Try.prog 47 #[pgV lsn A n c, .string k] w (Ret (.bool (hasC l k)) w) := by
  have hcap := h.flt.cap
  have hmax := h.flt.max
  unfold maxLen at hmax
  have hlen := Lib.hid h.len
  obtain ⟨W0, hW0⟩ : ∃ W, W = w.alloc (.cells #[.int .i64 lsn, .slice A n c] 24) := ⟨_, rfl⟩
  have HB : Hid (Below w.heap.size w W0) := Lib.hid (by rw [hW0]; exact (Below.refl _ _).alloc (Nat.le_refl _) _)
  have BP : Hid (Bk W0 w.heap.size 24 #[.int .i64 lsn, .slice A n c]) := Lib.hid (by rw [hW0]; exact Bk.new w _ _)
  have HP := Lib.hid (h.below HB.out)
  have HW := Lib.hid hW0
  clear h hW0
  go_enter Try.func47, Try.ntmps47
  go_upto_region 1 with fail
  rw [← HW.out]
  go_wp2_with fail
  go_loopw [5] (fun y wr => ∃ j : Nat, j ≤ n ∧ y = .int .i64 j ∧ wr = W0 ∧ noneTo l k j) (fun y _ => n - (intOf y).toNat)
  case atStart => exact ⟨0, Nat.zero_le _, rfl, rfl, fun i hi => absurd hi (by omega)⟩
  case round =>
    obtain ⟨j, hj, rfl, rfl, hu⟩ := hrel
    have HU := Lib.hid hu
    have hc1 : wr.cell? ⟨w.heap.size, 1, none⟩ = some (.slice A n c) := BP.out.cell 1
    by_cases hlt : j < n
    · obtain ⟨g, off, rfl, _, hc⟩ := HP.out.get (by omega)
      obtain ⟨a0, a1, a2⟩ := hc j hlt
      obtain ⟨x, hx⟩ : ∃ x, l.getD j default = x := ⟨_, rfl⟩
      rw [hx] at a0 a1 a2
      obtain ⟨key, ⟨hs, d⟩⟩ := x
      simp only at a0 a1 a2
      have HX := Lib.hid hx
      clear hc hu hx
      by_cases hk : key = k
      · subst hk
        have R : Hid (hasC l key = true) := Lib.hid (first_at (by rw [hlen.out]; exact hlt) HU.out (by rw [HX.out])).2
        have hkk : (key.toList == key.toList) = true := by simp
        go_wp2_with fail
        (try rw [Exit.noGoto_ret])
        go_ret
        exact ⟨by rw [R.out]; rfl, HB.out⟩
      · have hkk : (key.toList == k.toList) = false := by rw [beq_key]; exact decide_eq_false hk
        have HN : Hid (noneTo l k (j + 1)) := Lib.hid (noneTo_next HU.out (by rw [HX.out]; exact hk))
        clear HU HX hk
        go_wp2_with fail
        go_roundw
        case rel => exact ⟨j + 1, by omega, by go_num, trivial, HN.out⟩
        case measure => simp [intOf]; omega
    · obtain rfl : j = n := by omega
      have R : Hid (hasC l k = false) := Lib.hid (first_none (by rw [hlen.out]; exact HU.out)).2
      clear hu hlt HU
      go_wp2_with fail
      go_ret
      exact ⟨by rw [R.out]; rfl, HB.out⟩
set_option maxRecDepth 100000 in
set_option maxHeartbeats 4000000 in
theorem refRoom_any (lsn : Int) (A : Option Addr) (n c : Nat) (l : List Cl) (k : ByteArray) (w : World) (h : Pcs w A n c l) :
    Calls Try.prog 22 #[pgV lsn A n c, .string k] w (Ret (.bool (roomC l k)) w) := by
  have hcap := h.flt.cap
  have hmax := h.flt.max
  unfold maxLen at hmax
  have hlen := Lib.hid h.len
  obtain ⟨W0, hW0⟩ : ∃ W, W = w.alloc (.cells #[.int .i64 lsn, .slice A n c] 24) := ⟨_, rfl⟩
  have HB : Hid (Below w.heap.size w W0) := Lib.hid (by rw [hW0]; exact (Below.refl _ _).alloc (Nat.le_refl _) _)
  have BP : Hid (Bk W0 w.heap.size 24 #[.int .i64 lsn, .slice A n c]) := Lib.hid (by rw [hW0]; exact Bk.new w _ _)
  have C := refHas_any lsn A n c l k W0 (h.below HB.out)
  have hc0 : W0.cell? ⟨w.heap.size, 0, none⟩ = some (.int .i64 lsn) := BP.out.cell 0
  have hc1 : W0.cell? ⟨w.heap.size, 1, none⟩ = some (.slice A n c) := BP.out.cell 1
  have HW := Lib.hid hW0
  obtain ⟨b, hb⟩ : ∃ b, hasC l k = b := ⟨_, rfl⟩
  rw [hb] at C
  have C := Lib.hid C
  have HBB := Lib.hid hb
  clear h hW0 hb
  go_enter Try.func22, Try.ntmps22
  go_upto_region 1 with fail
  rw [← HW.out]
  go_wp2_with fail
  refine C.out.mono ?_
  rintro e w1 ⟨rfl, b1⟩
  have B1 := Lib.hid (Below.then HB.out b1)
  have hcq : w1.cell? ⟨w.heap.size, 1, none⟩ = some (.slice A n c) := (BP.out.bel b1 BP.out.lt).cell 1
  clear hc0 hc1 b1
  cases b with
  | true =>
    have E : Hid (roomC l k = true) := Lib.hid (by unfold roomC; rw [HBB.out]; rfl)
    go_wp2_with fail
    go_ret
    exact ⟨by rw [E.out]; simp, B1.out⟩
  | false =>
    have E : Hid (roomC l k = decide (n < 4)) := Lib.hid (by unfold roomC; rw [HBB.out, hlen.out]; rfl)
    by_cases h4 : n < 4
    · have h4' : (n : Int) < 4 := by omega
      go_wp2_with fail
      go_ret
      exact ⟨by rw [E.out]; simp [h4], B1.out⟩
    · have h4' : ¬ (n : Int) < 4 := by omega
      go_wp2_with fail
      go_ret
      exact ⟨by rw [E.out]; simp [h4]; omega, B1.out⟩
set_option maxRecDepth 100000 in
set_option maxHeartbeats 4000000 in
theorem refGet_any (lsn : Int) (A : Option Addr) (n c : Nat) (l : List Cl) (k : ByteArray) (w : World) (h : Pcs w A n c l) :
    Calls Try.prog 20 #[pgV lsn A n c, .string k] w (Ret (vlV (getV l k)) w) := by
  have hcap := h.flt.cap
  have hmax := h.flt.max
  unfold maxLen at hmax
  have hlen := Lib.hid h.len
  obtain ⟨W0, hW0⟩ : ∃ W, W = (w.alloc (.cells #[.int .i64 lsn, .slice A n c] 24)).alloc (.cells #[.bool false, .string ⟨#[]⟩] 42) := ⟨_, rfl⟩
  have HB : Hid (Below w.heap.size w W0) := Lib.hid (by rw [hW0]; exact ((Below.refl _ _).alloc (Nat.le_refl _) _).alloc (by simp) _)
  have BP : Hid (Bk W0 w.heap.size 24 #[.int .i64 lsn, .slice A n c]) := Lib.hid (by rw [hW0]; exact (Bk.new w _ _).bel ((Below.refl _ _).alloc (Nat.le_refl _) _) (by simp))
  have BV : Hid (Bk W0 (w.heap.size + 1) 42 #[.bool false, .string ⟨#[]⟩]) := Lib.hid (by
    rw [hW0]
    have := Bk.new (w.alloc (.cells #[.int .i64 lsn, .slice A n c] 24)) 42 #[.bool false, .string ⟨#[]⟩]
    rwa [World.size_alloc] at this)
  have HP := Lib.hid (h.below HB.out)
  have HW := Lib.hid hW0
  clear h hW0
  go_enter Try.func20, Try.ntmps20
  go_upto_region 1 with fail
  rw [← HW.out]
  go_wp2_with fail
  go_loopw [5] (fun y wr => ∃ j : Nat, j ≤ n ∧ y = .int .i64 j ∧ wr = W0 ∧ noneTo l k j) (fun y _ => n - (intOf y).toNat)
  case atStart => exact ⟨0, Nat.zero_le _, rfl, rfl, fun i hi => absurd hi (by omega)⟩
  case round =>
    obtain ⟨j, hj, rfl, rfl, hu⟩ := hrel
    have HU := Lib.hid hu
    have hc1 : wr.cell? ⟨w.heap.size, 1, none⟩ = some (.slice A n c) := BP.out.cell 1
    have hf0 : wr.frozen? ⟨w.heap.size + 1, 0, none⟩ = false := BV.out.frz 0
    have hf1 : wr.frozen? ⟨w.heap.size + 1, 1, none⟩ = false := BV.out.frz 1
    have hv0 : wr.cell? ⟨w.heap.size + 1, 0, none⟩ = some (.bool false) := BV.out.cell 0
    have hv1 : wr.cell? ⟨w.heap.size + 1, 1, none⟩ = some (.string ⟨#[]⟩) := BV.out.cell 1
    by_cases hlt : j < n
    · obtain ⟨g, off, rfl, _, hc⟩ := HP.out.get (by omega)
      obtain ⟨a0, a1, a2⟩ := hc j hlt
      obtain ⟨x, hx⟩ : ∃ x, l.getD j default = x := ⟨_, rfl⟩
      rw [hx] at a0 a1 a2
      obtain ⟨key, ⟨hs, d⟩⟩ := x
      simp only at a0 a1 a2
      have HX := Lib.hid hx
      clear hc hu hx
      by_cases hk : key = k
      · subst hk
        have R : Hid (getV l key = ⟨hs, d⟩) := Lib.hid (by
          unfold getV
          rw [(first_at (by rw [hlen.out]; exact hlt) HU.out (by rw [HX.out])).1, HX.out]
          rfl)
        have hkk : (key.toList == key.toList) = true := by simp
        have FB : Hid (Bk ((wr.setCell ⟨w.heap.size + 1, 0, none⟩ (.bool hs)).setCell ⟨w.heap.size + 1, 1, none⟩ (.string d)) (w.heap.size + 1) 42 #[.bool hs, .string d]) := Lib.hid (by simpa using (BV.out.setc 0 (.bool hs)).setc 1 (.string d))
        have RB : Hid (Below w.heap.size w ((wr.setCell ⟨w.heap.size + 1, 0, none⟩ (.bool hs)).setCell ⟨w.heap.size + 1, 1, none⟩ (.string d))) := Lib.hid ((HB.out.setCell (p := ⟨w.heap.size + 1, 0, none⟩) (by simp) _).setCell (p := ⟨w.heap.size + 1, 1, none⟩) (by simp) _)
        go_wp2_with fail
        (try rw [Exit.noGoto_ret])
        (try simp only [Exit.inBlock, Exit.then])
        refine bodyPost_ret (results_cell_row (p := 4) (ty := 42) rfl _ _ (w.heap.size + 1) 42 _ (0, 0) _ rfl FB.out Try.underlying42 rfl vl_inf) rfl ?_
        exact ⟨by rw [R.out], RB.out⟩
      · have hkk : (key.toList == k.toList) = false := by rw [beq_key]; exact decide_eq_false hk
        have HN : Hid (noneTo l k (j + 1)) := Lib.hid (noneTo_next HU.out (by rw [HX.out]; exact hk))
        clear HU HX hk hf0 hf1 hv0 hv1
        go_wp2_with fail
        go_roundw
        case rel => exact ⟨j + 1, by omega, by go_num, trivial, HN.out⟩
        case measure => simp [intOf]; omega
    · obtain rfl : j = n := by omega
      have R : Hid (getV l k = vl0) := Lib.hid (by unfold getV; rw [(first_none (by rw [hlen.out]; exact HU.out)).1]; rfl)
      have FB : Hid (Bk ((wr.setCell ⟨w.heap.size + 1, 0, none⟩ (.bool false)).setCell ⟨w.heap.size + 1, 1, none⟩ (.string ⟨#[]⟩)) (w.heap.size + 1) 42 #[.bool false, .string ⟨#[]⟩]) := Lib.hid (by simpa using (BV.out.setc 0 (.bool false)).setc 1 (.string ⟨#[]⟩))
      have RB : Hid (Below w.heap.size w ((wr.setCell ⟨w.heap.size + 1, 0, none⟩ (.bool false)).setCell ⟨w.heap.size + 1, 1, none⟩ (.string ⟨#[]⟩))) := Lib.hid ((HB.out.setCell (p := ⟨w.heap.size + 1, 0, none⟩) (by simp) _).setCell (p := ⟨w.heap.size + 1, 1, none⟩) (by simp) _)
      clear hu hlt HU
      go_wp2_with fail
      (try simp only [Exit.inBlock, Exit.then])
      refine bodyPost_ret (results_cell_row (p := 4) (ty := 42) rfl _ _ (w.heap.size + 1) 42 _ (0, 0) _ rfl FB.out Try.underlying42 rfl vl_inf) rfl ?_
      exact ⟨by rw [R.out]; rfl, RB.out⟩
end

/- a region that draws its order, whose last operations go one behind the other: those ahead of them may be taken in an order of one's own, where what they read holds till the last ones begin. No program is named; no condition. -/
section
open Go.RowKit
section
variable {P : Program} {ops : Array Oper} {Q : Exit → Act → World → Prop} {S : World → Prop} {n : Nat}
def Upto (P : Program) (ops : Array Oper) (Q : Exit → Act → World → Prop) (S : World → Prop) (n : Nat) : Nat → Array Bool → Act → World → Prop
  | 0, listed, a, w => Region.ready .any ops listed = [] ∧ Q .normal a w
  | fuel + 1, listed, a, w => (Region.ready .any ops listed = [] → Q .normal a w) ∧
    ∀ i ∈ Region.ready .any ops listed, wpOp P ops Q i (fun a' w' => (i < n → S w') ∧ Upto P ops Q S n fuel (listed.setIfInBounds i true) a' w') a w
theorem any_of_upto : ∀ (fuel : Nat) (listed : Array Bool) (a : Act) (w : World), Upto P ops Q S n fuel listed a w → wpAny P .any ops Q fuel listed a w
  | 0, _, _, _, h => h
  | fuel + 1, _, _, _, h => ⟨h.1, fun i hi => wpOp_mono (fun a' w' h' => any_of_upto fuel _ a' w' h'.2) (h.2 i hi)⟩
def headB (ops : Array Oper) (n : Nat) (listed : Array Bool) : Bool :=
  listed.size == ops.size && (List.range ops.size).all (fun j => match ops[j]? with
    | none => true
    | some o => !listed.getD j false || o.after.toList.all fun e => !Region.binds .any e || listed.getD e.on false) &&
  (List.range ops.size).all fun t => decide (t < n) || !listed.getD t true
theorem headB_spec {listed : Array Bool} (h : headB ops n listed = true) : HeadInv .any ops n listed := by
  simp only [headB, Bool.and_eq_true, List.all_eq_true, List.mem_range, beq_iff_eq] at h
  obtain ⟨⟨h1, h2⟩, h3⟩ := h
  refine ⟨h1, fun j oj hj hl e he hb => ?_, fun t ht htl => ?_⟩
  · have := h2 j (Array.getElem?_eq_some_iff.1 hj).1
    simp only [hj, hl] at this
    rw [Bool.not_true, Bool.false_or] at this
    have he' := List.all_eq_true.1 this e (by simpa using he)
    simpa [hb] using he'
  · have := h3 t htl
    simpa [Nat.not_lt.2 ht] using this
def tailB (ops : Array Oper) (n : Nat) : Bool := Region.noSelect ops && decide (n < ops.size) && Region.sinkB .any ops n && Region.chainB .any ops n
theorem upto_first (hB : tailB ops n = true) {i : Nat} {oi : Oper} {v : Value} (hin : i < n) (hi : ops[i]? = some oi)
    (hQ : ∀ c a w, Q (.panic c) (a.put oi.dst v) w → Q (.panic c) a w) :
    ∀ (fuel : Nat) (listed : Array Bool) (a : Act) (w : World), HeadInv .any ops n listed →
      (∀ j oj, ops[j]? = some oj → j ≠ i → listed.getD j true = false → (∀ e ∈ oj.after, Region.binds .any e = true → e.on ≠ i) → oi.apart ops oj = true) →
      i ∈ Region.ready .any ops listed → YieldsIf P ops S oi v a → S w →
      Upto P ops Q S n fuel (listed.setIfInBounds i true) (a.put oi.dst v) w → Upto P ops Q S n (fuel + 1) listed a w := by
  simp only [tailB, Bool.and_eq_true, decide_eq_true_eq] at hB
  obtain ⟨⟨⟨hsel0, hns⟩, hsk⟩, hch⟩ := hB
  have hsel := Region.noSelect_spec hsel0
  intro fuel
  induction fuel with
  | zero =>
    intro listed a w _ _ hr hy hS H
    refine ⟨fun h => (by rw [h] at hr; cases hr), fun j hj => ?_⟩
    by_cases hji : j = i
    · subst hji
      exact hy.wpOp hi hS ⟨fun _ => hS, H⟩
    · have := ready_mono hj hji
      rw [H.1] at this
      cases this
  | succ fuel ih =>
    intro listed a w inv hfree hr hy hS H
    refine ⟨fun h => (by rw [h] at hr; cases hr), fun j hj => ?_⟩
    by_cases hji : j = i
    · subst hji
      exact hy.wpOp hi hS ⟨fun _ => hS, H⟩
    · have h1 := H.2 j (ready_mono hj hji)
      have hun := (mem_ready.1 hr).1
      have hjn : j < n := by
        rcases Nat.lt_or_ge j n with h | h
        · exact h
        · exact absurd hj (tail_waits hsk hch hns inv _ i rfl hin hun j h)
      obtain ⟨hjun, oj, hoj, hall⟩ := mem_ready.1 hj
      have hnot : ∀ e ∈ oj.after, Region.binds .any e = true → e.on ≠ i := fun e he hb heq => by
        have h1 := hall e he hb
        rw [heq, getD_both hun] at h1
        cases h1
      have h2 := wpOp_putIf hoj (hfree j oj hoj hji hjun hnot) (fun cs b => hsel i oi cs b hi) (fun cs b => hsel j oj cs b hoj) hQ hy h1
      have hfree' : ∀ k ok, ops[k]? = some ok → k ≠ i → (listed.setIfInBounds j true).getD k true = false →
          (∀ e ∈ ok.after, Region.binds .any e = true → e.on ≠ i) → oi.apart ops ok = true := fun k ok hk hki hunk hno => by
        refine hfree k ok hk hki ?_ hno
        by_cases hjk : j = k
        · subst hjk; exact hjun
        · rw [getD_set_ne true hjk] at hunk; exact hunk
      refine wpOp_mono (fun a' w' h3 => ⟨h3.2.1, ih (listed.setIfInBounds j true) a' w' (inv.set hj hjn) hfree' (ready_mono hr (Ne.symm hji)) h3.1 (h3.2.1 hjn) ?_⟩) h2
      rw [Array.setIfInBounds_comm _ _ hji]
      exact h3.2.2
theorem drop_at {l rest : List Oper} {i : Nat} {o : Oper} (h : l.drop i = o :: rest) : l.toArray[i]? = some o := by
  have h0 : (l.drop i)[0]? = some o := by rw [h]; rfl
  rw [List.getElem?_drop] at h0
  simpa using h0
theorem Upto.take {i : Nat} {oi : Oper} {v : Value} {fuel : Nat} {listed : Array Bool} {a : Act} {w : World} {l rest : List Oper} (hi : l.drop i = oi :: rest) (hc : (tailB l.toArray n && decide (i < n) && headB l.toArray n listed && Region.free .any l.toArray listed i && (Region.ready .any l.toArray listed).contains i) = true)
    (hQ : ∀ c a w, Q (.panic c) (a.put oi.dst v) w → Q (.panic c) a w) (hg : oi.guard = none) (hy : ∀ w, S w → (execOp a.eval oi).run P w = .ok (.value v) w) (hS : S w)
    (h : Upto P l.toArray Q S n fuel (listed.setIfInBounds i true) (a.put oi.dst v) w) : Upto P l.toArray Q S n (fuel + 1) listed a w := by
  have hi := drop_at hi
  simp only [Bool.and_eq_true, decide_eq_true_eq] at hc
  obtain ⟨⟨⟨⟨h1, h2⟩, h3⟩, h4⟩, h5⟩ := hc
  exact upto_first h1 h2 hi hQ fuel listed a w (headB_spec h3) (Region.free_spec hi h4) (by simpa using h5) (.inl ⟨wanted_plain hg, hy⟩) hS h
theorem Upto.only {i : Nat} {oi : Oper} {v : Value} {fuel : Nat} {listed : Array Bool} {a : Act} {w w' : World} {l rest : List Oper} (hi : l.drop i = oi :: rest) (hc : Region.ready .any l.toArray listed = [i])
    (hg : oi.guard = none) (hy : (execOp a.eval oi).run P w = .ok (.value v) w') (hS : S w')
    (h : Upto P l.toArray Q S n fuel (listed.setIfInBounds i true) (a.put oi.dst v) w') : Upto P l.toArray Q S n (fuel + 1) listed a w := by
  have hi := drop_at hi
  refine ⟨fun h0 => (by rw [h0] at hc; cases hc), fun j hj => ?_⟩
  rw [hc] at hj
  have hji : j = i := by simpa using hj
  subst hji
  unfold wpOp
  simp only [hi, wanted_plain hg, if_true]
  refine .inl ?_
  unfold Oper.wp
  rw [hy]
  exact ⟨fun _ => hS, h⟩
theorem Upto.law {i : Nat} {oi : Oper} {fuel : Nat} {listed : Array Bool} {a : Act} {w : World} {l rest : List Oper} (hi : l.drop i = oi :: rest) (hc : Region.ready .any l.toArray listed = [i]) (hg : oi.guard = none)
    (h : ∀ K : Act → World → Prop, (∀ a' w', S w' → Upto P l.toArray Q S n fuel (listed.setIfInBounds i true) a' w' → K a' w') → oi.wp P a w K Q) : Upto P l.toArray Q S n (fuel + 1) listed a w := by
  have hi := drop_at hi
  refine ⟨fun h0 => (by rw [h0] at hc; cases hc), fun j hj => ?_⟩
  rw [hc] at hj
  have hji : j = i := by simpa using hj
  subst hji
  unfold wpOp
  simp only [hi, wanted_plain hg, if_true]
  exact .inl (h _ fun a' w' hS hU => ⟨fun _ => hS, hU⟩)
theorem wp_enter {o : Oper} {a : Act} {w : World} {K : Act → World → Prop} {f : FuncId} {args : Array Value} {R : Ending → World → Prop} (hrun : (execOp a.eval o).run P w = .ok (.enter f args) w) (C : Calls P f args w R)
    (hR : ∀ e w', R e w' → ∃ v, e = .returned v ∧ K (a.put o.dst v) w') : o.wp P a w K Q := by
  unfold Oper.wp
  rw [hrun]
  refine C.mono fun e w' h => ?_
  obtain ⟨v, rfl, hK⟩ := hR e w' h
  exact hK
theorem upto_seq : ∀ (l : List Oper) (k : Nat) (listed : Array Bool) (a : Act) (w : World), n ≤ k → (∀ j, l[j]? = ops[k + j]?) →
    Region.seqB .any ops l.length k listed = true → wpList P ops Q l a w → Upto P ops Q S n l.length listed a w
  | [], k, listed, a, w, _, _, hB, h => ⟨by simpa [Region.seqB] using hB, h⟩
  | o :: l, k, listed, a, w, hk, hl, hB, h => by
    have h0 : ops[k]? = some o := by simpa using (hl 0).symm
    simp only [List.length_cons, Region.seqB, Bool.and_eq_true, decide_eq_true_eq] at hB
    refine ⟨fun h1 => (by rw [hB.1] at h1; cases h1), fun i hi => ?_⟩
    rw [hB.1] at hi
    have hik : i = k := by simpa using hi
    subst hik
    have hw : wpOp P ops Q i (wpList P ops Q l) a w := by unfold wpOp; simp only [h0]; exact h
    exact wpOp_mono (fun a' w' h' => ⟨fun hlt => absurd hlt (by omega), upto_seq l (i + 1) _ a' w' (by omega) (fun j => by have := hl (j + 1); simpa [Nat.add_assoc, Nat.add_comm 1 j] using this) hB.2 h'⟩) hw
theorem Upto.tail {l : List Oper} {fuel : Nat} {listed : Array Bool} {a : Act} {w : World} (hf : (l.drop n).length = fuel) (hB : Region.seqB .any l.toArray fuel n listed = true) (h : wpList P l.toArray Q (l.drop n) a w) : Upto P l.toArray Q S n fuel listed a w := by
  subst hf
  exact upto_seq (l.drop n) n listed a w (Nat.le_refl _) (fun j => by simp [List.getElem?_drop]) hB h
theorem upto_start {id : Nat} {a : Act} {w : World} (S : World → Prop) (n : Nat) (hm : P.follows .mixedOrders = true) (h : Upto P ops Q S n ops.size (Array.replicate ops.size false) a w.drew) : (Code.region id ops true).wp P Q a w :=
  wp_region_any hm (any_of_upto _ _ _ _ h)
end
end

/- operations behind a guard, in a region that draws its order: taken where the guard says go, left out where it says no. No program is named; no condition. -/
section
open Go.RowKit
section
variable {P : Program} {Q : Exit → Act → World → Prop} {S : World → Prop} {n : Nat}
theorem Upto.takeG {i : Nat} {oi : Oper} {v : Value} {fuel : Nat} {listed : Array Bool} {a : Act} {w : World} {l rest : List Oper} (hi : l.drop i = oi :: rest) (hc : (tailB l.toArray n && decide (i < n) && headB l.toArray n listed && Region.free .any l.toArray listed i && (Region.ready .any l.toArray listed).contains i) = true)
    (hQ : ∀ c a w, Q (.panic c) (a.put oi.dst v) w → Q (.panic c) a w) (hg : Region.wanted oi (yielded l.toArray a.tmps) = true) (hy : ∀ w, S w → (execOp a.eval oi).run P w = .ok (.value v) w) (hS : S w)
    (h : Upto P l.toArray Q S n fuel (listed.setIfInBounds i true) (a.put oi.dst v) w) : Upto P l.toArray Q S n (fuel + 1) listed a w := by
  have hi := drop_at hi
  simp only [Bool.and_eq_true, decide_eq_true_eq] at hc
  obtain ⟨⟨⟨⟨h1, h2⟩, h3⟩, h4⟩, h5⟩ := hc
  exact upto_first h1 h2 hi hQ fuel listed a w (headB_spec h3) (Region.free_spec hi h4) (by simpa using h5) (.inl ⟨hg, hy⟩) hS h
theorem Upto.lawG {i : Nat} {oi : Oper} {fuel : Nat} {listed : Array Bool} {a : Act} {w : World} {l rest : List Oper} (hi : l.drop i = oi :: rest) (hc : Region.ready .any l.toArray listed = [i]) (hg : Region.wanted oi (yielded l.toArray a.tmps) = true)
    (h : ∀ K : Act → World → Prop, (∀ a' w', S w' → Upto P l.toArray Q S n fuel (listed.setIfInBounds i true) a' w' → K a' w') → oi.wp P a w K Q) : Upto P l.toArray Q S n (fuel + 1) listed a w := by
  have hi := drop_at hi
  refine ⟨fun h0 => (by rw [h0] at hc; cases hc), fun j hj => ?_⟩
  rw [hc] at hj
  have hji : j = i := by simpa using hj
  subst hji
  unfold wpOp
  simp only [hi, hg, if_true]
  exact .inl (h _ fun a' w' hS hU => ⟨fun _ => hS, hU⟩)
end
end
end Go.Proofs.Ytfmfmdiegabobaa
