/- What it says: which blocks a call may turn; things in memory, each with the blocks that are its own; two such things side by side. No program is named; no condition. -/
import Derived.Test.YtlchikllgmkokaaKit
namespace Go.Proofs.Ytlchikllgmkokaa
open Go.RowKit

/-- From w to w' no old block is turned but those of F. -/
structure Fr (F : Nat → Prop) (w w' : World) : Prop where
  os : w'.os = w.os
  tape : w'.tape = w.tape
  output : w'.output = w.output
  size : w.heap.size ≤ w'.heap.size
  block : ∀ k, k < w.heap.size → ¬ F k → w'.heap[k]? = w.heap[k]?

/-- F, and what is new. -/
def grow (F : Nat → Prop) (w w' : World) : Nat → Prop := fun k => F k ∨ (w.heap.size ≤ k ∧ k < w'.heap.size)
/-- What is new. -/
def fresh (w w' : World) : Nat → Prop := fun k => w.heap.size ≤ k ∧ k < w'.heap.size

section
variable {F G : Nat → Prop} {w w1 w2 : World}
theorem Fr.refl (F : Nat → Prop) (w : World) : Fr F w w := ⟨rfl, rfl, rfl, Nat.le_refl _, fun _ _ _ => rfl⟩
theorem Fr.trans (h : Fr F w w1) (k : Fr (grow F w w1) w1 w2) : Fr F w w2 :=
  ⟨k.os.trans h.os, k.tape.trans h.tape, k.output.trans h.output, Nat.le_trans h.size k.size, fun i hi hn => (k.block i (Nat.lt_of_lt_of_le hi h.size) (fun g => by
    rcases g with g | g
    · exact hn g
    · omega)).trans (h.block i hi hn)⟩
theorem Fr.mono (h : Fr F w w1) (hFG : ∀ k, F k → G k) : Fr G w w1 := ⟨h.os, h.tape, h.output, h.size, fun k hk hn => h.block k hk (fun f => hn (hFG k f))⟩
theorem Fr.then (h : Fr F w w1) (k : Fr F w1 w2) : Fr F w w2 := h.trans (k.mono fun _ f => .inl f)
theorem Fr.of_below (h : Below w.heap.size w w1) : Fr F w w1 := ⟨h.os, h.tape, h.output, h.size, fun k hk _ => h.block k hk⟩
theorem Fr.below {B : Nat} (h : Fr F w w1) (hB : B ≤ w.heap.size) (hF : ∀ k, F k → B ≤ k) : Below B w w1 :=
  ⟨h.os, h.tape, h.output, h.size, fun k hk => h.block k (by omega) (fun f => by have := hF k f; omega)⟩
theorem Fr.setCell (h : Fr F w w1) {a : Addr} (ha : F a.block) (u : Value) : Fr F w (w1.setCell a u) :=
  ⟨h.os, h.tape, h.output, by simpa [World.setCell] using h.size, fun k hk hn => (Below.heap_setCell w1 a u k (fun e => hn (e ▸ ha))).trans (h.block k hk hn)⟩
theorem Fr.grown (h : Fr F w w1) {row : Option Nat} (hg : w1.grownBy w2 row) (hr : ∀ k, row = some k → F k ∨ w.heap.size ≤ k) : Fr F w w2 :=
  h.trans ⟨hg.os, hg.tape, hg.output, hg.size, fun k hk hn => hg.block k hk (fun e => by
    rcases hr k e.symm with h | h
    · exact hn (.inl h)
    · exact hn (.inr ⟨h, hk⟩))⟩
theorem Fr.alloc (h : Fr F w w1) (o : Obj) : Fr F w (w1.alloc o) := h.grown (row := none) (World.grownBy_alloc w1 o none) (fun _ e => nomatch e)
theorem Fr.drewN (h : Fr F w w1) (n : Nat) : Fr F w (w1.drewN n) := ⟨h.os, h.tape, h.output, h.size, h.block⟩
theorem Fr.cell1 (w : World) (b i : Nat) (u : Value) : Fr (fun k => k = b) w (w.setCell ⟨b, i, none⟩ u) := Fr.setCell (a := ⟨b, i, none⟩) (Fr.refl (fun k => k = b) w) (show (fun k => k = b) b from rfl) u
theorem Fr.grow_of_below {F : Nat → Prop} {w w' : World} {k : Nat} (h : F k) : grow F w w' k := .inl h
end

/-- A thing in memory: what holds of it in a world where the blocks F are its own. -/
structure Res where
  is : World → (Nat → Prop) → Prop
  lt : ∀ w F, is w F → ∀ k, F k → k < w.heap.size
  keep : ∀ w w' F, is w F → w.heap.size ≤ w'.heap.size → (∀ k, F k → w'.heap[k]? = w.heap[k]?) → is w' F

/-- R has become R'; nothing else is turned. -/
def Turn (R : Res) (F : Nat → Prop) (w w' : World) : Prop := R.is w' (grow F w w') ∧ Fr F w w'

/-- Two things side by side. -/
def Res.star (R S : Res) : Res where
  is w F := ∃ F1 F2, R.is w F1 ∧ S.is w F2 ∧ (∀ k, F1 k → ¬ F2 k) ∧ (∀ k, F1 k → F k) ∧ (∀ k, F2 k → F k) ∧ ∀ k, F k → k < w.heap.size
  lt _ _ := fun ⟨_, _, _, _, _, _, _, h⟩ => h
  keep w w' F := fun ⟨F1, F2, h1, h2, h3, h4, h5, h6⟩ hs hk => ⟨F1, F2, R.keep w w' F1 h1 hs (fun k f => hk k (h4 k f)), S.keep w w' F2 h2 hs (fun k f => hk k (h5 k f)), h3, h4, h5, fun k f => Nat.lt_of_lt_of_le (h6 k f) hs⟩

theorem Res.star_comm {R S : Res} {w : World} {F : Nat → Prop} (h : (R.star S).is w F) : (S.star R).is w F := by
  obtain ⟨F1, F2, h1, h2, h3, h4, h5, h6⟩ := h
  exact ⟨F2, F1, h2, h1, fun k f g => h3 k g f, h5, h4, h6⟩

/-- The second thing doesn't mind what becomes of the first. -/
theorem Res.star_turn {R S : Res} {w : World} {F : Nat → Prop} (h : (R.star S).is w F) : ∃ F1, R.is w F1 ∧ ∀ R' w', Turn R' F1 w w' → Turn (R'.star S) F w w' := by
  obtain ⟨F1, F2, h1, h2, h3, h4, h5, h6⟩ := h
  refine ⟨F1, h1, fun R' w' ⟨t1, t2⟩ => ⟨⟨grow F1 w w', F2, t1, ?_, ?_, ?_, fun k f => .inl (h5 k f), ?_⟩, t2.mono h4⟩⟩
  · exact S.keep w w' F2 h2 t2.size (fun k f => t2.block k (S.lt w F2 h2 k f) (fun g => h3 k g f))
  · intro k f g
    rcases f with f | f
    · exact h3 k f g
    · have := S.lt w F2 h2 k g
      omega
  · intro k f
    rcases f with f | f
    · exact .inl (h4 k f)
    · exact .inr f
  · intro k f
    rcases f with f | f
    · exact Nat.lt_of_lt_of_le (h6 k f) t2.size
    · exact f.2

/-- A thing that is there, all of it from block B on. -/
def Has (B : Nat) (R : Res) (w : World) : Prop := ∃ F, R.is w F ∧ ∀ k, F k → B ≤ k

section
variable {B : Nat} {R S : Res} {w w' : World}
theorem Has.below (h : Has B R w) (hb : Below w.heap.size w w') : Has B R w' := by
  obtain ⟨F, h1, h2⟩ := h
  exact ⟨F, R.keep w w' F h1 hb.size (fun k f => hb.block k (R.lt w F h1 k f)), h2⟩

theorem Has.turn (h : Has B R w) (hB : B ≤ w.heap.size) : ∃ F, R.is w F ∧ ∀ R' w', Turn R' F w w' → Has B R' w' ∧ Below B w w' := by
  obtain ⟨F, h1, h2⟩ := h
  refine ⟨F, h1, fun R' w' ⟨t1, t2⟩ => ⟨⟨_, t1, fun k f => ?_⟩, t2.below hB h2⟩⟩
  rcases f with f | f
  · exact h2 k f
  · omega

theorem Has.comm (h : Has B (R.star S) w) : Has B (S.star R) w := by
  obtain ⟨F, h1, h2⟩ := h
  exact ⟨F, Res.star_comm h1, h2⟩

/-- What turns the first thing. -/
theorem Has.turn1 (h : Has B (R.star S) w) (hB : B ≤ w.heap.size) : ∃ F, R.is w F ∧ ∀ R' w', Turn R' F w w' → Has B (R'.star S) w' ∧ Below B w w' := by
  obtain ⟨F, h1, h2⟩ := h.turn hB
  obtain ⟨F1, h3, h4⟩ := Res.star_turn h1
  exact ⟨F1, h3, fun R' w' t => h2 _ _ (h4 R' w' t)⟩

theorem Has.fst (h : Has B (R.star S) w) : Has B R w := by
  obtain ⟨F, ⟨F1, F2, h1, h2, h3, h4, h5, h6⟩, h7⟩ := h
  exact ⟨F1, h1, fun k f => h7 k (h4 k f)⟩
theorem Has.snd (h : Has B (R.star S) w) : Has B S w := h.comm.fst
theorem Has.ex (h : Has B R w) : ∃ F, R.is w F := ⟨h.choose, h.choose_spec.1⟩

/-- A new thing beside the old ones. -/
theorem Has.new (h : Has B S w) (hB : B ≤ w.heap.size) (hb : Below w.heap.size w w') (hr : R.is w' (fresh w w')) : Has B (R.star S) w' := by
  obtain ⟨F, h1, h2⟩ := h
  refine ⟨fun k => fresh w w' k ∨ F k, ⟨fresh w w', F, hr, S.keep w w' F h1 hb.size (fun k f => hb.block k (S.lt w F h1 k f)), ?_, fun _ f => .inl f, fun _ f => .inr f, ?_⟩, ?_⟩
  · intro k f g
    have := S.lt w F h1 k g
    have := f.1
    omega
  · intro k f
    rcases f with f | f
    · exact f.2
    · exact Nat.lt_of_lt_of_le (S.lt w F h1 k f) hb.size
  · intro k f
    rcases f with f | f
    · have := f.1
      omega
    · exact h2 k f

/-- A new thing alone. -/
theorem Has.first (hB : B ≤ w.heap.size) (hr : R.is w' (fresh w w')) : Has B R w' := ⟨_, hr, fun k f => by have := f.1; omega⟩

/-- Behind more that makes memory alone. -/
theorem fresh_more {R : Res} {w w1 w2 : World} (h : R.is w1 (fresh w w1)) (hm : ∀ w F G, R.is w F → (∀ k, F k → G k) → (∀ k, G k → k < w.heap.size) → R.is w G) (hb : Below w1.heap.size w1 w2) : R.is w2 (fresh w w2) := by
  have h2 := R.keep w1 w2 _ h hb.size (fun k f => hb.block k f.2)
  have := hb.size
  exact hm w2 _ _ h2 (fun k f => ⟨f.1, by have := f.2; omega⟩) (fun k f => f.2)

theorem Has.assoc {T : Res} (h : Has B ((R.star S).star T) w) : Has B (R.star (S.star T)) w := by
  obtain ⟨F, ⟨F1, F2, ⟨F3, F4, a1, a2, a3, a4, a5, a6⟩, h2, h3, h4, h5, h6⟩, h7⟩ := h
  refine ⟨F, ⟨F3, fun k => F4 k ∨ F2 k, a1, ⟨F4, F2, a2, h2, fun k f => h3 k (a5 k f), fun _ f => .inl f, fun _ f => .inr f, ?_⟩, ?_, fun k f => h4 k (a4 k f), ?_, h6⟩, h7⟩
  · intro k f
    rcases f with f | f
    · exact a6 k (a5 k f)
    · exact h6 k (h5 k f)
  · intro k f g
    rcases g with g | g
    · exact a3 k f g
    · exact h3 k (a4 k f) g
  · intro k f
    rcases f with f | f
    · exact h4 k (a5 k f)
    · exact h5 k f
theorem Has.assoc' {T : Res} (h : Has B (R.star (S.star T)) w) : Has B ((R.star S).star T) w := h.comm.assoc.comm.assoc.comm
end

/-- A row of bytes. -/
def rowOf (e : TypeId) (v : Value) (n : Nat) (l : List Int) : Res where
  is w F := w.ownsRow 0 e 1 v n (l.map (Value.int .u8)) ∧ (∀ k, v.ownBlock = some k → F k) ∧ ∀ k, F k → k < w.heap.size
  lt _ _ := fun h => h.2.2
  keep w w' F := fun h hs hk => by
    refine ⟨?_, h.2.1, fun k f => Nat.lt_of_lt_of_le (h.2.2 k f) hs⟩
    obtain ⟨⟨h1, h2⟩, h3, _⟩ := h
    refine ⟨h1, ?_⟩
    rcases h2 with h2 | ⟨g, cap, cur, hv, hb, hg, r⟩
    · exact .inl h2
    · exact .inr ⟨g, cap, cur, hv, hb, (hk g (h3 g (by rw [hv]; rfl))).trans hg, r⟩

theorem owns_keep {w w' : World} {base : Nat} {e : TypeId} {size : Nat} {v : Value} {n : Nat} {xs : List Value} (h : w.ownsRow base e size v n xs) (hk : ∀ k, v.ownBlock = some k → w'.heap[k]? = w.heap[k]?) : w'.ownsRow base e size v n xs := by
  obtain ⟨h1, h2⟩ := h
  refine ⟨h1, ?_⟩
  rcases h2 with h2 | ⟨g, cap, cur, hv, hb, hg, r⟩
  · exact .inl h2
  · exact .inr ⟨g, cap, cur, hv, hb, (hk g (by rw [hv]; rfl)).trans hg, r⟩

theorem owns_low {w : World} {base base' : Nat} {e : TypeId} {size : Nat} {v : Value} {n : Nat} {xs : List Value} (h : w.ownsRow base e size v n xs) (hb : base' ≤ base) : w.ownsRow base' e size v n xs := by
  obtain ⟨h1, h2⟩ := h
  refine ⟨h1, ?_⟩
  rcases h2 with h2 | ⟨g, cap, cur, hv, hg, r⟩
  · exact .inl h2
  · exact .inr ⟨g, cap, cur, hv, Nat.le_trans hb hg, r⟩

theorem Bk.eq {w w' : World} {g : Nat} {t : TypeId} {cs : Array Value} (h : Bk w g t cs) (hk : w'.heap[g]? = w.heap[g]?) : Bk w' g t cs := hk.trans h
theorem range_none : Array.range 0 = #[] := Array.eq_empty_of_size_eq_zero (by simp)
end Go.Proofs.Ytlchikllgmkokaa
