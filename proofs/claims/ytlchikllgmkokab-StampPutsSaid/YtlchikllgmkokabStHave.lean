/- What it says: what the statements remember of four sectors, and the bytes that are wanted, in memory beside a disk; own2. -/
import Derived.Test.YtlchikllgmkokabHasD
import Derived.Test.YtlchikllgmkokabNtsApp
namespace Go.Proofs.Ytlchikllgmkokab
open Go.RowKit

theorem cell_heap {w w' : World} {g off : Nat} (h : w'.heap[g]? = w.heap[g]?) : w'.cell? ⟨g, off, none⟩ = w.cell? ⟨g, off, none⟩ := by
  simp only [World.cell?, h]

theorem Byt.same {w w' : World} {A : Option Addr} {n c : Nat} {l : List Int} (h : Byt w A n c l) (hk : ∀ a, A = some a → w'.heap[a.block]? = w.heap[a.block]?) : Byt w' A n c l :=
  ⟨h.len, h.cap, h.max, h.rng, h.nil_, fun hn => by
    obtain ⟨g, off, e, hc⟩ := h.at_ hn
    exact ⟨g, off, e, fun i hi => (cell_heap (hk _ e)).trans (hc i hi)⟩⟩

/-- A slice that reads as l, its block one of F. -/
def InF (w : World) (F : Nat → Prop) (v : Value) (l : List Int) : Prop := ∃ A n c, v = .slice A n c ∧ Byt w A n c l ∧ ∀ a, A = some a → F a.block
theorem InF.keep {w w' : World} {F : Nat → Prop} {v : Value} {l : List Int} (h : InF w F v l) (hk : ∀ k, F k → w'.heap[k]? = w.heap[k]?) : InF w' F v l := by
  obtain ⟨A, n, c, e, hb, hf⟩ := h
  exact ⟨A, n, c, e, hb.same (fun a ha => hk _ (hf a ha)), hf⟩
theorem InF.mono {w : World} {F G : Nat → Prop} {v : Value} {l : List Int} (h : InF w F v l) (hk : ∀ k, F k → G k) : InF w G v l := by
  obtain ⟨A, n, c, e, hb, hf⟩ := h
  exact ⟨A, n, c, e, hb, fun a ha => hk _ (hf a ha)⟩

/-- The four that are remembered, and v, which is wanted. -/
structure HvB (w : World) (F : Nat → Prop) (q : Nat) (vs : Nat → Value) (L : Nat → List Int) (v : Value) (l : List Int) : Prop where
  blk : Bk w q 46 #[vs 0, vs 1, vs 2, vs 3]
  each : ∀ n, n < 4 → InF w F (vs n) (L n)
  want : InF w F v l
  fq : F q
  lt : ∀ k, F k → k < w.heap.size

theorem HvB.keep {w w' : World} {F : Nat → Prop} {q : Nat} {vs : Nat → Value} {L : Nat → List Int} {v : Value} {l : List Int} (h : HvB w F q vs L v l) (hs : w.heap.size ≤ w'.heap.size) (hk : ∀ k, F k → w'.heap[k]? = w.heap[k]?) : HvB w' F q vs L v l :=
  ⟨h.blk.eq (hk q h.fq), fun n hn => (h.each n hn).keep hk, h.want.keep hk, h.fq, fun k f => Nat.lt_of_lt_of_le (h.lt k f) hs⟩

/-- The same as a thing. -/
def hav (q : Nat) (L : Nat → List Int) (v : Value) (l : List Int) : Res where
  is w F := ∃ vs, HvB w F q vs L v l
  lt _ _ := fun ⟨_, h⟩ => h.lt
  keep _ _ _ := fun ⟨vs, h⟩ hs hk => ⟨vs, h.keep hs hk⟩

section
variable {w w' : World} {F : Nat → Prop} {q : Nat} {vs : Nat → Value} {L : Nat → List Int} {v : Value} {l : List Int} {B : Nat} {S : Res}

theorem byt_nils (w : World) : InF w F (.slice none 0 0) [] := ⟨none, 0, 0, rfl, Byt.nil w, fun _ h => nomatch h⟩

/-- New, nothing remembered. -/
theorem hav_new (h : Has B S w) (hB : B ≤ w.heap.size) : Has B ((hav w.heap.size (fun _ => []) (.slice none 0 0) []).star S) (w.alloc (.cells #[.slice none 0 0, .slice none 0 0, .slice none 0 0, .slice none 0 0] 46)) :=
  h.new hB ((Below.refl _ _).alloc (Nat.le_refl _) _) ⟨fun _ => .slice none 0 0, ⟨Bk.new w _ _, fun _ _ => byt_nils _, byt_nils _, ⟨Nat.le_refl _, (Bk.new w _ _).lt⟩, fun _ f => f.2⟩⟩

/-- With other lists that are the same. -/
theorem HvB.congr {L' : Nat → List Int} (h : HvB w F q vs L v l) (e : ∀ n, n < 4 → L n = L' n) : HvB w F q vs L' v l :=
  ⟨h.blk, fun n hn => by rw [← e n hn]; exact h.each n hn, h.want, h.fq, h.lt⟩
theorem hav_congr {L' : Nat → List Int} (h : Has B ((hav q L v l).star S) w) (e : ∀ n, n < 4 → L n = L' n) : Has B ((hav q L' v l).star S) w := by
  obtain ⟨F, ⟨F1, F2, ⟨vs, h1⟩, h2, h3⟩, h4⟩ := h
  exact ⟨F, ⟨F1, F2, ⟨vs, h1.congr e⟩, h2, h3⟩, h4⟩

/-- What is wanted is new. -/
theorem hav_want {A : Option Addr} {n c : Nat} {e : TypeId} {l' : List Int} (h : Has B ((hav q L v l).star S) w) (hB : B ≤ w.heap.size) (hb : Below w.heap.size w w') (ho : w'.ownsRow w.heap.size e 1 (.slice A n c) n (l'.map (Value.int .u8))) (hr : ∀ x ∈ l', 0 ≤ x ∧ x < 256) : Has B ((hav q L (.slice A n c) l').star S) w' := by
  obtain ⟨F0, hF0, hF0B⟩ := h
  obtain ⟨F1, F2, ⟨vs, h1⟩, h2, h3, h4, h5, h6⟩ := hF0
  have hlt1 : ∀ k, F1 k → k < w.heap.size := h1.lt
  have hlt2 : ∀ k, F2 k → k < w.heap.size := S.lt w F2 h2
  have hk1 := h1.keep hb.size (fun k f => hb.block k (hlt1 k f))
  refine ⟨fun k => F0 k ∨ fresh w w' k, ⟨fun k => F1 k ∨ fresh w w' k, F2, ⟨vs, ⟨hk1.blk, fun n hn => (hk1.each n hn).mono fun _ f => .inl f, ⟨A, n, c, rfl, Byt.of_own ho hr, fun a ha => .inr ?_⟩, .inl hk1.fq, fun k f => ?_⟩⟩, S.keep w w' F2 h2 hb.size (fun k f => hb.block k (hlt2 k f)), ?_, ?_, fun k f => .inl (h5 k f), ?_⟩, ?_⟩
  · have := ho.lt a.block (by rw [ha]; rfl)
    exact ⟨this.1, this.2⟩
  · rcases f with f | f
    · exact hk1.lt k f
    · exact f.2
  · intro k f g
    rcases f with f | f
    · exact h3 k f g
    · have := hlt2 k g
      have := f.1
      omega
  · intro k f
    rcases f with f | f
    · exact .inl (h4 k f)
    · exact .inr f
  · intro k f
    rcases f with f | f
    · exact Nat.lt_of_lt_of_le (h6 k f) hb.size
    · exact f.2
  · intro k f
    rcases f with f | f
    · exact hF0B k f
    · have := f.1
      omega

theorem vs_set (vs : Nat → Value) (j : Nat) (hj : j < 4) (u : Value) : (#[vs 0, vs 1, vs 2, vs 3] : Array Value).setIfInBounds j u = #[(fun m => if m = j then u else vs m) 0, (fun m => if m = j then u else vs m) 1, (fun m => if m = j then u else vs m) 2, (fun m => if m = j then u else vs m) 3] := by
  have : j = 0 ∨ j = 1 ∨ j = 2 ∨ j = 3 := by omega
  rcases this with h | h | h | h <;> subst h <;> rfl

/-- A store into number j: of what is wanted, or of nothing. -/
theorem hav_set (h : Has B ((hav q L v l).star S) w) (hB : B ≤ w.heap.size) (j : Nat) (hj : j < 4) (u : Value) (m : List Int) (hu : (u = v ∧ m = l) ∨ (u = .slice none 0 0 ∧ m = [])) :
    Has B ((hav q (fun n => if n = j then m else L n) v l).star S) (w.setCell ⟨q, j, none⟩ u) ∧ Below B w (w.setCell ⟨q, j, none⟩ u) := by
  obtain ⟨F, ⟨vs, h1⟩, hturn⟩ := h.turn1 hB
  have hother : ∀ k, k ≠ q → (w.setCell ⟨q, j, none⟩ u).heap[k]? = w.heap[k]? := fun k hk => Below.heap_setCell w ⟨q, j, none⟩ u k hk
  have hsz : (w.setCell ⟨q, j, none⟩ u).heap.size = w.heap.size := by simp [World.setCell]
  have hbyt : ∀ {v l}, InF w F v l → InF (w.setCell ⟨q, j, none⟩ u) F v l := fun {v' l'} hi => by
    obtain ⟨A, n, c, e, hb, hf⟩ := hi
    refine ⟨A, n, c, e, ⟨hb.len, hb.cap, hb.max, hb.rng, hb.nil_, fun hn => ?_⟩, hf⟩
    obtain ⟨g, off, e1, hc⟩ := hb.at_ hn
    have hgq : g ≠ q := by
      rintro rfl
      have h0 := hc 0 hn
      rw [h1.blk.cell] at h0
      have : ∀ n, n < 4 → ∃ A' n' c', vs n = .slice A' n' c' := fun n hn => by
        obtain ⟨A', n', c', e', _⟩ := h1.each n hn
        exact ⟨A', n', c', e'⟩
      have hlt : off + 0 < 4 := by
        have := (Array.getElem?_eq_some_iff.1 h0).1
        simpa using this
      have : off + 0 = 0 ∨ off + 0 = 1 ∨ off + 0 = 2 ∨ off + 0 = 3 := by omega
      rcases this with q | q | q | q <;> rw [q] at h0
      · obtain ⟨A', n', c', e'⟩ := this 0 (by omega); simp [e'] at h0
      · obtain ⟨A', n', c', e'⟩ := this 1 (by omega); simp [e'] at h0
      · obtain ⟨A', n', c', e'⟩ := this 2 (by omega); simp [e'] at h0
      · obtain ⟨A', n', c', e'⟩ := this 3 (by omega); simp [e'] at h0
    exact ⟨g, off, e1, fun i hi => (cell_heap (hother g hgq)).trans (hc i hi)⟩
  have hum : InF (w.setCell ⟨q, j, none⟩ u) (grow F w (w.setCell ⟨q, j, none⟩ u)) u m := by
    rcases hu with ⟨e1, e2⟩ | ⟨e1, e2⟩
    · subst e1 e2
      exact (hbyt h1.want).mono fun _ f => .inl f
    · subst e1 e2
      exact byt_nils _
  refine hturn _ _ ⟨⟨fun m => if m = j then u else vs m, ⟨?_, fun n hn => ?_, (hbyt h1.want).mono fun _ f => .inl f, .inl h1.fq, fun k f => ?_⟩⟩, Fr.setCell (a := ⟨q, j, none⟩) (Fr.refl _ _) h1.fq u⟩
  · have := h1.blk.setc j u
    rwa [vs_set vs j hj u] at this
  · by_cases e : n = j
    · simp only [if_pos e]
      exact hum
    · simp only [if_neg e]
      exact (hbyt (h1.each n hn)).mono fun _ f => .inl f
  · rcases f with f | f
    · rw [hsz]; exact h1.lt k f
    · exact f.2

/-- What the law reads of it. -/
theorem hav_at (h : Has B ((hav q L v l).star S) w) (j : Nat) (hj : j < 4) : ∃ A n c, w.cell? ⟨q, j, none⟩ = some (.slice A n c) ∧ Byt w A n c (L j) := by
  obtain ⟨F, ⟨vs, h1⟩⟩ := h.fst.ex
  obtain ⟨A, n, c, e, hb, _⟩ := h1.each j hj
  refine ⟨A, n, c, ?_, hb⟩
  rw [h1.blk.cell, ← e]
  have : j = 0 ∨ j = 1 ∨ j = 2 ∨ j = 3 := by omega
  rcases this with q | q | q | q <;> subst q <;> rfl
theorem hav_frz (h : Has B ((hav q L v l).star S) w) (j : Nat) : w.frozen? ⟨q, j, none⟩ = false := by
  obtain ⟨F, ⟨vs, h1⟩⟩ := h.fst.ex
  exact h1.blk.frz j
theorem hav_byt {A : Option Addr} {n c : Nat} (h : Has B ((hav q L (.slice A n c) l).star S) w) : Byt w A n c l := by
  obtain ⟨F, ⟨vs, h1⟩⟩ := h.fst.ex
  obtain ⟨A', n', c', e, hb, _⟩ := h1.want
  injection e with e1 e2 e3
  subst e1 e2 e3
  exact hb
end

/-- A list of ints, in new memory. -/
def RetNts (l : List Int) (n : Nat) (w : World) (e : Ending) (w' : World) : Prop := ∃ A c, e = .returned (.slice A n c) ∧ Nts w' A n c l ∧ Below w.heap.size w w'

set_option maxHeartbeats 1000000 in
theorem own2_any (A : Option Addr) (n c : Nat) (l : List Int) (w : World) (h : Nts w A n c l) (hn : n ≤ 1000000) :
    Calls Try.prog 22 #[.slice A n c] w (RetNts l n w) := by
  obtain ⟨i0, hi, hz0, hz1, hz2⟩ := info_parts info_int
  have hown0 := World.ownsRow_made (base := w.heap.size) (e := 3) (size := 1) w #[] 0 (Nat.le_refl _) (Nat.zero_le _) rfl
  have hbA : Below w.heap.size w (w.alloc (.cells #[] 3)) := (Below.refl _ w).alloc (Nat.le_refl _) _
  go_enter Try.func22, Try.ntmps22
  go_wp2_with (at_builtin; refine wpList_plain rfl (fun K hK => wp_append_nts _ _ 47 rfl w.heap.size 3 i0 Try.underlying47 hi hz0 hz1 hz2 _ 0 [] rfl (by exact hown0) A n c l rfl (h.below hbA) (by omega) (by simp) ?_))
  intro A' c' w' h1 h2
  refine hK _ _ ?_
  (try simp only [Nat.zero_add, List.nil_append] at h1)
  have R : Hid (RetNts l n w (.returned (.slice A' n c')) w') := Lib.hid ⟨A', c', rfl, Nts.of_row h1 h.len h.rng, hbA.grown h2 (by simp) (by intro k hk; simp [Value.ownBlock] at hk; omega)⟩
  clear h1 h2 h hown0 hbA hK
  (try simp only [Nat.zero_add])
  go_wp2_with fail
  go_ret
  exact R.out
end Go.Proofs.Ytlchikllgmkokab
