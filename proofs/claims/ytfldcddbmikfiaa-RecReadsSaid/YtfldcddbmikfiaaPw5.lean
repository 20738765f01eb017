/- What it says: contracts and plain mathematics that the laws' walks use, 5 of 34: each part's own remark says what; no condition. -/
import Derived.Test.YtfldcddbmikfiaaPw1
import Derived.Test.YtfldcddbmikfiaaPw3
import Derived.Test.YtfldcddbmikfiaaPw4
import Derived.Test.YtfldcddbmikfiaaRows
import Derived.Deep.Slices
import Derived.ProofKit
import Derived.OpenShut
import Derived.SizedLaws

set_option linter.unusedSimpArgs false
set_option linter.unusedVariables false
set_option linter.deprecated false
set_option linter.unusedSectionVars false
set_option linter.all false

/- seal.Read lays a reader in new memory; Left, Err, End; a nil reader's methods. -/
namespace Go.Proofs.Ytfldcddbmikfiaa
open Go.RowKit

/-- Behind the end: what End makes of a reader's error. -/
def endE (l : List Int) (e : Nat) : Nat := if e = 0 ∧ 0 < l.length then 13 else e

theorem rErr_any (b g : Nat) (l : List Int) (e0 : Nat) (w : World) (h : Rd w 93 b g l e0) :
    Calls Try.prog 33 #[.pointer (some ⟨b, 0, none⟩)] w (fun e w' => e = .returned (.int .i64 e0) ∧ w = w') := by
  obtain ⟨A, n, c, _, _, h1, _⟩ := h.byt
  clear h
  go_enter Try.func33, Try.ntmps33
  go_wp2_with fail
  go_ret
  exact ⟨rfl, rfl⟩

set_option maxHeartbeats 1000000 in
theorem rEnd_any (b g : Nat) (l : List Int) (e0 : Nat) (w : World) (h : Rd w 93 b g l e0) :
    Calls Try.prog 35 #[.pointer (some ⟨b, 0, none⟩)] w (RdPost 93 b g l (endE l e0) (.int .i64 (endE l e0)) w) := by
  have hf : w.frozen? ⟨b, 1, none⟩ = false := by obtain ⟨A, n, c, h1, _⟩ := h.ex; exact h1.frz 1
  obtain ⟨A, n, c, _, h0, h1, hn⟩ := h.byt
  have H := Lib.hid h
  have HN := Lib.hid hn
  clear h hn
  by_cases he : e0 = 0
  · subst he
    by_cases hl : 0 < n
    · have hl' : (0 : Int) < (n : Int) := by omega
      have E : Hid (endE l 0 = 13) := Lib.hid (if_pos ⟨rfl, by have := HN.out; omega⟩)
      have R := H.out.fail 0 13
      have R := Lib.hid R
      clear hl
      go_enter Try.func35, Try.ntmps35
      go_wp2_with fail
      go_ret
      rw [E.out]
      exact ⟨rfl, R.out⟩
    · have hl' : ¬ (0 : Int) < (n : Int) := by omega
      have E : Hid (endE l 0 = 0) := Lib.hid (if_neg (by have := HN.out; omega))
      clear hl
      go_enter Try.func35, Try.ntmps35
      go_wp2_with fail
      go_ret
      rw [E.out]
      exact ⟨rfl, H.out, grown_drewN w 0 _⟩
  · have hne : ((e0 : Int) == 0) = false := by simp; omega
    have E : Hid (endE l e0 = e0) := Lib.hid (if_neg (by omega))
    clear he
    go_enter Try.func35, Try.ntmps35
    go_wp2_with fail
    go_ret
    rw [E.out]
    exact ⟨rfl, H.out, grown_drewN w 0 _⟩

/-- A new struct of a slice and a number is a reader. -/
theorem Rd.new {w1 : World} (t : TypeId) {A : Option Addr} {n c : Nat} {l : List Int} (h : Byt w1 A n c l) (h0 : 0 < w1.heap.size) : ∃ g, g < w1.heap.size ∧ Rd (w1.alloc (.cells #[.slice A n c, .int .i64 0] t)) t w1.heap.size g l 0 := by
  by_cases hn : 0 < n
  · obtain ⟨g, off, rfl, hc⟩ := h.at_ hn
    have hg : g < w1.heap.size := World.block_lt_of_cell? w1 _ (hc 0 hn)
    exact ⟨g, hg, by omega, _, n, c, Bk.new _ _ _, h.alloc _, fun _ a ha => by injection ha with ha; rw [← ha]⟩
  · exact ⟨0, h0, by omega, A, n, c, Bk.new _ _ _, h.alloc _, fun h => absurd h hn⟩

set_option maxHeartbeats 1000000 in
theorem read_any (A : Option Addr) (n c : Nat) (l : List Int) (w : World) (h : Byt w A n c l) (hn : n ≤ 140737488355328) (h0 : 0 < w.heap.size) :
    Calls Try.prog 31 #[.slice A n c] w (fun e w' => ∃ b g, e = .returned (.pointer (some ⟨b, 0, none⟩)) ∧ w.heap.size ≤ b ∧ g < b ∧ Rd w' 93 b g l 0 ∧ Below w.heap.size w w') := by
  have C := Lib.hid (clone_all A n c l w h hn)
  clear h
  go_enter Try.func31, Try.ntmps31
  go_wp2_with fail
  refine C.out.mono ?_
  rintro e w1 ⟨A1, n1, c1, rfl, hb, b1⟩
  obtain ⟨g, hg, R⟩ := Rd.new 93 hb (by have := b1.size; omega)
  have R := Lib.hid R
  have G := Lib.hid hg
  have L := Lib.hid b1
  clear hb b1 hg
  go_wp2_with fail
  go_ret
  exact ⟨w1.heap.size, g, rfl, L.out.size, G.out, R.out, L.out.alloc L.out.size _⟩

/-- The same, and that the bytes lie in new memory. -/
theorem read_own (A : Option Addr) (n c : Nat) (l : List Int) (w : World) (h : Byt w A n c l) (hn : n ≤ 140737488355328) (h0 : 0 < l.length) :
    Calls Try.prog 31 #[.slice A n c] w (fun e w' => ∃ b g, e = .returned (.pointer (some ⟨b, 0, none⟩)) ∧ w.heap.size ≤ b ∧ w.heap.size ≤ g ∧ g < b ∧ Rd w' 93 b g l 0 ∧ Below w.heap.size w w') := by
  have C := Lib.hid (clone_all_own A n c l w h hn)
  clear h
  go_enter Try.func31, Try.ntmps31
  go_wp2_with fail
  refine C.out.mono ?_
  rintro e w1 ⟨A1, n1, c1, rfl, ho, hr, b1⟩
  have hb := Byt.of_own ho hr
  have hl1 : n1 = l.length := hb.len.symm
  obtain ⟨g, hg, hgl, R⟩ : ∃ g, w.heap.size ≤ g ∧ g < w1.heap.size ∧ Rd (w1.alloc (.cells #[.slice A1 n1 c1, .int .i64 0] 93)) 93 w1.heap.size g l 0 := by
    obtain ⟨g, off, rfl, hc⟩ := hb.at_ (by omega)
    have hlt := ho.lt g rfl
    exact ⟨g, hlt.1, hlt.2, by omega, _, n1, c1, Bk.new _ _ _, hb.alloc _, fun _ a ha => by injection ha with ha; rw [← ha]⟩
  have R := Lib.hid R
  have G := Lib.hid (And.intro hg hgl)
  have L := Lib.hid b1
  clear ho hr hb b1 hg hgl hl1
  go_wp2_with fail
  go_ret
  exact ⟨w1.heap.size, g, rfl, L.out.size, G.out.1, G.out.2, R.out, L.out.alloc L.out.size _⟩

theorem rNum_nil (most : Int) (w : World) :
    Calls Try.prog 67 #[.pointer none, .int .i64 most] w (Ret (.int .i64 0) w) := by
  go_enter Try.func67, Try.ntmps67
  go_wp2_with fail
  refine (takeInt_nil _ _).mono ?_
  rintro e w1 ⟨rfl, rfl⟩
  go_wp2_with fail
  go_ret
  exact ⟨rfl, (Below.refl _ _).alloc (Nat.le_refl _) _⟩

theorem rText_nil (most : Int) (w : World) :
    Calls Try.prog 92 #[.pointer none, .int .i64 most] w (Ret (.string ByteArray.empty) w) := by
  go_enter Try.func92, Try.ntmps92
  go_wp2_with fail
  refine (takeStr_nil _ _).mono ?_
  rintro e w1 ⟨rfl, rfl⟩
  go_wp2_with fail
  go_ret
  exact ⟨rfl, (Below.refl _ _).alloc (Nat.le_refl _) _⟩

theorem rFlag_nil (w : World) :
    Calls Try.prog 94 #[.pointer none] w (Ret (.bool false) w) := by
  go_enter Try.func94, Try.ntmps94
  go_wp2_with fail
  refine (takeBool_nil _).mono ?_
  rintro e w1 ⟨rfl, rfl⟩
  go_wp2_with fail
  go_ret
  exact ⟨rfl, Below.refl _ _⟩

theorem rErr_nil (w : World) : Calls Try.prog 33 #[.pointer none] w (Ret (.int .i64 2) w) := by
  go_enter Try.func33, Try.ntmps33
  go_wp2_with fail
  go_ret
  exact ⟨rfl, Below.refl _ _⟩

theorem rEnd_nil (w : World) : Calls Try.prog 35 #[.pointer none] w (Ret (.int .i64 2) w) := by
  go_enter Try.func35, Try.ntmps35
  go_wp2_with fail
  go_ret
  exact ⟨rfl, Below.refl _ _⟩
end Go.Proofs.Ytfldcddbmikfiaa

/- which blocks a call may turn; things in memory, each with the blocks that are its own; two such things side by side. No program is named; no condition. -/
namespace Go.Proofs.Ytfldcddbmikfiaa
open Go.RowKit

/-- From w to w' no old block is turned but those of F. -/
structure Fr (F : Nat → Prop) (w w' : World) : Prop where
  os : w'.os = w.os
  tape : w'.tape = w.tape
  output : w'.output = w.output
  size : w.heap.size ≤ w'.heap.size
  block : ∀ k, k < w.heap.size → ¬ F k → w'.heap[k]? = w.heap[k]?

/-- F, and what is new. -/
def grow (F : Nat → Prop) (w w' : World) : Nat → Prop := fun k => F k ∨ (w.heap.size ≤ k ∧ k < w'.heap.size)
/-- What is new. -/
def fresh (w w' : World) : Nat → Prop := fun k => w.heap.size ≤ k ∧ k < w'.heap.size

section
variable {F G : Nat → Prop} {w w1 w2 : World}
theorem Fr.refl (F : Nat → Prop) (w : World) : Fr F w w := ⟨rfl, rfl, rfl, Nat.le_refl _, fun _ _ _ => rfl⟩
theorem Fr.trans (h : Fr F w w1) (k : Fr (grow F w w1) w1 w2) : Fr F w w2 :=
  ⟨k.os.trans h.os, k.tape.trans h.tape, k.output.trans h.output, Nat.le_trans h.size k.size, fun i hi hn => (k.block i (Nat.lt_of_lt_of_le hi h.size) (fun g => by
    rcases g with g | g
    · exact hn g
    · omega)).trans (h.block i hi hn)⟩
theorem Fr.mono (h : Fr F w w1) (hFG : ∀ k, F k → G k) : Fr G w w1 := ⟨h.os, h.tape, h.output, h.size, fun k hk hn => h.block k hk (fun f => hn (hFG k f))⟩
theorem Fr.then (h : Fr F w w1) (k : Fr F w1 w2) : Fr F w w2 := h.trans (k.mono fun _ f => .inl f)
theorem Fr.of_below (h : Below w.heap.size w w1) : Fr F w w1 := ⟨h.os, h.tape, h.output, h.size, fun k hk _ => h.block k hk⟩
theorem Fr.below {B : Nat} (h : Fr F w w1) (hB : B ≤ w.heap.size) (hF : ∀ k, F k → B ≤ k) : Below B w w1 :=
  ⟨h.os, h.tape, h.output, h.size, fun k hk => h.block k (by omega) (fun f => by have := hF k f; omega)⟩
theorem Fr.setCell (h : Fr F w w1) {a : Addr} (ha : F a.block) (u : Value) : Fr F w (w1.setCell a u) :=
  ⟨h.os, h.tape, h.output, by simpa [World.setCell] using h.size, fun k hk hn => (Below.heap_setCell w1 a u k (fun e => hn (e ▸ ha))).trans (h.block k hk hn)⟩
theorem Fr.grown (h : Fr F w w1) {row : Option Nat} (hg : w1.grownBy w2 row) (hr : ∀ k, row = some k → F k ∨ w.heap.size ≤ k) : Fr F w w2 :=
  h.trans ⟨hg.os, hg.tape, hg.output, hg.size, fun k hk hn => hg.block k hk (fun e => by
    rcases hr k e.symm with h | h
    · exact hn (.inl h)
    · exact hn (.inr ⟨h, hk⟩))⟩
theorem Fr.alloc (h : Fr F w w1) (o : Obj) : Fr F w (w1.alloc o) := h.grown (row := none) (World.grownBy_alloc w1 o none) (fun _ e => nomatch e)
theorem Fr.drewN (h : Fr F w w1) (n : Nat) : Fr F w (w1.drewN n) := ⟨h.os, h.tape, h.output, h.size, h.block⟩
theorem Fr.cell1 (w : World) (b i : Nat) (u : Value) : Fr (fun k => k = b) w (w.setCell ⟨b, i, none⟩ u) := Fr.setCell (a := ⟨b, i, none⟩) (Fr.refl (fun k => k = b) w) (show (fun k => k = b) b from rfl) u
theorem Fr.grow_of_below {F : Nat → Prop} {w w' : World} {k : Nat} (h : F k) : grow F w w' k := .inl h
end

/-- A thing in memory: what holds of it in a world where the blocks F are its own. -/
structure Res where
  is : World → (Nat → Prop) → Prop
  lt : ∀ w F, is w F → ∀ k, F k → k < w.heap.size
  keep : ∀ w w' F, is w F → w.heap.size ≤ w'.heap.size → (∀ k, F k → w'.heap[k]? = w.heap[k]?) → is w' F

/-- R has become R'; nothing else is turned. -/
def Turn (R : Res) (F : Nat → Prop) (w w' : World) : Prop := R.is w' (grow F w w') ∧ Fr F w w'

/-- Two things side by side. -/
def Res.star (R S : Res) : Res where
  is w F := ∃ F1 F2, R.is w F1 ∧ S.is w F2 ∧ (∀ k, F1 k → ¬ F2 k) ∧ (∀ k, F1 k → F k) ∧ (∀ k, F2 k → F k) ∧ ∀ k, F k → k < w.heap.size
  lt _ _ := fun ⟨_, _, _, _, _, _, _, h⟩ => h
  keep w w' F := fun ⟨F1, F2, h1, h2, h3, h4, h5, h6⟩ hs hk => ⟨F1, F2, R.keep w w' F1 h1 hs (fun k f => hk k (h4 k f)), S.keep w w' F2 h2 hs (fun k f => hk k (h5 k f)), h3, h4, h5, fun k f => Nat.lt_of_lt_of_le (h6 k f) hs⟩

theorem Res.star_comm {R S : Res} {w : World} {F : Nat → Prop} (h : (R.star S).is w F) : (S.star R).is w F := by
  obtain ⟨F1, F2, h1, h2, h3, h4, h5, h6⟩ := h
  exact ⟨F2, F1, h2, h1, fun k f g => h3 k g f, h5, h4, h6⟩

/-- The second thing doesn't mind what becomes of the first. -/
theorem Res.star_turn {R S : Res} {w : World} {F : Nat → Prop} (h : (R.star S).is w F) : ∃ F1, R.is w F1 ∧ ∀ R' w', Turn R' F1 w w' → Turn (R'.star S) F w w' := by
  obtain ⟨F1, F2, h1, h2, h3, h4, h5, h6⟩ := h
  refine ⟨F1, h1, fun R' w' ⟨t1, t2⟩ => ⟨⟨grow F1 w w', F2, t1, ?_, ?_, ?_, fun k f => .inl (h5 k f), ?_⟩, t2.mono h4⟩⟩
  · exact S.keep w w' F2 h2 t2.size (fun k f => t2.block k (S.lt w F2 h2 k f) (fun g => h3 k g f))
  · intro k f g
    rcases f with f | f
    · exact h3 k f g
    · have := S.lt w F2 h2 k g
      omega
  · intro k f
    rcases f with f | f
    · exact .inl (h4 k f)
    · exact .inr f
  · intro k f
    rcases f with f | f
    · exact Nat.lt_of_lt_of_le (h6 k f) t2.size
    · exact f.2

/-- A thing that is there, all of it from block B on. -/
def Has (B : Nat) (R : Res) (w : World) : Prop := ∃ F, R.is w F ∧ ∀ k, F k → B ≤ k

section
variable {B : Nat} {R S : Res} {w w' : World}
theorem Has.below (h : Has B R w) (hb : Below w.heap.size w w') : Has B R w' := by
  obtain ⟨F, h1, h2⟩ := h
  exact ⟨F, R.keep w w' F h1 hb.size (fun k f => hb.block k (R.lt w F h1 k f)), h2⟩

theorem Has.turn (h : Has B R w) (hB : B ≤ w.heap.size) : ∃ F, R.is w F ∧ ∀ R' w', Turn R' F w w' → Has B R' w' ∧ Below B w w' := by
  obtain ⟨F, h1, h2⟩ := h
  refine ⟨F, h1, fun R' w' ⟨t1, t2⟩ => ⟨⟨_, t1, fun k f => ?_⟩, t2.below hB h2⟩⟩
  rcases f with f | f
  · exact h2 k f
  · omega

theorem Has.comm (h : Has B (R.star S) w) : Has B (S.star R) w := by
  obtain ⟨F, h1, h2⟩ := h
  exact ⟨F, Res.star_comm h1, h2⟩

/-- What turns the first thing. -/
theorem Has.turn1 (h : Has B (R.star S) w) (hB : B ≤ w.heap.size) : ∃ F, R.is w F ∧ ∀ R' w', Turn R' F w w' → Has B (R'.star S) w' ∧ Below B w w' := by
  obtain ⟨F, h1, h2⟩ := h.turn hB
  obtain ⟨F1, h3, h4⟩ := Res.star_turn h1
  exact ⟨F1, h3, fun R' w' t => h2 _ _ (h4 R' w' t)⟩

theorem Has.fst (h : Has B (R.star S) w) : Has B R w := by
  obtain ⟨F, ⟨F1, F2, h1, h2, h3, h4, h5, h6⟩, h7⟩ := h
  exact ⟨F1, h1, fun k f => h7 k (h4 k f)⟩
theorem Has.snd (h : Has B (R.star S) w) : Has B S w := h.comm.fst
theorem Has.ex (h : Has B R w) : ∃ F, R.is w F := ⟨h.choose, h.choose_spec.1⟩

/-- A new thing beside the old ones. -/
theorem Has.new (h : Has B S w) (hB : B ≤ w.heap.size) (hb : Below w.heap.size w w') (hr : R.is w' (fresh w w')) : Has B (R.star S) w' := by
  obtain ⟨F, h1, h2⟩ := h
  refine ⟨fun k => fresh w w' k ∨ F k, ⟨fresh w w', F, hr, S.keep w w' F h1 hb.size (fun k f => hb.block k (S.lt w F h1 k f)), ?_, fun _ f => .inl f, fun _ f => .inr f, ?_⟩, ?_⟩
  · intro k f g
    have := S.lt w F h1 k g
    have := f.1
    omega
  · intro k f
    rcases f with f | f
    · exact f.2
    · exact Nat.lt_of_lt_of_le (S.lt w F h1 k f) hb.size
  · intro k f
    rcases f with f | f
    · have := f.1
      omega
    · exact h2 k f

/-- A new thing alone. -/
theorem Has.first (hB : B ≤ w.heap.size) (hr : R.is w' (fresh w w')) : Has B R w' := ⟨_, hr, fun k f => by have := f.1; omega⟩

/-- Behind more that makes memory alone. -/
theorem fresh_more {R : Res} {w w1 w2 : World} (h : R.is w1 (fresh w w1)) (hm : ∀ w F G, R.is w F → (∀ k, F k → G k) → (∀ k, G k → k < w.heap.size) → R.is w G) (hb : Below w1.heap.size w1 w2) : R.is w2 (fresh w w2) := by
  have h2 := R.keep w1 w2 _ h hb.size (fun k f => hb.block k f.2)
  have := hb.size
  exact hm w2 _ _ h2 (fun k f => ⟨f.1, by have := f.2; omega⟩) (fun k f => f.2)

theorem Has.assoc {T : Res} (h : Has B ((R.star S).star T) w) : Has B (R.star (S.star T)) w := by
  obtain ⟨F, ⟨F1, F2, ⟨F3, F4, a1, a2, a3, a4, a5, a6⟩, h2, h3, h4, h5, h6⟩, h7⟩ := h
  refine ⟨F, ⟨F3, fun k => F4 k ∨ F2 k, a1, ⟨F4, F2, a2, h2, fun k f => h3 k (a5 k f), fun _ f => .inl f, fun _ f => .inr f, ?_⟩, ?_, fun k f => h4 k (a4 k f), ?_, h6⟩, h7⟩
  · intro k f
    rcases f with f | f
    · exact a6 k (a5 k f)
    · exact h6 k (h5 k f)
  · intro k f g
    rcases g with g | g
    · exact a3 k f g
    · exact h3 k (a4 k f) g
  · intro k f
    rcases f with f | f
    · exact h4 k (a5 k f)
    · exact h5 k f
theorem Has.assoc' {T : Res} (h : Has B (R.star (S.star T)) w) : Has B ((R.star S).star T) w := h.comm.assoc.comm.assoc.comm
end

/-- A row of bytes. -/
def rowOf (e : TypeId) (v : Value) (n : Nat) (l : List Int) : Res where
  is w F := w.ownsRow 0 e 1 v n (l.map (Value.int .u8)) ∧ (∀ k, v.ownBlock = some k → F k) ∧ ∀ k, F k → k < w.heap.size
  lt _ _ := fun h => h.2.2
  keep w w' F := fun h hs hk => by
    refine ⟨?_, h.2.1, fun k f => Nat.lt_of_lt_of_le (h.2.2 k f) hs⟩
    obtain ⟨⟨h1, h2⟩, h3, _⟩ := h
    refine ⟨h1, ?_⟩
    rcases h2 with h2 | ⟨g, cap, cur, hv, hb, hg, r⟩
    · exact .inl h2
    · exact .inr ⟨g, cap, cur, hv, hb, (hk g (h3 g (by rw [hv]; rfl))).trans hg, r⟩

theorem owns_keep {w w' : World} {base : Nat} {e : TypeId} {size : Nat} {v : Value} {n : Nat} {xs : List Value} (h : w.ownsRow base e size v n xs) (hk : ∀ k, v.ownBlock = some k → w'.heap[k]? = w.heap[k]?) : w'.ownsRow base e size v n xs := by
  obtain ⟨h1, h2⟩ := h
  refine ⟨h1, ?_⟩
  rcases h2 with h2 | ⟨g, cap, cur, hv, hb, hg, r⟩
  · exact .inl h2
  · exact .inr ⟨g, cap, cur, hv, hb, (hk g (by rw [hv]; rfl)).trans hg, r⟩

theorem owns_low {w : World} {base base' : Nat} {e : TypeId} {size : Nat} {v : Value} {n : Nat} {xs : List Value} (h : w.ownsRow base e size v n xs) (hb : base' ≤ base) : w.ownsRow base' e size v n xs := by
  obtain ⟨h1, h2⟩ := h
  refine ⟨h1, ?_⟩
  rcases h2 with h2 | ⟨g, cap, cur, hv, hg, r⟩
  · exact .inl h2
  · exact .inr ⟨g, cap, cur, hv, Nat.le_trans hb hg, r⟩

theorem Bk.eq {w w' : World} {g : Nat} {t : TypeId} {cs : Array Value} (h : Bk w g t cs) (hk : w'.heap[g]? = w.heap[g]?) : Bk w' g t cs := hk.trans h
theorem range_none : Array.range 0 = #[] := Array.eq_empty_of_size_eq_zero (by simp)
end Go.Proofs.Ytfldcddbmikfiaa

/- the blocks that a pass may turn are known by their types; all others stand; a pass in memory, with the writer, or the reader, behind it; what a writer's methods turn. -/
namespace Go.Proofs.Ytfldcddbmikfiaa
open Go.RowKit

/-- Types of blocks that a pass turns. -/
def spT (t : TypeId) : Bool := t == 5 || t == 71 || t == 86 || t == 93
def special (w : World) (k : Nat) : Prop := ∃ cs t fr, w.heap[k]? = some (.cells cs t fr) ∧ spT t = true
def plainAt (w : World) (k : Nat) : Prop := ∃ cs t fr, w.heap[k]? = some (.cells cs t fr) ∧ spT t = false
theorem plain_not_special {w : World} {k : Nat} (h : plainAt w k) : ¬ special w k := by
  rintro ⟨cs, t, fr, h1, h2⟩
  obtain ⟨cs', t', fr', h3, h4⟩ := h
  rw [h1] at h3
  injection h3 with h3
  injection h3 with _ e _
  rw [e, h4] at h2
  cases h2

/-- From w to w' all stands that lies below H, or is none of a pass's blocks. -/
structure Calm (H : Nat) (w w' : World) : Prop where
  os : w'.os = w.os
  tape : w'.tape = w.tape
  output : w'.output = w.output
  size : w.heap.size ≤ w'.heap.size
  block : ∀ k, k < w.heap.size → (k < H ∨ plainAt w k) → w'.heap[k]? = w.heap[k]?

section
variable {H : Nat} {w w1 w2 : World}
theorem Calm.refl (H : Nat) (w : World) : Calm H w w := ⟨rfl, rfl, rfl, Nat.le_refl _, fun _ _ _ => rfl⟩
theorem Calm.trans (h : Calm H w w1) (k : Calm H w1 w2) : Calm H w w2 :=
  ⟨k.os.trans h.os, k.tape.trans h.tape, k.output.trans h.output, Nat.le_trans h.size k.size, fun i hi hp => by
    have e := h.block i hi hp
    refine (k.block i (Nat.lt_of_lt_of_le hi h.size) ?_).trans e
    rcases hp with hp | ⟨cs, t, fr, h1, h2⟩
    · exact .inl hp
    · exact .inr ⟨cs, t, fr, e.trans h1, h2⟩⟩
theorem Calm.of_below (h : Below w.heap.size w w1) : Calm H w w1 := ⟨h.os, h.tape, h.output, h.size, fun k hk _ => h.block k hk⟩
theorem Calm.below (h : Calm H w w1) (hH : H ≤ w.heap.size) : Below H w w1 := ⟨h.os, h.tape, h.output, h.size, fun k hk => h.block k (by omega) (.inl hk)⟩
theorem Calm.grown {row : Option Nat} (hg : w.grownBy w1 row) (hr : ∀ k, row = some k → H ≤ k ∧ special w k) : Calm H w w1 :=
  ⟨hg.os, hg.tape, hg.output, hg.size, fun k hk hp => hg.block k hk (fun e => by
    obtain ⟨h1, h2⟩ := hr k e.symm
    rcases hp with hp | hp
    · omega
    · exact plain_not_special hp h2)⟩
theorem Calm.alloc (h : Calm H w w1) (o : Obj) : Calm H w (w1.alloc o) := h.trans (Calm.of_below ((Below.refl _ _).alloc (Nat.le_refl _) o))
theorem Calm.drewN (h : Calm H w w1) (n : Nat) : Calm H w (w1.drewN n) := ⟨h.os, h.tape, h.output, h.size, h.block⟩
/-- A block that a pass leaves alone. -/
def stab (H : Nat) (w : World) (k : Nat) : Prop := k < w.heap.size ∧ (k < H ∨ plainAt w k)
theorem Calm.same (h : Calm H w w1) {k : Nat} (hs : stab H w k) : w1.heap[k]? = w.heap[k]? := h.block k hs.1 hs.2
theorem stab.calm (h : Calm H w w1) {k : Nat} (hs : stab H w k) : stab H w1 k := by
  refine ⟨Nat.lt_of_lt_of_le hs.1 h.size, ?_⟩
  rcases hs.2 with hp | ⟨cs, t, fr, h1, h2⟩
  · exact .inl hp
  · exact .inr ⟨cs, t, fr, (h.same hs).trans h1, h2⟩
theorem Calm.cell (h : Calm H w w1) {p : Addr} (hs : stab H w p.block) : w1.cell? p = w.cell? p := World.cell?_of_block (h.same hs)
theorem Bk.plain {g : Nat} {t : TypeId} {cs : Array Value} (h : Bk w g t cs) (ht : spT t = false) : plainAt w g := ⟨cs, t, (0, 0), h, ht⟩
theorem Bk.stab {g : Nat} {t : TypeId} {cs : Array Value} (h : Bk w g t cs) (ht : spT t = false) : stab H w g := ⟨h.lt, .inr (h.plain ht)⟩
theorem Bk.calm {g : Nat} {t : TypeId} {cs : Array Value} (h : Bk w g t cs) (ht : spT t = false) (hc : Calm H w w1) : Bk w1 g t cs := (hc.same (h.stab ht)).trans h
theorem Bk.special {g : Nat} {t : TypeId} {cs : Array Value} (h : Bk w g t cs) (ht : spT t = true) : special w g := ⟨cs, t, (0, 0), h, ht⟩

/-- All of a pass's blocks stand. -/
structure Keeps (w w' : World) : Prop where
  size : w.heap.size ≤ w'.heap.size
  block : ∀ k, special w k → w'.heap[k]? = w.heap[k]?
theorem special.lt {k : Nat} (h : special w k) : k < w.heap.size := by
  obtain ⟨cs, t, fr, h1, _⟩ := h
  exact (Array.getElem?_eq_some_iff.1 h1).1
theorem Keeps.of_below (h : Below w.heap.size w w1) : Keeps w w1 := ⟨h.size, fun k hk => h.block k hk.lt⟩
theorem Keeps.refl (w : World) : Keeps w w := ⟨Nat.le_refl _, fun _ _ => rfl⟩
theorem Keeps.trans (h : Keeps w w1) (k : Keeps w1 w2) : Keeps w w2 := ⟨Nat.le_trans h.size k.size, fun i hi => by
  have e := h.block i hi
  refine (k.block i ?_).trans e
  obtain ⟨cs, t, fr, h1, h2⟩ := hi
  exact ⟨cs, t, fr, e.trans h1, h2⟩⟩
theorem Keeps.grown {g : Nat} (hg : w.grownBy w1 (some g)) (hp : plainAt w g) : Keeps w w1 := ⟨hg.size, fun k hk => hg.block k hk.lt (fun e => by
  injection e with e
  subst e
  exact plain_not_special hp hk)⟩
theorem Keeps.drewN (w : World) (n : Nat) : Keeps w (w.drewN n) := ⟨Nat.le_refl _, fun _ _ => rfl⟩

theorem own_special {base : Nat} {A : Option Addr} {n c k : Nat} {xs : List Value} (h : w.ownsRow base 5 1 (.slice A n c) n xs) (hk : Value.ownBlock (.slice A n c) = some k) : base ≤ k ∧ special w k := by
  rcases h.2 with ⟨hv, _⟩ | ⟨g, cap, cur, hv, hb, hg, _⟩
  · injection hv with e1
    subst e1
    simp [Value.ownBlock] at hk
  · injection hv with e1
    subst e1
    simp [Value.ownBlock] at hk
    subst hk
    exact ⟨hb, cur, _, _, hg, rfl⟩

theorem Wrt.keeps {base b : Nat} {l : List Int} (h : Wrt w base b l) (hk : Keeps w w1) : Wrt w1 base b l := by
  obtain ⟨A, n, c, h1, h2⟩ := h.ex
  exact ⟨h.low, h.rng, A, n, c, (hk.block b (h1.special rfl)).trans h1, owns_keep h2 (fun k hk' => hk.block k (own_special h2 hk').2)⟩

/-- A reader whose bytes lie in a block of bytes. -/
structure Rdt (w : World) (b g : Nat) (l : List Int) (e : Nat) : Prop where
  rd : Rd w 93 b g l e
  ty : 0 < l.length → special w g
theorem Rdt.keeps {b g : Nat} {l : List Int} {e : Nat} (h : Rdt w b g l e) (hk : Keeps w w1) : Rdt w1 b g l e := by
  obtain ⟨A, n, c, h1, h2, h3⟩ := h.rd.ex
  have sg : ∀ k, special w k → special w1 k := fun k ⟨cs, t, fr, a, b⟩ => ⟨cs, t, fr, (hk.block k ⟨cs, t, fr, a, b⟩).trans a, b⟩
  refine ⟨⟨h.rd.ne, A, n, c, (hk.block b (h1.special rfl)).trans h1, ⟨h2.len, h2.cap, h2.max, h2.rng, h2.nil_, fun hn => ?_⟩, h3⟩, fun hl => sg g (h.ty hl)⟩
  obtain ⟨g', off, e', hc⟩ := h2.at_ hn
  have e2 : g' = g := h3 hn _ e'
  subst e2
  refine ⟨g', off, e', fun i hi => ?_⟩
  rw [World.cell?_of_block (w := w) (w' := w1) (a := ⟨g', off + i, none⟩) (hk.block g' (h.ty (by rw [h2.len]; exact hn)))]
  exact hc i hi

/-- A pass at block pb: where it stands, and whether something was wrong. -/
def Pst (H : Nat) (w : World) (pb : Nat) (s : Ps) (wr : Bool) : Prop :=
  match s with
  | .out l B => ∃ wb m, (H ≤ pb ∧ wb + 1 = pb) ∧ Bk w pb 71 #[.pointer (some ⟨wb, 0, none⟩), .pointer none, .bool wr] ∧ Wrt w H wb m ∧ m.length ≤ B ∧ (wr = false → m = l)
  | .inp σ => ∃ rb g, H ≤ pb ∧ Bk w pb 71 #[.pointer none, .pointer (some ⟨rb, 0, none⟩), .bool wr] ∧ H ≤ rb ∧ Rdt w rb g σ.1 σ.2
theorem Pst.keeps {pb : Nat} {s : Ps} {wr : Bool} (h : Pst H w pb s wr) (hk : Keeps w w1) : Pst H w1 pb s wr := by
  cases s with
  | out l B =>
    obtain ⟨wb, m, h1, h2, h3, h4⟩ := h
    exact ⟨wb, m, h1, (hk.block pb (h2.special rfl)).trans h2, h3.keeps hk, h4⟩
  | inp σ =>
    obtain ⟨rb, g, h1, h2, h3, h4⟩ := h
    exact ⟨rb, g, h1, (hk.block pb (h2.special rfl)).trans h2, h3, h4.keeps hk⟩
theorem Pst.le {pb : Nat} {s t : Ps} {wr : Bool} (h : Pst H w pb s wr) (hl : s.le t) : Pst H w pb t wr := by
  cases s with
  | out l B =>
    cases t with
    | out l' B' =>
      obtain ⟨rfl, hB⟩ := hl
      obtain ⟨wb, m, h1, h2, h3, h4, h5⟩ := h
      exact ⟨wb, m, h1, h2, h3, by omega, h5⟩
    | inp σ => exact hl.elim
  | inp σ =>
    cases t with
    | out l' B' => exact hl.elim
    | inp σ' =>
      have e : σ = σ' := hl
      subst e
      exact h
theorem Pst.low {pb : Nat} {s : Ps} {wr : Bool} (h : Pst H w pb s wr) : H ≤ w.heap.size := by
  cases s with
  | out l B =>
    obtain ⟨wb, m, h1, h2, _⟩ := h
    have := h2.lt; omega
  | inp σ =>
    obtain ⟨rb, g, h1, h2, _⟩ := h
    have := h2.lt; omega
theorem Pst.mono {pb : Nat} {l : List Int} {B B' : Nat} {wr : Bool} (h : Pst H w pb (.out l B) wr) (hB : B ≤ B') : Pst H w pb (.out l B') wr := h.le ⟨rfl, hB⟩
end

/-- No block is turned but b and rows of bytes. -/
def Only (b : Nat) (w w' : World) : Prop := ∀ k cs t fr, w.heap[k]? = some (.cells cs t fr) → t ≠ 5 → k ≠ b → w'.heap[k]? = some (.cells cs t fr)
/-- What a writer's method leaves. -/
def RetC (H b : Nat) (l : List Int) (w : World) (e : Ending) (w' : World) : Prop := e = .returned (.tuple #[]) ∧ Wrt w' H b l ∧ Calm H w w' ∧ Only b w w'
theorem RetC.snd {H b : Nat} {l : List Int} {w w1 w2 : World} {e : Ending} (h : Below w.heap.size w w1) (k : RetC H b l w1 e w2) : RetC H b l w e w2 :=
  ⟨k.1, k.2.1, (Calm.of_below h).trans k.2.2.1, fun i cs t fr hi ht hb => k.2.2.2 i cs t fr ((h.block i (Array.getElem?_eq_some_iff.1 hi).1).trans hi) ht hb⟩
theorem RetC.then {H b : Nat} {l l1 : List Int} {w w1 w2 : World} {e e1 : Ending} (h : RetC H b l1 w e1 w1) (k : RetC H b l w1 e w2) : RetC H b l w e w2 :=
  ⟨k.1, k.2.1, h.2.2.1.trans k.2.2.1, fun i cs t fr hi ht hb => k.2.2.2 i cs t fr (h.2.2.2 i cs t fr hi ht hb) ht hb⟩

theorem put_endC {base b : Nat} {l m : List Int} {w w1 : World} {A A' : Option Addr} {n c n' c' : Nat} (hlow : base ≤ b) (hb : Bk w b 86 #[.slice A n c]) (hbz : base ≤ w.heap.size)
    (ho : w.ownsRow base 5 1 (.slice A n c) n (l.map (Value.int .u8))) (hl : ∀ x ∈ l, 0 ≤ x ∧ x < 256) (hm : ∀ x ∈ m, 0 ≤ x ∧ x < 256)
    (h1 : w1.ownsRow base 5 1 (.slice A' n' c') n' (l.map (Value.int .u8) ++ m.map (Value.int .u8))) (h2 : w.grownBy w1 (Value.ownBlock (.slice A n c))) :
    RetC base b (l ++ m) w (.returned (.tuple #[])) (w1.setCell ⟨b, 0, none⟩ (.slice A' n' c')) := by
  obtain ⟨e, hw, _⟩ := put_end hlow hb hbz ho hl hm h1 h2
  refine ⟨e, hw, ?_⟩
  have hb1 : Bk w1 b 86 #[.slice A n c] := (h2.block b hb.lt (fun e => apart_row (by decide) hb ho e.symm)).trans hb
  have c1 : Calm base w w1 := Calm.grown h2 (fun k hk => own_special ho hk)
  refine ⟨c1.trans (Calm.grown (grown_set w1 b 0 _) (fun k hk => by injection hk with hk; subst hk; exact ⟨hlow, hb1.special rfl⟩)), fun i cs t fr hi ht hib => ?_⟩
  have e1 : w1.heap[i]? = w.heap[i]? := h2.block i (Array.getElem?_eq_some_iff.1 hi).1 (fun q => by
    rcases ho.2 with ⟨hv, _⟩ | ⟨g, cap, cur, hv, _, hg, _⟩
    · injection hv with a
      subst a
      simp [Value.ownBlock] at q
    · injection hv with a
      subst a
      simp [Value.ownBlock] at q
      subst q
      rw [hi] at hg
      injection hg with hg
      injection hg with _ a
      exact ht a)
  exact (((grown_set w1 b 0 (.slice A' n' c')).block i (Array.getElem?_eq_some_iff.1 (e1.trans hi)).1 (fun q => by injection q with q; exact hib q)).trans e1).trans hi

set_option maxHeartbeats 1000000 in
theorem put_calm (base b : Nat) (l m : List Int) (A : Option Addr) (n c : Nat) (w : World) (h : Wrt w base b l) (hm : Byt w A n c m) (hn : l.length + n ≤ 140737488355328) :
    Calls Try.prog 90 #[.pointer (some ⟨b, 0, none⟩), .slice A n c] w (RetC base b (l ++ m) w) := by
  obtain ⟨i0, hi, hz0, hz1, hz2⟩ := info_parts info_u8
  obtain ⟨A0, n0, c0, hb, ho⟩ := h.ex
  have hl0 : l.length = n0 := by simpa using ho.1
  have hcell : w.cell? ⟨b, 0, none⟩ = some (.slice A0 n0 c0) := hb.cell 0
  have hbz : base ≤ w.heap.size := by have := hb.lt; have := h.low; omega
  have HE := fun A' n' c' w1 h1 h2 => @put_endC base b l m w w1 A0 A' n0 c0 n' c' h.low hb hbz ho h.rng hm.rng h1 h2
  have HC := fun w1 h2 => @put_cell base b l w w1 A0 n0 c0 hb ho h2
  have HE := Lib.hid HE
  have HC := Lib.hid HC
  have HO := Lib.hid ho
  clear h hb ho
  go_enter Try.func90, Try.ntmps90
  go_wp2_with (at_builtin; refine wpList_append_byt rfl _ _ 33 rfl base 5 i0 Try.underlying33 hi hz0 hz1 hz2 _ n0 l rfl (by exact HO.out) A n c m rfl hm (by omega) hbz ?_)
  intro A' c' w1 h1 h2
  obtain ⟨hc1, hf1⟩ := HC.out w1 h2
  have R := Lib.hid (HE.out _ _ _ w1 h1 h2)
  clear h1 h2 hcell hm HC HE
  go_wp2
  go_end0
  exact R.out

set_option maxHeartbeats 1000000 in
theorem wNum_calm (base b : Nat) (l : List Int) (n : Int) (w : World) (h : Wrt w base b l) (h0 : 0 ≤ n) (hn : n ≤ 9223372036854775807) (hl : l.length ≤ 140737488350000) :
    Calls Try.prog 69 #[.pointer (some ⟨b, 0, none⟩), .int .i64 n] w (RetC base b (l ++ numL n) w) := by
  have go : ∀ z : Nat, z ≤ 9223372036854775807 → ∀ (A : Option Addr) (k c : Nat) (w1 : World), Byt w1 A k c (shortL z) → Below w.heap.size w w1 → Calls Try.prog 90 #[.pointer (some ⟨b, 0, none⟩), .slice A k c] w1 (RetC base b (l ++ shortL z) w) := by
    intro z hz A k c w1 hb hbel
    have hk : k ≤ 10 := by rw [← hb.len]; exact shortL_len z (by omega)
    exact (put_calm base b l (shortL z) A k c w1 (h.ret hbel) hb (by omega)).mono fun e w2 hr => hr.snd hbel
  have GO := Lib.hid go
  clear go h
  obtain ⟨z, rfl⟩ := Int.eq_ofNat_of_zero_le h0
  rw [numL_nat]
  have hz := hn
  clear hn h0
  go_enter Try.func69, Try.ntmps69
  go_wp2_with fail
  refine (numShort_any z (by omega) w).mono ?_
  rintro e w1 ⟨A, k, c, rfl, hb, hbel⟩
  have C := Lib.hid (GO.out z (by omega) A k c w1 hb hbel)
  clear hb hbel
  go_wp2_with fail
  refine C.out.mono ?_
  rintro e w2 ⟨rfl, R⟩
  have R := Lib.hid R
  go_wp2_with fail
  go_end0
  exact ⟨rfl, R.out⟩

theorem put_oneC {w : World} {base b : Nat} {l : List Int} (h : Wrt w base b l) (x : Int) (hx : 0 ≤ x ∧ x < 256) (hl : l.length ≤ 140737488350000) :
    Calls Try.prog 90 #[.pointer (some ⟨b, 0, none⟩), .slice (some ⟨w.heap.size, 0, none⟩) 1 1] (w.alloc (.cells #[.int .u8 x] 5)) (RetC base b (l ++ [x]) w) :=
  (put_calm base b l [x] _ 1 1 _ (h.ret ((Below.refl _ _).alloc (Nat.le_refl _) _)) (one_byt w x hx) (by omega)).mono fun e w2 hr => hr.snd ((Below.refl _ _).alloc (Nat.le_refl _) _)

set_option maxHeartbeats 1000000 in
theorem wFlag_calm (base b : Nat) (l : List Int) (is : Bool) (w : World) (h : Wrt w base b l) (hl : l.length ≤ 140737488350000) :
    Calls Try.prog 95 #[.pointer (some ⟨b, 0, none⟩), .bool is] w (RetC base b (l ++ flagL is) w) := by
  cases is with
  | true =>
    have C : Hid _ := Lib.hid (put_oneC h 1 (by omega) hl)
    clear h
    go_enter Try.func95, Try.ntmps95
    go_wp2_with fail
    refine C.out.mono ?_
    rintro e w2 ⟨rfl, R⟩
    have R := Lib.hid R
    go_wp2_with fail
    go_end0
    exact ⟨rfl, R.out⟩
  | false =>
    have C : Hid _ := Lib.hid (put_oneC h 0 (by omega) hl)
    clear h
    go_enter Try.func95, Try.ntmps95
    go_wp2_with fail
    refine C.out.mono ?_
    rintro e w2 ⟨rfl, R⟩
    have R := Lib.hid R
    go_wp2_with fail
    go_end0
    exact ⟨rfl, R.out⟩

set_option maxHeartbeats 1000000 in
theorem wText_calm (base b : Nat) (l : List Int) (s : ByteArray) (w : World) (h : Wrt w base b l) (hs : l.length + s.size ≤ 140737488350000) :
    Calls Try.prog 93 #[.pointer (some ⟨b, 0, none⟩), .string s] w (RetC base b (l ++ textL (nums s)) w) := by
  have go : ∀ w1, RetC base b (l ++ numL (s.size : Int)) w (.returned (.tuple #[])) w1 → Calls Try.prog 90 #[.pointer (some ⟨b, 0, none⟩), .slice (some ⟨w1.heap.size, 0, none⟩) s.size (grownCap w1 s.size 0 5)] (Lib.bytesWorld w1 5 s) (RetC base b (l ++ textL (nums s)) w) := by
    intro w1 hr
    have hlen : (numL (s.size : Int)).length ≤ 10 := numL_len _ (by omega)
    have hb := bytesWorld_below w1 5 s
    have := put_calm base b (l ++ numL (s.size : Int)) (nums s) _ _ _ _ (hr.2.1.ret hb) (Byt.ofString w1 5 s (by unfold maxLen; omega)) (by simp; omega)
    refine this.mono fun e w2 h2 => ?_
    have h3 := RetC.then hr (RetC.snd hb h2)
    rw [List.append_assoc, numL_nat] at h3
    unfold textL
    rw [nums_len]
    exact h3
  have GO := Lib.hid go
  have CN := Lib.hid (wNum_calm base b l (s.size : Int) w h (by omega) (by omega) (by omega))
  have kc := conv_str
  clear go h
  go_enter Try.func93, Try.ntmps93
  go_wp2_with fail
  refine CN.out.mono ?_
  rintro e w1 ⟨rfl, R⟩
  have C := Lib.hid (GO.out w1 ⟨rfl, R⟩)
  clear R
  go_wp2_with fail
  refine C.out.mono ?_
  rintro e w2 ⟨rfl, R⟩
  have R := Lib.hid R
  go_wp2_with fail
  go_end0
  exact ⟨rfl, R.out⟩
end Go.Proofs.Ytfldcddbmikfiaa

/- a pass's expect, and its steps: a number, a text, a flag, how many. -/
namespace Go.Proofs.Ytfldcddbmikfiaa
open Go.RowKit

def i64 (z : Int) : Prop := -9223372036854775808 ≤ z ∧ z ≤ 9223372036854775807

/-- What a step of a pass leaves. -/
def RetV {α : Type} (S : Spc α) (V : World → Value → α → Prop) (x : α) (H pb : Nat) (s : Ps) (wr : Bool) (w : World) (e : Ending) (w' : World) : Prop :=
  ∃ v y s' wr', e = .returned v ∧ V w' v y ∧ Goes S x s wr y s' wr' ∧ Pst H w' pb s' wr' ∧ Calm H w w'
def VI (_ : World) (v : Value) (y : Int) : Prop := v = .int .i64 y ∧ i64 y
def VS (_ : World) (v : Value) (y : ByteArray) : Prop := v = .string y ∧ 0 ≤ y.size
def VB (_ : World) (v : Value) (y : Bool) : Prop := v = .bool y

def numS (least most : Int) : Spc Int := ⟨pNum 1099511627776, numL, fun z => least ≤ z ∧ z ≤ most, id, 10⟩
def textSp (least most : Int) : Spc ByteArray := ⟨pText 32, fun s => textL (nums s), fun s => least ≤ (s.size : Int) ∧ (s.size : Int) ≤ most, id, 60⟩
def flagSp : Spc Bool := ⟨pFlag, flagL, fun _ => True, id, 1⟩

section
variable {H pb : Nat} {w : World}
theorem Pst.ptrs {s : Ps} {wr : Bool} (h : Pst H w pb s wr) : w.cell? ⟨pb, 2, none⟩ = some (.bool wr) ∧ w.frozen? ⟨pb, 2, none⟩ = false := by
  cases s with
  | out l B => obtain ⟨wb, m, h1, h2, _⟩ := h; exact ⟨h2.cell 2, h2.frz 2⟩
  | inp σ => obtain ⟨rb, g, h1, h2, _⟩ := h; exact ⟨h2.cell 2, h2.frz 2⟩
theorem rdt_ne {t t' : TypeId} {b : Nat} {cs : Array Value} (hne : t ≠ t') (h : Bk w pb t cs) {cs' : Array Value} (k : Bk w b t' cs') : pb ≠ b := by
  intro e
  subst e
  unfold Bk at h k
  rw [h] at k
  injection k with k
  injection k with _ e2
  exact hne e2
theorem Pst.flag {s : Ps} {wr : Bool} (h : Pst H w pb s wr) (wr' : Bool) (hw : wr' = false → wr = false) : Pst H (w.setCell ⟨pb, 2, none⟩ (.bool wr')) pb s wr' ∧ Calm H w (w.setCell ⟨pb, 2, none⟩ (.bool wr')) := by
  have hg := grown_set w pb 2 (.bool wr')
  cases s with
  | out l B =>
    obtain ⟨wb, m, h1, h2, h3, h4, h5⟩ := h
    refine ⟨⟨wb, m, h1, by have := h2.setc 2 (.bool wr'); simpa using this, ?_, h4, fun e => h5 (hw e)⟩, Calm.grown hg (fun k hk => by injection hk with hk; subst hk; exact ⟨h1.1, h2.special rfl⟩)⟩
    obtain ⟨A, n, c, k1, k2⟩ := h3.ex
    refine ⟨h3.low, h3.rng, A, n, c, (hg.block wb k1.lt (fun e => by injection e with e; exact rdt_ne (by decide) h2 k1 e.symm)).trans k1, ?_⟩
    exact owns_keep k2 (fun k hk => hg.block k (own_special k2 hk).2.lt (fun e => by
      injection e with e
      subst e
      exact apart_row (by decide) h2 k2 hk))
  | inp σ =>
    obtain ⟨rb, g, h1, h2, h3, h4⟩ := h
    refine ⟨⟨rb, g, h1, by have := h2.setc 2 (.bool wr'); simpa using this, h3, ?_⟩, Calm.grown hg (fun k hk => by injection hk with hk; subst hk; exact ⟨h1, h2.special rfl⟩)⟩
    obtain ⟨A, n, c, k1, k2, k3⟩ := h4.rd.ex
    have hne : rb ≠ pb := fun e => rdt_ne (by decide) h2 k1 e.symm
    have hgne : 0 < σ.1.length → some g ≠ some pb := fun hl e => by
      injection e with e
      subst e
      obtain ⟨g', off, e', hc⟩ := k2.at_ (by rw [← k2.len]; exact hl)
      have e2 : g' = g := k3 (by rw [← k2.len]; exact hl) _ e'
      subst e2
      have a := hc 0 (by rw [← k2.len]; exact hl)
      rw [h2.cell] at a
      match off, a with
      | 0, a => simp at a
      | 1, a => simp at a
      | 2, a => simp at a
      | n + 3, a => simp at a
    refine ⟨⟨h4.rd.ne, A, n, c, (hg.block rb k1.lt (fun e => by injection e with e; exact hne e)).trans k1, k2.grown hg (fun hn a ha => by rw [k3 hn a ha]; exact hgne (by rw [k2.len]; exact hn)), k3⟩, fun hl => ?_⟩
    obtain ⟨cs, t, fr, a, b⟩ := h4.ty hl
    exact ⟨cs, t, fr, (hg.block g (Array.getElem?_eq_some_iff.1 a).1 (hgne hl)).trans a, b⟩

set_option maxHeartbeats 1000000 in
theorem expect_any (s : Ps) (wr : Bool) (b : Bool) (h : Pst H w pb s wr) :
    Calls Try.prog 68 #[.pointer (some ⟨pb, 0, none⟩), .bool b] w (fun e w' => ∃ wr', e = .returned (.bool (!wr')) ∧ (wr' = false ↔ wr = false ∧ b = true) ∧ Pst H w' pb s wr' ∧ Calm H w w') := by
  obtain ⟨h2, f2⟩ := h.ptrs
  have F := Lib.hid (fun wr' hw => Pst.flag h wr' hw)
  clear h
  cases wr with
  | true =>
    have R := Lib.hid (F.out true (fun e => e))
    clear F
    go_enter Try.func68, Try.ntmps68
    go_wp2_with fail
    go_ret
    exact ⟨true, rfl, by simp, R.out⟩
  | false =>
    have R := Lib.hid (F.out (!b) (fun _ => rfl))
    clear F
    cases b with
    | true =>
      go_enter Try.func68, Try.ntmps68
      go_wp2_with fail
      go_ret
      exact ⟨false, rfl, by simp, R.out⟩
    | false =>
      go_enter Try.func68, Try.ntmps68
      go_wp2_with fail
      go_ret
      exact ⟨true, rfl, by simp, R.out⟩

/-- What is read, as a codec's reading. -/
theorem pPrim_val {α : Type} (F : List Int → α × Nat × Nat) (z : α) (l : List Int) (e : Nat) (mk : α → Value) : stepV (mk z) (mk (F l).1) e (F l).2.2 = mk (pPrim F z (l, e)).1 := by
  unfold stepV pPrim
  simp only
  split
  · rfl
  · split <;> rfl
theorem pPrim_rest {α : Type} (F : List Int → α × Nat × Nat) (z : α) (l : List Int) (e : Nat) : (stepL l (F l).2.1 e (F l).2.2, stepE e (F l).2.2) = (pPrim F z (l, e)).2 := rfl
theorem pPrim_len {α : Type} (F : List Int → α × Nat × Nat) (z : α) (σ : Sg) : (pPrim F z σ).2.1.length ≤ σ.1.length := by
  show (stepL _ _ _ _).length ≤ _
  unfold stepL
  split
  · exact Nat.le_refl _
  · split
    · exact Nat.le_refl _
    · simp
theorem Rdt.step {b g : Nat} {l l' : List Int} {e e' : Nat} {w' : World} (h : Rdt w b g l e) (hr : Rd w' 93 b g l' e') (hg : w.grownBy w' (some b)) (hl : l'.length ≤ l.length) : Rdt w' b g l' e' :=
  ⟨hr, fun h0 => by
    obtain ⟨cs, t, fr, a, b'⟩ := h.ty (by omega)
    exact ⟨cs, t, fr, (hg.block g (Array.getElem?_eq_some_iff.1 a).1 (fun q => by injection q with q; exact h.rd.ne q)).trans a, b'⟩⟩
/-- The reader behind a pass goes on. -/
theorem Pst.reader {σ : Sg} {wr : Bool} (h : Pst H w pb (.inp σ) wr) : ∃ rb g, w.cell? ⟨pb, 1, none⟩ = some (.pointer (some ⟨rb, 0, none⟩)) ∧ Rdt w rb g σ.1 σ.2 ∧
    ∀ (w' : World) (σ' : Sg), Rd w' 93 rb g σ'.1 σ'.2 → w.grownBy w' (some rb) → σ'.1.length ≤ σ.1.length → Pst H w' pb (.inp σ') wr ∧ Calm H w w' := by
  obtain ⟨rb, g, h1, h2, h3, h4⟩ := h
  refine ⟨rb, g, h2.cell 1, h4, fun w' σ' hr hg hl => ?_⟩
  obtain ⟨A, n, c, k1, _⟩ := h4.rd.ex
  have hne : pb ≠ rb := rdt_ne (by decide) h2 k1
  exact ⟨⟨rb, g, h1, (hg.block pb h2.lt (fun e => by injection e with e; exact hne e)).trans h2, h3, h4.step hr hg hl⟩, Calm.grown hg (fun k hk => by injection hk with hk; subst hk; exact ⟨h3, k1.special rfl⟩)⟩
/-- The writer behind a pass gathers more. -/
theorem Pst.writer {l : List Int} {B : Nat} {wr : Bool} (h : Pst H w pb (.out l B) wr) : ∃ wb m, w.cell? ⟨pb, 0, none⟩ = some (.pointer (some ⟨wb, 0, none⟩)) ∧ w.cell? ⟨pb, 1, none⟩ = some (.pointer none) ∧ Wrt w H wb m ∧ m.length ≤ B ∧ (wr = false → m = l) ∧
    ∀ (w' : World) (e : Ending) (x : List Int) (c : Nat), RetC H wb (m ++ x) w e w' → x.length ≤ c → Pst H w' pb (.out (l ++ x) (B + c)) wr ∧ Calm H w w' := by
  obtain ⟨wb, m, h1, h2, h3, h4, h5⟩ := h
  refine ⟨wb, m, h2.cell 0, h2.cell 1, h3, h4, h5, fun w' e x c hc hx => ⟨⟨wb, m ++ x, h1, ?_, hc.2.1, by rw [List.length_append]; omega, fun e => by rw [h5 e]⟩, hc.2.2.1⟩⟩
  obtain ⟨A, n, c', k1, _⟩ := h3.ex
  exact hc.2.2.2 pb _ _ _ h2 (by decide) (rdt_ne (by decide) h2 k1)
theorem Pst.bytes {l : List Int} {B : Nat} (h : Pst H w pb (.out l B) false) : Wrt w H (pb - 1) l ∧ l.length ≤ B := by
  obtain ⟨wb, m, h1, h2, h3, h4, h5⟩ := h
  obtain rfl := h5 rfl
  obtain rfl : wb = pb - 1 := by omega
  exact ⟨h3, h4⟩
end
end Go.Proofs.Ytfldcddbmikfiaa

/- a slice of ints that came in: what it reads as. -/
namespace Go.Proofs.Ytfldcddbmikfiaa
open Go.ChangeShapes Go.WideShapes Go.ChangeAt Go.RowKit

/-- The slice reads as these ints. -/
structure Nts (w : World) (A : Option Addr) (n c : Nat) (l : List Int) : Prop where
  len : l.length = n
  cap : n ≤ c
  max : c ≤ maxLen
  rng : ∀ i, i < n → -9223372036854775808 ≤ l.getD i 0 ∧ l.getD i 0 ≤ 9223372036854775807
  at_ : 0 < n → ∃ g off, A = some ⟨g, off, none⟩ ∧ ∀ i, i < n → w.cell? ⟨g, off + i, none⟩ = some (.int .i64 (l.getD i 0))

theorem Nts.below {w w' : World} {A : Option Addr} {n c : Nat} {l : List Int} (h : Nts w A n c l) (hb : Below w.heap.size w w') : Nts w' A n c l :=
  ⟨h.len, h.cap, h.max, h.rng, fun hn => by
    obtain ⟨g, off, e, hc⟩ := h.at_ hn
    exact ⟨g, off, e, fun i hi => (hb.cell (World.block_lt_of_cell? w _ (hc i hi))).trans (hc i hi)⟩⟩

theorem cells_int : Try.prog.cellsOf 3 = 1 := by kernel_rfl

theorem wf_i64 {x : Int} (h : (Lit.int .i64 x).wf = true) : -9223372036854775808 ≤ x ∧ x ≤ 9223372036854775807 := by
  simp [Lit.wf, IntKind.min, IntKind.max, IntKind.signed, IntKind.bits] at h
  exact ⟨by omega, by omega⟩

theorem open_i64s {H : Type} {enc : TypeId × Value → H} {W : World} {a : Option Addr} {n c : Nat} {d : DataW H} {p : List MemPlace} (h : DataW.Trod enc Try.prog W 0 (fun _ => true) true 24 (.slice a n c) d p) :
    ∃ l, Nts W a n c l := by
  obtain ⟨fuel, hf⟩ := h
  rcases open_ints Try.underlying24 Try.underlying3 cells_int hf with ⟨hcs, _⟩ | ⟨x, len, cap, zs, hcs, _, hl, hm, hz, hx, hcell, hwz⟩
  · simp [Value.cells] at hcs
    obtain ⟨rfl, rfl, rfl⟩ := hcs
    exact ⟨[], rfl, Nat.le_refl _, Nat.zero_le _, fun i hi => absurd hi (by omega), fun h => absurd h (by omega)⟩
  · simp [Value.cells] at hcs
    obtain ⟨rfl, rfl, rfl⟩ := hcs
    have hzl : zs.length = c := by simpa using hz
    have hget : ∀ i, i < n → (zs.take n).getD i 0 = zs.getD i 0 := fun i hi => by simp [List.getD, hi]
    refine ⟨zs.take n, by simp; omega, hl, hm, fun i hi => ?_, fun hn => ?_⟩
    · rw [hget i hi]
      have hi' : i < zs.length := by omega
      have e : zs.getD i 0 = zs[i] := by simp [List.getD, List.getElem?_eq_getElem hi']
      rw [e]
      exact wf_i64 (hwz _ (List.getElem_mem hi'))
    obtain ⟨g, off, spot⟩ := x
    have hspot : spot = none := by simpa [Addr.add] using World.cell?_spot (hcell 0 (by omega))
    subst hspot
    refine ⟨g, off, rfl, fun i hi => ?_⟩
    have h1 := hcell i (by omega)
    have hadd : (⟨g, off, none⟩ : Addr).add i = ⟨g, off + i, none⟩ := by unfold Addr.add; split <;> simp_all
    rw [hadd] at h1
    rw [h1, hget i hi]
end Go.Proofs.Ytfldcddbmikfiaa

/- slices of locks, rows, dirty pages and deeds as they lie in memory (stage 7): what they read as, and that they go on reading so behind what is new. -/
namespace Go.Proofs.Ytfldcddbmikfiaa
open Go.RowKit

/-- Element number i of a slice whose elements take 'size' cells: these values. -/
def Cellsy (w : World) (A : Option Addr) (n size : Nat) (cells : Nat → List Value) : Prop :=
  0 < n → ∃ g off, A = some ⟨g, off, none⟩ ∧ ∀ i, i < n → ∀ j v, (cells i)[j]? = some v → w.cell? ⟨g, off + i * size + j, none⟩ = some v
theorem Cellsy.below {w w' : World} {A : Option Addr} {n size : Nat} {cells : Nat → List Value} (h : Cellsy w A n size cells) (hb : Below w.heap.size w w') : Cellsy w' A n size cells := fun hn => by
  obtain ⟨g, off, e, hc⟩ := h hn
  exact ⟨g, off, e, fun i hi j v hv => (hb.cell (World.block_lt_of_cell? w _ (hc i hi j v hv))).trans (hc i hi j v hv)⟩

/-- A slice of locks. -/
structure Lks (w : World) (A : Option Addr) (n c : Nat) (l : List Lk) : Prop where
  len : l.length = n
  cap : n ≤ c
  max : c ≤ maxLen
  nil_ : A = none → n = 0 ∧ c = 0
  at_ : Cellsy w A n 2 (fun i => [.string (l.getD i default).key, .bool (l.getD i default).x])
theorem Lks.below {w w' : World} {A : Option Addr} {n c : Nat} {l : List Lk} (h : Lks w A n c l) (hb : Below w.heap.size w w') : Lks w' A n c l := ⟨h.len, h.cap, h.max, h.nil_, h.at_.below hb⟩

/-- A slice of dirty pages. -/
structure Dts (w : World) (A : Option Addr) (n c : Nat) (l : List Dt) : Prop where
  len : l.length = n
  cap : n ≤ c
  max : c ≤ maxLen
  nil_ : A = none → n = 0 ∧ c = 0
  at_ : Cellsy w A n 2 (fun i => [.int .i64 (l.getD i default).page, .int .i64 (l.getD i default).lsn])
theorem Dts.below {w w' : World} {A : Option Addr} {n c : Nat} {l : List Dt} (h : Dts w A n c l) (hb : Below w.heap.size w w') : Dts w' A n c l := ⟨h.len, h.cap, h.max, h.nil_, h.at_.below hb⟩

/-- A row as it lies in memory. -/
structure Xw where
  tx : Int
  st : Int
  fi : Int
  la : Int
  un : Int
  co : Int
  mA : Option Addr
  mn : Nat
  mc : Nat
  mem : List Int
  kA : Option Addr
  kn : Nat
  kc : Nat
  lks : List Lk
instance : Inhabited Xw := ⟨⟨0, 0, 0, 0, 0, 0, none, 0, 0, [], none, 0, 0, []⟩⟩
def Xw.row (x : Xw) : Rw := ⟨x.tx, x.st, x.fi, x.la, x.un, x.co, x.mem, x.lks⟩
def Xw.cells (x : Xw) : List Value := [.int .i64 x.tx, .int .i64 x.st, .int .i64 x.fi, .int .i64 x.la, .int .i64 x.un, .int .i64 x.co, .slice x.mA x.mn x.mc, .slice x.kA x.kn x.kc]
structure Xw.In (w : World) (x : Xw) : Prop where
  tx : -9223372036854775808 ≤ x.tx ∧ x.tx ≤ 9223372036854775807
  st : -9223372036854775808 ≤ x.st ∧ x.st ≤ 9223372036854775807
  fi : -9223372036854775808 ≤ x.fi ∧ x.fi ≤ 9223372036854775807
  la : -9223372036854775808 ≤ x.la ∧ x.la ≤ 9223372036854775807
  un : -9223372036854775808 ≤ x.un ∧ x.un ≤ 9223372036854775807
  co : -9223372036854775808 ≤ x.co ∧ x.co ≤ 9223372036854775807
  mem : Nts w x.mA x.mn x.mc x.mem
  lks : Lks w x.kA x.kn x.kc x.lks
theorem Xw.In.below {w w' : World} {x : Xw} (h : x.In w) (hb : Below w.heap.size w w') : x.In w' := ⟨h.tx, h.st, h.fi, h.la, h.un, h.co, h.mem.below hb, h.lks.below hb⟩
/-- A slice of rows. -/
structure Rws (w : World) (A : Option Addr) (n c : Nat) (l : List Xw) : Prop where
  len : l.length = n
  cap : n ≤ c
  max : c ≤ maxLen
  nil_ : A = none → n = 0 ∧ c = 0
  each : ∀ i, i < n → (l.getD i default).In w
  at_ : Cellsy w A n 8 (fun i => (l.getD i default).cells)
theorem Rws.below {w w' : World} {A : Option Addr} {n c : Nat} {l : List Xw} (h : Rws w A n c l) (hb : Below w.heap.size w w') : Rws w' A n c l := ⟨h.len, h.cap, h.max, h.nil_, fun i hi => (h.each i hi).below hb, h.at_.below hb⟩

/-- A deed as it lies in memory. -/
structure Xd where
  tx : Int
  mA : Option Addr
  mn : Nat
  mc : Nat
  mem : List Int
instance : Inhabited Xd := ⟨⟨0, none, 0, 0, []⟩⟩
def Xd.deed (x : Xd) : Dd := ⟨x.tx, x.mem⟩
def Xd.cells (x : Xd) : List Value := [.int .i64 x.tx, .slice x.mA x.mn x.mc]
structure Xd.In (w : World) (x : Xd) : Prop where
  tx : -9223372036854775808 ≤ x.tx ∧ x.tx ≤ 9223372036854775807
  mem : Nts w x.mA x.mn x.mc x.mem
theorem Xd.In.below {w w' : World} {x : Xd} (h : x.In w) (hb : Below w.heap.size w w') : x.In w' := ⟨h.tx, h.mem.below hb⟩
/-- A slice of deeds. -/
structure Dds (w : World) (A : Option Addr) (n c : Nat) (l : List Xd) : Prop where
  len : l.length = n
  cap : n ≤ c
  max : c ≤ maxLen
  nil_ : A = none → n = 0 ∧ c = 0
  each : ∀ i, i < n → (l.getD i default).In w
  at_ : Cellsy w A n 2 (fun i => (l.getD i default).cells)
theorem Dds.below {w w' : World} {A : Option Addr} {n c : Nat} {l : List Xd} (h : Dds w A n c l) (hb : Below w.heap.size w w') : Dds w' A n c l := ⟨h.len, h.cap, h.max, h.nil_, fun i hi => (h.each i hi).below hb, h.at_.below hb⟩

/-- A record as it lies in memory: its six slices, and what they read as. -/
structure Xr where
  kind : Int
  tx : Int
  prev : Int
  next : Int
  key : ByteArray
  old : Vl
  new : Vl
  co : Int
  mA : Option Addr
  mn : Nat
  mc : Nat
  mem : List Int
  kA : Option Addr
  kn : Nat
  kc : Nat
  lks : List Lk
  rA : Option Addr
  rn : Nat
  rc : Nat
  rows : List Xw
  dA : Option Addr
  dn : Nat
  dc : Nat
  dirty : List Dt
  eA : Option Addr
  en : Nat
  ec : Nat
  deeds : List Xd
  pA : Option Addr
  pn : Nat
  pc : Nat
  past : List Int
def Xr.read (x : Xr) : Rc := ⟨x.kind, x.tx, x.prev, x.next, x.key, x.old, x.new, x.co, x.mem, x.lks, x.rows.map Xw.row, x.dirty, x.deeds.map Xd.deed, x.past⟩
/-- Its value: sixteen cells. -/
def Xr.val (x : Xr) : Value := .agg #[.int .i64 x.kind, .int .i64 x.tx, .int .i64 x.prev, .int .i64 x.next, .string x.key, .bool x.old.has, .string x.old.data, .bool x.new.has, .string x.new.data, .int .i64 x.co, .slice x.mA x.mn x.mc, .slice x.kA x.kn x.kc, .slice x.rA x.rn x.rc, .slice x.dA x.dn x.dc, .slice x.eA x.en x.ec, .slice x.pA x.pn x.pc]
structure Xr.In (w : World) (x : Xr) : Prop where
  kind : -9223372036854775808 ≤ x.kind ∧ x.kind ≤ 9223372036854775807
  tx : -9223372036854775808 ≤ x.tx ∧ x.tx ≤ 9223372036854775807
  prev : -9223372036854775808 ≤ x.prev ∧ x.prev ≤ 9223372036854775807
  next : -9223372036854775808 ≤ x.next ∧ x.next ≤ 9223372036854775807
  co : -9223372036854775808 ≤ x.co ∧ x.co ≤ 9223372036854775807
  mem : Nts w x.mA x.mn x.mc x.mem
  lks : Lks w x.kA x.kn x.kc x.lks
  rows : Rws w x.rA x.rn x.rc x.rows
  dirty : Dts w x.dA x.dn x.dc x.dirty
  deeds : Dds w x.eA x.en x.ec x.deeds
  past : Nts w x.pA x.pn x.pc x.past
theorem Xr.In.below {w w' : World} {x : Xr} (h : x.In w) (hb : Below w.heap.size w w') : x.In w' := ⟨h.kind, h.tx, h.prev, h.next, h.co, h.mem.below hb, h.lks.below hb, h.rows.below hb, h.dirty.below hb, h.deeds.below hb, h.past.below hb⟩
end Go.Proofs.Ytfldcddbmikfiaa
