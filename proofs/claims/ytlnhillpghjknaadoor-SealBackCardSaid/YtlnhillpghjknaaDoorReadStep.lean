/- What it says: a reader behind a pointer; seal.take at its four types as one step of it: the value, the rest, the error. -/
import Derived.Test.YtlnhillpghjknaaDoorReadTake
namespace Go.Proofs.YtlnhillpghjknaaDoor
open Go.RowKit

/-- The reader at block b: what is left (in block g), and the error. -/
structure Rd (w : World) (t : TypeId) (b g : Nat) (l : List Int) (e : Nat) : Prop where
  ne : g ≠ b
  ex : ∃ A n c, Bk w b t #[.slice A n c, .int .i64 e] ∧ Byt w A n c l ∧ (0 < n → ∀ a, A = some a → a.block = g)

theorem Rd.lt {w : World} {t : TypeId} {b g : Nat} {l : List Int} {e : Nat} (h : Rd w t b g l e) : b < w.heap.size := by
  obtain ⟨A, n, c, hb, _⟩ := h.ex
  exact hb.lt

/-- A slice whose block is not written. -/
theorem Byt.grown {w w' : World} {A : Option Addr} {n c : Nat} {l : List Int} {row : Option Nat} (h : Byt w A n c l) (hg : w.grownBy w' row) (hne : 0 < n → ∀ a, A = some a → some a.block ≠ row) : Byt w' A n c l :=
  ⟨h.len, h.cap, h.max, h.rng, h.nil_, fun hn => by
    obtain ⟨g, off, e, hc⟩ := h.at_ hn
    exact ⟨g, off, e, fun i hi => hg.cell (hc i hi) (show some g ≠ row from hne hn ⟨g, off, none⟩ e)⟩⟩

theorem Rd.grown {w w' : World} {t : TypeId} {b g : Nat} {l : List Int} {e : Nat} {row : Option Nat} (h : Rd w t b g l e) (hg : w.grownBy w' row) (hb : some b ≠ row) (hgr : some g ≠ row) : Rd w' t b g l e := by
  obtain ⟨A, n, c, h1, h2, h3⟩ := h.ex
  exact ⟨h.ne, A, n, c, (hg.block b h1.lt hb).trans h1, h2.grown hg (fun hn a ha => by rw [h3 hn a ha]; exact hgr), h3⟩

theorem grown_drewN (w : World) (m : Nat) (row : Option Nat) : w.grownBy (w.drewN m) row := ⟨rfl, rfl, rfl, Nat.le_refl _, fun _ _ _ => rfl⟩
theorem grown_set (w : World) (b k : Nat) (v : Value) : w.grownBy (w.setCell ⟨b, k, none⟩ v) (some b) :=
  ⟨rfl, rfl, rfl, by simp [World.setCell], fun i _ hi => Below.heap_setCell w _ _ i (fun e => hi (by simp [e]))⟩
theorem grown_trans {a b c : World} {row : Option Nat} (h : a.grownBy b row) (k : b.grownBy c row) : a.grownBy c row :=
  ⟨k.os.trans h.os, k.tape.trans h.tape, k.output.trans h.output, Nat.le_trans h.size k.size, fun i hi hr => (k.block i (Nat.lt_of_lt_of_le hi h.size) hr).trans (h.block i hi hr)⟩
theorem grown_below {w w' : World} {row : Option Nat} (h : Below w.heap.size w w') : w.grownBy w' row := ⟨h.os, h.tape, h.output, h.size, fun k hk _ => h.block k hk⟩

/-- What a reader's method leaves. -/
def RdPost (t : TypeId) (b g : Nat) (l : List Int) (e0 : Nat) (v : Value) (w : World) (e : Ending) (w' : World) : Prop := e = .returned v ∧ Rd w' t b g l e0 ∧ w.grownBy w' (some b)

theorem Rd.fail {w : World} {t : TypeId} {b g : Nat} {l : List Int} {e : Nat} (h : Rd w t b g l e) (m er : Nat) : Rd ((w.drewN m).setCell ⟨b, 1, none⟩ (.int .i64 er)) t b g l er ∧ w.grownBy ((w.drewN m).setCell ⟨b, 1, none⟩ (.int .i64 er)) (some b) := by
  have hg := grown_trans (grown_drewN w m (some b)) (grown_set (w.drewN m) b 1 (.int .i64 er))
  obtain ⟨A, n, c, h1, h2, h3⟩ := h.ex
  refine ⟨⟨h.ne, A, n, c, ?_, h2.grown hg (fun hn a ha => by rw [h3 hn a ha]; simpa using h.ne), h3⟩, hg⟩
  have := (h1.drewN m).setc 1 (.int .i64 er)
  simpa using this

theorem Rd.next {w : World} {t : TypeId} {b g : Nat} {l l' : List Int} {e : Nat} (h : Rd w t b g l e) (m : Nat) {B : Option Addr} {k d : Nat} (hb : Byt w B k d l') (hB : 0 < k → ∀ a, B = some a → a.block = g) :
    Rd ((w.drewN m).setCell ⟨b, 0, none⟩ (.slice B k d)) t b g l' e ∧ w.grownBy ((w.drewN m).setCell ⟨b, 0, none⟩ (.slice B k d)) (some b) := by
  have hg := grown_trans (grown_drewN w m (some b)) (grown_set (w.drewN m) b 0 (.slice B k d))
  obtain ⟨A, n, c, h1, h2, h3⟩ := h.ex
  refine ⟨⟨h.ne, B, k, d, ?_, hb.grown hg (fun hk a ha => by rw [hB hk a ha]; simpa using h.ne), hB⟩, hg⟩
  have := (h1.drewN m).setc 0 (.slice B k d)
  simpa using this

/-- Which of both: a reader's value, its rest, its error. -/
def stepV (z v : Value) (e er : Nat) : Value := if e ≠ 0 then z else if er ≠ 0 then z else v
def stepL (l : List Int) (used e er : Nat) : List Int := if e ≠ 0 then l else if er ≠ 0 then l else l.drop used
def stepE (e er : Nat) : Nat := if e ≠ 0 then e else er


theorem takeInt_step (b g : Nat) (q : Addr) (l : List Int) (e0 : Nat) (v : Value) (used er : Nat) (w : World) (h : Rd w 72 b g l e0) (hu : er = 0 → used ≤ l.length)
    (hd : e0 = 0 → ∀ A n c, Byt w A n c l → Calls Tryd.prog 43 #[.slice A n c, .pointer (some q)] w (Dec v used er w)) :
    Calls Tryd.prog 42 #[.pointer (some ⟨b, 0, none⟩), .func (.func 43) #[] #[.pointer (some q)]] w (RdPost 72 b g (stepL l used e0 er) (stepE e0 er) (stepV (.int .i64 0) v e0 er) w) := by
  obtain ⟨A, n, c, h1, h2, h3⟩ := h.ex
  by_cases he : e0 = 0
  · subst he
    have hd := hd rfl A n c h2
    by_cases hr : er = 0
    · subst hr
      obtain ⟨B, k, d, hs, hkn, hb, hB⟩ := cut_lb h2 used (by rw [← h2.len]; exact hu rfl) (used : Int) rfl
      refine (takeInt_ok b q A n c v used w h1 B k d hs hd).mono ?_
      rintro e w' ⟨rfl, m, rfl⟩
      have := h.next m hb (fun hk a ha => by obtain ⟨a', e1, e2⟩ := hB a ha; rw [e2]; exact h3 (by omega) a' e1)
      simp only [stepL, stepE, stepV]
      exact ⟨rfl, this⟩
    · refine (takeInt_fail b q A n c v used er w h1 hr hd).mono ?_
      rintro e w' ⟨rfl, m, rfl⟩
      simp only [stepL, stepE, stepV, if_pos hr, if_neg (show ¬ (0 : Nat) ≠ 0 by simp)]
      exact ⟨rfl, h.fail m er⟩
  · refine (takeInt_err b q A n c e0 w h1 he).mono ?_
    rintro e w' ⟨rfl, rfl⟩
    simp only [stepL, stepE, stepV, if_pos he]
    exact ⟨rfl, h, grown_drewN w 0 _⟩


theorem takeByte_step (b g : Nat) (l : List Int) (e0 : Nat) (v : Value) (used er : Nat) (w : World) (h : Rd w 72 b g l e0) (hu : er = 0 → used ≤ l.length)
    (hd : e0 = 0 → ∀ A n c, Byt w A n c l → Calls Tryd.prog 47 #[.slice A n c] w (Dec v used er w)) :
    Calls Tryd.prog 46 #[.pointer (some ⟨b, 0, none⟩), .func (.func 47) #[] #[]] w (RdPost 72 b g (stepL l used e0 er) (stepE e0 er) (stepV (.int .u8 0) v e0 er) w) := by
  obtain ⟨A, n, c, h1, h2, h3⟩ := h.ex
  by_cases he : e0 = 0
  · subst he
    have hd := hd rfl A n c h2
    by_cases hr : er = 0
    · subst hr
      obtain ⟨B, k, d, hs, hkn, hb, hB⟩ := cut_lb h2 used (by rw [← h2.len]; exact hu rfl) (used : Int) rfl
      refine (takeByte_ok b A n c v used w h1 B k d hs hd).mono ?_
      rintro e w' ⟨rfl, m, rfl⟩
      have := h.next m hb (fun hk a ha => by obtain ⟨a', e1, e2⟩ := hB a ha; rw [e2]; exact h3 (by omega) a' e1)
      simp only [stepL, stepE, stepV]
      exact ⟨rfl, this⟩
    · refine (takeByte_fail b A n c v used er w h1 hr hd).mono ?_
      rintro e w' ⟨rfl, m, rfl⟩
      simp only [stepL, stepE, stepV, if_pos hr, if_neg (show ¬ (0 : Nat) ≠ 0 by simp)]
      exact ⟨rfl, h.fail m er⟩
  · refine (takeByte_err b A n c e0 w h1 he).mono ?_
    rintro e w' ⟨rfl, rfl⟩
    simp only [stepL, stepE, stepV, if_pos he]
    exact ⟨rfl, h, grown_drewN w 0 _⟩


theorem takeBool_step (b g : Nat) (l : List Int) (e0 : Nat) (v : Value) (used er : Nat) (w : World) (h : Rd w 72 b g l e0) (hu : er = 0 → used ≤ l.length)
    (hd : e0 = 0 → ∀ A n c, Byt w A n c l → Calls Tryd.prog 49 #[.slice A n c] w (Dec v used er w)) :
    Calls Tryd.prog 48 #[.pointer (some ⟨b, 0, none⟩), .func (.func 49) #[] #[]] w (RdPost 72 b g (stepL l used e0 er) (stepE e0 er) (stepV (.bool false) v e0 er) w) := by
  obtain ⟨A, n, c, h1, h2, h3⟩ := h.ex
  by_cases he : e0 = 0
  · subst he
    have hd := hd rfl A n c h2
    by_cases hr : er = 0
    · subst hr
      obtain ⟨B, k, d, hs, hkn, hb, hB⟩ := cut_lb h2 used (by rw [← h2.len]; exact hu rfl) (used : Int) rfl
      refine (takeBool_ok b A n c v used w h1 B k d hs hd).mono ?_
      rintro e w' ⟨rfl, m, rfl⟩
      have := h.next m hb (fun hk a ha => by obtain ⟨a', e1, e2⟩ := hB a ha; rw [e2]; exact h3 (by omega) a' e1)
      simp only [stepL, stepE, stepV]
      exact ⟨rfl, this⟩
    · refine (takeBool_fail b A n c v used er w h1 hr hd).mono ?_
      rintro e w' ⟨rfl, m, rfl⟩
      simp only [stepL, stepE, stepV, if_pos hr, if_neg (show ¬ (0 : Nat) ≠ 0 by simp)]
      exact ⟨rfl, h.fail m er⟩
  · refine (takeBool_err b A n c e0 w h1 he).mono ?_
    rintro e w' ⟨rfl, rfl⟩
    simp only [stepL, stepE, stepV, if_pos he]
    exact ⟨rfl, h, grown_drewN w 0 _⟩


theorem takeStr_step (b g : Nat) (q : Addr) (l : List Int) (e0 : Nat) (v : Value) (used er : Nat) (w : World) (h : Rd w 72 b g l e0) (hu : er = 0 → used ≤ l.length)
    (hd : e0 = 0 → ∀ A n c, Byt w A n c l → Calls Tryd.prog 51 #[.slice A n c, .pointer (some q)] w (Dec v used er w)) :
    Calls Tryd.prog 50 #[.pointer (some ⟨b, 0, none⟩), .func (.func 51) #[] #[.pointer (some q)]] w (RdPost 72 b g (stepL l used e0 er) (stepE e0 er) (stepV (.string ByteArray.empty) v e0 er) w) := by
  obtain ⟨A, n, c, h1, h2, h3⟩ := h.ex
  by_cases he : e0 = 0
  · subst he
    have hd := hd rfl A n c h2
    by_cases hr : er = 0
    · subst hr
      obtain ⟨B, k, d, hs, hkn, hb, hB⟩ := cut_lb h2 used (by rw [← h2.len]; exact hu rfl) (used : Int) rfl
      refine (takeStr_ok b q A n c v used w h1 B k d hs hd).mono ?_
      rintro e w' ⟨rfl, m, rfl⟩
      have := h.next m hb (fun hk a ha => by obtain ⟨a', e1, e2⟩ := hB a ha; rw [e2]; exact h3 (by omega) a' e1)
      simp only [stepL, stepE, stepV]
      exact ⟨rfl, this⟩
    · refine (takeStr_fail b q A n c v used er w h1 hr hd).mono ?_
      rintro e w' ⟨rfl, m, rfl⟩
      simp only [stepL, stepE, stepV, if_pos hr, if_neg (show ¬ (0 : Nat) ≠ 0 by simp)]
      exact ⟨rfl, h.fail m er⟩
  · refine (takeStr_err b q A n c e0 w h1 he).mono ?_
    rintro e w' ⟨rfl, rfl⟩
    simp only [stepL, stepE, stepV, if_pos he]
    exact ⟨rfl, h, grown_drewN w 0 _⟩

end Go.Proofs.YtlnhillpghjknaaDoor
