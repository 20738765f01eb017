/- What it says: contracts and plain mathematics that the laws' walks use, 1 of 9: each part's own remark says what; no condition. -/
import Derived.Test.YtfldcddbmikfiaaPw11
import Derived.Test.YtfldcddbmikfiaaPw15
import Derived.Test.YtfldcddbmikfiaaPw21
import Derived.Test.YtfldcddbmikfiaaPw26
import Derived.Test.YtfldcddbmikfiaaPw3
import Derived.Test.YtfldcddbmikfiaaPw4
import Derived.Test.YtfldcddbmikfiaaPw5
import Derived.Test.YtfldcddbmikfiaaPw7
import Derived.Deep.RegionHeld3
import Derived.WalkMore
import Derived.LoopTactic
import Derived.Laws.Tables

set_option linter.unusedSimpArgs false
set_option linter.unusedVariables false
set_option linter.deprecated false
set_option linter.unusedSectionVars false
set_option linter.all false

/- the methods of trothref03.Reader step as seal.Reader's do; trothref03.Open answers what seal.Open answers. -/
namespace Go.Proofs.Ytfldcddbmikfiaa
open Go.RowKit

set_option maxHeartbeats 1000000 in
theorem mNum_any (b g : Nat) (l : List Int) (e0 : Nat) (most : Int) (w : World) (h : Rd w 76 b g l e0) (hm : -9223372036854775808 ≤ most ∧ most ≤ 9223372036854775807) (x k er : Nat) (hF : numF l most = (x, k, er)) :
    Calls Try.prog 36 #[.pointer (some ⟨b, 0, none⟩), .int .i64 most] w (RdPost 76 b g (stepL l k e0 er) (stepE e0 er) (stepV (.int .i64 0) (.int .i64 x) e0 er) w) := by
  have hf0 : w.frozen? ⟨b, 0, none⟩ = false := by obtain ⟨A, n, c, h1, _⟩ := h.ex; exact h1.frz 0
  have hf1 : w.frozen? ⟨b, 1, none⟩ = false := by obtain ⟨A, n, c, h1, _⟩ := h.ex; exact h1.frz 1
  have H := Lib.hid h
  by_cases he : e0 = 0
  · subst he
    obtain ⟨A, n, c, h1, h2, h3⟩ := h.ex
    have c0 : w.cell? ⟨b, 0, none⟩ = some (.slice A n c) := h1.cell 0
    have c1 : w.cell? ⟨b, 1, none⟩ = some (.int .i64 0) := h1.cell 1
    obtain ⟨x0, k0, e1, ht⟩ : ∃ x k e, takeF l 0 0 = (x, k, e) := ⟨_, _, _, rfl⟩
    have hlt : e1 = 0 → x0 < 18446744073709551616 ∧ k0 ≤ l.length := fun e => by have := takeF_read l h2.rng x0 k0 (by rw [ht, e]); exact ⟨this.1, this.2.1⟩
    have C := Lib.hid (refTake_is A n c l x0 k0 e1 w h2 ht)
    have hF' : (if e1 ≠ 0 then (0, 0, e1) else if most < 0 ∨ most < (x0 : Int) then (0, 0, 12) else (x0, k0, 0)) = (x, k, er) := by
      rw [← hF]; unfold numF; rw [ht]
    have hlen := h2.len
    clear ht hF
    by_cases h0 : e1 = 0
    · subst h0
      obtain ⟨hx, hk⟩ := hlt rfl
      rw [if_neg (by simp)] at hF'
      clear hlt
      by_cases hm1 : most < 0 ∨ most < (x0 : Int)
      · rw [if_pos hm1] at hF'
        obtain ⟨rfl, rfl, rfl⟩ := triple hF'
        have R := Lib.hid (fun m => H.out.fail m 12)
        have hm2 : (most < 0) ∨ (0 ≤ most ∧ most < (x0 : Int)) := by omega
        clear h h1 h2 h3 hm1 hF'
        rcases hm2 with q1 | ⟨q1, q2⟩
        · go_enter Try.func36, Try.ntmps36
          go_wp2_with fail
          refine C.out.mono ?_
          rintro e w1 ⟨rfl, m, rfl⟩
          go_wp2_with fail
          go_ret
          exact ⟨rfl, R.out m⟩
        · obtain ⟨z, rfl⟩ := Int.eq_ofNat_of_zero_le q1
          obtain ⟨_, hz⟩ := hm
          go_enter Try.func36, Try.ntmps36
          go_wp2_with fail
          refine C.out.mono ?_
          rintro e w1 ⟨rfl, m, rfl⟩
          go_wp2_with fail
          go_ret
          exact ⟨rfl, R.out m⟩
      · rw [if_neg hm1] at hF'
        obtain ⟨rfl, rfl, rfl⟩ := triple hF'
        obtain ⟨B, j, d, hs, hkn, hb, hB⟩ := cut_lb h2 k0 (by omega) (k0 : Int) rfl
        have R := Lib.hid (fun m => H.out.next m hb (fun hk a ha => by obtain ⟨a', e1, e2⟩ := hB a ha; rw [e2]; exact h3 (by omega) a' e1))
        obtain ⟨z, rfl⟩ := Int.eq_ofNat_of_zero_le (show 0 ≤ most by omega)
        obtain ⟨_, hz⟩ := hm
        have q2 : ¬ (z : Int) < (x0 : Int) := by omega
        clear h h1 h2 h3 hm1 hF' hb hB hkn
        go_enter Try.func36, Try.ntmps36
        go_wp2_with fail
        refine C.out.mono ?_
        rintro e w1 ⟨rfl, m, rfl⟩
        go_wp2_with fail
        go_ret
        exact ⟨rfl, R.out m⟩
    · rw [if_pos h0] at hF'
      obtain ⟨rfl, rfl, rfl⟩ := triple hF'
      have hne : ((e1 : Int) != 0) = true := by simp; omega
      have R := Lib.hid (fun m => H.out.fail m e1)
      have e2 : stepL l 0 0 e1 = l := by simp [stepL, h0]
      have e3 : stepE 0 e1 = e1 := rfl
      have e4 : stepV (.int .i64 0) (.int .i64 (0 : Nat)) 0 e1 = .int .i64 0 := by simp [stepV]
      rw [e2, e3, e4]
      clear hlt h h1 h2 h3 hF' h0 e2 e3 e4
      go_enter Try.func36, Try.ntmps36
      go_wp2_with fail
      refine C.out.mono ?_
      rintro e w1 ⟨rfl, m, rfl⟩
      go_wp2_with fail
      go_ret
      exact ⟨rfl, R.out m⟩
  · have c1 : w.cell? ⟨b, 1, none⟩ = some (.int .i64 e0) := by obtain ⟨A, n, c, h1, _⟩ := h.ex; exact h1.cell 1
    have hne : ((e0 : Int) != 0) = true := by simp; omega
    have e2 : stepL l k e0 er = l := by simp [stepL, he]
    have e3 : stepE e0 er = e0 := by simp [stepE, he]
    have e4 : stepV (.int .i64 0) (.int .i64 x) e0 er = .int .i64 0 := by simp [stepV, he]
    rw [e2, e3, e4]
    clear h he e2 e3 e4
    go_enter Try.func36, Try.ntmps36
    go_wp2_with fail
    go_ret
    exact ⟨rfl, H.out, grown_drewN w 0 _⟩

set_option maxHeartbeats 1000000 in
theorem mByte_any (b g : Nat) (l : List Int) (e0 : Nat) (w : World) (h : Rd w 76 b g l e0) :
    Calls Try.prog 86 #[.pointer (some ⟨b, 0, none⟩)] w (RdPost 76 b g (stepL l (byteF l).2.1 e0 (byteF l).2.2) (stepE e0 (byteF l).2.2) (stepV (.int .u8 0) (.int .u8 (byteF l).1) e0 (byteF l).2.2) w) := by
  have hf0 : w.frozen? ⟨b, 0, none⟩ = false := by obtain ⟨A, n, c, h1, _⟩ := h.ex; exact h1.frz 0
  have hf1 : w.frozen? ⟨b, 1, none⟩ = false := by obtain ⟨A, n, c, h1, _⟩ := h.ex; exact h1.frz 1
  have H := Lib.hid h
  obtain ⟨A, n, c, h1, h2, h3⟩ := h.ex
  have c0 : w.cell? ⟨b, 0, none⟩ = some (.slice A n c) := h1.cell 0
  have c1 : w.cell? ⟨b, 1, none⟩ = some (.int .i64 e0) := h1.cell 1
  by_cases he : e0 = 0
  · subst he
    cases l with
    | nil =>
      have hn : n = 0 := by have := h2.len; simpa using this.symm
      subst hn
      have R := Lib.hid (fun m => H.out.fail m 10)
      clear h h1 h2 h3
      go_enter Try.func86, Try.ntmps86
      go_wp2_with fail
      go_ret
      exact ⟨rfl, R.out 0⟩
    | cons x r =>
      have hn : r.length + 1 = n := h2.len
      obtain ⟨B, j, d, hs, hkn, hb, hB⟩ := cut_lb h2 1 (by omega) (1 : Int) rfl
      have R := Lib.hid (fun m => H.out.next m hb (fun hk a ha => by obtain ⟨a', e1, e2⟩ := hB a ha; rw [e2]; exact h3 (by omega) a' e1))
      obtain ⟨g', off, rfl, hc⟩ := h2.at_ (by omega)
      have hc0 : w.cell? ⟨g', off, none⟩ = some (.int .u8 x) := by
        have := hc 0 (by omega)
        simpa using this
      have hn0 : ((n : Int) == 0) = false := by simp; omega
      have hn1 : (0 : Int) < (n : Int) := by omega
      have hcap := h2.cap
      have hmax := h2.max
      unfold maxLen at hmax
      clear h h1 h2 h3 hb hB hc hn hkn
      go_enter Try.func86, Try.ntmps86
      go_wp2_with fail
      go_ret
      exact ⟨rfl, R.out 0⟩
  · have hne : ((e0 : Int) != 0) = true := by simp; omega
    have e2 : stepL l (byteF l).2.1 e0 (byteF l).2.2 = l := by simp [stepL, he]
    have e3 : stepE e0 (byteF l).2.2 = e0 := by simp [stepE, he]
    have e4 : stepV (.int .u8 0) (.int .u8 (byteF l).1) e0 (byteF l).2.2 = .int .u8 0 := by simp [stepV, he]
    rw [e2, e3, e4]
    clear h he e2 e3 e4 h1 h2 h3
    go_enter Try.func86, Try.ntmps86
    go_wp2_with fail
    go_ret
    exact ⟨rfl, H.out, grown_drewN w 0 _⟩

/-- A reader that is set back. -/
theorem Rd.back {w w1 : World} {t : TypeId} {b g : Nat} {l l1 : List Int} {e e1 er : Nat} {A : Option Addr} {n c : Nat} (h : Rd w t b g l e) (h1 : Rd w1 t b g l1 e1) (hg : w.grownBy w1 (some b)) (hb : Byt w A n c l) (hA : 0 < n → ∀ a, A = some a → a.block = g) :
    Rd ((w1.setCell ⟨b, 1, none⟩ (.int .i64 er)).setCell ⟨b, 0, none⟩ (.slice A n c)) t b g l er ∧ w.grownBy ((w1.setCell ⟨b, 1, none⟩ (.int .i64 er)).setCell ⟨b, 0, none⟩ (.slice A n c)) (some b) := by
  have g1 := grown_trans hg (grown_trans (grown_set w1 b 1 (.int .i64 er)) (grown_set (w1.setCell ⟨b, 1, none⟩ (.int .i64 er)) b 0 (.slice A n c)))
  obtain ⟨A1, n1, c1, k1, _, _⟩ := h1.ex
  refine ⟨⟨h.ne, A, n, c, ?_, hb.grown g1 (fun hn a ha => by rw [hA hn a ha]; simpa using h.ne), hA⟩, g1⟩
  have := (k1.setc 1 (.int .i64 er)).setc 0 (.slice A n c)
  simpa using this

theorem flagF_byte (l : List Int) : (byteF l).2.2 ≠ 0 → l = [] := by
  cases l with
  | nil => simp
  | cons x r => simp [byteF]

set_option maxHeartbeats 1000000 in
theorem mFlag_any (b g : Nat) (l : List Int) (e0 : Nat) (w : World) (h : Rd w 76 b g l e0) :
    Calls Try.prog 64 #[.pointer (some ⟨b, 0, none⟩)] w (RdPost 76 b g (stepL l (flagF l).2.1 e0 (flagF l).2.2) (stepE e0 (flagF l).2.2) (stepV (.bool false) (.bool (flagF l).1) e0 (flagF l).2.2) w) := by
  have C := mByte_any b g l e0 w h
  have H := Lib.hid h
  obtain ⟨A, n, c, h1, h2, h3⟩ := h.ex
  have c0 : w.cell? ⟨b, 0, none⟩ = some (.slice A n c) := h1.cell 0
  by_cases he : e0 = 0
  · subst he
    cases l with
    | nil =>
      have C := Lib.hid C
      clear h h1 h2 h3
      go_enter Try.func64, Try.ntmps64
      go_wp2_with fail
      refine C.out.mono ?_
      rintro e w1 ⟨rfl, R⟩
      have R := Lib.hid R
      simp only [stepV, byteF]
      go_wp2_with fail
      go_ret
      exact ⟨rfl, R.out⟩
    | cons x r =>
      have eb : byteF (x :: r) = (x, 1, 0) := rfl
      rw [eb] at C
      have hx := h2.rng x (by simp)
      by_cases hx1 : 1 < x
      · rw [show flagF (x :: r) = (false, 0, 11) from if_pos hx1]
        have C := Lib.hid C
        have BK := Lib.hid (fun w1 l1 e1 (k1 : Rd w1 76 b g l1 e1) hg => H.out.back (er := 11) k1 hg h2 h3)
        clear h h1 h2 h3 eb
        go_enter Try.func64, Try.ntmps64
        go_wp2_with fail
        refine C.out.mono ?_
        rintro e w1 ⟨rfl, R, hg⟩
        have hf0 : w1.frozen? ⟨b, 0, none⟩ = false := by obtain ⟨A, n, c, h1, _⟩ := R.ex; exact h1.frz 0
        have hf1 : w1.frozen? ⟨b, 1, none⟩ = false := by obtain ⟨A, n, c, h1, _⟩ := R.ex; exact h1.frz 1
        obtain ⟨A1, n1, c1, k1, _, _⟩ := R.ex
        have d0 : w1.cell? ⟨b, 0, none⟩ = some (.slice A1 n1 c1) := k1.cell 0
        have d1 : w1.cell? ⟨b, 1, none⟩ = some (.int .i64 (stepE 0 0 : Nat)) := k1.cell 1
        have R2 := Lib.hid (BK.out w1 _ _ R hg)
        clear R hg k1
        simp only [stepV]
        go_wp2_with fail
        go_ret
        refine ⟨?_, R2.out⟩
        have : (x == 1) = false := by simp; omega
        simp [this, stepV]
      · rw [show flagF (x :: r) = (x == 1, 1, 0) from if_neg hx1]
        have C := Lib.hid C
        clear h h1 h2 h3 eb
        go_enter Try.func64, Try.ntmps64
        go_wp2_with fail
        refine C.out.mono ?_
        rintro e w1 ⟨rfl, R⟩
        have R := Lib.hid R
        simp only [stepV]
        go_wp2_with fail
        go_ret
        exact ⟨rfl, R.out⟩
  · have e2 : ∀ u er, stepL l u e0 er = l := fun u er => by simp [stepL, he]
    have e3 : ∀ er, stepE e0 er = e0 := fun er => by simp [stepE, he]
    have e4 : ∀ z v er, stepV z v e0 er = z := fun z v er => by simp [stepV, he]
    rw [e2, e3, e4] at C
    rw [e2, e3, e4]
    have C := Lib.hid C
    clear h he e2 e3 e4 h1 h2 h3
    go_enter Try.func64, Try.ntmps64
    go_wp2_with fail
    refine C.out.mono ?_
    rintro e w1 ⟨rfl, R⟩
    have R := Lib.hid R
    go_wp2_with fail
    go_ret
    exact ⟨rfl, R.out⟩

set_option maxHeartbeats 1000000 in
theorem mEnd_any (b g : Nat) (l : List Int) (e0 : Nat) (w : World) (h : Rd w 76 b g l e0) :
    Calls Try.prog 42 #[.pointer (some ⟨b, 0, none⟩)] w (RdPost 76 b g l (endE l e0) (.int .i64 (endE l e0)) w) := by
  have hf : w.frozen? ⟨b, 1, none⟩ = false := by obtain ⟨A, n, c, h1, _⟩ := h.ex; exact h1.frz 1
  obtain ⟨A, n, c, _, h0, h1, hn⟩ := h.byt
  have H := Lib.hid h
  have HN := Lib.hid hn
  clear h hn
  by_cases he : e0 = 0
  · subst he
    by_cases hl : 0 < n
    · have hl' : (0 : Int) < (n : Int) := by omega
      have E : Hid (endE l 0 = 13) := Lib.hid (if_pos ⟨rfl, by have := HN.out; omega⟩)
      have R := Lib.hid (H.out.fail 0 13)
      clear hl
      go_enter Try.func42, Try.ntmps42
      go_wp2_with fail
      go_ret
      rw [E.out]
      exact ⟨rfl, R.out⟩
    · have hl' : ¬ (0 : Int) < (n : Int) := by omega
      have E : Hid (endE l 0 = 0) := Lib.hid (if_neg (by have := HN.out; omega))
      clear hl
      go_enter Try.func42, Try.ntmps42
      go_wp2_with fail
      go_ret
      rw [E.out]
      exact ⟨rfl, H.out, grown_drewN w 0 _⟩
  · have hne : ((e0 : Int) == 0) = false := by simp; omega
    have E : Hid (endE l e0 = e0) := Lib.hid (if_neg (by omega))
    clear he
    go_enter Try.func42, Try.ntmps42
    go_wp2_with fail
    go_ret
    rw [E.out]
    exact ⟨rfl, H.out, grown_drewN w 0 _⟩
end Go.Proofs.Ytfldcddbmikfiaa

/- trothref03.Reader's Text steps as seal.Reader's does; trothref03.Open answers what seal.Open answers. -/
namespace Go.Proofs.Ytfldcddbmikfiaa
open Go.RowKit

theorem numF_of {l : List Int} {most : Int} {x0 k0 e1 : Nat} (ht : takeF l 0 0 = (x0, k0, e1)) : numF l most = if e1 ≠ 0 then (0, 0, e1) else if most < 0 ∨ most < (x0 : Int) then (0, 0, 12) else (x0, k0, 0) := by
  unfold numF; rw [ht]

theorem textF_of {l : List Int} {most : Int} {x0 k0 e1 : Nat} (ht : numF l most = (x0, k0, e1)) : textF l most = if e1 ≠ 0 then ([], 0, e1) else if l.length - k0 < x0 then ([], 0, 10) else ((l.drop k0).take x0, k0 + x0, 0) := by
  unfold textF; rw [ht]

set_option maxRecDepth 4000 in
set_option maxHeartbeats 2000000 in
theorem mText_any (b g : Nat) (l : List Int) (e0 : Nat) (most : Int) (w : World) (h : Rd w 76 b g l e0) (hm : -9223372036854775808 ≤ most ∧ most ≤ 9223372036854775807) (s : List Int) (k er : Nat) (hF : textF l most = (s, k, er)) :
    Calls Try.prog 38 #[.pointer (some ⟨b, 0, none⟩), .int .i64 most] w (RdPost 76 b g (stepL l k e0 er) (stepE e0 er) (stepV (.string ByteArray.empty) (.string (strOfNums s)) e0 er) w) := by
  have hf0 : w.frozen? ⟨b, 0, none⟩ = false := by obtain ⟨A, n, c, h1, _⟩ := h.ex; exact h1.frz 0
  have hf1 : w.frozen? ⟨b, 1, none⟩ = false := by obtain ⟨A, n, c, h1, _⟩ := h.ex; exact h1.frz 1
  have H := Lib.hid h
  obtain ⟨A, n, c, h1, h2, h3⟩ := h.ex
  have c0 : w.cell? ⟨b, 0, none⟩ = some (.slice A n c) := h1.cell 0
  have c1 : w.cell? ⟨b, 1, none⟩ = some (.int .i64 e0) := h1.cell 1
  by_cases he : e0 = 0
  · subst he
    obtain ⟨x0, k0, e1, ht⟩ : ∃ x k e, takeF l 0 0 = (x, k, e) := ⟨_, _, _, rfl⟩
    have hlt : e1 = 0 → x0 < 18446744073709551616 ∧ k0 ≤ l.length := fun e => by have := takeF_read l h2.rng x0 k0 (by rw [ht, e]); exact ⟨this.1, this.2.1⟩
    have C := Lib.hid (refTake_is A n c l x0 k0 e1 w h2 ht)
    have hN := numF_of (most := most) ht
    have hlen := h2.len
    have hcap := h2.cap
    have hmax := h2.max
    unfold maxLen at hmax
    clear ht
    by_cases h0 : e1 = 0
    · subst h0
      obtain ⟨hx, hk⟩ := hlt rfl
      rw [if_neg (by simp)] at hN
      clear hlt
      by_cases hm1 : most < 0 ∨ most < (x0 : Int)
      · rw [if_pos hm1] at hN
        rw [textF_of hN, if_pos (by simp)] at hF
        obtain ⟨rfl, rfl, rfl⟩ := triple hF
        have R := Lib.hid (fun m => H.out.fail m 12)
        have hm2 : (most < 0) ∨ (0 ≤ most ∧ most < (x0 : Int)) := by omega
        clear h h1 h2 h3 hm1 hF hN
        rcases hm2 with q1 | ⟨q1, q2⟩
        · go_enter Try.func38, Try.ntmps38
          go_wp2_with fail
          refine C.out.mono ?_
          rintro e w1 ⟨rfl, m, rfl⟩
          go_wp2_with fail
          go_ret
          exact ⟨rfl, R.out m⟩
        · obtain ⟨z, rfl⟩ := Int.eq_ofNat_of_zero_le q1
          obtain ⟨_, hz⟩ := hm
          go_enter Try.func38, Try.ntmps38
          go_wp2_with fail
          refine C.out.mono ?_
          rintro e w1 ⟨rfl, m, rfl⟩
          go_wp2_with fail
          go_ret
          exact ⟨rfl, R.out m⟩
      · rw [if_neg hm1] at hN
        obtain ⟨z, rfl⟩ := Int.eq_ofNat_of_zero_le (show 0 ≤ most by omega)
        obtain ⟨_, hz⟩ := hm
        have q2 : ¬ (z : Int) < (x0 : Int) := by omega
        have hkn : (k0 : Int) ≤ (n : Int) := by omega
        by_cases hs : l.length - k0 < x0
        · rw [textF_of hN, if_neg (by simp), if_pos hs] at hF
          obtain ⟨rfl, rfl, rfl⟩ := triple hF
          have R := Lib.hid (fun m => H.out.fail m 10)
          have q3 : (n : Int) - (k0 : Int) < (x0 : Int) := by omega
          clear h h1 h2 h3 hm1 hF hN hs
          go_enter Try.func38, Try.ntmps38
          go_wp2_with fail
          refine C.out.mono ?_
          rintro e w1 ⟨rfl, m, rfl⟩
          go_wp2_with fail
          go_ret
          exact ⟨rfl, R.out m⟩
        · rw [textF_of hN, if_neg (by simp), if_neg hs] at hF
          obtain ⟨rfl, rfl, rfl⟩ := triple hF
          obtain ⟨B1, m1, d1, hs1, hm1', hb1⟩ := cut_lh h2 k0 (k0 + x0) (by omega) (by omega) (k0 : Int) ((k0 + x0 : Nat) : Int) rfl rfl
          rw [Nat.add_sub_cancel_left] at hm1' hb1
          obtain ⟨B, j, d, hs2, hkn2, hb, hB⟩ := cut_lb h2 (k0 + x0) (by omega) ((k0 + x0 : Nat) : Int) rfl
          have R := Lib.hid (fun m => H.out.next m hb (fun hk a ha => by obtain ⟨a', e1, e2⟩ := hB a ha; rw [e2]; exact h3 (by omega) a' e1))
          have q4 : k0 + x0 ≤ n := by omega
          have KC := Lib.hid (fun m => conv_byt (hb1.drewN m))
          obtain ⟨y, ey⟩ : ∃ y, k0 + x0 = y := ⟨_, rfl⟩
          rw [ey] at hs1 hs2 R q4 ⊢
          have ey' : (k0 : Int) + (x0 : Int) = (y : Int) := by omega
          obtain ⟨r, er⟩ : ∃ r, n - k0 = r := ⟨_, rfl⟩
          have er' : (n : Int) - (k0 : Int) = (r : Int) := by omega
          have q5 : (x0 : Int) ≤ (r : Int) := by omega
          have q6 : (r : Int) ≤ 9223372036854775807 := by omega
          have q7 : (y : Int) ≤ 9223372036854775807 := by omega
          have q8 : (x0 : Int) ≤ 9223372036854775807 := by omega
          clear h h1 h2 h3 hm1 hF hN hs hb hB hb1 hkn2 hm1' ey er q4 hk hkn
          go_enter Try.func38, Try.ntmps38
          go_wp2_with fail
          refine C.out.mono ?_
          rintro e w1 ⟨rfl, m, rfl⟩
          have kc := KC.out m
          go_wp2_with fail
          go_ret
          exact ⟨rfl, R.out m⟩
    · rw [if_pos h0] at hN
      rw [textF_of hN, if_pos h0] at hF
      obtain ⟨rfl, rfl, rfl⟩ := triple hF
      have hne : ((e1 : Int) != 0) = true := by simp; omega
      have R := Lib.hid (fun m => H.out.fail m e1)
      have e2 : stepL l 0 0 e1 = l := by simp [stepL, h0]
      have e3 : stepE 0 e1 = e1 := rfl
      have e4 : ∀ v, stepV (.string ByteArray.empty) v 0 e1 = .string ByteArray.empty := by intro v; simp [stepV, h0]
      rw [e2, e3, e4]
      clear hlt h h1 h2 h3 hF h0 e2 e3 e4 hN
      go_enter Try.func38, Try.ntmps38
      go_wp2_with fail
      refine C.out.mono ?_
      rintro e w1 ⟨rfl, m, rfl⟩
      go_wp2_with fail
      go_ret
      exact ⟨rfl, R.out m⟩
  · have hne : ((e0 : Int) != 0) = true := by simp; omega
    have e2 : stepL l k e0 er = l := by simp [stepL, he]
    have e3 : stepE e0 er = e0 := by simp [stepE, he]
    have e4 : ∀ v, stepV (.string ByteArray.empty) v e0 er = .string ByteArray.empty := by intro v; simp [stepV, he]
    rw [e2, e3, e4]
    clear h he e2 e3 e4 h1 h2 h3
    go_enter Try.func38, Try.ntmps38
    go_wp2_with fail
    go_ret
    exact ⟨rfl, H.out, grown_drewN w 0 _⟩

theorem stepV_ok (z v : Value) : stepV z v 0 0 = v := by simp [stepV]
theorem stepV_no (z v : Value) (er : Nat) (h : er ≠ 0) : stepV z v 0 er = z := by simp [stepV, h]
theorem stepE_0 (er : Nat) : stepE 0 er = er := rfl
theorem stepL_ok (l : List Int) (u : Nat) : stepL l u 0 0 = l.drop u := by simp [stepL]
theorem stepL_no (l : List Int) (u er : Nat) (h : er ≠ 0) : stepL l u 0 er = l := by simp [stepL, h]

/-- '[]byte(s)' of a string of known bytes. -/
theorem ofStr (w : World) (b : List Int) (hr : ∀ x ∈ b, 0 ≤ x ∧ x < 256) (hb : b.length ≤ 4096) : ∃ A n c w', (convert 9 33 (.string (strOfNums b))).run Try.prog w = .ok (.slice A n c) w' ∧ Byt w' A n c b ∧ Below w.heap.size w w' := by
  have h := Byt.ofString w 5 (strOfNums b) (by rw [str_size]; unfold maxLen; omega)
  rw [nums_str b hr] at h
  exact ⟨_, _, _, _, conv_str w _, h, bytesWorld_below _ _ _⟩

theorem RdPost.below {t : TypeId} {b g : Nat} {l : List Int} {e0 : Nat} {v : Value} {w w1 : World} {e : Ending} {w' : World} (hb : Below w.heap.size w w1) (hw : w.heap.size ≤ b) (h : RdPost t b g l e0 v w1 e w') : Below w.heap.size w w' :=
  hb.grown h.2.2 hb.size (fun k hk => by injection hk with hk; omega)

end Go.Proofs.Ytfldcddbmikfiaa

/- trothref03's reader, as steps of a codec. -/
namespace Go.Proofs.Ytfldcddbmikfiaa
open Go.RowKit

theorem prim_vR {α : Type} (F : List Int → α × Nat × Nat) (z : α) (l : List Int) (e : Nat) (f : α → Value) : stepV (f z) (f (F l).1) e (F l).2.2 = f (pPrim F z (l, e)).1 := by
  unfold stepV pPrim
  simp only
  split
  · rfl
  · split <;> rfl
theorem dNumR {b g : Nat} {l : List Int} {e : Nat} {w : World} (most : Int) (hm : -9223372036854775808 ≤ most ∧ most ≤ 9223372036854775807) (h : Rd w 76 b g l e) :
    Calls Try.prog 36 #[.pointer (some ⟨b, 0, none⟩), .int .i64 most] w (RdPost 76 b g (pNum most (l, e)).2.1 (pNum most (l, e)).2.2 (.int .i64 (pNum most (l, e)).1) w) := by
  have := mNum_any b g l e most w h hm (numF l most).1 (numF l most).2.1 (numF l most).2.2 rfl
  have e2 : stepV (.int .i64 0) (.int .i64 ((numF l most).1 : Int)) e (numF l most).2.2 = _ := prim_vR (numI most) (0 : Int) l e (Value.int .i64)
  rw [e2] at this
  exact this
theorem dTextR {b g : Nat} {l : List Int} {e : Nat} {w : World} (most : Int) (hm : -9223372036854775808 ≤ most ∧ most ≤ 9223372036854775807) (h : Rd w 76 b g l e) :
    Calls Try.prog 38 #[.pointer (some ⟨b, 0, none⟩), .int .i64 most] w (RdPost 76 b g (pText most (l, e)).2.1 (pText most (l, e)).2.2 (.string (pText most (l, e)).1) w) := by
  have := mText_any b g l e most w h hm (textF l most).1 (textF l most).2.1 (textF l most).2.2 rfl
  have e2 : stepV (.string ByteArray.empty) (.string (strOfNums (textF l most).1)) e (textF l most).2.2 = _ := prim_vR (textS most) ByteArray.empty l e Value.string
  rw [e2] at this
  exact this
theorem dFlagR {b g : Nat} {l : List Int} {e : Nat} {w : World} (h : Rd w 76 b g l e) :
    Calls Try.prog 64 #[.pointer (some ⟨b, 0, none⟩)] w (RdPost 76 b g (pFlag (l, e)).2.1 (pFlag (l, e)).2.2 (.bool (pFlag (l, e)).1) w) := by
  have := mFlag_any b g l e w h
  rw [prim_vR flagF false l e Value.bool] at this
  exact this

/-- A reading that leaves all else. -/
structure RdgR (t : TypeId) (b g : Nat) (w w' : World) (σ : Sg) : Prop where
  rd : Rd w' t b g σ.1 σ.2
  gr : w.grownBy w' (some b)
theorem RdPost.rdgR {t : TypeId} {b g : Nat} {l : List Int} {e0 : Nat} {v : Value} {w : World} {e : Ending} {w' : World} (h : RdPost t b g l e0 v w e w') : e = .returned v ∧ RdgR t b g w w' (l, e0) := ⟨h.1, h.2.1, h.2.2⟩
theorem Bk.growR {w w' : World} {g : Nat} {t : TypeId} {cs : Array Value} {row : Option Nat} (h : Bk w g t cs) (hg : w.grownBy w' row) (hne : row ≠ some g) : Bk w' g t cs := (hg.block g h.lt (fun q => hne q.symm)).trans h


theorem pNum_rngV (most : Int) (hm : 0 ≤ most) (σ : Sg) : 0 ≤ (pNum most σ).1 ∧ (pNum most σ).1 ≤ most := by
  unfold pNum pPrim numI
  split
  · exact ⟨Int.le_refl _, hm⟩
  · split
    · exact ⟨Int.le_refl _, hm⟩
    · rename_i q
      show (0 : Int) ≤ ((numF σ.1 most).1 : Int) ∧ ((numF σ.1 most).1 : Int) ≤ most
      refine ⟨by omega, ?_⟩
      unfold numF at q ⊢
      split
      · simpa using hm
      · split
        · simpa using hm
        · rename_i h
          simp only [not_or, Int.not_lt] at h
          exact h.2
end Go.Proofs.Ytfldcddbmikfiaa

/- trothref07.readValue, readInts, readLocks: what they read; rows of one's own that stand while blocks of other types are written. -/
namespace Go.Proofs.Ytfldcddbmikfiaa
open Go.RowKit

theorem own_tyR {w : World} {b k n g : Nat} {e : TypeId} {v : Value} {xs : List Value} (h : w.ownsRow b e k v n xs) (hg : v.ownBlock = some g) : ∃ cs, w.heap[g]? = some (.cells cs e (0, 0)) := by
  rcases h.2 with ⟨hv, _⟩ | ⟨g', cap, cur, hv, _, hb, _⟩
  · rw [hv] at hg; cases hg
  · rw [hv] at hg
    injection hg with hg
    subst hg
    exact ⟨_, hb⟩
/-- Blocks of type T stand. -/
structure Stay (T : TypeId) (w w' : World) : Prop where
  size : w.heap.size ≤ w'.heap.size
  same : ∀ (k : Nat) (cs : Array Value) (fr : Nat × Nat), w.heap[k]? = some (.cells cs T fr) → w'.heap[k]? = w.heap[k]?
section
variable {T U : TypeId} {w w1 w2 w' : World}
theorem Stay.refl (T : TypeId) (w : World) : Stay T w w := ⟨Nat.le_refl _, fun _ _ _ _ => rfl⟩
theorem Stay.trans (h : Stay T w w1) (k : Stay T w1 w2) : Stay T w w2 := ⟨Nat.le_trans h.size k.size, fun i cs fr e => (k.same i cs fr ((h.same i cs fr e).trans e)).trans (h.same i cs fr e)⟩
theorem Stay.of_below (h : Below w.heap.size w w') : Stay T w w' := ⟨h.size, fun k _ _ e => h.block k (Array.getElem?_eq_some_iff.1 e).1⟩
/-- A block of another type is written. -/
theorem Stay.grown {b : Nat} {cs : Array Value} {fr : Nat × Nat} (h : w.grownBy w' (some b)) (hb : w.heap[b]? = some (.cells cs U fr)) (hne : U ≠ T) : Stay T w w' :=
  ⟨h.size, fun k _ _ e => h.block k (Array.getElem?_eq_some_iff.1 e).1 (fun q => by
    injection q with q
    subst q
    rw [hb] at e
    injection e with e
    injection e with _ e
    exact hne e)⟩
theorem Stay.set {b i : Nat} {cs : Array Value} (hb : Bk w b U cs) (hne : U ≠ T) (u : Value) : Stay T w (w.setCell ⟨b, i, none⟩ u) := Stay.grown (grown_set w b i u) hb hne
theorem Stay.row {n k base : Nat} {v : Value} {xs : List Value} (h : w.grownBy w' v.ownBlock) (ho : w.ownsRow base U k v n xs) (hne : U ≠ T) : Stay T w w' := by
  refine ⟨h.size, fun i cs fr e => h.block i (Array.getElem?_eq_some_iff.1 e).1 (fun q => ?_)⟩
  obtain ⟨c1, h1⟩ := own_tyR ho q.symm
  rw [h1] at e
  injection e with e
  injection e with _ e
  exact hne e
end

section
variable {α : Type} {E : El α} {w w' : World} {base n c : Nat} {A : Option Addr} {l : List α}
/-- A row of such elements of one's own. -/
structure OwnL (E : El α) (base : Nat) (w : World) (A : Option Addr) (n c : Nat) (l : List α) : Prop where
  own : w.ownsRow base E.ty E.size (.slice A n c) n (l.flatMap E.cells)
  len : l.length = n
theorem OwnL.nil (E : El α) (base : Nat) (w : World) : OwnL E base w none 0 0 [] := ⟨⟨by simp, .inl ⟨rfl, rfl⟩⟩, rfl⟩
theorem OwnL.stay (h : OwnL E base w A n c l) (hs : Stay E.ty w w') : OwnL E base w' A n c l := by
  refine ⟨⟨h.own.1, ?_⟩, h.len⟩
  rcases h.own.2 with q | ⟨g, cap, cur, q1, q2, q3, q4⟩
  · exact .inl q
  · exact .inr ⟨g, cap, cur, q1, q2, (hs.same _ _ _ q3).trans q3, q4⟩
theorem OwnL.lo {base' : Nat} (h : OwnL E base w A n c l) (hb : base' ≤ base) : OwnL E base' w A n c l := by
  refine ⟨⟨h.own.1, ?_⟩, h.len⟩
  rcases h.own.2 with q | ⟨g, cap, cur, q1, q2, q3⟩
  · exact .inl q
  · exact .inr ⟨g, cap, cur, q1, Nat.le_trans hb q2, q3⟩
theorem OwnL.app {w1 : World} {A' : Option Addr} {c' : Nat} {x : α} (h : OwnL E base w A n c l) (ha : Apd E base w1 w' (Value.slice A n c).ownBlock A' (n + 1) c' (l ++ [x])) : OwnL E base w' A' (n + 1) c' (l ++ [x]) := ⟨ha.own, by simp [h.len]⟩
/-- One element in a block of its own, as a slice. -/
theorem sl_one [Inhabited α] (w : World) (x : α) (hx : ∀ W, E.inn W.heap.size W x) : Sl E (w.alloc (.cells (E.cells x).toArray E.ty)).heap.size (w.alloc (.cells (E.cells x).toArray E.ty)) (some ⟨w.heap.size, 0, none⟩) 1 1 [x] := by
  have hb := Bk.new w E.ty (E.cells x).toArray
  refine ⟨rfl, Nat.le_refl _, by unfold maxLen; omega, (fun h => nomatch h), fun y hy => ?_, fun _ => ⟨w.heap.size, 0, rfl, ⟨hb.lt, .inl trivial, .inl hb.lt⟩, fun i hi j v hv => ?_⟩⟩
  · have : y = x := by simpa using hy
    rw [this]; exact hx _
  · have : i = 0 := by omega
    subst this
    rw [Nat.zero_mul, Nat.add_zero, Nat.zero_add, hb.cell]
    simpa using hv
end

/-- Whatever is read of each element. -/
theorem pRep_all {α : Type} {p : Sg → α × Sg} {Q : α → Prop} (h : ∀ σ, Q (p σ).1) : ∀ (k : Nat) (σ : Sg), ∀ x ∈ (pRep p σ k).1, Q x
  | 0, _, x, hx => by cases hx
  | k + 1, σ, x, hx => by
    have hx' : x ∈ (pRep p σ k).1 ++ [(p (pRep p σ k).2).1] := hx
    rcases List.mem_append.1 hx' with q | q
    · exact pRep_all h k σ x q
    · have : x = (p (pRep p σ k).2).1 := by simpa using q
      rw [this]; exact h _
theorem pList_all {α : Type} {p : Sg → α × Sg} {Q : α → Prop} (h : ∀ σ, Q (p σ).1) (most : Int) (σ : Sg) : ∀ x ∈ (pList most p σ).1, Q x := fun x hx => pRep_all h _ _ x hx
theorem pNum_i64 (most : Int) (h0 : 0 ≤ most) (hm : most ≤ 9223372036854775807) (σ : Sg) : i64 (pNum most σ).1 := by
  have := pNum_rngV most h0 σ
  unfold i64
  omega

/-- A reading's post. -/
structure RdQ (rb g : Nat) (w w' : World) (σ : Sg) : Prop where
  rd : Rd w' 76 rb g σ.1 σ.2
  grown : w.grownBy w' (some rb)
theorem RdQ.stay {rb g : Nat} {w w' : World} {σ σ0 : Sg} {T : TypeId} (h : RdQ rb g w w' σ) (h0 : Rd w 76 rb g σ0.1 σ0.2) (hne : 76 ≠ T) : Stay T w w' := by
  obtain ⟨A, n, c, hb, _⟩ := h0.ex
  exact Stay.grown h.grown hb hne
end Go.Proofs.Ytfldcddbmikfiaa

/- trothref07.readInts: the list that is read, in a row of its own. -/
namespace Go.Proofs.Ytfldcddbmikfiaa
open Go.RowKit

theorem info_intR : (Try.prog.info? 3).map (fun i => (i.zero, i.size, i.bytes)) = some (some (.int .i64 0), 1, 8) := by kernel_rfl

/-- A list that was read. -/
def RetL {α : Type} (E : El α) (rb g : Nat) (x : List α × Sg) (w : World) (e : Ending) (w' : World) : Prop := ∃ A n c, e = .returned (.slice A n c) ∧ OwnL E w.heap.size w' A n c x.1 ∧ RdQ rb g w w' x.2

/-- What a reading loop has. -/
structure RdL {α : Type} (E : El α) (rb g : Nat) (w wr : World) (A : Option Addr) (n c : Nat) (x : List α × Sg) : Prop where
  own : OwnL E w.heap.size wr A n c x.1
  q : RdQ rb g w wr x.2
theorem RdL.alloc {α : Type} {E : El α} {rb g : Nat} {w wr : World} {A : Option Addr} {n c : Nat} {x : List α × Sg} (h : RdL E rb g w wr A n c x) (o : Obj) : RdL E rb g w (wr.alloc o) A n c x :=
  ⟨h.own.stay (Stay.of_below ((Below.refl _ _).alloc (Nat.le_refl _) o)), ⟨h.q.rd.alloc o, grown_trans h.q.grown (World.grownBy_alloc wr o _)⟩⟩
/-- Something is read. -/
theorem RdL.read {α : Type} {E : El α} {rb g : Nat} {w wr w' : World} {A : Option Addr} {n c : Nat} {x : List α × Sg} {σ : Sg} (h : RdL E rb g w wr A n c x) (hne : 76 ≠ E.ty) (hr : Rd w' 76 rb g σ.1 σ.2) (hg : wr.grownBy w' (some rb)) : RdL E rb g w w' A n c (x.1, σ) :=
  ⟨h.own.stay (RdQ.stay (σ := σ) ⟨hr, hg⟩ h.q.rd hne), ⟨hr, grown_trans h.q.grown hg⟩⟩
/-- One more. -/
theorem RdL.app {α : Type} {E : El α} {rb g : Nat} {w wr w1 w' : World} {A A' : Option Addr} {n c c' : Nat} {x : List α × Sg} {y : α} (h : RdL E rb g w wr A n c x) (hg : g < w.heap.size) (hrb : rb < w.heap.size) (hb : Below wr.heap.size wr w1) (ha : Apd E w.heap.size w1 w' (Value.slice A n c).ownBlock A' (n + 1) c' (x.1 ++ [y])) : RdL E rb g w w' A' (n + 1) c' (x.1 ++ [y], x.2) := by
  have hlow : ∀ k, (Value.slice A n c).ownBlock = some k → w.heap.size ≤ k := fun k hk => (h.own.own.lt k hk).1
  have hg1 : wr.grownBy w1 none := ⟨hb.os, hb.tape, hb.output, hb.size, fun k hk _ => hb.block k hk⟩
  refine ⟨⟨ha.own, by simp [h.own.len]⟩, ⟨?_, ?_⟩⟩
  · refine (h.q.rd.grown hg1 (by simp) (by simp)).grown ha.grown ?_ ?_
    · intro q
      have := hlow rb q.symm
      omega
    · intro q
      have := hlow g q.symm
      omega
  · have hs1 : w.heap.size ≤ w1.heap.size := Nat.le_trans h.q.grown.size hb.size
    refine ⟨ha.grown.os.trans (hb.os.trans h.q.grown.os), ha.grown.tape.trans (hb.tape.trans h.q.grown.tape), ha.grown.output.trans (hb.output.trans h.q.grown.output), Nat.le_trans hs1 ha.grown.size, fun k hk hne => ?_⟩
    have e1 := h.q.grown.block k hk hne
    have e2 := hb.block k (Nat.lt_of_lt_of_le hk h.q.grown.size)
    have e3 := ha.grown.block k (Nat.lt_of_lt_of_le hk hs1) (fun q => by have := hlow k q.symm; omega)
    rw [e3, e2, e1]

theorem pNum_take (most : Int) (h0 : 0 ≤ most) (σ : Sg) : ∃ n : Nat, (pNum most σ).1 = (n : Int) ∧ (n : Int) ≤ most := by
  have := pNum_rngV most h0 σ
  obtain ⟨n, hn⟩ := Int.eq_ofNat_of_zero_le this.1
  exact ⟨n, hn, by omega⟩

set_option maxRecDepth 100000 in
set_option maxHeartbeats 4000000 in
theorem readInts_any (rb g : Nat) (l : List Int) (e : Nat) (w : World) (h : Rd w 76 rb g l e) (hg : g < w.heap.size) :
    Calls Try.prog 40 #[.pointer (some ⟨rb, 0, none⟩)] w (RetL elI rb g (pInts (l, e)) w) := by
  obtain ⟨i0, hi, hz0, hz1, hz2⟩ := info_parts info_intR
  obtain ⟨⟨cnt, σ1⟩, hM⟩ : ∃ x, pNum 256 (l, e) = x := ⟨_, rfl⟩
  obtain ⟨k0, hk0, hk1⟩ := pNum_take 256 (by omega) (l, e)
  rw [hM] at hk0
  simp only at hk0
  subst hk0
  have HP : Hid (pInts (l, e) = pRep pN σ1 k0) := Lib.hid (by
    unfold pInts pList pBind
    rw [hM]
    rfl)
  have C1 := dNumR 256 (by omega) h
  rw [hM] at C1
  have C1 := Lib.hid C1
  have hrb := h.lt
  have HRB := Lib.hid hrb
  have HG := Lib.hid hg
  clear h hM hrb hg
  go_enter Try.func40, Try.ntmps40
  go_wp2_with fail
  refine C1.out.mono ?_
  rintro e w1 ⟨rfl, hr1, g1⟩
  have R1 : Hid (RdL elI rb g w w1 none 0 0 ([], σ1)) := Lib.hid ⟨OwnL.nil _ _ _, ⟨hr1, g1⟩⟩
  clear hr1 g1 C1
  go_wp2_with fail
  go_loopw [3, 5] (fun v i wr => ∃ (k : Nat) (A : Option Addr) (c : Nat), k ≤ k0 ∧ i = .int .i64 (k : Nat) ∧ v = .slice A k c ∧ RdL elI rb g w wr A k c (pRep pN σ1 k)) (fun _ i _ => k0 - (intOf i).toNat)
  case atStart => exact ⟨0, none, 0, Nat.zero_le _, rfl, rfl, R1.out⟩
  case round =>
    obtain ⟨k, A, c, hk, rfl, rfl, hr⟩ := hrel
    have R := Lib.hid hr
    clear hr R1
    by_cases hlt : k < k0
    · have hlt' : (k : Int) < (k0 : Int) := by omega
      have C2 := dNumR 1099511627776 (by omega) R.out.q.rd
      obtain ⟨⟨z, σ2⟩, hz⟩ : ∃ x, pNum 1099511627776 ((pRep pN σ1 k).2.1, (pRep pN σ1 k).2.2) = x := ⟨_, rfl⟩
      have hnx : pRep pN σ1 (k + 1) = ((pRep pN σ1 k).1 ++ [z], σ2) := by
        show ((pRep pN σ1 k).1 ++ [(pN (pRep pN σ1 k).2).1], (pN (pRep pN σ1 k).2).2) = _
        have : pN (pRep pN σ1 k).2 = (z, σ2) := hz
        rw [this]
      rw [hz] at C2
      have HNX := Lib.hid hnx
      have C2 := Lib.hid C2
      have HZ : Hid ((pNum 1099511627776 ((pRep pN σ1 k).2.1, (pRep pN σ1 k).2.2)).1 = z) := Lib.hid (by rw [hz])
      clear hz hnx
      go_wp2_with fail
      refine C2.out.mono ?_
      rintro e w2 ⟨rfl, hr2, g2⟩
      have R2 := Lib.hid (R.out.read (σ := σ2) (by decide) hr2 g2)
      clear hr2 g2 C2 R
      have hi64 : i64 z := by
        have := HZ.out
        rw [← this]
        exact pNum_i64 _ (by omega) (by omega) _
      have S2 := Lib.hid (sl_one (E := elI) w2 z (fun _ => hi64))
      have R3 := Lib.hid (R2.out.alloc (.cells #[.int .i64 z] 3))
      have HSZ : Hid (w.heap.size ≤ (w2.alloc (.cells #[.int .i64 z] 3)).heap.size) := Lib.hid R3.out.q.grown.size
      clear hi64
      go_wp2_with (at_builtin; refine wpList_append_sl (E := elI) rfl _ _ 24 rfl w.heap.size i0 (.int .i64 0) 8 Try.underlying24 hi hz0 hz1 hz2 rfl rfl (by exact R3.out.own.own) rfl (by exact S2.out) (by omega) (by omega) HSZ.out ?_)
      intro A' c' w3 ha
      have R4 := Lib.hid (R2.out.app HG.out HRB.out ((Below.refl _ _).alloc (Nat.le_refl _) _) ha.out)
      clear ha S2 R3 HSZ R2
      go_wp2_with fail
      go_roundw
      case rel => exact ⟨k + 1, A', c', by omega, by go_num, rfl, by rw [HNX.out]; exact R4.out⟩
      case measure => simp [intOf]; omega
    · obtain rfl : k = k0 := by omega
      go_wp2_with fail
      go_ret
      exact ⟨A, k, c, rfl, by rw [HP.out]; exact R.out.own, by rw [HP.out]; exact R.out.q⟩
end Go.Proofs.Ytfldcddbmikfiaa

/- trothref07.readLocks and readValue. -/
namespace Go.Proofs.Ytfldcddbmikfiaa
open Go.RowKit

theorem info_lkR : (Try.prog.info? 49).map (fun i => (i.zero, i.size, i.bytes)) = some (some (.agg #[.string ByteArray.empty, .bool false]), 2, 24) := by kernel_rfl

set_option maxRecDepth 100000 in
set_option maxHeartbeats 4000000 in
theorem readLocks_any (rb g : Nat) (l : List Int) (e : Nat) (w : World) (h : Rd w 76 rb g l e) (hg : g < w.heap.size) :
    Calls Try.prog 41 #[.pointer (some ⟨rb, 0, none⟩)] w (RetL elL rb g (pLks (l, e)) w) := by
  obtain ⟨i0, hi, hz0, hz1, hz2⟩ := info_parts info_lkR
  obtain ⟨⟨cnt, σ1⟩, hM⟩ : ∃ x, pNum 256 (l, e) = x := ⟨_, rfl⟩
  obtain ⟨k0, hk0, hk1⟩ := pNum_take 256 (by omega) (l, e)
  rw [hM] at hk0
  simp only at hk0
  subst hk0
  have HP : Hid (pLks (l, e) = pRep pLk σ1 k0) := Lib.hid (by
    unfold pLks pList pBind
    rw [hM]
    rfl)
  have C1 := dNumR 256 (by omega) h
  rw [hM] at C1
  have C1 := Lib.hid C1
  have hrb := h.lt
  have HRB := Lib.hid hrb
  have HG := Lib.hid hg
  clear h hM hrb hg
  go_enter Try.func41, Try.ntmps41
  go_wp2_with fail
  refine C1.out.mono ?_
  rintro e w1 ⟨rfl, hr1, g1⟩
  have R1 : Hid (RdL elL rb g w w1 none 0 0 ([], σ1)) := Lib.hid ⟨OwnL.nil _ _ _, ⟨hr1, g1⟩⟩
  clear hr1 g1 C1
  go_wp2_with fail
  go_loopw [3, 5, 6] (fun v i _ wr => ∃ (k : Nat) (A : Option Addr) (c : Nat), k ≤ k0 ∧ i = .int .i64 (k : Nat) ∧ v = .slice A k c ∧ RdL elL rb g w wr A k c (pRep pLk σ1 k)) (fun _ i _ _ => k0 - (intOf i).toNat)
  case atStart => exact ⟨0, none, 0, Nat.zero_le _, rfl, rfl, R1.out⟩
  case round =>
    obtain ⟨k, A, c, hk, rfl, rfl, hr⟩ := hrel
    have R := Lib.hid hr
    clear hr R1
    by_cases hlt : k < k0
    · have hlt' : (k : Int) < (k0 : Int) := by omega
      have C2 := dTextR 32 (by omega) R.out.q.rd
      obtain ⟨⟨ck, σ2⟩, hz⟩ : ∃ x, pText 32 ((pRep pLk σ1 k).2.1, (pRep pLk σ1 k).2.2) = x := ⟨_, rfl⟩
      obtain ⟨⟨cx, σ3⟩, hy⟩ : ∃ x, pFlag σ2 = x := ⟨_, rfl⟩
      have hnx : pRep pLk σ1 (k + 1) = ((pRep pLk σ1 k).1 ++ [⟨ck, cx⟩], σ3) := by
        show ((pRep pLk σ1 k).1 ++ [(pLk (pRep pLk σ1 k).2).1], (pLk (pRep pLk σ1 k).2).2) = _
        have gen : ∀ s, pText 32 s = (ck, σ2) → pLk s = (⟨ck, cx⟩, σ3) := fun s hs => by
          unfold pLk
          rw [hs, hy]
        rw [gen _ hz]
      rw [hz] at C2
      have HNX := Lib.hid hnx
      have HY := Lib.hid hy
      have C2 := Lib.hid C2
      clear hz hnx hy
      go_wp2_with fail
      refine C2.out.mono ?_
      rintro e w2 ⟨rfl, hr2, g2⟩
      have R2 := Lib.hid (R.out.read (σ := σ2) (by decide) hr2 g2)
      have C3 := dFlagR hr2
      rw [show pFlag (σ2.1, σ2.2) = (cx, σ3) from HY.out] at C3
      have C3 := Lib.hid C3
      clear hr2 g2 C2 R
      go_wp2_with fail
      refine C3.out.mono ?_
      rintro e w2 ⟨rfl, hr3, g3⟩
      have R2 := Lib.hid (R2.out.read (σ := σ3) (by decide) hr3 g3)
      clear hr3 g3 C3
      have S2 := Lib.hid (sl_one (E := elL) w2 ⟨ck, cx⟩ (fun _ => Nat.zero_le _))
      have R3 := Lib.hid (R2.out.alloc (.cells #[.string ck, .bool cx] 49))
      have HSZ : Hid (w.heap.size ≤ (w2.alloc (.cells #[.string ck, .bool cx] 49)).heap.size) := Lib.hid R3.out.q.grown.size
      go_wp2_with (at_builtin; refine wpList_append_sl (E := elL) rfl _ _ 25 rfl w.heap.size i0 (.agg #[.string ByteArray.empty, .bool false]) 24 Try.underlying25 hi hz0 hz1 hz2 rfl rfl (by exact R3.out.own.own) rfl (by exact S2.out) (by omega) (by omega) HSZ.out ?_)
      intro A' c' w3 ha
      have R4 := Lib.hid (R2.out.app HG.out HRB.out ((Below.refl _ _).alloc (Nat.le_refl _) _) ha.out)
      clear ha S2 R3 HSZ R2
      go_wp2_with fail
      go_roundw
      case rel => exact ⟨k + 1, A', c', by omega, by go_num, rfl, by rw [HNX.out]; exact R4.out⟩
      case measure => simp [intOf]; omega
    · obtain rfl : k = k0 := by omega
      go_wp2_with fail
      go_ret
      exact ⟨A, k, c, rfl, by rw [HP.out]; exact R.out.own, by rw [HP.out]; exact R.out.q⟩
theorem vl_infR : (Try.prog.info? 23).map (·.size) = some 2 := by kernel_rfl
theorem grown_setNewR {w w1 : World} {row : Option Nat} (h : w.grownBy w1 row) {p : Addr} (hp : w.heap.size ≤ p.block) (u : Value) : w.grownBy (w1.setCell p u) row :=
  ⟨h.os, h.tape, h.output, by simpa using h.size, fun k hk hne => (Below.heap_setCell w1 p u k (fun q => by omega)).trans (h.block k hk hne)⟩
theorem Rd.setNewR {w : World} {t : TypeId} {b g : Nat} {l : List Int} {e : Nat} (h : Rd w t b g l e) {p i : Nat} (hb : b ≠ p) (hg : g ≠ p) (u : Value) : Rd (w.setCell ⟨p, i, none⟩ u) t b g l e :=
  h.grown (grown_set w p i u) (fun q => hb (by injection q)) (fun q => hg (by injection q))

set_option maxRecDepth 100000 in
set_option maxHeartbeats 4000000 in
theorem readValue_any (rb g : Nat) (l : List Int) (e : Nat) (w : World) (h : Rd w 76 rb g l e) (hg : g < w.heap.size) :
    Calls Try.prog 39 #[.pointer (some ⟨rb, 0, none⟩)] w (fun e' w' => e' = .returned (.agg #[.bool (pVl (l, e)).1.has, .string (pVl (l, e)).1.data]) ∧ RdQ rb g w w' (pVl (l, e)).2) := by
  obtain ⟨W0, hW0⟩ : ∃ W, W = w.alloc (.cells #[.bool false, .string ⟨#[]⟩] 23) := ⟨_, rfl⟩
  have R0 : Hid (Bk W0 w.heap.size 23 #[.bool false, .string ⟨#[]⟩]) := Lib.hid (by rw [hW0]; exact Bk.new w _ _)
  have G0 : Hid (w.grownBy W0 (some rb)) := Lib.hid (by rw [hW0]; exact World.grownBy_alloc w _ _)
  have D0 : Rd W0 76 rb g l e := by rw [hW0]; exact h.alloc _
  have hrb := h.lt
  obtain ⟨r, hr⟩ : ∃ r, w.heap.size = r := ⟨_, rfl⟩
  rw [hr] at R0 hrb hg
  obtain ⟨⟨fl, σ1⟩, hF⟩ : ∃ x, pFlag (l, e) = x := ⟨_, rfl⟩
  have C1 := dFlagR D0
  rw [hF] at C1
  have C1 := Lib.hid C1
  have HF := Lib.hid hF
  have HW := Lib.hid hW0
  have HR := Lib.hid hr
  clear h hW0 hr hF D0
  go_enter Try.func39, Try.ntmps39
  go_wp2_with fail
  rw [← HW.out, HR.out]
  refine C1.out.mono ?_
  rintro e' w1 ⟨rfl, hr1, g1⟩
  have R1 : Hid (Bk w1 r 23 #[.bool false, .string ⟨#[]⟩]) := Lib.hid ((g1.block r R0.out.lt (fun q => by injection q with q; omega)).trans R0.out)
  have G1 : Hid (w.grownBy w1 (some rb)) := Lib.hid (grown_trans G0.out g1)
  have D1 := Lib.hid hr1
  clear hr1 g1 C1 R0 G0 HW
  cases fl with
  | false =>
    have E : Hid (pVl (l, e) = (⟨false, ByteArray.empty⟩, σ1)) := Lib.hid (by unfold pVl; rw [HF.out]; rfl)
    have Z0 : w1.frozen? ⟨r, 0, none⟩ = false := R1.out.frz 0
    have Z1 : w1.frozen? ⟨r, 1, none⟩ = false := R1.out.frz 1
    have z0 : w1.cell? ⟨r, 0, none⟩ = some (.bool false) := R1.out.cell 0
    have z1 : w1.cell? ⟨r, 1, none⟩ = some (.string ⟨#[]⟩) := R1.out.cell 1
    have FB := Lib.hid ((R1.out.setc 0 (.bool false)).setc 1 (.string ⟨#[]⟩))
    have FD : Hid (RdQ rb g w ((w1.setCell ⟨r, 0, none⟩ (.bool false)).setCell ⟨r, 1, none⟩ (.string ⟨#[]⟩)) σ1) := Lib.hid ⟨(D1.out.setNewR (by omega) (by omega) _).setNewR (by omega) (by omega) _, grown_setNewR (grown_setNewR G1.out (by show w.heap.size ≤ r; rw [HR.out]; exact Nat.le_refl _) _) (by show w.heap.size ≤ r; rw [HR.out]; exact Nat.le_refl _) _⟩
    go_wp2_with fail
    (try simp only [Exit.inBlock, Exit.then])
    refine bodyPost_ret (results_cell_row (p := 2) (ty := 23) rfl _ _ r 23 _ (0, 0) _ rfl FB.out Try.underlying23 rfl vl_infR) rfl ?_
    rw [E.out]
    exact ⟨rfl, FD.out⟩
  | true =>
    obtain ⟨⟨tx, σ2⟩, hT⟩ : ∃ x, pText 32 σ1 = x := ⟨_, rfl⟩
    have E : Hid (pVl (l, e) = (⟨true, tx⟩, σ2)) := Lib.hid (by unfold pVl; rw [HF.out]; simp only [if_true]; rw [hT])
    have C2 := dTextR 32 (by omega) D1.out
    rw [show pText 32 (σ1.1, σ1.2) = (tx, σ2) from hT] at C2
    have C2 := Lib.hid C2
    clear hT
    go_wp2_with fail
    refine C2.out.mono ?_
    rintro e' w2 ⟨rfl, hr2, g2⟩
    have R2 : Hid (Bk w2 r 23 #[.bool false, .string ⟨#[]⟩]) := Lib.hid ((g2.block r R1.out.lt (fun q => by injection q with q; omega)).trans R1.out)
    have G2 : Hid (w.grownBy w2 (some rb)) := Lib.hid (grown_trans G1.out g2)
    have D2 := Lib.hid hr2
    clear hr2 g2 C2 R1 G1 D1
    have Z0 : w2.frozen? ⟨r, 0, none⟩ = false := R2.out.frz 0
    have Z1 : w2.frozen? ⟨r, 1, none⟩ = false := R2.out.frz 1
    have z0 : w2.cell? ⟨r, 0, none⟩ = some (.bool false) := R2.out.cell 0
    have z1 : w2.cell? ⟨r, 1, none⟩ = some (.string ⟨#[]⟩) := R2.out.cell 1
    have FB := Lib.hid ((R2.out.setc 0 (.bool true)).setc 1 (.string tx))
    have FD : Hid (RdQ rb g w ((w2.setCell ⟨r, 0, none⟩ (.bool true)).setCell ⟨r, 1, none⟩ (.string tx)) σ2) := Lib.hid ⟨(D2.out.setNewR (by omega) (by omega) _).setNewR (by omega) (by omega) _, grown_setNewR (grown_setNewR G2.out (by show w.heap.size ≤ r; rw [HR.out]; exact Nat.le_refl _) _) (by show w.heap.size ≤ r; rw [HR.out]; exact Nat.le_refl _) _⟩
    go_wp2_with fail
    (try simp only [Exit.inBlock, Exit.then])
    refine bodyPost_ret (results_cell_row (p := 2) (ty := 23) rfl _ _ r 23 _ (0, 0) _ rfl FB.out Try.underlying23 rfl vl_infR) rfl ?_
    rw [E.out]
    exact ⟨rfl, FD.out⟩
end Go.Proofs.Ytfldcddbmikfiaa

/- trothref07.readLists: the lists of a checkpoint that are read, in memory of its own. -/
namespace Go.Proofs.Ytfldcddbmikfiaa
open Go.RowKit

/-- Rows and deeds as elements, whatever lies behind their slices. -/
def elRt : El Xw := ⟨8, Xw.cells, fun _ _ _ => True, fun _ _ _ _ _ _ => trivial, fun _ => rfl, by intro x v hv; simp [Xw.cells] at hv; rcases hv with rfl | rfl | rfl | rfl | rfl | rfl | rfl | rfl <;> rfl, by omega, 51, rfl, fun _ => false, fun _ _ _ _ _ _ _ _ _ _ _ _ _ => trivial⟩
def elDt : El Dt := ⟨2, fun d => [.int .i64 d.page, .int .i64 d.lsn], fun _ _ _ => True, fun _ _ _ _ _ _ => trivial, fun _ => rfl, by intro x v hv; simp at hv; rcases hv with rfl | rfl <;> rfl, by omega, 89, rfl, fun _ => false, fun _ _ _ _ _ _ _ _ _ _ _ _ _ => trivial⟩
def elEt : El Xd := ⟨2, Xd.cells, fun _ _ _ => True, fun _ _ _ _ _ _ => trivial, fun _ => rfl, by intro x v hv; simp [Xd.cells] at hv; rcases hv with rfl | rfl <;> rfl, by omega, 53, rfl, fun _ => false, fun _ _ _ _ _ _ _ _ _ _ _ _ _ => trivial⟩
instance : Inhabited Dt := ⟨⟨0, 0⟩⟩

/-- A row's own lists. -/
structure XwNew (base : Nat) (w : World) (z : Xw) : Prop where
  tx : i64 z.tx
  st : i64 z.st
  fi : i64 z.fi
  la : i64 z.la
  un : i64 z.un
  co : i64 z.co
  mem : OwnL elI base w z.mA z.mn z.mc z.mem
  lks : OwnL elL base w z.kA z.kn z.kc z.lks
  each : ∀ x ∈ z.mem, i64 x
structure XdNew (base : Nat) (w : World) (z : Xd) : Prop where
  tx : i64 z.tx
  mem : OwnL elI base w z.mA z.mn z.mc z.mem
  each : ∀ x ∈ z.mem, i64 x
/-- All blocks of these five types stand. -/
structure Stay5 (w w' : World) : Prop where
  i : Stay 3 w w'
  l : Stay 49 w w'
  r : Stay 51 w w'
  d : Stay 89 w w'
  e : Stay 53 w w'
theorem XwNew.stay {base : Nat} {w w' : World} {z : Xw} (h : XwNew base w z) (hi : Stay 3 w w') (hl : Stay 49 w w') : XwNew base w' z := ⟨h.tx, h.st, h.fi, h.la, h.un, h.co, h.mem.stay hi, h.lks.stay hl, h.each⟩
theorem XdNew.stay {base : Nat} {w w' : World} {z : Xd} (h : XdNew base w z) (hi : Stay 3 w w') : XdNew base w' z := ⟨h.tx, h.mem.stay hi, h.each⟩
theorem Stay5.of_below {w w' : World} (h : Below w.heap.size w w') : Stay5 w w' := ⟨.of_below h, .of_below h, .of_below h, .of_below h, .of_below h⟩
theorem Stay5.of_read {rb g : Nat} {w w' : World} {σ0 : Sg} (h0 : Rd w 76 rb g σ0.1 σ0.2) (hg : w.grownBy w' (some rb)) : Stay5 w w' := by
  obtain ⟨A, n, c, hb, _⟩ := h0.ex
  exact ⟨.grown hg hb (by decide), .grown hg hb (by decide), .grown hg hb (by decide), .grown hg hb (by decide), .grown hg hb (by decide)⟩
theorem Stay5.set {w : World} {b i : Nat} {U : TypeId} {cs : Array Value} (hb : Bk w b U cs) (hi : U ≠ 3) (hl : U ≠ 49) (hr : U ≠ 51) (hd : U ≠ 89) (he : U ≠ 53) (u : Value) : Stay5 w (w.setCell ⟨b, i, none⟩ u) := ⟨.set hb hi u, .set hb hl u, .set hb hr u, .set hb hd u, .set hb he u⟩
theorem Stay5.trans {w w1 w2 : World} (h : Stay5 w w1) (k : Stay5 w1 w2) : Stay5 w w2 := ⟨h.i.trans k.i, h.l.trans k.l, h.r.trans k.r, h.d.trans k.d, h.e.trans k.e⟩

/-- The cells of a checkpoint that is read. -/
def cellsCk (rs ds es ps : Value) : Array Value := #[.int .i64 8, .int .i64 0, .int .i64 0, .int .i64 0, .string ⟨#[]⟩, .bool false, .string ⟨#[]⟩, .bool false, .string ⟨#[]⟩, .int .i64 0, .slice none 0 0, .slice none 0 0, rs, ds, es, ps]
/-- What readLists has. -/
structure LsW (w wr : World) (rb g r : Nat) (R D E : Option Addr × Nat × Nat) (rows : List Xw) (dirty : List Dt) (deeds : List Xd) (σ : Sg) : Prop where
  ord : g < r ∧ rb < r
  rd : Rd wr 76 rb g σ.1 σ.2
  box : Bk wr r 30 (cellsCk (.slice R.1 R.2.1 R.2.2) (.slice D.1 D.2.1 D.2.2) (.slice E.1 E.2.1 E.2.2) (.slice none 0 0))
  res : Bk wr (r + 1) 30 #[.int .i64 0, .int .i64 0, .int .i64 0, .int .i64 0, .string ⟨#[]⟩, .bool false, .string ⟨#[]⟩, .bool false, .string ⟨#[]⟩, .int .i64 0, .slice none 0 0, .slice none 0 0, .slice none 0 0, .slice none 0 0, .slice none 0 0, .slice none 0 0]
  size : w.heap.size = r
  gr : w.grownBy wr (some rb)
  ors : OwnL elRt r wr R.1 R.2.1 R.2.2 rows
  ods : OwnL elDt r wr D.1 D.2.1 D.2.2 dirty
  oes : OwnL elEt r wr E.1 E.2.1 E.2.2 deeds
  er : ∀ z ∈ rows, XwNew r wr z
  ee : ∀ z ∈ deeds, XdNew r wr z
section
variable {w wr w' : World} {rb g r : Nat} {R D E : Option Addr × Nat × Nat} {rows : List Xw} {dirty : List Dt} {deeds : List Xd} {σ σ' : Sg}
theorem LsW.move (h : LsW w wr rb g r R D E rows dirty deeds σ) (hr : Rd w' 76 rb g σ'.1 σ'.2) (hs : Stay5 wr w') (hb : w'.heap[r]? = wr.heap[r]?) (hb1 : w'.heap[r + 1]? = wr.heap[r + 1]?) (hg : w.grownBy w' (some rb)) : LsW w w' rb g r R D E rows dirty deeds σ' :=
  ⟨h.ord, hr, hb.trans h.box, hb1.trans h.res, h.size, hg, h.ors.stay hs.r, h.ods.stay hs.d, h.oes.stay hs.e, fun z hz => (h.er z hz).stay hs.i hs.l, fun z hz => (h.ee z hz).stay hs.i⟩
theorem LsW.read (h : LsW w wr rb g r R D E rows dirty deeds σ) (hr : Rd w' 76 rb g σ'.1 σ'.2) (hg : wr.grownBy w' (some rb)) : LsW w w' rb g r R D E rows dirty deeds σ' :=
  h.move hr (Stay5.of_read h.rd hg) (hg.block r h.box.lt (fun q => by injection q with q; have := h.ord; omega)) (hg.block (r + 1) h.res.lt (fun q => by injection q with q; have := h.ord; omega)) (grown_trans h.gr hg)
theorem LsW.new (h : LsW w wr rb g r R D E rows dirty deeds σ) (hb : Below wr.heap.size wr w') : LsW w w' rb g r R D E rows dirty deeds σ :=
  have hg : wr.grownBy w' none := ⟨hb.os, hb.tape, hb.output, hb.size, fun k hk _ => hb.block k hk⟩
  h.move (h.rd.grown hg (by simp) (by simp)) (Stay5.of_below hb) (hb.block r h.box.lt) (hb.block (r + 1) h.res.lt) (grown_trans h.gr ⟨hb.os, hb.tape, hb.output, hb.size, fun k hk _ => hb.block k hk⟩)
/-- A cell of a new block of another type is written. -/
theorem LsW.set (h : LsW w wr rb g r R D E rows dirty deeds σ) {q i : Nat} {cs : Array Value} (hq : Bk wr q 51 cs) (hn : ∀ k, (Value.slice R.1 R.2.1 R.2.2).ownBlock = some k → k < q) (hq2 : r + 1 < q) (u : Value) : LsW w (wr.setCell ⟨q, i, none⟩ u) rb g r R D E rows dirty deeds σ := by
  have hgr := grown_set wr q i u
  refine ⟨h.ord, h.rd.setNewR (by have := h.ord; omega) (by have := h.ord; omega) u, (hgr.block r h.box.lt (fun e => by injection e with e; omega)).trans h.box, (hgr.block (r + 1) h.res.lt (fun e => by injection e with e; omega)).trans h.res, h.size, ⟨hgr.os.trans h.gr.os, hgr.tape.trans h.gr.tape, hgr.output.trans h.gr.output, Nat.le_trans h.gr.size hgr.size, fun k hk hne => (hgr.block k (Nat.lt_of_lt_of_le hk h.gr.size) (fun e => by injection e with e; have := h.size; omega)).trans (h.gr.block k hk hne)⟩, ?_, h.ods.stay (.set hq (by decide) u), h.oes.stay (.set hq (by decide) u), fun z hz => (h.er z hz).stay (.set hq (by decide) u) (.set hq (by decide) u), fun z hz => (h.ee z hz).stay (.set hq (by decide) u)⟩
  refine ⟨⟨h.ors.own.1, ?_⟩, h.ors.len⟩
  rcases h.ors.own.2 with e | ⟨k, cap, cur, e1, e2, e3, e4⟩
  · exact .inl e
  · refine .inr ⟨k, cap, cur, e1, e2, ?_, e4⟩
    have hk : k < q := hn k (by rw [e1]; rfl)
    exact (hgr.block k (Array.getElem?_eq_some_iff.1 e3).1 (fun e => by injection e with e; omega)).trans e3
/-- One more of rows. -/
theorem LsW.pushR (h : LsW w wr rb g r R D E rows dirty deeds σ) {w1 w2 : World} {A' : Option Addr} {c' : Nat} {z : Xw} (hb : Below wr.heap.size wr w1) (ha : Apd elRt r w1 w2 (Value.slice R.1 R.2.1 R.2.2).ownBlock A' (R.2.1 + 1) c' (rows ++ [z])) (hz : XwNew r w1 z) :
    LsW w (w2.setCell ⟨r, 12, none⟩ (.slice A' (R.2.1 + 1) c')) rb g r (A', R.2.1 + 1, c') D E (rows ++ [z]) dirty deeds σ ∧ w2.frozen? ⟨r, 12, none⟩ = false ∧ w2.cell? ⟨r, 12, none⟩ = some (.slice R.1 R.2.1 R.2.2) := by
  have h1 := h.new hb
  have ho := h1.ors.own
  have st : ∀ T, 51 ≠ T → Stay T w1 w2 := fun T hT => Stay.row ha.grown ho hT
  have hlow : ∀ k, (Value.slice R.1 R.2.1 R.2.2).ownBlock = some k → r ≤ k := fun k hk => (ho.lt k hk).1
  have b2 : Bk w2 r 30 _ := ((st 30 (by decide)).same _ _ _ h1.box).trans h1.box
  have r2 : Bk w2 (r + 1) 30 _ := ((st 30 (by decide)).same _ _ _ h1.res).trans h1.res
  have rd2 : Rd w2 76 rb g σ.1 σ.2 := h1.rd.grown ha.grown (fun q => by have := hlow rb q.symm; have := h.ord; omega) (fun q => by have := hlow g q.symm; have := h.ord; omega)
  have gr2 : w.grownBy w2 (some rb) := ⟨ha.grown.os.trans h1.gr.os, ha.grown.tape.trans h1.gr.tape, ha.grown.output.trans h1.gr.output, Nat.le_trans h1.gr.size ha.grown.size, fun k hk hne => (ha.grown.block k (Nat.lt_of_lt_of_le hk h1.gr.size) (fun q => by have := hlow k q.symm; have := h.size; omega)).trans (h1.gr.block k hk hne)⟩
  refine ⟨⟨h.ord, rd2.setNewR (by have := h.ord; omega) (by have := h.ord; omega) _, ?_, ?_, h.size, grown_setNewR gr2 (by show w.heap.size ≤ r; have := h.size; omega) _, ?_, ?_, ?_, ?_, ?_⟩, b2.frz 12, b2.cell 12⟩
  · simpa [cellsCk] using b2.setc 12 (.slice A' (R.2.1 + 1) c')
  · exact ((grown_set w2 r 12 _).block (r + 1) r2.lt (fun q => by injection q with q; omega)).trans r2
  · exact OwnL.stay ⟨ha.own, by simp [h1.ors.len]⟩ (.set b2 (by decide) _)
  · exact (h1.ods.stay (st _ (by decide))).stay (.set b2 (by decide) _)
  · exact (h1.oes.stay (st _ (by decide))).stay (.set b2 (by decide) _)
  · intro y hy
    rcases List.mem_append.1 hy with q | q
    · exact ((h1.er y q).stay (st _ (by decide)) (st _ (by decide))).stay (.set b2 (by decide) _) (.set b2 (by decide) _)
    · have : y = z := by simpa using q
      subst this
      exact (hz.stay (st _ (by decide)) (st _ (by decide))).stay (.set b2 (by decide) _) (.set b2 (by decide) _)
  · exact fun y hy => ((h1.ee y hy).stay (st _ (by decide))).stay (.set b2 (by decide) _)
/-- One more of dirty. -/
theorem LsW.pushD (h : LsW w wr rb g r R D E rows dirty deeds σ) {w1 w2 : World} {A' : Option Addr} {c' : Nat} {z : Dt} (hb : Below wr.heap.size wr w1) (ha : Apd elDt r w1 w2 (Value.slice D.1 D.2.1 D.2.2).ownBlock A' (D.2.1 + 1) c' (dirty ++ [z]))  :
    LsW w (w2.setCell ⟨r, 13, none⟩ (.slice A' (D.2.1 + 1) c')) rb g r R (A', D.2.1 + 1, c') E rows (dirty ++ [z]) deeds σ ∧ w2.frozen? ⟨r, 13, none⟩ = false ∧ w2.cell? ⟨r, 13, none⟩ = some (.slice D.1 D.2.1 D.2.2) := by
  have h1 := h.new hb
  have ho := h1.ods.own
  have st : ∀ T, 89 ≠ T → Stay T w1 w2 := fun T hT => Stay.row ha.grown ho hT
  have hlow : ∀ k, (Value.slice D.1 D.2.1 D.2.2).ownBlock = some k → r ≤ k := fun k hk => (ho.lt k hk).1
  have b2 : Bk w2 r 30 _ := ((st 30 (by decide)).same _ _ _ h1.box).trans h1.box
  have r2 : Bk w2 (r + 1) 30 _ := ((st 30 (by decide)).same _ _ _ h1.res).trans h1.res
  have rd2 : Rd w2 76 rb g σ.1 σ.2 := h1.rd.grown ha.grown (fun q => by have := hlow rb q.symm; have := h.ord; omega) (fun q => by have := hlow g q.symm; have := h.ord; omega)
  have gr2 : w.grownBy w2 (some rb) := ⟨ha.grown.os.trans h1.gr.os, ha.grown.tape.trans h1.gr.tape, ha.grown.output.trans h1.gr.output, Nat.le_trans h1.gr.size ha.grown.size, fun k hk hne => (ha.grown.block k (Nat.lt_of_lt_of_le hk h1.gr.size) (fun q => by have := hlow k q.symm; have := h.size; omega)).trans (h1.gr.block k hk hne)⟩
  refine ⟨⟨h.ord, rd2.setNewR (by have := h.ord; omega) (by have := h.ord; omega) _, ?_, ?_, h.size, grown_setNewR gr2 (by show w.heap.size ≤ r; have := h.size; omega) _, ?_, ?_, ?_, ?_, ?_⟩, b2.frz 13, b2.cell 13⟩
  · simpa [cellsCk] using b2.setc 13 (.slice A' (D.2.1 + 1) c')
  · exact ((grown_set w2 r 13 _).block (r + 1) r2.lt (fun q => by injection q with q; omega)).trans r2
  · exact (h1.ors.stay (st _ (by decide))).stay (.set b2 (by decide) _)
  · exact OwnL.stay ⟨ha.own, by simp [h1.ods.len]⟩ (.set b2 (by decide) _)
  · exact (h1.oes.stay (st _ (by decide))).stay (.set b2 (by decide) _)
  · exact fun y hy => ((h1.er y hy).stay (st _ (by decide)) (st _ (by decide))).stay (.set b2 (by decide) _) (.set b2 (by decide) _)
  · exact fun y hy => ((h1.ee y hy).stay (st _ (by decide))).stay (.set b2 (by decide) _)
/-- One more of deeds. -/
theorem LsW.pushE (h : LsW w wr rb g r R D E rows dirty deeds σ) {w1 w2 : World} {A' : Option Addr} {c' : Nat} {z : Xd} (hb : Below wr.heap.size wr w1) (ha : Apd elEt r w1 w2 (Value.slice E.1 E.2.1 E.2.2).ownBlock A' (E.2.1 + 1) c' (deeds ++ [z])) (hz : XdNew r w1 z) :
    LsW w (w2.setCell ⟨r, 14, none⟩ (.slice A' (E.2.1 + 1) c')) rb g r R D (A', E.2.1 + 1, c') rows dirty (deeds ++ [z]) σ ∧ w2.frozen? ⟨r, 14, none⟩ = false ∧ w2.cell? ⟨r, 14, none⟩ = some (.slice E.1 E.2.1 E.2.2) := by
  have h1 := h.new hb
  have ho := h1.oes.own
  have st : ∀ T, 53 ≠ T → Stay T w1 w2 := fun T hT => Stay.row ha.grown ho hT
  have hlow : ∀ k, (Value.slice E.1 E.2.1 E.2.2).ownBlock = some k → r ≤ k := fun k hk => (ho.lt k hk).1
  have b2 : Bk w2 r 30 _ := ((st 30 (by decide)).same _ _ _ h1.box).trans h1.box
  have r2 : Bk w2 (r + 1) 30 _ := ((st 30 (by decide)).same _ _ _ h1.res).trans h1.res
  have rd2 : Rd w2 76 rb g σ.1 σ.2 := h1.rd.grown ha.grown (fun q => by have := hlow rb q.symm; have := h.ord; omega) (fun q => by have := hlow g q.symm; have := h.ord; omega)
  have gr2 : w.grownBy w2 (some rb) := ⟨ha.grown.os.trans h1.gr.os, ha.grown.tape.trans h1.gr.tape, ha.grown.output.trans h1.gr.output, Nat.le_trans h1.gr.size ha.grown.size, fun k hk hne => (ha.grown.block k (Nat.lt_of_lt_of_le hk h1.gr.size) (fun q => by have := hlow k q.symm; have := h.size; omega)).trans (h1.gr.block k hk hne)⟩
  refine ⟨⟨h.ord, rd2.setNewR (by have := h.ord; omega) (by have := h.ord; omega) _, ?_, ?_, h.size, grown_setNewR gr2 (by show w.heap.size ≤ r; have := h.size; omega) _, ?_, ?_, ?_, ?_, ?_⟩, b2.frz 14, b2.cell 14⟩
  · simpa [cellsCk] using b2.setc 14 (.slice A' (E.2.1 + 1) c')
  · exact ((grown_set w2 r 14 _).block (r + 1) r2.lt (fun q => by injection q with q; omega)).trans r2
  · exact (h1.ors.stay (st _ (by decide))).stay (.set b2 (by decide) _)
  · exact (h1.ods.stay (st _ (by decide))).stay (.set b2 (by decide) _)
  · exact OwnL.stay ⟨ha.own, by simp [h1.oes.len]⟩ (.set b2 (by decide) _)
  · exact fun y hy => ((h1.er y hy).stay (st _ (by decide)) (st _ (by decide))).stay (.set b2 (by decide) _) (.set b2 (by decide) _)
  · intro y hy
    rcases List.mem_append.1 hy with q | q
    · exact ((h1.ee y q).stay (st _ (by decide))).stay (.set b2 (by decide) _)
    · have : y = z := by simpa using q
      subst this
      exact (hz.stay (st _ (by decide))).stay (.set b2 (by decide) _)
end
end Go.Proofs.Ytfldcddbmikfiaa
