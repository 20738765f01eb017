/- What it says: the methods of trothref03.Reader step as seal.Reader's do; trothref03.Open answers what seal.Open answers. -/
import Derived.Test.YtlnhillpghjknaaDoorReader2
import Derived.Test.YtlnhillpghjknaaDoorOpenSeal
namespace Go.Proofs.YtlnhillpghjknaaDoor
open Go.RowKit

set_option maxHeartbeats 1000000 in
theorem mNum_any (b g : Nat) (l : List Int) (e0 : Nat) (most : Int) (w : World) (h : Rd w 38 b g l e0) (hm : -9223372036854775808 ≤ most ∧ most ≤ 9223372036854775807) (x k er : Nat) (hF : numF l most = (x, k, er)) :
    Calls Tryd.prog 20 #[.pointer (some ⟨b, 0, none⟩), .int .i64 most] w (RdPost 38 b g (stepL l k e0 er) (stepE e0 er) (stepV (.int .i64 0) (.int .i64 x) e0 er) w) := by
  have hf0 : w.frozen? ⟨b, 0, none⟩ = false := by obtain ⟨A, n, c, h1, _⟩ := h.ex; exact h1.frz 0
  have hf1 : w.frozen? ⟨b, 1, none⟩ = false := by obtain ⟨A, n, c, h1, _⟩ := h.ex; exact h1.frz 1
  have H := Lib.hid h
  by_cases he : e0 = 0
  · subst he
    obtain ⟨A, n, c, h1, h2, h3⟩ := h.ex
    have c0 : w.cell? ⟨b, 0, none⟩ = some (.slice A n c) := h1.cell 0
    have c1 : w.cell? ⟨b, 1, none⟩ = some (.int .i64 0) := h1.cell 1
    obtain ⟨x0, k0, e1, ht⟩ : ∃ x k e, takeF l 0 0 = (x, k, e) := ⟨_, _, _, rfl⟩
    have hlt : e1 = 0 → x0 < 18446744073709551616 ∧ k0 ≤ l.length := fun e => by have := takeF_read l h2.rng x0 k0 (by rw [ht, e]); exact ⟨this.1, this.2.1⟩
    have C := Lib.hid (refTake_is A n c l x0 k0 e1 w h2 ht)
    have hF' : (if e1 ≠ 0 then (0, 0, e1) else if most < 0 ∨ most < (x0 : Int) then (0, 0, 12) else (x0, k0, 0)) = (x, k, er) := by
      rw [← hF]; unfold numF; rw [ht]
    have hlen := h2.len
    clear ht hF
    by_cases h0 : e1 = 0
    · subst h0
      obtain ⟨hx, hk⟩ := hlt rfl
      rw [if_neg (by simp)] at hF'
      clear hlt
      by_cases hm1 : most < 0 ∨ most < (x0 : Int)
      · rw [if_pos hm1] at hF'
        obtain ⟨rfl, rfl, rfl⟩ := triple hF'
        have R := Lib.hid (fun m => H.out.fail m 12)
        have hm2 : (most < 0) ∨ (0 ≤ most ∧ most < (x0 : Int)) := by omega
        clear h h1 h2 h3 hm1 hF'
        rcases hm2 with q1 | ⟨q1, q2⟩
        · go_enter Tryd.func20, Tryd.ntmps20
          go_wp2_with fail
          refine C.out.mono ?_
          rintro e w1 ⟨rfl, m, rfl⟩
          go_wp2_with fail
          go_ret
          exact ⟨rfl, R.out m⟩
        · obtain ⟨z, rfl⟩ := Int.eq_ofNat_of_zero_le q1
          obtain ⟨_, hz⟩ := hm
          go_enter Tryd.func20, Tryd.ntmps20
          go_wp2_with fail
          refine C.out.mono ?_
          rintro e w1 ⟨rfl, m, rfl⟩
          go_wp2_with fail
          go_ret
          exact ⟨rfl, R.out m⟩
      · rw [if_neg hm1] at hF'
        obtain ⟨rfl, rfl, rfl⟩ := triple hF'
        obtain ⟨B, j, d, hs, hkn, hb, hB⟩ := cut_lb h2 k0 (by omega) (k0 : Int) rfl
        have R := Lib.hid (fun m => H.out.next m hb (fun hk a ha => by obtain ⟨a', e1, e2⟩ := hB a ha; rw [e2]; exact h3 (by omega) a' e1))
        obtain ⟨z, rfl⟩ := Int.eq_ofNat_of_zero_le (show 0 ≤ most by omega)
        obtain ⟨_, hz⟩ := hm
        have q2 : ¬ (z : Int) < (x0 : Int) := by omega
        clear h h1 h2 h3 hm1 hF' hb hB hkn
        go_enter Tryd.func20, Tryd.ntmps20
        go_wp2_with fail
        refine C.out.mono ?_
        rintro e w1 ⟨rfl, m, rfl⟩
        go_wp2_with fail
        go_ret
        exact ⟨rfl, R.out m⟩
    · rw [if_pos h0] at hF'
      obtain ⟨rfl, rfl, rfl⟩ := triple hF'
      have hne : ((e1 : Int) != 0) = true := by simp; omega
      have R := Lib.hid (fun m => H.out.fail m e1)
      have e2 : stepL l 0 0 e1 = l := by simp [stepL, h0]
      have e3 : stepE 0 e1 = e1 := rfl
      have e4 : stepV (.int .i64 0) (.int .i64 (0 : Nat)) 0 e1 = .int .i64 0 := by simp [stepV]
      rw [e2, e3, e4]
      clear hlt h h1 h2 h3 hF' h0 e2 e3 e4
      go_enter Tryd.func20, Tryd.ntmps20
      go_wp2_with fail
      refine C.out.mono ?_
      rintro e w1 ⟨rfl, m, rfl⟩
      go_wp2_with fail
      go_ret
      exact ⟨rfl, R.out m⟩
  · have c1 : w.cell? ⟨b, 1, none⟩ = some (.int .i64 e0) := by obtain ⟨A, n, c, h1, _⟩ := h.ex; exact h1.cell 1
    have hne : ((e0 : Int) != 0) = true := by simp; omega
    have e2 : stepL l k e0 er = l := by simp [stepL, he]
    have e3 : stepE e0 er = e0 := by simp [stepE, he]
    have e4 : stepV (.int .i64 0) (.int .i64 x) e0 er = .int .i64 0 := by simp [stepV, he]
    rw [e2, e3, e4]
    clear h he e2 e3 e4
    go_enter Tryd.func20, Tryd.ntmps20
    go_wp2_with fail
    go_ret
    exact ⟨rfl, H.out, grown_drewN w 0 _⟩

set_option maxHeartbeats 1000000 in
theorem mByte_any (b g : Nat) (l : List Int) (e0 : Nat) (w : World) (h : Rd w 38 b g l e0) :
    Calls Tryd.prog 22 #[.pointer (some ⟨b, 0, none⟩)] w (RdPost 38 b g (stepL l (byteF l).2.1 e0 (byteF l).2.2) (stepE e0 (byteF l).2.2) (stepV (.int .u8 0) (.int .u8 (byteF l).1) e0 (byteF l).2.2) w) := by
  have hf0 : w.frozen? ⟨b, 0, none⟩ = false := by obtain ⟨A, n, c, h1, _⟩ := h.ex; exact h1.frz 0
  have hf1 : w.frozen? ⟨b, 1, none⟩ = false := by obtain ⟨A, n, c, h1, _⟩ := h.ex; exact h1.frz 1
  have H := Lib.hid h
  obtain ⟨A, n, c, h1, h2, h3⟩ := h.ex
  have c0 : w.cell? ⟨b, 0, none⟩ = some (.slice A n c) := h1.cell 0
  have c1 : w.cell? ⟨b, 1, none⟩ = some (.int .i64 e0) := h1.cell 1
  by_cases he : e0 = 0
  · subst he
    cases l with
    | nil =>
      have hn : n = 0 := by have := h2.len; simpa using this.symm
      subst hn
      have R := Lib.hid (fun m => H.out.fail m 10)
      clear h h1 h2 h3
      go_enter Tryd.func22, Tryd.ntmps22
      go_wp2_with fail
      go_ret
      exact ⟨rfl, R.out 0⟩
    | cons x r =>
      have hn : r.length + 1 = n := h2.len
      obtain ⟨B, j, d, hs, hkn, hb, hB⟩ := cut_lb h2 1 (by omega) (1 : Int) rfl
      have R := Lib.hid (fun m => H.out.next m hb (fun hk a ha => by obtain ⟨a', e1, e2⟩ := hB a ha; rw [e2]; exact h3 (by omega) a' e1))
      obtain ⟨g', off, rfl, hc⟩ := h2.at_ (by omega)
      have hc0 : w.cell? ⟨g', off, none⟩ = some (.int .u8 x) := by
        have := hc 0 (by omega)
        simpa using this
      have hn0 : ((n : Int) == 0) = false := by simp; omega
      have hn1 : (0 : Int) < (n : Int) := by omega
      have hcap := h2.cap
      have hmax := h2.max
      unfold maxLen at hmax
      clear h h1 h2 h3 hb hB hc hn hkn
      go_enter Tryd.func22, Tryd.ntmps22
      go_wp2_with fail
      go_ret
      exact ⟨rfl, R.out 0⟩
  · have hne : ((e0 : Int) != 0) = true := by simp; omega
    have e2 : stepL l (byteF l).2.1 e0 (byteF l).2.2 = l := by simp [stepL, he]
    have e3 : stepE e0 (byteF l).2.2 = e0 := by simp [stepE, he]
    have e4 : stepV (.int .u8 0) (.int .u8 (byteF l).1) e0 (byteF l).2.2 = .int .u8 0 := by simp [stepV, he]
    rw [e2, e3, e4]
    clear h he e2 e3 e4 h1 h2 h3
    go_enter Tryd.func22, Tryd.ntmps22
    go_wp2_with fail
    go_ret
    exact ⟨rfl, H.out, grown_drewN w 0 _⟩

/-- A reader that is set back. -/
theorem Rd.back {w w1 : World} {t : TypeId} {b g : Nat} {l l1 : List Int} {e e1 er : Nat} {A : Option Addr} {n c : Nat} (h : Rd w t b g l e) (h1 : Rd w1 t b g l1 e1) (hg : w.grownBy w1 (some b)) (hb : Byt w A n c l) (hA : 0 < n → ∀ a, A = some a → a.block = g) :
    Rd ((w1.setCell ⟨b, 1, none⟩ (.int .i64 er)).setCell ⟨b, 0, none⟩ (.slice A n c)) t b g l er ∧ w.grownBy ((w1.setCell ⟨b, 1, none⟩ (.int .i64 er)).setCell ⟨b, 0, none⟩ (.slice A n c)) (some b) := by
  have g1 := grown_trans hg (grown_trans (grown_set w1 b 1 (.int .i64 er)) (grown_set (w1.setCell ⟨b, 1, none⟩ (.int .i64 er)) b 0 (.slice A n c)))
  obtain ⟨A1, n1, c1, k1, _, _⟩ := h1.ex
  refine ⟨⟨h.ne, A, n, c, ?_, hb.grown g1 (fun hn a ha => by rw [hA hn a ha]; simpa using h.ne), hA⟩, g1⟩
  have := (k1.setc 1 (.int .i64 er)).setc 0 (.slice A n c)
  simpa using this

theorem flagF_byte (l : List Int) : (byteF l).2.2 ≠ 0 → l = [] := by
  cases l with
  | nil => simp
  | cons x r => simp [byteF]

set_option maxHeartbeats 1000000 in
theorem mFlag_any (b g : Nat) (l : List Int) (e0 : Nat) (w : World) (h : Rd w 38 b g l e0) :
    Calls Tryd.prog 24 #[.pointer (some ⟨b, 0, none⟩)] w (RdPost 38 b g (stepL l (flagF l).2.1 e0 (flagF l).2.2) (stepE e0 (flagF l).2.2) (stepV (.bool false) (.bool (flagF l).1) e0 (flagF l).2.2) w) := by
  have C := mByte_any b g l e0 w h
  have H := Lib.hid h
  obtain ⟨A, n, c, h1, h2, h3⟩ := h.ex
  have c0 : w.cell? ⟨b, 0, none⟩ = some (.slice A n c) := h1.cell 0
  by_cases he : e0 = 0
  · subst he
    cases l with
    | nil =>
      have C := Lib.hid C
      clear h h1 h2 h3
      go_enter Tryd.func24, Tryd.ntmps24
      go_wp2_with fail
      refine C.out.mono ?_
      rintro e w1 ⟨rfl, R⟩
      have R := Lib.hid R
      simp only [stepV, byteF]
      go_wp2_with fail
      go_ret
      exact ⟨rfl, R.out⟩
    | cons x r =>
      have eb : byteF (x :: r) = (x, 1, 0) := rfl
      rw [eb] at C
      have hx := h2.rng x (by simp)
      by_cases hx1 : 1 < x
      · rw [show flagF (x :: r) = (false, 0, 11) from if_pos hx1]
        have C := Lib.hid C
        have BK := Lib.hid (fun w1 l1 e1 (k1 : Rd w1 38 b g l1 e1) hg => H.out.back (er := 11) k1 hg h2 h3)
        clear h h1 h2 h3 eb
        go_enter Tryd.func24, Tryd.ntmps24
        go_wp2_with fail
        refine C.out.mono ?_
        rintro e w1 ⟨rfl, R, hg⟩
        have hf0 : w1.frozen? ⟨b, 0, none⟩ = false := by obtain ⟨A, n, c, h1, _⟩ := R.ex; exact h1.frz 0
        have hf1 : w1.frozen? ⟨b, 1, none⟩ = false := by obtain ⟨A, n, c, h1, _⟩ := R.ex; exact h1.frz 1
        obtain ⟨A1, n1, c1, k1, _, _⟩ := R.ex
        have d0 : w1.cell? ⟨b, 0, none⟩ = some (.slice A1 n1 c1) := k1.cell 0
        have d1 : w1.cell? ⟨b, 1, none⟩ = some (.int .i64 (stepE 0 0 : Nat)) := k1.cell 1
        have R2 := Lib.hid (BK.out w1 _ _ R hg)
        clear R hg k1
        simp only [stepV]
        go_wp2_with fail
        go_ret
        refine ⟨?_, R2.out⟩
        have : (x == 1) = false := by simp; omega
        simp [this, stepV]
      · rw [show flagF (x :: r) = (x == 1, 1, 0) from if_neg hx1]
        have C := Lib.hid C
        clear h h1 h2 h3 eb
        go_enter Tryd.func24, Tryd.ntmps24
        go_wp2_with fail
        refine C.out.mono ?_
        rintro e w1 ⟨rfl, R⟩
        have R := Lib.hid R
        simp only [stepV]
        go_wp2_with fail
        go_ret
        exact ⟨rfl, R.out⟩
  · have e2 : ∀ u er, stepL l u e0 er = l := fun u er => by simp [stepL, he]
    have e3 : ∀ er, stepE e0 er = e0 := fun er => by simp [stepE, he]
    have e4 : ∀ z v er, stepV z v e0 er = z := fun z v er => by simp [stepV, he]
    rw [e2, e3, e4] at C
    rw [e2, e3, e4]
    have C := Lib.hid C
    clear h he e2 e3 e4 h1 h2 h3
    go_enter Tryd.func24, Tryd.ntmps24
    go_wp2_with fail
    refine C.out.mono ?_
    rintro e w1 ⟨rfl, R⟩
    have R := Lib.hid R
    go_wp2_with fail
    go_ret
    exact ⟨rfl, R.out⟩

set_option maxHeartbeats 1000000 in
theorem mEnd_any (b g : Nat) (l : List Int) (e0 : Nat) (w : World) (h : Rd w 38 b g l e0) :
    Calls Tryd.prog 28 #[.pointer (some ⟨b, 0, none⟩)] w (RdPost 38 b g l (endE l e0) (.int .i64 (endE l e0)) w) := by
  have hf : w.frozen? ⟨b, 1, none⟩ = false := by obtain ⟨A, n, c, h1, _⟩ := h.ex; exact h1.frz 1
  obtain ⟨A, n, c, _, h0, h1, hn⟩ := h.byt
  have H := Lib.hid h
  have HN := Lib.hid hn
  clear h hn
  by_cases he : e0 = 0
  · subst he
    by_cases hl : 0 < n
    · have hl' : (0 : Int) < (n : Int) := by omega
      have E : Hid (endE l 0 = 13) := Lib.hid (if_pos ⟨rfl, by have := HN.out; omega⟩)
      have R := Lib.hid (H.out.fail 0 13)
      clear hl
      go_enter Tryd.func28, Tryd.ntmps28
      go_wp2_with fail
      go_ret
      rw [E.out]
      exact ⟨rfl, R.out⟩
    · have hl' : ¬ (0 : Int) < (n : Int) := by omega
      have E : Hid (endE l 0 = 0) := Lib.hid (if_neg (by have := HN.out; omega))
      clear hl
      go_enter Tryd.func28, Tryd.ntmps28
      go_wp2_with fail
      go_ret
      rw [E.out]
      exact ⟨rfl, H.out, grown_drewN w 0 _⟩
  · have hne : ((e0 : Int) == 0) = false := by simp; omega
    have E : Hid (endE l e0 = e0) := Lib.hid (if_neg (by omega))
    clear he
    go_enter Tryd.func28, Tryd.ntmps28
    go_wp2_with fail
    go_ret
    rw [E.out]
    exact ⟨rfl, H.out, grown_drewN w 0 _⟩
end Go.Proofs.YtlnhillpghjknaaDoor
