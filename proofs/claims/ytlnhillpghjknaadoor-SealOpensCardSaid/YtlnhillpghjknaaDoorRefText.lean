/- What it says: trothref03.Reader's Text steps as seal.Reader's does; trothref03.Open answers what seal.Open answers. -/
import Derived.Test.YtlnhillpghjknaaDoorRefOpen
import Derived.Test.YtlnhillpghjknaaDoorSame
import Derived.Deep.RegionHeld3
namespace Go.Proofs.YtlnhillpghjknaaDoor
open Go.RowKit

theorem numF_of {l : List Int} {most : Int} {x0 k0 e1 : Nat} (ht : takeF l 0 0 = (x0, k0, e1)) : numF l most = if e1 ≠ 0 then (0, 0, e1) else if most < 0 ∨ most < (x0 : Int) then (0, 0, 12) else (x0, k0, 0) := by
  unfold numF; rw [ht]

theorem textF_of {l : List Int} {most : Int} {x0 k0 e1 : Nat} (ht : numF l most = (x0, k0, e1)) : textF l most = if e1 ≠ 0 then ([], 0, e1) else if l.length - k0 < x0 then ([], 0, 10) else ((l.drop k0).take x0, k0 + x0, 0) := by
  unfold textF; rw [ht]

set_option maxRecDepth 4000 in
set_option maxHeartbeats 2000000 in
theorem mText_any (b g : Nat) (l : List Int) (e0 : Nat) (most : Int) (w : World) (h : Rd w 38 b g l e0) (hm : -9223372036854775808 ≤ most ∧ most ≤ 9223372036854775807) (s : List Int) (k er : Nat) (hF : textF l most = (s, k, er)) :
    Calls Tryd.prog 26 #[.pointer (some ⟨b, 0, none⟩), .int .i64 most] w (RdPost 38 b g (stepL l k e0 er) (stepE e0 er) (stepV (.string ByteArray.empty) (.string (strOfNums s)) e0 er) w) := by
  have hf0 : w.frozen? ⟨b, 0, none⟩ = false := by obtain ⟨A, n, c, h1, _⟩ := h.ex; exact h1.frz 0
  have hf1 : w.frozen? ⟨b, 1, none⟩ = false := by obtain ⟨A, n, c, h1, _⟩ := h.ex; exact h1.frz 1
  have H := Lib.hid h
  obtain ⟨A, n, c, h1, h2, h3⟩ := h.ex
  have c0 : w.cell? ⟨b, 0, none⟩ = some (.slice A n c) := h1.cell 0
  have c1 : w.cell? ⟨b, 1, none⟩ = some (.int .i64 e0) := h1.cell 1
  by_cases he : e0 = 0
  · subst he
    obtain ⟨x0, k0, e1, ht⟩ : ∃ x k e, takeF l 0 0 = (x, k, e) := ⟨_, _, _, rfl⟩
    have hlt : e1 = 0 → x0 < 18446744073709551616 ∧ k0 ≤ l.length := fun e => by have := takeF_read l h2.rng x0 k0 (by rw [ht, e]); exact ⟨this.1, this.2.1⟩
    have C := Lib.hid (refTake_is A n c l x0 k0 e1 w h2 ht)
    have hN := numF_of (most := most) ht
    have hlen := h2.len
    have hcap := h2.cap
    have hmax := h2.max
    unfold maxLen at hmax
    clear ht
    by_cases h0 : e1 = 0
    · subst h0
      obtain ⟨hx, hk⟩ := hlt rfl
      rw [if_neg (by simp)] at hN
      clear hlt
      by_cases hm1 : most < 0 ∨ most < (x0 : Int)
      · rw [if_pos hm1] at hN
        rw [textF_of hN, if_pos (by simp)] at hF
        obtain ⟨rfl, rfl, rfl⟩ := triple hF
        have R := Lib.hid (fun m => H.out.fail m 12)
        have hm2 : (most < 0) ∨ (0 ≤ most ∧ most < (x0 : Int)) := by omega
        clear h h1 h2 h3 hm1 hF hN
        rcases hm2 with q1 | ⟨q1, q2⟩
        · go_enter Tryd.func26, Tryd.ntmps26
          go_wp2_with fail
          refine C.out.mono ?_
          rintro e w1 ⟨rfl, m, rfl⟩
          go_wp2_with fail
          go_ret
          exact ⟨rfl, R.out m⟩
        · obtain ⟨z, rfl⟩ := Int.eq_ofNat_of_zero_le q1
          obtain ⟨_, hz⟩ := hm
          go_enter Tryd.func26, Tryd.ntmps26
          go_wp2_with fail
          refine C.out.mono ?_
          rintro e w1 ⟨rfl, m, rfl⟩
          go_wp2_with fail
          go_ret
          exact ⟨rfl, R.out m⟩
      · rw [if_neg hm1] at hN
        obtain ⟨z, rfl⟩ := Int.eq_ofNat_of_zero_le (show 0 ≤ most by omega)
        obtain ⟨_, hz⟩ := hm
        have q2 : ¬ (z : Int) < (x0 : Int) := by omega
        have hkn : (k0 : Int) ≤ (n : Int) := by omega
        by_cases hs : l.length - k0 < x0
        · rw [textF_of hN, if_neg (by simp), if_pos hs] at hF
          obtain ⟨rfl, rfl, rfl⟩ := triple hF
          have R := Lib.hid (fun m => H.out.fail m 10)
          have q3 : (n : Int) - (k0 : Int) < (x0 : Int) := by omega
          clear h h1 h2 h3 hm1 hF hN hs
          go_enter Tryd.func26, Tryd.ntmps26
          go_wp2_with fail
          refine C.out.mono ?_
          rintro e w1 ⟨rfl, m, rfl⟩
          go_wp2_with fail
          go_ret
          exact ⟨rfl, R.out m⟩
        · rw [textF_of hN, if_neg (by simp), if_neg hs] at hF
          obtain ⟨rfl, rfl, rfl⟩ := triple hF
          obtain ⟨B1, m1, d1, hs1, hm1', hb1⟩ := cut_lh h2 k0 (k0 + x0) (by omega) (by omega) (k0 : Int) ((k0 + x0 : Nat) : Int) rfl rfl
          rw [Nat.add_sub_cancel_left] at hm1' hb1
          obtain ⟨B, j, d, hs2, hkn2, hb, hB⟩ := cut_lb h2 (k0 + x0) (by omega) ((k0 + x0 : Nat) : Int) rfl
          have R := Lib.hid (fun m => H.out.next m hb (fun hk a ha => by obtain ⟨a', e1, e2⟩ := hB a ha; rw [e2]; exact h3 (by omega) a' e1))
          have q4 : k0 + x0 ≤ n := by omega
          have KC := Lib.hid (fun m => conv_byt (hb1.drewN m))
          obtain ⟨y, ey⟩ : ∃ y, k0 + x0 = y := ⟨_, rfl⟩
          rw [ey] at hs1 hs2 R q4 ⊢
          have ey' : (k0 : Int) + (x0 : Int) = (y : Int) := by omega
          obtain ⟨r, er⟩ : ∃ r, n - k0 = r := ⟨_, rfl⟩
          have er' : (n : Int) - (k0 : Int) = (r : Int) := by omega
          have q5 : (x0 : Int) ≤ (r : Int) := by omega
          have q6 : (r : Int) ≤ 9223372036854775807 := by omega
          have q7 : (y : Int) ≤ 9223372036854775807 := by omega
          have q8 : (x0 : Int) ≤ 9223372036854775807 := by omega
          clear h h1 h2 h3 hm1 hF hN hs hb hB hb1 hkn2 hm1' ey er q4 hk hkn
          go_enter Tryd.func26, Tryd.ntmps26
          go_wp2_with fail
          refine C.out.mono ?_
          rintro e w1 ⟨rfl, m, rfl⟩
          have kc := KC.out m
          go_wp2_with fail
          go_ret
          exact ⟨rfl, R.out m⟩
    · rw [if_pos h0] at hN
      rw [textF_of hN, if_pos h0] at hF
      obtain ⟨rfl, rfl, rfl⟩ := triple hF
      have hne : ((e1 : Int) != 0) = true := by simp; omega
      have R := Lib.hid (fun m => H.out.fail m e1)
      have e2 : stepL l 0 0 e1 = l := by simp [stepL, h0]
      have e3 : stepE 0 e1 = e1 := rfl
      have e4 : ∀ v, stepV (.string ByteArray.empty) v 0 e1 = .string ByteArray.empty := by intro v; simp [stepV, h0]
      rw [e2, e3, e4]
      clear hlt h h1 h2 h3 hF h0 e2 e3 e4 hN
      go_enter Tryd.func26, Tryd.ntmps26
      go_wp2_with fail
      refine C.out.mono ?_
      rintro e w1 ⟨rfl, m, rfl⟩
      go_wp2_with fail
      go_ret
      exact ⟨rfl, R.out m⟩
  · have hne : ((e0 : Int) != 0) = true := by simp; omega
    have e2 : stepL l k e0 er = l := by simp [stepL, he]
    have e3 : stepE e0 er = e0 := by simp [stepE, he]
    have e4 : ∀ v, stepV (.string ByteArray.empty) v e0 er = .string ByteArray.empty := by intro v; simp [stepV, he]
    rw [e2, e3, e4]
    clear h he e2 e3 e4 h1 h2 h3
    go_enter Tryd.func26, Tryd.ntmps26
    go_wp2_with fail
    go_ret
    exact ⟨rfl, H.out, grown_drewN w 0 _⟩

theorem stepV_ok (z v : Value) : stepV z v 0 0 = v := by simp [stepV]
theorem stepV_no (z v : Value) (er : Nat) (h : er ≠ 0) : stepV z v 0 er = z := by simp [stepV, h]
theorem stepE_0 (er : Nat) : stepE 0 er = er := rfl
theorem stepL_ok (l : List Int) (u : Nat) : stepL l u 0 0 = l.drop u := by simp [stepL]
theorem stepL_no (l : List Int) (u er : Nat) (h : er ≠ 0) : stepL l u 0 er = l := by simp [stepL, h]

/-- '[]byte(s)' of a string of known bytes. -/
theorem ofStr (w : World) (b : List Int) (hr : ∀ x ∈ b, 0 ≤ x ∧ x < 256) (hb : b.length ≤ 4096) : ∃ A n c w', (convert 9 25 (.string (strOfNums b))).run Tryd.prog w = .ok (.slice A n c) w' ∧ Byt w' A n c b ∧ Below w.heap.size w w' := by
  have h := Byt.ofString w 5 (strOfNums b) (by rw [str_size]; unfold maxLen; omega)
  rw [nums_str b hr] at h
  exact ⟨_, _, _, _, conv_str w _, h, bytesWorld_below _ _ _⟩

theorem RdPost.below {t : TypeId} {b g : Nat} {l : List Int} {e0 : Nat} {v : Value} {w w1 : World} {e : Ending} {w' : World} (hb : Below w.heap.size w w1) (hw : w.heap.size ≤ b) (h : RdPost t b g l e0 v w1 e w') : Below w.heap.size w w' :=
  hb.grown h.2.2 hb.size (fun k hk => by injection hk with hk; omega)

set_option maxRecDepth 4000 in
set_option maxHeartbeats 2000000 in
theorem refOpen_any (A : Option Addr) (n c : Nat) (l : List Int) (w : World) (h : Byt w A n c l) (hw0 : 0 < w.heap.size) (hn : n ≤ 140737488351232) (b : List Int) (u e : Nat) (hF : openF l = (b, u, e)) :
    Calls Tryd.prog 34 #[.slice A n c] w (Ret3 b u e w) := by
  obtain ⟨b0, u0, e0, ht⟩ : ∃ b u e, textF l 4096 = (b, u, e) := ⟨_, _, _, rfl⟩
  have hok := fun e => textF_ok h.rng (most := 4096) e
  rw [ht] at hok
  obtain ⟨g, hg, R0⟩ := Rd.new 38 h hw0
  have C := mText_any _ g l 0 4096 _ R0 (by omega) b0 u0 e0 ht
  have bel0 : Below w.heap.size w (w.alloc (.cells #[.slice A n c, .int .i64 0] 38)) := (Below.refl _ _).alloc (Nat.le_refl _) _
  have C := C.mono (fun e w' hp => And.intro hp (hp.below bel0 (Nat.le_refl _)))
  rw [stepE_0] at C
  have hF' : (if e0 ≠ 0 then ([], 0, e0) else if l.length - u0 < 4 then ([], 0, 10) else if (l.drop u0).take 4 = sumL (l.take u0) then (b0, u0 + 4, 0) else ([], 0, 30)) = (b, u, e) := by
    rw [← hF]; unfold openF; rw [ht]
  have hlen := h.len
  have hcap := h.cap
  have hmax := h.max
  unfold maxLen at hmax
  have H := Lib.hid h
  clear ht hF R0 hg bel0
  by_cases h0 : e0 = 0
  · subst h0
    obtain ⟨hu, htk, hb4⟩ := hok rfl
    simp only at hu htk hb4
    have hb4' : b0.length ≤ 4096 := by omega
    have hrb : ∀ x ∈ b0, 0 ≤ x ∧ x < 256 := fun x hx => by
      have : x ∈ textL b0 := by simp [textL, hx]
      rw [← htk] at this
      exact h.rng x (List.mem_of_mem_take this)
    rw [if_neg (by simp)] at hF'
    rw [stepV_ok, stepL_ok] at C
    clear hok htk
    have C := Lib.hid C
    have hun : u0 ≤ n := by omega
    obtain ⟨B1, d1, hs1, hb1⟩ := cut_h h u0 hun (u0 : Int) rfl
    have HB1 := Lib.hid hb1
    have HRB := Lib.hid hrb
    have HB4 := Lib.hid hb4'
    clear h hb1 hrb hb4 hb4'
    go_enter Tryd.func34, Tryd.ntmps34
    go_wp2_with fail
    refine C.out.mono ?_
    rintro e w1 ⟨⟨rfl, R, hg⟩, bel⟩
    obtain ⟨A2, n2, c2, k1, k2, _⟩ := R.ex
    have d0 : w1.cell? ⟨w.heap.size, 0, none⟩ = some (.slice A2 n2 c2) := k1.cell 0
    have d1' : w1.cell? ⟨w.heap.size, 1, none⟩ = some (.int .i64 (0 : Nat)) := k1.cell 1
    have hlt : w.heap.size < w1.heap.size := R.lt
    have hn2 : (n : Int) - (n2 : Int) = (u0 : Int) := by have := k2.len; rw [List.length_drop] at this; omega
    have hn2' : n2 = n - u0 := by omega
    have K2 := Lib.hid k2
    have L1 := Lib.hid bel
    have HLT := Lib.hid hlt
    clear R hg k1 k2 bel hlt C
    by_cases h2 : n2 < 4
    · rw [if_pos (by omega)] at hF'
      obtain ⟨rfl, rfl, rfl⟩ := triple hF'
      have h4 : (n2 : Int) < 4 := by omega
      clear h2 hn2' hF'
      go_wp2_with fail
      go_ret3
      exact ⟨none, 0, 0, rfl, Byt.nil _, L1.out⟩
    · rw [if_neg (by omega)] at hF'
      obtain ⟨B3, d3, hs3, hb3⟩ := cut_h K2.out 4 (by omega) (4 : Int) rfl
      have HB3 := Lib.hid hb3
      have h4 : ¬ (n2 : Int) < 4 := by omega
      have DC := Lib.hid d0
      clear h2 hn2' hb3
      by_cases hq : (l.drop u0).take 4 = sumL (l.take u0)
      · rw [if_pos hq] at hF'
        have HQ := Lib.hid hq
        obtain ⟨rfl, rfl, rfl⟩ := triple hF'
        clear hF' hq
        go_wp2_with fail
        go_region_held3 (fun w' => w'.cell? ⟨w.heap.size, 0, none⟩ = some (.slice A2 n2 c2)) (first | exact DC.out | exact (b2.cell (p := ⟨w.heap.size, 0, none⟩) HLT.out).trans DC.out | exact (b3.cell (p := ⟨w.heap.size, 0, none⟩) (Nat.lt_of_lt_of_le HLT.out b2.size)).trans ((b2.cell (p := ⟨w.heap.size, 0, none⟩) HLT.out).trans DC.out)) (first | (go_at_call 55; refine (refSumOf_any _ _ _ _ w1.drew (HB1.out.below (Below.drew L1.out))).mono ?_; rintro e w2 ⟨A4, n4, c4, rfl, ho4, hr4, b2⟩) | (go_at_call 15; refine (Quiet.ret (same_yes _ _ _ _ _ _ _ _ _ (Byt.of_own ho4 hr4) ((HB3.out.drew).below b2) HQ.out.symm)).mono ?_; rintro e w3 ⟨rfl, b3⟩))
        have L3 := Lib.hid (Below.then (Below.then (Below.drew L1.out) b2) b3)
        obtain ⟨A5, n5, c5, w4, kc, hb5, b5⟩ := ofStr w3 b0 HRB.out HB4.out
        have HB5 := Lib.hid hb5
        have L5 := Lib.hid (Below.then L3.out b5)
        clear b2 b3 hb5 b5 ho4 hr4
        go_wp2_with fail
        go_ret3
        exact ⟨A5, n5, c5, rfl, HB5.out, L5.out⟩
      · rw [if_neg hq] at hF'
        have HQ := Lib.hid hq
        obtain ⟨rfl, rfl, rfl⟩ := triple hF'
        clear hF' hq
        go_wp2_with fail
        go_region_held3 (fun w' => w'.cell? ⟨w.heap.size, 0, none⟩ = some (.slice A2 n2 c2)) (first | exact DC.out | exact (b2.cell (p := ⟨w.heap.size, 0, none⟩) HLT.out).trans DC.out | exact (b3.cell (p := ⟨w.heap.size, 0, none⟩) (Nat.lt_of_lt_of_le HLT.out b2.size)).trans ((b2.cell (p := ⟨w.heap.size, 0, none⟩) HLT.out).trans DC.out)) (first | (go_at_call 55; refine (refSumOf_any _ _ _ _ w1.drew (HB1.out.below (Below.drew L1.out))).mono ?_; rintro e w2 ⟨A4, n4, c4, rfl, ho4, hr4, b2⟩) | (go_at_call 15; refine (Quiet.ret (same_no _ _ _ _ _ _ _ _ _ (Byt.of_own ho4 hr4) ((HB3.out.drew).below b2) (Ne.symm HQ.out))).mono ?_; rintro e w3 ⟨rfl, b3⟩))
        have L3 := Lib.hid (Below.then (Below.then (Below.drew L1.out) b2) b3)
        clear b2 b3 ho4 hr4
        go_wp2_with fail
        go_ret3
        exact ⟨none, 0, 0, rfl, Byt.nil _, L3.out⟩
  · rw [if_pos h0] at hF'
    obtain ⟨rfl, rfl, rfl⟩ := triple hF'
    rw [stepV_no _ _ _ h0, stepL_no _ _ _ h0] at C
    have C := Lib.hid C
    have hne : ((e0 : Int) != 0) = true := by simp; omega
    clear h0 hok h hF'
    go_enter Tryd.func34, Tryd.ntmps34
    go_wp2_with fail
    refine C.out.mono ?_
    rintro e w1 ⟨⟨rfl, R, hg⟩, bel⟩
    obtain ⟨A2, n2, c2, k1, k2, _⟩ := R.ex
    have d1' : w1.cell? ⟨w.heap.size, 1, none⟩ = some (.int .i64 e0) := k1.cell 1
    have L1 := Lib.hid bel
    clear R hg k1 k2 bel C
    go_wp2_with fail
    go_quiet (fail)
    go_wp2_with fail
    go_ret3
    exact ⟨none, 0, 0, rfl, Byt.nil _, below_drewN L1.out _⟩
end Go.Proofs.YtlnhillpghjknaaDoor
