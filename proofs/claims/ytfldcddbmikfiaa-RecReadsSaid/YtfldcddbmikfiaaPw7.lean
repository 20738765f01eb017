/- What it says: contracts and plain mathematics that the laws' walks use, 7 of 34: each part's own remark says what; no condition. -/
import Derived.Test.YtfldcddbmikfiaaPw6
import Derived.Deep.RegionHeld

set_option linter.unusedSimpArgs false
set_option linter.unusedVariables false
set_option linter.deprecated false
set_option linter.unusedSectionVars false
set_option linter.all false

/- a step of a pass: a number. -/
namespace Go.Proofs.Ytfldcddbmikfiaa
open Go.RowKit
section
variable {H pb : Nat} {w : World}

set_option maxRecDepth 100000 in
set_option maxHeartbeats 4000000 in
theorem num_any (s : Ps) (wr : Bool) (n least most : Int) (h : Pst H w pb s wr) (hn : i64 n) (hl : 0 ≤ least) (hl2 : least ≤ 100000000000000) (hm : most ≤ 100000000000000) (hm0 : 0 ≤ most) (hr : s.room 10) :
    Calls Try.prog 51 #[.pointer (some ⟨pb, 0, none⟩), .int .i64 n, .int .i64 least, .int .i64 most] w (RetV (numS least most) VI n H pb s wr w) := by
  have HE := Lib.hid (fun (w' : World) (s' : Ps) (h : Pst H w' pb s' wr) (b : Bool) => expect_any s' wr b h)
  cases s with
  | out l B =>
    obtain ⟨wb, m, c0, c1, _⟩ := h.writer
    have HP := Lib.hid h
    clear h
    have HR : Hid (B + 10 ≤ 100000000000000) := Lib.hid hr
    clear hr
    -- how the check comes out
    have fin : ∀ (wr1 : Bool) (w1 : World), Pst H w1 pb (.out l B) wr1 → Calm H w w1 → (wr1 = false ↔ wr = false ∧ (least ≤ n ∧ n ≤ most)) → (wr1 = true → RetV (numS least most) VI n H pb (.out l B) wr w (.returned (.int .i64 n)) w1) ∧
        (wr1 = false → ∃ wb1 m1, w1.cell? ⟨pb, 0, none⟩ = some (.pointer (some ⟨wb1, 0, none⟩)) ∧ Calls Try.prog 69 #[.pointer (some ⟨wb1, 0, none⟩), .int .i64 n] w1 (RetC H wb1 (m1 ++ numL n) w1) ∧
          ∀ e w2, RetC H wb1 (m1 ++ numL n) w1 e w2 → RetV (numS least most) VI n H pb (.out l B) wr w (.returned (.int .i64 n)) w2) := by
      intro wr1 w1 hp hc hiff
      refine ⟨fun e => ?_, fun e => ?_⟩
      · subst e
        exact ⟨_, n, .out l (B + 10), true, rfl, ⟨rfl, hn⟩, ⟨l, rfl, ⟨(fun h => nomatch h), (fun h => nomatch (hiff.2 h))⟩, fun h => nomatch h⟩, hp.mono (by omega), hc⟩
      · subst e
        have hok := (hiff.1 rfl).2
        obtain ⟨wb1, m1, d0, d1, d2, d3, d4, d5⟩ := hp.writer
        have hrr := HR.out
        refine ⟨wb1, m1, d0, wNum_calm H wb1 m1 n w1 d2 (by have := hok.1; omega) hn.2 (by omega), fun e w2 hw => ?_⟩
        obtain ⟨p, q⟩ := d5 w2 e _ 10 hw (numL_len n hn.2)
        exact ⟨_, n, _, false, rfl, ⟨rfl, hn⟩, ⟨_, rfl, ⟨fun _ => ⟨(hiff.1 rfl).1, hok⟩, fun _ => rfl⟩, fun _ => ⟨rfl, rfl⟩⟩, p, hc.trans q⟩
    have FIN := Lib.hid fin
    clear fin
    by_cases b1 : least ≤ n
    · go_enter Try.func51, Try.ntmps51
      go_wp2_with fail
      refine (HE.out w (.out l B) HP.out (decide (n ≤ most))).mono ?_
      rintro e v ⟨wr1, rfl, hiff, hp, hc⟩
      obtain ⟨F1, F2⟩ := FIN.out wr1 v hp hc (hiff.trans ⟨fun h => ⟨h.1, b1, by simpa using h.2⟩, fun h => ⟨h.1, by simpa using h.2.2⟩⟩)
      clear hp hc hiff
      cases wr1 with
      | true =>
        have R := Lib.hid (F1 rfl)
        clear F1 F2
        go_wp2_with fail
        go_ret
        exact R.out
      | false =>
        obtain ⟨wb1, m1, d0, CW, R⟩ := F2 rfl
        have CW := Lib.hid CW
        have R := Lib.hid R
        clear F1 F2
        go_wp2_with fail
        refine CW.out.mono ?_
        rintro e w2 ⟨rfl, hw, hc, ho⟩
        have R := Lib.hid (R.out _ w2 ⟨rfl, hw, hc, ho⟩)
        clear hw hc ho
        go_wp2_with fail
        go_ret
        exact R.out
    · go_enter Try.func51, Try.ntmps51
      go_wp2_with fail
      refine (HE.out w (.out l B) HP.out false).mono ?_
      rintro e v ⟨wr1, rfl, hiff, hp, hc⟩
      obtain ⟨F1, F2⟩ := FIN.out wr1 v hp hc (hiff.trans ⟨(fun h => nomatch h.2), fun h => absurd h.2.1 (by omega)⟩)
      clear hp hc hiff
      cases wr1 with
      | true =>
        have R := Lib.hid (F1 rfl)
        clear F1 F2
        go_wp2_with fail
        go_ret
        exact R.out
      | false =>
        obtain ⟨wb1, m1, d0, CW, R⟩ := F2 rfl
        have CW := Lib.hid CW
        have R := Lib.hid R
        clear F1 F2
        go_wp2_with fail
        refine CW.out.mono ?_
        rintro e w2 ⟨rfl, hw, hc, ho⟩
        have R := Lib.hid (R.out _ w2 ⟨rfl, hw, hc, ho⟩)
        clear hw hc ho
        go_wp2_with fail
        go_ret
        exact R.out
  | inp σ =>
    obtain ⟨rb, g, c1, R, K⟩ := h.reader
    have CR := Lib.hid (rpNum 1099511627776 (by omega) R.rd)
    have K := Lib.hid K
    clear h R hr
    go_enter Try.func51, Try.ntmps51
    go_wp2_with fail
    refine CR.out.mono ?_
    rintro e w1 ⟨rfl, hrd, hg⟩
    obtain ⟨hp1, hc1⟩ := K.out w1 (pNum 1099511627776 σ).2 hrd hg (pPrim_len _ _ _)
    have c0' : w1.cell? ⟨pb, 0, none⟩ = some (.pointer none) := by
      obtain ⟨rb', g', q1, q2, _⟩ := hp1
      exact q2.cell 0
    have HP1 := Lib.hid hp1
    have HC1 := Lib.hid hc1
    have HV : Hid (i64 (pNum 1099511627776 σ).1) := Lib.hid (by have := pNum_range 1099511627776 (by omega) σ; unfold i64; omega)
    have e0 : Hid ((pNum 1099511627776 (σ.1, σ.2)).1 = (pNum 1099511627776 σ).1) := Lib.hid rfl
    obtain ⟨y, hy⟩ : ∃ y, (pNum 1099511627776 σ).1 = y := ⟨_, rfl⟩
    have HY := Lib.hid hy
    have EY : (pNum 1099511627776 (σ.1, σ.2)).1 = y := hy
    rw [EY]
    rw [hy] at HV
    clear hp1 hc1 hrd hg K CR hy e0 EY
    have fin : ∀ (wr1 : Bool) (w2 w3 : World), Pst H w2 pb (.inp (pNum 1099511627776 σ).2) wr1 → Calm H w1 w2 → Below w2.heap.size w2 w3 → (wr1 = false ↔ wr = false ∧ (least ≤ y ∧ y ≤ most)) → RetV (numS least most) VI n H pb (.inp σ) wr w (.returned (.int .i64 y)) w3 := by
      intro wr1 w2 w3 hp hc hb hiff
      exact ⟨_, y, _, wr1, rfl, ⟨rfl, HV.out⟩, ⟨rfl, HY.out.symm, hiff⟩, hp.keeps (Keeps.of_below hb), (HC1.out.trans hc).trans (Calm.of_below hb)⟩
    have FIN := Lib.hid fin
    clear fin
    by_cases b1 : least ≤ y
    · go_wp2_with fail
      refine (HE.out w1 (.inp (pNum 1099511627776 σ).2) HP1.out (decide (y ≤ most))).mono ?_
      rintro e v ⟨wr1, rfl, hiff, hp, hc⟩
      have F := Lib.hid (fun w3 hb => FIN.out wr1 v w3 hp hc hb (hiff.trans ⟨fun h => ⟨h.1, b1, by simpa using h.2⟩, fun h => ⟨h.1, by simpa using h.2.2⟩⟩))
      have c0'' : v.cell? ⟨pb, 0, none⟩ = some (.pointer none) := by
        obtain ⟨rb', g', q1, q2, _⟩ := hp
        exact q2.cell 0
      clear hp hc hiff c0'
      cases wr1 with
      | true =>
        have R := Lib.hid (F.out v (Below.refl _ _))
        clear F
        go_wp2_with fail
        go_ret
        exact R.out
      | false =>
        have CW := Lib.hid (wNum_nil y v HV.out)
        go_wp2_with fail
        refine CW.out.mono ?_
        rintro e w2 ⟨rfl, hb⟩
        have R := Lib.hid (F.out w2 hb)
        clear F hb
        go_wp2_with fail
        go_ret
        exact R.out
    · go_wp2_with fail
      refine (HE.out w1 (.inp (pNum 1099511627776 σ).2) HP1.out false).mono ?_
      rintro e v ⟨wr1, rfl, hiff, hp, hc⟩
      have F := Lib.hid (fun w3 hb => FIN.out wr1 v w3 hp hc hb (hiff.trans ⟨(fun h => nomatch h.2), fun h => absurd h.2.1 (by omega)⟩))
      have c0'' : v.cell? ⟨pb, 0, none⟩ = some (.pointer none) := by
        obtain ⟨rb', g', q1, q2, _⟩ := hp
        exact q2.cell 0
      clear hp hc hiff c0'
      cases wr1 with
      | true =>
        have R := Lib.hid (F.out v (Below.refl _ _))
        clear F
        go_wp2_with fail
        go_ret
        exact R.out
      | false =>
        have CW := Lib.hid (wNum_nil y v HV.out)
        go_wp2_with fail
        refine CW.out.mono ?_
        rintro e w2 ⟨rfl, hb⟩
        have R := Lib.hid (F.out w2 hb)
        clear F hb
        go_wp2_with fail
        go_ret
        exact R.out
end
end Go.Proofs.Ytfldcddbmikfiaa

/- a step of a pass: a text. -/
namespace Go.Proofs.Ytfldcddbmikfiaa
open Go.RowKit
section
variable {H pb : Nat} {w : World}

set_option maxRecDepth 100000 in
set_option maxHeartbeats 4000000 in
theorem text_any (s : Ps) (wr : Bool) (n : ByteArray) (least most : Int) (h : Pst H w pb s wr) (hn : 0 ≤ n.size) (hl : 0 ≤ least) (hl2 : least ≤ 100000000000000) (hm : most ≤ 50) (hm0 : 0 ≤ most) (hr : s.room 60) :
    Calls Try.prog 70 #[.pointer (some ⟨pb, 0, none⟩), .string n, .int .i64 least, .int .i64 most] w (RetV (textSp least most) VS n H pb s wr w) := by
  have HE := Lib.hid (fun (w' : World) (s' : Ps) (h : Pst H w' pb s' wr) (b : Bool) => expect_any s' wr b h)
  cases s with
  | out l B =>
    obtain ⟨wb, m, c0, c1, _⟩ := h.writer
    have HP := Lib.hid h
    clear h
    have HR : Hid (B + 60 ≤ 100000000000000) := Lib.hid hr
    clear hr
    -- how the check comes out
    have fin : ∀ (wr1 : Bool) (w1 : World), Pst H w1 pb (.out l B) wr1 → Calm H w w1 → (wr1 = false ↔ wr = false ∧ (least ≤ (n.size : Int) ∧ (n.size : Int) ≤ most)) → (wr1 = true → RetV (textSp least most) VS n H pb (.out l B) wr w (.returned (.string n)) w1) ∧
        (wr1 = false → ∃ wb1 m1, w1.cell? ⟨pb, 0, none⟩ = some (.pointer (some ⟨wb1, 0, none⟩)) ∧ Calls Try.prog 93 #[.pointer (some ⟨wb1, 0, none⟩), .string n] w1 (RetC H wb1 (m1 ++ textL (nums n)) w1) ∧
          ∀ e w2, RetC H wb1 (m1 ++ textL (nums n)) w1 e w2 → RetV (textSp least most) VS n H pb (.out l B) wr w (.returned (.string n)) w2) := by
      intro wr1 w1 hp hc hiff
      refine ⟨fun e => ?_, fun e => ?_⟩
      · subst e
        exact ⟨_, n, .out l (B + 60), true, rfl, ⟨rfl, hn⟩, ⟨l, rfl, ⟨(fun h => nomatch h), (fun h => nomatch (hiff.2 h))⟩, fun h => nomatch h⟩, hp.mono (by omega), hc⟩
      · subst e
        have hok := (hiff.1 rfl).2
        obtain ⟨wb1, m1, d0, d1, d2, d3, d4, d5⟩ := hp.writer
        have hrr := HR.out
        refine ⟨wb1, m1, d0, wText_calm H wb1 m1 n w1 d2 (by have := hok.2; omega), fun e w2 hw => ?_⟩
        obtain ⟨p, q⟩ := d5 w2 e _ 60 hw (by have := textL_len (nums n) (by rw [nums_len]; omega); rw [nums_len] at this; have := hok.2; omega)
        exact ⟨_, n, _, false, rfl, ⟨rfl, hn⟩, ⟨_, rfl, ⟨fun _ => ⟨(hiff.1 rfl).1, hok⟩, fun _ => rfl⟩, fun _ => ⟨rfl, rfl⟩⟩, p, hc.trans q⟩
    have FIN := Lib.hid fin
    clear fin
    by_cases b1 : least ≤ (n.size : Int)
    · go_enter Try.func70, Try.ntmps70
      go_wp2_with fail
      refine (HE.out w (.out l B) HP.out (decide ((n.size : Int) ≤ most))).mono ?_
      rintro e v ⟨wr1, rfl, hiff, hp, hc⟩
      obtain ⟨F1, F2⟩ := FIN.out wr1 v hp hc (hiff.trans ⟨fun h => ⟨h.1, b1, by simpa using h.2⟩, fun h => ⟨h.1, by simpa using h.2.2⟩⟩)
      clear hp hc hiff
      cases wr1 with
      | true =>
        have R := Lib.hid (F1 rfl)
        clear F1 F2
        go_wp2_with fail
        go_ret
        exact R.out
      | false =>
        obtain ⟨wb1, m1, d0, CW, R⟩ := F2 rfl
        have CW := Lib.hid CW
        have R := Lib.hid R
        clear F1 F2
        go_wp2_with fail
        refine CW.out.mono ?_
        rintro e w2 ⟨rfl, hw, hc, ho⟩
        have R := Lib.hid (R.out _ w2 ⟨rfl, hw, hc, ho⟩)
        clear hw hc ho
        go_wp2_with fail
        go_ret
        exact R.out
    · go_enter Try.func70, Try.ntmps70
      go_wp2_with fail
      refine (HE.out w (.out l B) HP.out false).mono ?_
      rintro e v ⟨wr1, rfl, hiff, hp, hc⟩
      obtain ⟨F1, F2⟩ := FIN.out wr1 v hp hc (hiff.trans ⟨(fun h => nomatch h.2), fun h => absurd h.2.1 (by omega)⟩)
      clear hp hc hiff
      cases wr1 with
      | true =>
        have R := Lib.hid (F1 rfl)
        clear F1 F2
        go_wp2_with fail
        go_ret
        exact R.out
      | false =>
        obtain ⟨wb1, m1, d0, CW, R⟩ := F2 rfl
        have CW := Lib.hid CW
        have R := Lib.hid R
        clear F1 F2
        go_wp2_with fail
        refine CW.out.mono ?_
        rintro e w2 ⟨rfl, hw, hc, ho⟩
        have R := Lib.hid (R.out _ w2 ⟨rfl, hw, hc, ho⟩)
        clear hw hc ho
        go_wp2_with fail
        go_ret
        exact R.out
  | inp σ =>
    obtain ⟨rb, g, c1, R, K⟩ := h.reader
    have CR := Lib.hid (rpText 32 (by omega) R.rd)
    have K := Lib.hid K
    clear h R hr
    go_enter Try.func70, Try.ntmps70
    go_wp2_with fail
    refine CR.out.mono ?_
    rintro e w1 ⟨rfl, hrd, hg⟩
    obtain ⟨hp1, hc1⟩ := K.out w1 (pText 32 σ).2 hrd hg (pPrim_len _ _ _)
    have c0' : w1.cell? ⟨pb, 0, none⟩ = some (.pointer none) := by
      obtain ⟨rb', g', q1, q2, _⟩ := hp1
      exact q2.cell 0
    have HP1 := Lib.hid hp1
    have HC1 := Lib.hid hc1
    have HV : Hid ((pText 32 σ).1.size ≤ 10000000000) := Lib.hid (by have := pText_size 32 σ; have e : pText ((32 : Nat) : Int) σ = pText 32 σ := rfl; rw [e] at this; omega)
    have e0 : Hid ((pText 32 (σ.1, σ.2)).1 = (pText 32 σ).1) := Lib.hid rfl
    obtain ⟨y, hy⟩ : ∃ y, (pText 32 σ).1 = y := ⟨_, rfl⟩
    have HY := Lib.hid hy
    have EY : (pText 32 (σ.1, σ.2)).1 = y := hy
    rw [EY]
    rw [hy] at HV
    clear hp1 hc1 hrd hg K CR hy e0 EY
    have fin : ∀ (wr1 : Bool) (w2 w3 : World), Pst H w2 pb (.inp (pText 32 σ).2) wr1 → Calm H w1 w2 → Below w2.heap.size w2 w3 → (wr1 = false ↔ wr = false ∧ (least ≤ (y.size : Int) ∧ (y.size : Int) ≤ most)) → RetV (textSp least most) VS n H pb (.inp σ) wr w (.returned (.string y)) w3 := by
      intro wr1 w2 w3 hp hc hb hiff
      exact ⟨_, y, _, wr1, rfl, ⟨rfl, (Nat.zero_le _)⟩, ⟨rfl, HY.out.symm, hiff⟩, hp.keeps (Keeps.of_below hb), (HC1.out.trans hc).trans (Calm.of_below hb)⟩
    have FIN := Lib.hid fin
    clear fin
    by_cases b1 : least ≤ (y.size : Int)
    · go_wp2_with fail
      refine (HE.out w1 (.inp (pText 32 σ).2) HP1.out (decide ((y.size : Int) ≤ most))).mono ?_
      rintro e v ⟨wr1, rfl, hiff, hp, hc⟩
      have F := Lib.hid (fun w3 hb => FIN.out wr1 v w3 hp hc hb (hiff.trans ⟨fun h => ⟨h.1, b1, by simpa using h.2⟩, fun h => ⟨h.1, by simpa using h.2.2⟩⟩))
      have c0'' : v.cell? ⟨pb, 0, none⟩ = some (.pointer none) := by
        obtain ⟨rb', g', q1, q2, _⟩ := hp
        exact q2.cell 0
      clear hp hc hiff c0'
      cases wr1 with
      | true =>
        have R := Lib.hid (F.out v (Below.refl _ _))
        clear F
        go_wp2_with fail
        go_ret
        exact R.out
      | false =>
        have CW := Lib.hid (wText_nil y v (by have := HV.out; omega))
        go_wp2_with fail
        refine CW.out.mono ?_
        rintro e w2 ⟨rfl, hb⟩
        have R := Lib.hid (F.out w2 hb)
        clear F hb
        go_wp2_with fail
        go_ret
        exact R.out
    · go_wp2_with fail
      refine (HE.out w1 (.inp (pText 32 σ).2) HP1.out false).mono ?_
      rintro e v ⟨wr1, rfl, hiff, hp, hc⟩
      have F := Lib.hid (fun w3 hb => FIN.out wr1 v w3 hp hc hb (hiff.trans ⟨(fun h => nomatch h.2), fun h => absurd h.2.1 (by omega)⟩))
      have c0'' : v.cell? ⟨pb, 0, none⟩ = some (.pointer none) := by
        obtain ⟨rb', g', q1, q2, _⟩ := hp
        exact q2.cell 0
      clear hp hc hiff c0'
      cases wr1 with
      | true =>
        have R := Lib.hid (F.out v (Below.refl _ _))
        clear F
        go_wp2_with fail
        go_ret
        exact R.out
      | false =>
        have CW := Lib.hid (wText_nil y v (by have := HV.out; omega))
        go_wp2_with fail
        refine CW.out.mono ?_
        rintro e w2 ⟨rfl, hb⟩
        have R := Lib.hid (F.out w2 hb)
        clear F hb
        go_wp2_with fail
        go_ret
        exact R.out
end
end Go.Proofs.Ytfldcddbmikfiaa

/- a step of a pass: a flag. -/
namespace Go.Proofs.Ytfldcddbmikfiaa
open Go.RowKit
section
variable {H pb : Nat} {w : World}

set_option maxRecDepth 100000 in
set_option maxHeartbeats 4000000 in
theorem flag_any (s : Ps) (wr : Bool) (is : Bool) (h : Pst H w pb s wr) (hr : s.room 1) :
    Calls Try.prog 71 #[.pointer (some ⟨pb, 0, none⟩), .bool is] w (RetV flagSp VB is H pb s wr w) := by
  cases s with
  | out l B =>
    obtain ⟨wb, m, c0, c1, d2, d3, d4, d5⟩ := h.writer
    obtain ⟨c2, _⟩ := h.ptrs
    have HR : B + 1 ≤ 100000000000000 := hr
    cases wr with
    | true =>
      have R : Hid (RetV flagSp VB is H pb (.out l B) true w (.returned (.bool is)) w) := Lib.hid ⟨_, is, .out l (B + 1), true, rfl, rfl, ⟨l, rfl, by simp, fun h => by cases h⟩, h.mono (by omega), Calm.refl _ _⟩
      clear h d2 d3 d4 d5 hr HR
      go_enter Try.func71, Try.ntmps71
      go_wp2_with fail
      go_ret
      exact R.out
    | false =>
      have CW := Lib.hid (wFlag_calm H wb m is w d2 (by omega))
      have D := Lib.hid d5
      clear h d2 d3 d4 d5 hr HR
      go_enter Try.func71, Try.ntmps71
      go_wp2_with fail
      refine CW.out.mono ?_
      rintro e w2 ⟨rfl, hw, hc, ho⟩
      obtain ⟨p, q⟩ := D.out w2 _ _ 1 ⟨rfl, hw, hc, ho⟩ (Nat.le_refl 1)
      have R : Hid (RetV flagSp VB is H pb (.out l B) false w (.returned (.bool is)) w2) := Lib.hid ⟨_, is, _, false, rfl, rfl, ⟨_, rfl, ⟨fun _ => ⟨rfl, trivial⟩, fun _ => rfl⟩, fun _ => ⟨rfl, rfl⟩⟩, p, q⟩
      clear p q hw hc ho
      go_wp2_with fail
      go_ret
      exact R.out
  | inp σ =>
    obtain ⟨rb, g, c1, R, K⟩ := h.reader
    have CR := Lib.hid (rpFlag R.rd)
    have K := Lib.hid K
    clear h R hr
    go_enter Try.func71, Try.ntmps71
    go_wp2_with fail
    refine CR.out.mono ?_
    rintro e w1 ⟨rfl, hrd, hg⟩
    obtain ⟨hp1, hc1⟩ := K.out w1 (pFlag σ).2 hrd hg (pPrim_len _ _ _)
    have c0' : w1.cell? ⟨pb, 0, none⟩ = some (.pointer none) := by
      obtain ⟨rb', g', q1, q2, _⟩ := hp1
      exact q2.cell 0
    obtain ⟨c2, _⟩ := hp1.ptrs
    have F : Hid (∀ w3, Below w1.heap.size w1 w3 → RetV flagSp VB is H pb (.inp σ) wr w (.returned (.bool (pFlag (σ.1, σ.2)).1)) w3) := Lib.hid (fun w3 hb => ⟨_, _, _, wr, rfl, rfl, ⟨rfl, rfl, by simp [flagSp]⟩, hp1.keeps (Keeps.of_below hb), hc1.trans (Calm.of_below hb)⟩)
    clear hp1 hc1 hrd hg K CR
    cases wr with
    | true =>
      have R := Lib.hid (F.out w1 (Below.refl _ _))
      go_wp2_with fail
      go_ret
      exact R.out
    | false =>
      have CW := Lib.hid (wFlag_nil (pFlag (σ.1, σ.2)).1 w1)
      go_wp2_with fail
      refine CW.out.mono ?_
      rintro e w2 ⟨rfl, hb⟩
      have R := Lib.hid (F.out w2 hb)
      clear hb
      go_wp2_with fail
      go_ret
      exact R.out
end
end Go.Proofs.Ytfldcddbmikfiaa

/- a pass's seq, seqOrNone, node, kind, key, value. -/
namespace Go.Proofs.Ytfldcddbmikfiaa
open Go.RowKit
section
variable {H pb : Nat} {w : World}

theorem seq_any (s : Ps) (wr : Bool) (n : Int) (h : Pst H w pb s wr) (hn : i64 n) (hr : s.room 10) :
    Calls Try.prog 52 #[.pointer (some ⟨pb, 0, none⟩), .int .i64 n] w (RetV (numS 1 1099511627776) VI n H pb s wr w) := by
  have C := Lib.hid (num_any s wr n 1 1099511627776 h hn (by omega) (by omega) (by omega) (by omega) hr)
  clear h hn hr
  go_enter Try.func52, Try.ntmps52
  go_wp2_with fail
  refine C.out.mono ?_
  rintro e w1 ⟨v, y, s', wr', rfl, ⟨rfl, hi⟩, hg, hp, hc⟩
  have R := Lib.hid (And.intro hi (And.intro hg (And.intro hp hc)))
  clear hi hg hp hc
  go_wp2_with fail
  go_ret
  exact ⟨_, y, s', wr', rfl, ⟨rfl, R.out.1⟩, R.out.2.1, R.out.2.2.1, R.out.2.2.2⟩

theorem seqOrNone_any (s : Ps) (wr : Bool) (n : Int) (h : Pst H w pb s wr) (hn : i64 n) (hr : s.room 10) :
    Calls Try.prog 53 #[.pointer (some ⟨pb, 0, none⟩), .int .i64 n] w (RetV (numS 0 1099511627776) VI n H pb s wr w) := by
  have C := Lib.hid (num_any s wr n 0 1099511627776 h hn (by omega) (by omega) (by omega) (by omega) hr)
  clear h hn hr
  go_enter Try.func53, Try.ntmps53
  go_wp2_with fail
  refine C.out.mono ?_
  rintro e w1 ⟨v, y, s', wr', rfl, ⟨rfl, hi⟩, hg, hp, hc⟩
  have R := Lib.hid (And.intro hi (And.intro hg (And.intro hp hc)))
  clear hi hg hp hc
  go_wp2_with fail
  go_ret
  exact ⟨_, y, s', wr', rfl, ⟨rfl, R.out.1⟩, R.out.2.1, R.out.2.2.1, R.out.2.2.2⟩

theorem node_any (s : Ps) (wr : Bool) (n : Int) (h : Pst H w pb s wr) (hn : i64 n) (hr : s.room 10) :
    Calls Try.prog 56 #[.pointer (some ⟨pb, 0, none⟩), .int .i64 n] w (RetV (numS 0 7) VI n H pb s wr w) := by
  have C := Lib.hid (num_any s wr n 0 7 h hn (by omega) (by omega) (by omega) (by omega) hr)
  clear h hn hr
  go_enter Try.func56, Try.ntmps56
  go_wp2_with fail
  refine C.out.mono ?_
  rintro e w1 ⟨v, y, s', wr', rfl, ⟨rfl, hi⟩, hg, hp, hc⟩
  have R := Lib.hid (And.intro hi (And.intro hg (And.intro hp hc)))
  clear hi hg hp hc
  go_wp2_with fail
  go_ret
  exact ⟨_, y, s', wr', rfl, ⟨rfl, R.out.1⟩, R.out.2.1, R.out.2.2.1, R.out.2.2.2⟩

theorem kind_any (s : Ps) (wr : Bool) (n : Int) (h : Pst H w pb s wr) (hn : i64 n) (hr : s.room 10) :
    Calls Try.prog 32 #[.pointer (some ⟨pb, 0, none⟩), .int .i64 n] w (RetV (numS 1 10) VI n H pb s wr w) := by
  have C := Lib.hid (num_any s wr n 1 10 h hn (by omega) (by omega) (by omega) (by omega) hr)
  clear h hn hr
  go_enter Try.func32, Try.ntmps32
  go_wp2_with fail
  refine C.out.mono ?_
  rintro e w1 ⟨v, y, s', wr', rfl, ⟨rfl, hi⟩, hg, hp, hc⟩
  have R := Lib.hid (And.intro hi (And.intro hg (And.intro hp hc)))
  clear hi hg hp hc
  go_wp2_with fail
  go_ret
  exact ⟨_, y, s', wr', rfl, ⟨rfl, R.out.1⟩, R.out.2.1, R.out.2.2.1, R.out.2.2.2⟩

theorem key_any (s : Ps) (wr : Bool) (n : ByteArray) (h : Pst H w pb s wr) (hn : 0 ≤ n.size) (hr : s.room 60) :
    Calls Try.prog 54 #[.pointer (some ⟨pb, 0, none⟩), .string n] w (RetV (textSp 1 16) VS n H pb s wr w) := by
  have C := Lib.hid (text_any s wr n 1 16 h hn (by omega) (by omega) (by omega) (by omega) hr)
  clear h hn hr
  go_enter Try.func54, Try.ntmps54
  go_wp2_with fail
  refine C.out.mono ?_
  rintro e w1 ⟨v, y, s', wr', rfl, ⟨rfl, hi⟩, hg, hp, hc⟩
  have R := Lib.hid (And.intro hi (And.intro hg (And.intro hp hc)))
  clear hi hg hp hc
  go_wp2_with fail
  go_ret
  exact ⟨_, y, s', wr', rfl, ⟨rfl, R.out.1⟩, R.out.2.1, R.out.2.2.1, R.out.2.2.2⟩

/-- A value. -/
def valSp : Spc Vl := ⟨pVl, valL, fun v => v.has = true → (v.data.size : Int) ≤ 32, fun v => if v.has then v else vl0, 61⟩
def VV (_ : World) (v : Value) (y : Vl) : Prop := v = .agg #[.bool y.has, .string y.data] ∧ 0 ≤ y.data.size
theorem val_no {v : Vl} {s s1 : Ps} {wr wr1 : Bool} (h : Goes flagSp v.has s wr false s1 wr1) : ∃ s2, s1.le s2 ∧ Goes valSp v s wr vl0 s2 wr1 := by
  cases s with
  | out l B =>
    obtain ⟨l1, rfl, h1, h2⟩ := h
    refine ⟨.out l1 (B + 61), ⟨rfl, by show B + 1 ≤ B + 61; omega⟩, l1, rfl, ?_, fun hw => ?_⟩
    · rw [h1]
      constructor
      · intro a
        have e := (h2 (h1.2 a)).1
        have e' : false = v.has := e
        exact ⟨a.1, fun q => by rw [← e'] at q; cases q⟩
      · intro a
        exact ⟨a.1, trivial⟩
    · obtain ⟨a, b⟩ := h2 hw
      have e' : false = v.has := a
      refine ⟨?_, ?_⟩
      · show vl0 = if v.has then v else vl0
        rw [← e']; rfl
      · rw [b]
        show l ++ flagL v.has = l ++ (flagL v.has ++ if v.has then textL (nums v.data) else [])
        rw [← e']; simp
  | inp σ =>
    obtain ⟨rfl, a, h1⟩ := h
    have a' : false = (pFlag σ).1 := a
    refine ⟨.inp (pFlag σ).2, rfl, ?_, ?_, ?_⟩
    · show Ps.inp (pFlag σ).2 = Ps.inp (pVl σ).2
      unfold pVl
      rw [← a']; rfl
    · show vl0 = (pVl σ).1
      unfold pVl
      rw [← a']; rfl
    · rw [h1]
      constructor
      · intro q
        exact ⟨q.1, fun z => by cases z⟩
      · intro q
        exact ⟨q.1, trivial⟩
theorem val_yes {v : Vl} {y : ByteArray} {s s1 s2 : Ps} {wr wr1 wr2 : Bool} (h : Goes flagSp v.has s wr true s1 wr1) (k : Goes (textSp 0 32) v.data s1 wr1 y s2 wr2) : Goes valSp v s wr ⟨true, y⟩ s2 wr2 := by
  cases s with
  | out l B =>
    obtain ⟨l1, rfl, h1, h2⟩ := h
    obtain ⟨l2, rfl, k1, k2⟩ := k
    have hb : wr = false → v.has = true := fun q => ((h2 (h1.2 ⟨q, trivial⟩)).1 : true = v.has).symm
    refine ⟨l2, rfl, ?_, fun hw => ?_⟩
    · rw [k1, h1]
      constructor
      · intro a
        exact ⟨a.1.1, fun _ => a.2.2⟩
      · intro a
        exact ⟨⟨a.1, trivial⟩, by show (0 : Int) ≤ (v.data.size : Int); omega, a.2 (hb a.1)⟩
    · obtain ⟨a, b⟩ := k2 hw
      have hw1 := (k1.1 hw).1
      have hv := hb (h1.1 hw1).1
      obtain ⟨_, d⟩ := h2 hw1
      refine ⟨?_, ?_⟩
      · show (⟨true, y⟩ : Vl) = if v.has then v else vl0
        rw [if_pos hv]
        have a' : y = v.data := a
        rw [a', ← hv]
      · rw [b, d]
        show l ++ flagL v.has ++ textL (nums v.data) = l ++ (flagL v.has ++ if v.has then textL (nums v.data) else [])
        rw [if_pos hv, List.append_assoc]
  | inp σ =>
    obtain ⟨rfl, a, h1⟩ := h
    obtain ⟨rfl, b, k1⟩ := k
    have a' : true = (pFlag σ).1 := a
    have b' : y = (pText 32 (pFlag σ).2).1 := b
    refine ⟨?_, ?_, ?_⟩
    · show Ps.inp (pText 32 (pFlag σ).2).2 = Ps.inp (pVl σ).2
      unfold pVl
      rw [← a']; rfl
    · show (⟨true, y⟩ : Vl) = (pVl σ).1
      unfold pVl
      rw [← a', b']; rfl
    · rw [k1, h1]
      constructor
      · intro q
        exact ⟨q.1.1, fun _ => q.2.2⟩
      · intro q
        exact ⟨⟨q.1, trivial⟩, by show (0 : Int) ≤ (y.size : Int); omega, q.2 rfl⟩

theorem Bk.rowp {w : World} {g : Nat} {t : TypeId} {old : Array Value} (h : Bk w g t old) (cs : Array Value) : Bk (w.setRow g cs) g t cs := setRow_heap w g old cs _ _ h
theorem val_info : (Try.prog.info? 23).map (·.size) = some 2 := by kernel_rfl
theorem val_one (a : Bool) (b : ByteArray) : (#[Value.bool a, Value.string b] : Array Value).all (·.oneCell') = true := by simp [Value.oneCell']
theorem grown_setRow (w : World) (g : Nat) (cs : Array Value) : w.grownBy (w.setRow g cs) (some g) := ⟨rfl, rfl, rfl, by simp [World.setRow], fun k _ hk => setRow_other w g k cs (fun q => hk (by simp [q]))⟩
/-- A local variable is written. -/
theorem Pst.row {s : Ps} {wr : Bool} {w0 w : World} {g : Nat} {t : TypeId} {old : Array Value} (h : Pst H w pb s wr) (hg : Bk w g t old) (ht : spT t = false) (hl : w0.heap.size ≤ g) (hc : Calm H w0 w) (cs : Array Value) : Pst H (w.setRow g cs) pb s wr ∧ Calm H w0 (w.setRow g cs) := by
  have hgr := grown_setRow w g cs
  refine ⟨h.keeps (Keeps.grown hgr (hg.plain ht)), ⟨hgr.os.trans hc.os, hgr.tape.trans hc.tape, hgr.output.trans hc.output, Nat.le_trans hc.size hgr.size, fun k hk hp => ?_⟩⟩
  exact (hgr.block k (Nat.lt_of_lt_of_le hk hc.size) (fun q => by injection q with q; omega)).trans (hc.block k hk hp)

set_option maxRecDepth 100000 in
set_option maxHeartbeats 4000000 in
theorem value_any (s : Ps) (wr : Bool) (v : Vl) (h : Pst H w pb s wr) (hv : 0 ≤ v.data.size) (hr : s.room 61) :
    Calls Try.prog 55 #[.pointer (some ⟨pb, 0, none⟩), .agg #[.bool v.has, .string v.data]] w (RetV valSp VV v H pb s wr w) := by
  obtain ⟨has, data⟩ := v
  obtain ⟨r, hrr⟩ : ∃ r, w.heap.size = r := ⟨_, rfl⟩
  obtain ⟨W1, hW1⟩ : ∃ W1, W1 = (w.alloc (.cells #[.bool has, .string data] 23)).alloc (.cells #[.bool false, .string ⟨#[]⟩] 23) := ⟨_, rfl⟩
  have HB : Hid (Below w.heap.size w W1) := Lib.hid (by rw [hW1]; exact ((Below.refl _ _).alloc (Nat.le_refl _) _).alloc (by simp) _)
  have HV : Hid (Bk W1 r 23 #[.bool has, .string data]) := Lib.hid (by rw [hW1, ← hrr]; exact (Bk.new w _ _).bel ((Below.refl _ _).alloc (Nat.le_refl _) _) (by simp))
  have HR : Hid (Bk W1 (r + 1) 23 #[.bool false, .string ⟨#[]⟩]) := Lib.hid (by
    rw [hW1, ← hrr]
    have := Bk.new (w.alloc (.cells #[.bool has, .string data] 23)) 23 #[.bool false, .string ⟨#[]⟩]
    rw [World.size_alloc] at this
    exact this)
  have k0 : W1.cell? ⟨r, 0, none⟩ = some (.bool has) := HV.out.cell 0
  have HP : Hid (Pst H W1 pb s wr) := Lib.hid (h.keeps (Keeps.of_below HB.out))
  have HRM := Lib.hid hr
  have HRR := Lib.hid hrr
  have HW := Lib.hid hW1
  have HD : Hid (0 ≤ data.size) := Lib.hid hv
  clear h hr hv hW1
  go_enter Try.func55, Try.ntmps55
  go_wp2_with fail
  (try rw [hrr])
  rw [← HW.out]
  clear HW hrr
  have CF := Lib.hid (flag_any s wr has HP.out (HRM.out.mono (by omega)))
  go_wp2_with fail
  refine CF.out.mono ?_
  rintro e w1 ⟨_, y, s1, wr1, rfl, rfl, hg1, hp1, hc1⟩
  have G1 := Lib.hid hg1
  have P1 := Lib.hid hp1
  have C1 := Lib.hid ((Calm.of_below HB.out).trans hc1)
  have V1 := Lib.hid (HV.out.calm rfl hc1)
  have R1 := Lib.hid (HR.out.calm rfl hc1)
  clear hg1 hp1 hc1 CF HP HV HR k0
  cases y with
  | false =>
    have F : Hid (RetV valSp VV ⟨has, data⟩ H pb s wr w (.returned (.agg #[.bool false, .string ⟨#[]⟩])) (w1.setRow (r + 1) #[.bool false, .string ⟨#[]⟩])) := Lib.hid (by
      obtain ⟨s2, hle, hg⟩ := val_no (v := ⟨has, data⟩) G1.out
      obtain ⟨a, b⟩ := P1.out.row R1.out rfl (by have := HRR.out; omega) C1.out #[.bool false, .string ⟨#[]⟩]
      exact ⟨_, vl0, s2, wr1, rfl, ⟨rfl, Nat.zero_le _⟩, hg, a.le hle, b⟩)
    have RB := Lib.hid (R1.out.rowp #[.bool false, .string ⟨#[]⟩])
    go_wp2_with (refine wpList_store_row rfl 23 _ _ rfl (r + 1) #[.bool false, .string ⟨#[]⟩] rfl rfl 23 _ R1.out val_info rfl (val_one _ _) ?_; simp only [Act.put])
    (try simp only [Exit.inBlock, Exit.then])
    refine bodyPost_ret (results_cell_row rfl _ _ (r + 1) 23 _ (0, 0) _ rfl RB.out Try.underlying23 rfl val_info) rfl ?_
    exact F.out
  | true =>
    have k1 : w1.cell? ⟨r, 1, none⟩ = some (.string data) := V1.out.cell 1
    have CT := Lib.hid (text_any s1 wr1 data 0 32 P1.out HD.out (by omega) (by omega) (by omega) (by omega) (G1.out.room (HRM.out)))
    go_wp2_with fail
    refine CT.out.mono ?_
    rintro e w2 ⟨_, y, s2, wr2, rfl, ⟨rfl, hy⟩, hg2, hp2, hc2⟩
    have R2 := Lib.hid (R1.out.calm rfl hc2)
    have F : Hid (RetV valSp VV ⟨has, data⟩ H pb s wr w (.returned (.agg #[.bool true, .string y])) (w2.setRow (r + 1) #[.bool true, .string y])) := Lib.hid (by
      obtain ⟨a, b⟩ := hp2.row R2.out rfl (by have := HRR.out; omega) (C1.out.trans hc2) #[.bool true, .string y]
      exact ⟨_, ⟨true, y⟩, s2, wr2, rfl, ⟨rfl, hy⟩, val_yes (v := ⟨has, data⟩) G1.out hg2, a, b⟩)
    have RB := Lib.hid (R2.out.rowp #[.bool true, .string y])
    clear hy hg2 hp2 hc2 CT k1
    go_wp2_with (refine wpList_store_row rfl 23 _ _ rfl (r + 1) #[.bool true, .string y] rfl rfl 23 _ R2.out val_info rfl (val_one _ _) ?_; simp only [Act.put])
    (try simp only [Exit.inBlock, Exit.then])
    refine bodyPost_ret (results_cell_row rfl _ _ (r + 1) 23 _ (0, 0) _ rfl RB.out Try.underlying23 rfl val_info) rfl ?_
    exact F.out
end
end Go.Proofs.Ytfldcddbmikfiaa

/- a region that draws its order, whose last operations go one behind the other: those ahead of them may be taken in an order of one's own, where what they read holds till the last ones begin. No program is named; no condition. -/
namespace Go.Proofs.Ytfldcddbmikfiaa
open Go.RowKit

section
variable {P : Program} {ops : Array Oper} {Q : Exit → Act → World → Prop} {S : World → Prop} {n : Nat}

/-- Whatever comes up next; S holds behind each operation ahead of number n. -/
def Upto (P : Program) (ops : Array Oper) (Q : Exit → Act → World → Prop) (S : World → Prop) (n : Nat) : Nat → Array Bool → Act → World → Prop
  | 0, listed, a, w => Region.ready .any ops listed = [] ∧ Q .normal a w
  | fuel + 1, listed, a, w => (Region.ready .any ops listed = [] → Q .normal a w) ∧
    ∀ i ∈ Region.ready .any ops listed, wpOp P ops Q i (fun a' w' => (i < n → S w') ∧ Upto P ops Q S n fuel (listed.setIfInBounds i true) a' w') a w

theorem any_of_upto : ∀ (fuel : Nat) (listed : Array Bool) (a : Act) (w : World), Upto P ops Q S n fuel listed a w → wpAny P .any ops Q fuel listed a w
  | 0, _, _, _, h => h
  | fuel + 1, _, _, _, h => ⟨h.1, fun i hi => wpOp_mono (fun a' w' h' => any_of_upto fuel _ a' w' h'.2) (h.2 i hi)⟩

/-- The head's state, asked by the kernel. -/
def headB (ops : Array Oper) (n : Nat) (listed : Array Bool) : Bool :=
  listed.size == ops.size && (List.range ops.size).all (fun j => match ops[j]? with
    | none => true
    | some o => !listed.getD j false || o.after.toList.all fun e => !Region.binds .any e || listed.getD e.on false) &&
  (List.range ops.size).all fun t => decide (t < n) || !listed.getD t true

theorem headB_spec {listed : Array Bool} (h : headB ops n listed = true) : HeadInv .any ops n listed := by
  simp only [headB, Bool.and_eq_true, List.all_eq_true, List.mem_range, beq_iff_eq] at h
  obtain ⟨⟨h1, h2⟩, h3⟩ := h
  refine ⟨h1, fun j oj hj hl e he hb => ?_, fun t ht htl => ?_⟩
  · have := h2 j (Array.getElem?_eq_some_iff.1 hj).1
    simp only [hj, hl] at this
    rw [Bool.not_true, Bool.false_or] at this
    have he' := List.all_eq_true.1 this e (by simpa using he)
    simpa [hb] using he'
  · have := h3 t htl
    simpa [Nat.not_lt.2 ht] using this

/-- The region's own facts, asked by the kernel. -/
def tailB (ops : Array Oper) (n : Nat) : Bool := Region.noSelect ops && decide (n < ops.size) && Region.sinkB .any ops n && Region.chainB .any ops n

theorem upto_first (hB : tailB ops n = true) {i : Nat} {oi : Oper} {v : Value} (hin : i < n) (hi : ops[i]? = some oi)
    (hQ : ∀ c a w, Q (.panic c) (a.put oi.dst v) w → Q (.panic c) a w) :
    ∀ (fuel : Nat) (listed : Array Bool) (a : Act) (w : World), HeadInv .any ops n listed →
      (∀ j oj, ops[j]? = some oj → j ≠ i → listed.getD j true = false → (∀ e ∈ oj.after, Region.binds .any e = true → e.on ≠ i) → oi.apart ops oj = true) →
      i ∈ Region.ready .any ops listed → YieldsIf P ops S oi v a → S w →
      Upto P ops Q S n fuel (listed.setIfInBounds i true) (a.put oi.dst v) w → Upto P ops Q S n (fuel + 1) listed a w := by
  simp only [tailB, Bool.and_eq_true, decide_eq_true_eq] at hB
  obtain ⟨⟨⟨hsel0, hns⟩, hsk⟩, hch⟩ := hB
  have hsel := Region.noSelect_spec hsel0
  intro fuel
  induction fuel with
  | zero =>
    intro listed a w _ _ hr hy hS H
    refine ⟨fun h => (by rw [h] at hr; cases hr), fun j hj => ?_⟩
    by_cases hji : j = i
    · subst hji
      exact hy.wpOp hi hS ⟨fun _ => hS, H⟩
    · have := ready_mono hj hji
      rw [H.1] at this
      cases this
  | succ fuel ih =>
    intro listed a w inv hfree hr hy hS H
    refine ⟨fun h => (by rw [h] at hr; cases hr), fun j hj => ?_⟩
    by_cases hji : j = i
    · subst hji
      exact hy.wpOp hi hS ⟨fun _ => hS, H⟩
    · have h1 := H.2 j (ready_mono hj hji)
      have hun := (mem_ready.1 hr).1
      have hjn : j < n := by
        rcases Nat.lt_or_ge j n with h | h
        · exact h
        · exact absurd hj (tail_waits hsk hch hns inv _ i rfl hin hun j h)
      obtain ⟨hjun, oj, hoj, hall⟩ := mem_ready.1 hj
      have hnot : ∀ e ∈ oj.after, Region.binds .any e = true → e.on ≠ i := fun e he hb heq => by
        have h1 := hall e he hb
        rw [heq, getD_both hun] at h1
        cases h1
      have h2 := wpOp_putIf hoj (hfree j oj hoj hji hjun hnot) (fun cs b => hsel i oi cs b hi) (fun cs b => hsel j oj cs b hoj) hQ hy h1
      have hfree' : ∀ k ok, ops[k]? = some ok → k ≠ i → (listed.setIfInBounds j true).getD k true = false →
          (∀ e ∈ ok.after, Region.binds .any e = true → e.on ≠ i) → oi.apart ops ok = true := fun k ok hk hki hunk hno => by
        refine hfree k ok hk hki ?_ hno
        by_cases hjk : j = k
        · subst hjk; exact hjun
        · rw [getD_set_ne true hjk] at hunk; exact hunk
      refine wpOp_mono (fun a' w' h3 => ⟨h3.2.1, ih (listed.setIfInBounds j true) a' w' (inv.set hj hjn) hfree' (ready_mono hr (Ne.symm hji)) h3.1 (h3.2.1 hjn) ?_⟩) h2
      rw [Array.setIfInBounds_comm _ _ hji]
      exact h3.2.2

theorem drop_at {l rest : List Oper} {i : Nat} {o : Oper} (h : l.drop i = o :: rest) : l.toArray[i]? = some o := by
  have h0 : (l.drop i)[0]? = some o := by rw [h]; rfl
  rw [List.getElem?_drop] at h0
  simpa using h0

/-- An operation of the head is taken now. -/
theorem Upto.take {i : Nat} {oi : Oper} {v : Value} {fuel : Nat} {listed : Array Bool} {a : Act} {w : World} {l rest : List Oper} (hi : l.drop i = oi :: rest) (hc : (tailB l.toArray n && decide (i < n) && headB l.toArray n listed && Region.free .any l.toArray listed i && (Region.ready .any l.toArray listed).contains i) = true)
    (hQ : ∀ c a w, Q (.panic c) (a.put oi.dst v) w → Q (.panic c) a w) (hg : oi.guard = none) (hy : ∀ w, S w → (execOp a.eval oi).run P w = .ok (.value v) w) (hS : S w)
    (h : Upto P l.toArray Q S n fuel (listed.setIfInBounds i true) (a.put oi.dst v) w) : Upto P l.toArray Q S n (fuel + 1) listed a w := by
  have hi := drop_at hi
  simp only [Bool.and_eq_true, decide_eq_true_eq] at hc
  obtain ⟨⟨⟨⟨h1, h2⟩, h3⟩, h4⟩, h5⟩ := hc
  exact upto_first h1 h2 hi hQ fuel listed a w (headB_spec h3) (Region.free_spec hi h4) (by simpa using h5) (.inl ⟨wanted_plain hg, hy⟩) hS h

/-- The one operation that may come up now, whatever it does to the world. -/
theorem Upto.only {i : Nat} {oi : Oper} {v : Value} {fuel : Nat} {listed : Array Bool} {a : Act} {w w' : World} {l rest : List Oper} (hi : l.drop i = oi :: rest) (hc : Region.ready .any l.toArray listed = [i])
    (hg : oi.guard = none) (hy : (execOp a.eval oi).run P w = .ok (.value v) w') (hS : S w')
    (h : Upto P l.toArray Q S n fuel (listed.setIfInBounds i true) (a.put oi.dst v) w') : Upto P l.toArray Q S n (fuel + 1) listed a w := by
  have hi := drop_at hi
  refine ⟨fun h0 => (by rw [h0] at hc; cases hc), fun j hj => ?_⟩
  rw [hc] at hj
  have hji : j = i := by simpa using hj
  subst hji
  unfold wpOp
  simp only [hi, wanted_plain hg, if_true]
  refine .inl ?_
  unfold Oper.wp
  rw [hy]
  exact ⟨fun _ => hS, h⟩

/-- The same, by a law of its own. -/
theorem Upto.law {i : Nat} {oi : Oper} {fuel : Nat} {listed : Array Bool} {a : Act} {w : World} {l rest : List Oper} (hi : l.drop i = oi :: rest) (hc : Region.ready .any l.toArray listed = [i]) (hg : oi.guard = none)
    (h : ∀ K : Act → World → Prop, (∀ a' w', S w' → Upto P l.toArray Q S n fuel (listed.setIfInBounds i true) a' w' → K a' w') → oi.wp P a w K Q) : Upto P l.toArray Q S n (fuel + 1) listed a w := by
  have hi := drop_at hi
  refine ⟨fun h0 => (by rw [h0] at hc; cases hc), fun j hj => ?_⟩
  rw [hc] at hj
  have hji : j = i := by simpa using hj
  subst hji
  unfold wpOp
  simp only [hi, wanted_plain hg, if_true]
  exact .inl (h _ fun a' w' hS hU => ⟨fun _ => hS, hU⟩)

/-- A call of a Go function, by its contract. -/
theorem wp_enter {o : Oper} {a : Act} {w : World} {K : Act → World → Prop} {f : FuncId} {args : Array Value} {R : Ending → World → Prop} (hrun : (execOp a.eval o).run P w = .ok (.enter f args) w) (C : Calls P f args w R)
    (hR : ∀ e w', R e w' → ∃ v, e = .returned v ∧ K (a.put o.dst v) w') : o.wp P a w K Q := by
  unfold Oper.wp
  rw [hrun]
  refine C.mono fun e w' h => ?_
  obtain ⟨v, rfl, hK⟩ := hR e w' h
  exact hK

theorem upto_seq : ∀ (l : List Oper) (k : Nat) (listed : Array Bool) (a : Act) (w : World), n ≤ k → (∀ j, l[j]? = ops[k + j]?) →
    Region.seqB .any ops l.length k listed = true → wpList P ops Q l a w → Upto P ops Q S n l.length listed a w
  | [], k, listed, a, w, _, _, hB, h => ⟨by simpa [Region.seqB] using hB, h⟩
  | o :: l, k, listed, a, w, hk, hl, hB, h => by
    have h0 : ops[k]? = some o := by simpa using (hl 0).symm
    simp only [List.length_cons, Region.seqB, Bool.and_eq_true, decide_eq_true_eq] at hB
    refine ⟨fun h1 => (by rw [hB.1] at h1; cases h1), fun i hi => ?_⟩
    rw [hB.1] at hi
    have hik : i = k := by simpa using hi
    subst hik
    have hw : wpOp P ops Q i (wpList P ops Q l) a w := by unfold wpOp; simp only [h0]; exact h
    exact wpOp_mono (fun a' w' h' => ⟨fun hlt => absurd hlt (by omega), upto_seq l (i + 1) _ a' w' (by omega) (fun j => by have := hl (j + 1); simpa [Nat.add_assoc, Nat.add_comm 1 j] using this) hB.2 h'⟩) hw

/-- The last operations, one behind the other. -/
theorem Upto.tail {l : List Oper} {fuel : Nat} {listed : Array Bool} {a : Act} {w : World} (hf : (l.drop n).length = fuel) (hB : Region.seqB .any l.toArray fuel n listed = true) (h : wpList P l.toArray Q (l.drop n) a w) : Upto P l.toArray Q S n fuel listed a w := by
  subst hf
  exact upto_seq (l.drop n) n listed a w (Nat.le_refl _) (fun j => by simp [List.getElem?_drop]) hB h

/-- The beginning. -/
theorem upto_start {id : Nat} {a : Act} {w : World} (S : World → Prop) (n : Nat) (hm : P.follows .mixedOrders = true) (h : Upto P ops Q S n ops.size (Array.replicate ops.size false) a w.drew) : (Code.region id ops true).wp P Q a w :=
  wp_region_any hm (any_of_upto _ _ _ _ h)
end
end Go.Proofs.Ytfldcddbmikfiaa

/- operations behind a guard, in a region that draws its order: taken where the guard says go, left out where it says no. No program is named; no condition. -/
namespace Go.Proofs.Ytfldcddbmikfiaa
open Go.RowKit
section
variable {P : Program} {Q : Exit → Act → World → Prop} {S : World → Prop} {n : Nat}
/-- An operation whose guard says go is taken now. -/
theorem Upto.takeG {i : Nat} {oi : Oper} {v : Value} {fuel : Nat} {listed : Array Bool} {a : Act} {w : World} {l rest : List Oper} (hi : l.drop i = oi :: rest) (hc : (tailB l.toArray n && decide (i < n) && headB l.toArray n listed && Region.free .any l.toArray listed i && (Region.ready .any l.toArray listed).contains i) = true)
    (hQ : ∀ c a w, Q (.panic c) (a.put oi.dst v) w → Q (.panic c) a w) (hg : Region.wanted oi (yielded l.toArray a.tmps) = true) (hy : ∀ w, S w → (execOp a.eval oi).run P w = .ok (.value v) w) (hS : S w)
    (h : Upto P l.toArray Q S n fuel (listed.setIfInBounds i true) (a.put oi.dst v) w) : Upto P l.toArray Q S n (fuel + 1) listed a w := by
  have hi := drop_at hi
  simp only [Bool.and_eq_true, decide_eq_true_eq] at hc
  obtain ⟨⟨⟨⟨h1, h2⟩, h3⟩, h4⟩, h5⟩ := hc
  exact upto_first h1 h2 hi hQ fuel listed a w (headB_spec h3) (Region.free_spec hi h4) (by simpa using h5) (.inl ⟨hg, hy⟩) hS h
/-- An operation whose guard says no is left out now. -/
theorem Upto.skip {i : Nat} {oi : Oper} {fuel : Nat} {listed : Array Bool} {a : Act} {w : World} {l rest : List Oper} (hi : l.drop i = oi :: rest) (hc : (tailB l.toArray n && decide (i < n) && headB l.toArray n listed && Region.free .any l.toArray listed i && (Region.ready .any l.toArray listed).contains i) = true)
    (hQ : ∀ c a w, Q (.panic c) (a.put oi.dst undef) w → Q (.panic c) a w) (hg : Region.wanted oi (yielded l.toArray a.tmps) = false) (hS : S w)
    (h : Upto P l.toArray Q S n fuel (listed.setIfInBounds i true) (a.put oi.dst undef) w) : Upto P l.toArray Q S n (fuel + 1) listed a w := by
  have hi := drop_at hi
  simp only [Bool.and_eq_true, decide_eq_true_eq] at hc
  obtain ⟨⟨⟨⟨h1, h2⟩, h3⟩, h4⟩, h5⟩ := hc
  exact upto_first h1 h2 hi hQ fuel listed a w (headB_spec h3) (Region.free_spec hi h4) (by simpa using h5) (.inr ⟨hg, rfl⟩) hS h
/-- The one that may come up now, whose guard says go, by a law of its own. -/
theorem Upto.lawG {i : Nat} {oi : Oper} {fuel : Nat} {listed : Array Bool} {a : Act} {w : World} {l rest : List Oper} (hi : l.drop i = oi :: rest) (hc : Region.ready .any l.toArray listed = [i]) (hg : Region.wanted oi (yielded l.toArray a.tmps) = true)
    (h : ∀ K : Act → World → Prop, (∀ a' w', S w' → Upto P l.toArray Q S n fuel (listed.setIfInBounds i true) a' w' → K a' w') → oi.wp P a w K Q) : Upto P l.toArray Q S n (fuel + 1) listed a w := by
  have hi := drop_at hi
  refine ⟨fun h0 => (by rw [h0] at hc; cases hc), fun j hj => ?_⟩
  rw [hc] at hj
  have hji : j = i := by simpa using hj
  subst hji
  unfold wpOp
  simp only [hi, hg, if_true]
  exact .inl (h _ fun a' w' hS hU => ⟨fun _ => hS, hU⟩)
/-- A chunk of cells, at the end of the chain of worlds. -/
theorem rangeAt_heap {w w' : World} {g o : Nat} {cs : List Value} (h : w.rangeAt g o cs) (hk : w'.heap[g]? = w.heap[g]?) : w'.rangeAt g o cs := fun j v hv => (World.cell?_of_block (w := w) (w' := w') (a := ⟨g, o + j, none⟩) hk).trans (h j v hv)
end
end Go.Proofs.Ytfldcddbmikfiaa
