/- What it says: contracts and plain mathematics that the laws' walks use, 2 of 34: each part's own remark says what; no condition. -/
import Derived.Test.YtfldcddbmikfiaaPw1
import Derived.Test.YtfldcddbmikfiaaRows
import Derived.Deep.QuietTactic
import Derived.BigQuiet
import Derived.Laws.Build

set_option linter.unusedSimpArgs false
set_option linter.unusedVariables false
set_option linter.deprecated false
set_option linter.unusedSectionVars false
set_option linter.all false

/- num.TakeShort and trothref01.TakeShort answer what 'takeF' reads of the bytes, and write nothing. -/
namespace Go.Proofs.Ytfldcddbmikfiaa
open Go.RowKit

def Take3 (k : IntKind) (l : List Int) (w : World) (e : Ending) (w' : World) : Prop :=
  e = .returned (.tuple #[.int .u64 ((takeF l 0 0).1 : Int), .int .i64 ((takeF l 0 0).2.1 : Int), .int k ((takeF l 0 0).2.2 : Int)]) ∧ ∃ m, w' = w.drewN m

theorem take3_of {k : IntKind} {l : List Int} {w w' : World} {a b c : Nat} {x y z : Int} (h : takeF l 0 0 = (a, b, c)) (hx : x = a) (hy : y = b) (hz : z = c) (hw : ∃ m, w' = w.drewN m) :
    Take3 k l w (.returned (.tuple #[.int .u64 x, .int .i64 y, .int k z])) w' := by
  subst hx hy hz
  exact ⟨by rw [h], hw⟩

/-- One step: what is read from place k on. -/
theorem takeF_at {l : List Int} {k m : Nat} (h : k < l.length) (e : takeF l 0 0 = takeF (l.drop k) m k) : takeF l 0 0 = if k = 0 ∧ l.getD k 0 = 128 then (0, 0, 11) else if 144115188075855872 ≤ m then (0, 0, 12) else
      if l.getD k 0 < 128 then (m * 128 + (l.getD k 0 % 128).toNat, k + 1, 0) else takeF (l.drop (k + 1)) (m * 128 + (l.getD k 0 % 128).toNat) (k + 1) := by
  rw [e, List.drop_eq_getElem_cons h, takeF_cons]
  have : l.getD k 0 = l[k] := by simp [List.getD, List.getElem?_eq_getElem h]
  rw [this]

set_option maxHeartbeats 1000000 in
theorem numTake_rows (g off n c : Nat) (l : List Int) (w : World) (h : Byt w (some ⟨g, off, none⟩) n c l) (hn : 0 < n) :
    Calls Try.prog 97 #[.slice (some ⟨g, off, none⟩) n c] w (Take3 .i64 l w) := by
  have hc0 : ∀ i, i < n → w.cell? ⟨g, off + i, none⟩ = some (.int .u8 (l.getD i 0)) := by
    obtain ⟨g1, o1, e, hc⟩ := h.at_ hn
    injection e with e; injection e with e1 e2; subst e1; subst e2
    exact hc
  have hcap := h.cap
  have hmax := h.max
  unfold maxLen at hmax
  have HL := Lib.hid h.len
  have HR := Lib.hid h.lt_
  have HC := Lib.hid hc0
  clear hc0 h
  go_enter Try.func97, Try.ntmps97
  go_wp2_with fail
  go_loop [5, 10] (fun s i => ∃ k m : Nat, k ≤ n ∧ m < 18446744073709551616 ∧ s = .int .u64 m ∧ i = .int .i64 k ∧ takeF l 0 0 = takeF (l.drop k) m k) (fun _ i => n - (intOf i).toNat)
  case atStart => exact ⟨0, 0, Nat.zero_le _, by omega, rfl, rfl, rfl⟩
  case round =>
    obtain ⟨k, m, hk, hm, rfl, rfl, ht⟩ := hrel
    have HT := Lib.hid ht
    clear ht
    by_cases hlt : k < n
    · have hx := HC.out k hlt
      have hr := HR.out k hlt
      have T := Lib.hid (takeF_at (by rw [HL.out]; exact hlt) HT.out)
      obtain ⟨x, ex⟩ : ∃ x, x = l.getD k 0 := ⟨_, rfl⟩
      rw [← ex] at hx hr T
      clear ex
      obtain ⟨hr0, hr1⟩ := hr
      by_cases h1 : k = 0 ∧ x = 128
      · obtain ⟨rfl, rfl⟩ := h1
        have T1 := T.out
        rw [if_pos ⟨rfl, rfl⟩] at T1
        have T2 := Lib.hid T1
        clear T1
        have hx' : w.cell? ⟨g, off, none⟩ = some (.int .u8 128) := hx
        clear hx
        go_wp2_with fail
        refine bodyPost_ret (results_tmp3 rfl _ _ _) rfl ?_
        exact take3_of T2.out rfl rfl rfl ⟨0, rfl⟩
      · have T1 := T.out
        rw [if_neg h1] at T1
        have HK := Lib.hid hk
        clear hk
        have two : ∀ {p : Prop}, (k = 0 → (x == 128) = false → p) → (((k : Int) == 0) = false → p) → p := by
          intro p a b
          by_cases h : k = 0
          · exact a h (by simp; intro e; exact h1 ⟨h, e⟩)
          · exact b (by simp; omega)
        clear h1
        have HX := Lib.hid hx
        clear hx
        by_cases h2 : 144115188075855872 ≤ m
        · rw [if_pos h2] at T1
          have T2 := Lib.hid T1
          have e2 : ((m : Int) / 144115188075855872 != 0) = true := by simp; omega
          clear T1 T h2 HT
          refine two ?_ ?_
          · rintro rfl hx1
            have hx := HX.out
            rw [Nat.add_zero] at hx
            clear two
            go_wp2_with fail
            refine bodyPost_ret (results_tmp3 rfl _ _ _) rfl ?_
            exact take3_of T2.out rfl rfl rfl ⟨0, rfl⟩
          · intro hk0
            have hx := HX.out
            clear two
            go_wp2_with fail
            refine bodyPost_ret (results_tmp3 rfl _ _ _) rfl ?_
            exact take3_of T2.out rfl rfl rfl ⟨0, rfl⟩
        · rw [if_neg h2] at T1
          have hm2 : (m : Int) < 144115188075855872 := by omega
          have e2 : ((m : Int) / 144115188075855872 != 0) = false := by simp; omega
          clear T HT h2
          by_cases h3 : x < 128
          · rw [if_pos h3] at T1
            have T2 := Lib.hid T1
            clear T1
            refine two ?_ ?_
            · rintro rfl hx1
              have hx := HX.out
              rw [Nat.add_zero] at hx
              clear two
              go_wp2_with fail
              refine bodyPost_ret (results_tmp3 rfl _ _ _) rfl ?_
              exact take3_of T2.out (by omega) (by omega) rfl ⟨0, rfl⟩
            · intro hk0
              have hx := HX.out
              clear two
              go_wp2_with fail
              refine bodyPost_ret (results_tmp3 rfl _ _ _) rfl ?_
              exact take3_of T2.out (by omega) (by omega) rfl ⟨0, rfl⟩
          · rw [if_neg h3] at T1
            have T2 := Lib.hid T1
            clear T1
            refine two ?_ ?_
            · rintro rfl hx1
              have hx := HX.out
              rw [Nat.add_zero] at hx
              clear two
              go_wp2_with fail
              have hk := HK.out
              go_round
              case rel => exact ⟨0 + 1, m * 128 + (x % 128).toNat, by omega, by omega, by congr 1; omega, by go_num, T2.out⟩
              case measure => simp [intOf]; omega
            · intro hk0
              have hx := HX.out
              clear two
              go_wp2_with fail
              have hk := HK.out
              go_round
              case rel => exact ⟨k + 1, m * 128 + (x % 128).toNat, by omega, by omega, by congr 1; omega, by go_num, T2.out⟩
              case measure => simp [intOf]; omega
    · have hkn : k = n := by omega
      subst hkn
      have T1 := HT.out
      rw [List.drop_of_length_le (by rw [HL.out]; omega)] at T1
      have T2 : Hid (takeF l 0 0 = (0, 0, 10)) := T1
      clear T1
      go_wp2_with fail
      refine bodyPost_ret (results_tmp3 rfl _ _ _) rfl ?_
      exact take3_of T2.out rfl rfl rfl ⟨0, rfl⟩

theorem numTake_any (A : Option Addr) (n c : Nat) (l : List Int) (w : World) (h : Byt w A n c l) :
    Calls Try.prog 97 #[.slice A n c] w (Take3 .i64 l w) := by
  by_cases hn : 0 < n
  · obtain ⟨g, off, rfl, _⟩ := h.at_ hn
    exact numTake_rows g off n c l w h hn
  · have h0 : n = 0 := by omega
    subst h0
    have e : l = [] := List.eq_nil_of_length_eq_zero h.len
    subst e
    clear h hn
    go_enter Try.func97, Try.ntmps97
    go_wp2_with fail
    refine wp_loop_rounds 1 ?_
    rw [rounds_succ]
    go_wp2_with fail
    refine bodyPost_ret (results_tmp3 rfl _ _ _) rfl ?_
    exact take3_of (a := 0) (b := 0) (c := 10) rfl rfl rfl rfl ⟨0, rfl⟩

theorem q128 (x : Int) : (18446744073709551615 - x % 128) / 128 = 144115188075855871 := by omega
attribute [local go_sem] q128

set_option maxHeartbeats 1000000 in
theorem refTake_rows (g off n c : Nat) (l : List Int) (w : World) (h : Byt w (some ⟨g, off, none⟩) n c l) (hn : 0 < n) :
    Calls Try.prog 63 #[.slice (some ⟨g, off, none⟩) n c] w (Take3 .i64 l w) := by
  have hc0 : ∀ i, i < n → w.cell? ⟨g, off + i, none⟩ = some (.int .u8 (l.getD i 0)) := by
    obtain ⟨g1, o1, e, hc⟩ := h.at_ hn
    injection e with e; injection e with e1 e2; subst e1; subst e2
    exact hc
  have hcap := h.cap
  have hmax := h.max
  unfold maxLen at hmax
  have HL := Lib.hid h.len
  have HR := Lib.hid h.lt_
  have HC := Lib.hid hc0
  clear hc0 h
  go_enter Try.func63, Try.ntmps63
  go_wp2_with fail
  go_loop [5, 6] (fun s i => ∃ k m : Nat, k ≤ n ∧ m < 18446744073709551616 ∧ s = .int .u64 m ∧ i = .int .i64 k ∧ takeF l 0 0 = takeF (l.drop k) m k) (fun _ i => n - (intOf i).toNat)
  case atStart => exact ⟨0, 0, Nat.zero_le _, by omega, rfl, rfl, rfl⟩
  case round =>
    obtain ⟨k, m, hk, hm, rfl, rfl, ht⟩ := hrel
    have HT := Lib.hid ht
    clear ht
    by_cases hlt : k < n
    · have hx := HC.out k hlt
      have hr := HR.out k hlt
      have T := Lib.hid (takeF_at (by rw [HL.out]; exact hlt) HT.out)
      obtain ⟨x, ex⟩ : ∃ x, x = l.getD k 0 := ⟨_, rfl⟩
      rw [← ex] at hx hr T
      clear ex
      obtain ⟨hr0, hr1⟩ := hr
      by_cases h1 : k = 0 ∧ x = 128
      · obtain ⟨rfl, rfl⟩ := h1
        have T1 := T.out
        rw [if_pos ⟨rfl, rfl⟩] at T1
        have T2 := Lib.hid T1
        clear T1
        have hx' : w.cell? ⟨g, off, none⟩ = some (.int .u8 128) := hx
        clear hx
        go_wp2_with fail
        refine bodyPost_ret (results_tmp3 rfl _ _ _) rfl ?_
        exact take3_of T2.out rfl rfl rfl ⟨0, rfl⟩
      · have T1 := T.out
        rw [if_neg h1] at T1
        have HK := Lib.hid hk
        clear hk
        have two : ∀ {p : Prop}, (k = 0 → (x == 128) = false → p) → (((k : Int) == 0) = false → p) → p := by
          intro p a b
          by_cases h : k = 0
          · exact a h (by simp; intro e; exact h1 ⟨h, e⟩)
          · exact b (by simp; omega)
        clear h1
        have HX := Lib.hid hx
        clear hx
        by_cases h2 : 144115188075855872 ≤ m
        · rw [if_pos h2] at T1
          have T2 := Lib.hid T1
          have e2 : (144115188075855871 : Int) < (m : Int) := by omega
          clear T1 T h2 HT
          refine two ?_ ?_
          · rintro rfl hx1
            have hx := HX.out
            rw [Nat.add_zero] at hx
            clear two
            go_wp2_with fail
            refine bodyPost_ret (results_tmp3 rfl _ _ _) rfl ?_
            exact take3_of T2.out rfl rfl rfl ⟨0, rfl⟩
          · intro hk0
            have hx := HX.out
            clear two
            go_wp2_with fail
            refine bodyPost_ret (results_tmp3 rfl _ _ _) rfl ?_
            exact take3_of T2.out rfl rfl rfl ⟨0, rfl⟩
        · rw [if_neg h2] at T1
          have hm2 : (m : Int) < 144115188075855872 := by omega
          have e2 : ¬ (144115188075855871 : Int) < (m : Int) := by omega
          clear T HT h2
          by_cases h3 : x < 128
          · rw [if_pos h3] at T1
            have T2 := Lib.hid T1
            clear T1
            refine two ?_ ?_
            · rintro rfl hx1
              have hx := HX.out
              rw [Nat.add_zero] at hx
              clear two
              go_wp2_with fail
              refine bodyPost_ret (results_tmp3 rfl _ _ _) rfl ?_
              exact take3_of T2.out (by omega) (by omega) rfl ⟨0, rfl⟩
            · intro hk0
              have hx := HX.out
              clear two
              go_wp2_with fail
              refine bodyPost_ret (results_tmp3 rfl _ _ _) rfl ?_
              exact take3_of T2.out (by omega) (by omega) rfl ⟨0, rfl⟩
          · rw [if_neg h3] at T1
            have T2 := Lib.hid T1
            clear T1
            refine two ?_ ?_
            · rintro rfl hx1
              have hx := HX.out
              rw [Nat.add_zero] at hx
              clear two
              go_wp2_with fail
              have hk := HK.out
              go_round
              case rel => exact ⟨0 + 1, m * 128 + (x % 128).toNat, by omega, by omega, by congr 1; omega, by go_num, T2.out⟩
              case measure => simp [intOf]; omega
            · intro hk0
              have hx := HX.out
              clear two
              go_wp2_with fail
              have hk := HK.out
              go_round
              case rel => exact ⟨k + 1, m * 128 + (x % 128).toNat, by omega, by omega, by congr 1; omega, by go_num, T2.out⟩
              case measure => simp [intOf]; omega
    · have hkn : k = n := by omega
      subst hkn
      have T1 := HT.out
      rw [List.drop_of_length_le (by rw [HL.out]; omega)] at T1
      have T2 : Hid (takeF l 0 0 = (0, 0, 10)) := T1
      clear T1
      go_wp2_with fail
      refine bodyPost_ret (results_tmp3 rfl _ _ _) rfl ?_
      exact take3_of T2.out rfl rfl rfl ⟨0, rfl⟩

theorem refTake_any (A : Option Addr) (n c : Nat) (l : List Int) (w : World) (h : Byt w A n c l) :
    Calls Try.prog 63 #[.slice A n c] w (Take3 .i64 l w) := by
  by_cases hn : 0 < n
  · obtain ⟨g, off, rfl, _⟩ := h.at_ hn
    exact refTake_rows g off n c l w h hn
  · have h0 : n = 0 := by omega
    subst h0
    have e : l = [] := List.eq_nil_of_length_eq_zero h.len
    subst e
    clear h hn
    go_enter Try.func63, Try.ntmps63
    go_wp2_with fail
    refine wp_loop_rounds 1 ?_
    rw [rounds_succ]
    go_wp2_with fail
    refine bodyPost_ret (results_tmp3 rfl _ _ _) rfl ?_
    exact take3_of (a := 0) (b := 0) (c := 10) rfl rfl rfl rfl ⟨0, rfl⟩


/-- The same, what is read being known. -/
theorem numTake_is (A : Option Addr) (n c : Nat) (l : List Int) (x i e : Nat) (w : World) (h : Byt w A n c l) (ht : takeF l 0 0 = (x, i, e)) :
    Calls Try.prog 97 #[.slice A n c] w (Quiet (.tuple #[.int .u64 x, .int .i64 i, .int .i64 e]) w) := by
  refine (numTake_any A n c l w h).mono fun e' w' hq => ?_
  unfold Take3 at hq
  rw [ht] at hq
  exact hq

/-- The same, what is read being known. -/
theorem refTake_is (A : Option Addr) (n c : Nat) (l : List Int) (x i e : Nat) (w : World) (h : Byt w A n c l) (ht : takeF l 0 0 = (x, i, e)) :
    Calls Try.prog 63 #[.slice A n c] w (Quiet (.tuple #[.int .u64 x, .int .i64 i, .int .i64 e]) w) := by
  refine (refTake_any A n c l w h).mono fun e' w' hq => ?_
  unfold Take3 at hq
  rw [ht] at hq
  exact hq
end Go.Proofs.Ytfldcddbmikfiaa

/- seal.firstNum and firstText answer the number, the text at the beginning of bytes; nothing is turned. -/
namespace Go.Proofs.Ytfldcddbmikfiaa
open Go.RowKit

/-- A number of at most 'most'. -/
def numF (l : List Int) (most : Int) : Nat × Nat × Nat :=
  if (takeF l 0 0).2.2 ≠ 0 then (0, 0, (takeF l 0 0).2.2) else if most < 0 ∨ most < ((takeF l 0 0).1 : Int) then (0, 0, 12) else ((takeF l 0 0).1, (takeF l 0 0).2.1, 0)

/-- A text of at most 'most' bytes, and how many bytes it has with its length. -/
def textF (l : List Int) (most : Int) : List Int × Nat × Nat :=
  if (numF l most).2.2 ≠ 0 then ([], 0, (numF l most).2.2) else if l.length - (numF l most).2.1 < (numF l most).1 then ([], 0, 10) else ((l.drop (numF l most).2.1).take (numF l most).1, (numF l most).2.1 + (numF l most).1, 0)

theorem numF_ok {l : List Int} (hr : ∀ x ∈ l, 0 ≤ x ∧ x < 256) {most : Int} (h : (numF l most).2.2 = 0) : ((numF l most).1 : Int) ≤ most ∧ (numF l most).2.1 ≤ l.length ∧ shortL (numF l most).1 = l.take (numF l most).2.1 := by
  unfold numF at h ⊢
  split at h
  · rename_i h0; exact absurd h h0
  · rename_i h0
    split at h
    · simp at h
    · rename_i h1
      rw [if_neg h0, if_neg h1]
      have := takeF_read l hr (takeF l 0 0).1 (takeF l 0 0).2.1 (Prod.ext rfl (Prod.ext rfl (by omega)))
      simp only [not_or, Int.not_lt] at h1
      exact ⟨h1.2, this.2.1, this.2.2⟩

set_option maxHeartbeats 1000000 in
theorem firstNum_any (A : Option Addr) (n c : Nat) (l : List Int) (most : Int) (w : World) (h : Byt w A n c l) (hm : -9223372036854775808 ≤ most ∧ most ≤ 9223372036854775807) (x k e : Nat) (hF : numF l most = (x, k, e)) :
    Calls Try.prog 89 #[.slice A n c, .int .i64 most] w (Quiet (.tuple #[.int .i64 x, .int .i64 k, .int .i64 e]) w) := by
  obtain ⟨x0, k0, e0, ht⟩ : ∃ x k e, takeF l 0 0 = (x, k, e) := ⟨_, _, _, rfl⟩
  have hlt : e0 = 0 → x0 < 18446744073709551616 := fun e => (takeF_read l h.rng x0 k0 (by rw [ht, e])).1
  have C := Lib.hid (numTake_is A n c l x0 k0 e0 w h ht)
  have hF' : (if e0 ≠ 0 then (0, 0, e0) else if most < 0 ∨ most < (x0 : Int) then (0, 0, 12) else (x0, k0, 0)) = (x, k, e) := by
    rw [← hF]; unfold numF; rw [ht]
  clear h ht hF
  by_cases h0 : e0 = 0
  · subst h0
    have hx := hlt rfl
    rw [if_neg (by simp)] at hF'
    clear hlt
    by_cases h1 : most < 0
    · rw [if_pos (Or.inl h1)] at hF'
      injection hF' with e1 e2
      injection e2 with e2 e3
      subst e1 e2 e3
      go_enter Try.func89, Try.ntmps89
      go_wp2_with fail
      refine C.out.mono ?_
      rintro e w1 ⟨rfl, m, rfl⟩
      go_wp2_with fail
      go_ret3
      exact ⟨rfl, m, rfl⟩
    · obtain ⟨q, rfl⟩ := Int.eq_ofNat_of_zero_le (Int.not_lt.1 h1)
      obtain ⟨_, hq⟩ := hm
      by_cases h2 : q < x0
      · rw [if_pos (Or.inr (by omega))] at hF'
        injection hF' with e1 e2
        injection e2 with e2 e3
        subst e1 e2 e3
        go_enter Try.func89, Try.ntmps89
        go_wp2_with fail
        refine C.out.mono ?_
        rintro e w1 ⟨rfl, m, rfl⟩
        go_wp2_with fail
        go_ret3
        exact ⟨rfl, m, rfl⟩
      · rw [if_neg (by omega)] at hF'
        injection hF' with e1 e2
        injection e2 with e2 e3
        subst e1 e2 e3
        go_enter Try.func89, Try.ntmps89
        go_wp2_with fail
        refine C.out.mono ?_
        rintro e w1 ⟨rfl, m, rfl⟩
        go_wp2_with fail
        go_ret3
        exact ⟨rfl, m, rfl⟩
  · rw [if_pos h0] at hF'
    injection hF' with e1 e2
    injection e2 with e2 e3
    subst e1 e2 e3
    have hne : ((e0 : Int) != 0) = true := by simp; omega
    clear hlt h0
    go_enter Try.func89, Try.ntmps89
    go_wp2_with fail
    refine C.out.mono ?_
    rintro e w1 ⟨rfl, m, rfl⟩
    go_wp2_with fail
    go_ret3
    exact ⟨rfl, m, rfl⟩

/-- A slice, a number and an error. -/
def Ret3 (l : List Int) (u e0 : Nat) (w : World) (e : Ending) (w' : World) : Prop :=
  ∃ A n c, e = .returned (.tuple #[.slice A n c, .int .i64 u, .int .i64 e0]) ∧ Byt w' A n c l ∧ Below w.heap.size w w'

/-- The same of a call that draws at most. -/
def Ret3Q (l : List Int) (u e0 : Nat) (w : World) (e : Ending) (w' : World) : Prop :=
  ∃ A n c, e = .returned (.tuple #[.slice A n c, .int .i64 u, .int .i64 e0]) ∧ Byt w A n c l ∧ ∃ m, w' = w.drewN m

set_option maxHeartbeats 1000000 in
theorem firstText_quiet (A : Option Addr) (n c : Nat) (l : List Int) (most : Int) (w : World) (h : Byt w A n c l) (hm : -9223372036854775808 ≤ most ∧ most ≤ 9223372036854775807) (b : List Int) (u e : Nat) (hF : textF l most = (b, u, e)) :
    Calls Try.prog 100 #[.slice A n c, .int .i64 most] w (Ret3Q b u e w) := by
  obtain ⟨x0, k0, e0, ht⟩ : ∃ x k e, numF l most = (x, k, e) := ⟨_, _, _, rfl⟩
  have hok := fun e => numF_ok h.rng (most := most) e
  rw [ht] at hok
  have C := Lib.hid (firstNum_any A n c l most w h hm x0 k0 e0 ht)
  have hF' : (if e0 ≠ 0 then ([], 0, e0) else if l.length - k0 < x0 then ([], 0, 10) else ((l.drop k0).take x0, k0 + x0, 0)) = (b, u, e) := by
    rw [← hF]; unfold textF; rw [ht]
  have hlen := h.len
  have hcap := h.cap
  have hmax := h.max
  unfold maxLen at hmax
  clear ht hF
  by_cases h0 : e0 = 0
  · subst h0
    obtain ⟨hx, hk, _⟩ := hok rfl
    simp only at hx hk
    rw [if_neg (by simp)] at hF'
    clear hok
    by_cases h2 : n - k0 < x0
    · rw [if_pos (by omega)] at hF'
      injection hF' with e1 e2
      injection e2 with e2 e3
      subst e1 e2 e3
      clear h
      have hkn : k0 ≤ n := by omega
      go_enter Try.func100, Try.ntmps100
      go_wp2_with fail
      refine C.out.mono ?_
      rintro e w1 ⟨rfl, m, rfl⟩
      go_wp2_with fail
      go_ret3
      exact ⟨none, 0, 0, rfl, Byt.nil _, _, rfl⟩
    · rw [if_neg (by omega)] at hF'
      injection hF' with e1 e2
      injection e2 with e2 e3
      subst e1 e2 e3
      have hkn : k0 ≤ n := by omega
      obtain ⟨B, m, d, hs, hmd, hb⟩ := cut_lh h k0 (k0 + x0) (by omega) (by omega) (k0 : Int) ((k0 : Int) + (x0 : Int)) rfl (by omega)
      rw [Nat.add_sub_cancel_left] at hmd hb
      have HB := Lib.hid hb
      clear h hb hmd
      go_enter Try.func100, Try.ntmps100
      go_wp2_with fail
      refine C.out.mono ?_
      rintro e w1 ⟨rfl, j, rfl⟩
      go_wp2_with fail
      go_ret3
      exact ⟨B, m, d, rfl, HB.out, j, rfl⟩
  · rw [if_pos h0] at hF'
    injection hF' with e1 e2
    injection e2 with e2 e3
    subst e1 e2 e3
    have hne : ((e0 : Int) != 0) = true := by simp; omega
    clear h0 hok
    go_enter Try.func100, Try.ntmps100
    go_wp2_with fail
    refine C.out.mono ?_
    rintro e w1 ⟨rfl, m, rfl⟩
    go_wp2_with fail
    go_ret3
    exact ⟨none, 0, 0, rfl, Byt.nil _, _, rfl⟩

theorem firstText_any (A : Option Addr) (n c : Nat) (l : List Int) (most : Int) (w : World) (h : Byt w A n c l) (hm : -9223372036854775808 ≤ most ∧ most ≤ 9223372036854775807) (b : List Int) (u e : Nat) (hF : textF l most = (b, u, e)) :
    Calls Try.prog 100 #[.slice A n c, .int .i64 most] w (Ret3 b u e w) :=
  (firstText_quiet A n c l most w h hm b u e hF).mono fun _ _ ⟨A', n', c', he, hb, m, hw⟩ => ⟨A', n', c', he, by rw [hw]; exact hb.drewN m, by rw [hw]; exact below_drewN (Below.refl _ _) m⟩
end Go.Proofs.Ytfldcddbmikfiaa

/- seal.take at its four types: behind an error, or of a nil reader, it answers nothing; what its decoder refuses becomes the reader's error; else the reader goes on behind the value. -/
namespace Go.Proofs.Ytfldcddbmikfiaa
open Go.RowKit

/-- What a decoder answers; it draws at most. -/
def Dec (v : Value) (used er : Nat) (w : World) (e : Ending) (w' : World) : Prop := e = .returned (.tuple #[v, .int .i64 used, .int .i64 er]) ∧ ∃ m, w' = w.drewN m

theorem Bk.drewN {w : World} {g : Nat} {t : TypeId} {cs : Array Value} (h : Bk w g t cs) (m : Nat) : Bk (w.drewN m) g t cs := h


theorem takeInt_nil (q : Addr) (w : World) :
    Calls Try.prog 87 #[.pointer none, .func (.func 88) #[] #[.pointer (some q)]] w (fun e w' => e = .returned (.int .i64 0) ∧ w = w') := by
  go_enter Try.func87, Try.ntmps87
  go_wp2_with fail
  go_ret
  exact ⟨rfl, rfl⟩


set_option maxHeartbeats 1000000 in
theorem takeInt_err (b : Nat) (q : Addr) (A : Option Addr) (n c e0 : Nat) (w : World) (h : Bk w b 93 #[.slice A n c, .int .i64 e0]) (he : e0 ≠ 0) :
    Calls Try.prog 87 #[.pointer (some ⟨b, 0, none⟩), .func (.func 88) #[] #[.pointer (some q)]] w (fun e w' => e = .returned (.int .i64 0) ∧ w = w') := by
  have h1 : w.cell? ⟨b, 1, none⟩ = some (.int .i64 e0) := h.cell 1
  have hne : ((e0 : Int) != 0) = true := by simp; omega
  clear h he
  go_enter Try.func87, Try.ntmps87
  go_wp2_with fail
  go_ret
  exact ⟨rfl, rfl⟩


set_option maxHeartbeats 1000000 in
theorem takeInt_fail (b : Nat) (q : Addr) (A : Option Addr) (n c : Nat) (v : Value) (used er : Nat) (w : World) (h : Bk w b 93 #[.slice A n c, .int .i64 0]) (he : er ≠ 0)
    (hd : Calls Try.prog 88 #[.slice A n c, .pointer (some q)] w (Dec v used er w)) :
    Calls Try.prog 87 #[.pointer (some ⟨b, 0, none⟩), .func (.func 88) #[] #[.pointer (some q)]] w (fun e w' => e = .returned (.int .i64 0) ∧ ∃ m, w' = (w.drewN m).setCell ⟨b, 1, none⟩ (.int .i64 er)) := by
  have h0 : w.cell? ⟨b, 0, none⟩ = some (.slice A n c) := h.cell 0
  have h1 : w.cell? ⟨b, 1, none⟩ = some (.int .i64 0) := h.cell 1
  have hf := h.frz 1
  have hne : ((er : Int) != 0) = true := by simp; omega
  have HD := Lib.hid hd
  clear h he hd
  go_enter Try.func87, Try.ntmps87
  go_wp2_with fail
  refine HD.out.mono ?_
  rintro e w1 ⟨rfl, m, rfl⟩
  go_wp2_with fail
  go_ret
  exact ⟨rfl, m, rfl⟩


set_option maxHeartbeats 1000000 in
theorem takeInt_ok (b : Nat) (q : Addr) (A : Option Addr) (n c : Nat) (v : Value) (used : Nat) (w : World) (h : Bk w b 93 #[.slice A n c, .int .i64 0]) (B : Option Addr) (k d : Nat)
    (hs : ∀ u, (Instr.slice 33 (.slice A n c) (some (.int .i64 used)) none none).run Try.prog u = .ok (.slice B k d) u)
    (hd : Calls Try.prog 88 #[.slice A n c, .pointer (some q)] w (Dec v used 0 w)) :
    Calls Try.prog 87 #[.pointer (some ⟨b, 0, none⟩), .func (.func 88) #[] #[.pointer (some q)]] w (fun e w' => e = .returned v ∧ ∃ m, w' = (w.drewN m).setCell ⟨b, 0, none⟩ (.slice B k d)) := by
  have h0 : w.cell? ⟨b, 0, none⟩ = some (.slice A n c) := h.cell 0
  have h1 : w.cell? ⟨b, 1, none⟩ = some (.int .i64 0) := h.cell 1
  have hf := h.frz 0
  have HD := Lib.hid hd
  clear h hd
  go_enter Try.func87, Try.ntmps87
  go_wp2_with fail
  refine HD.out.mono ?_
  rintro e w1 ⟨rfl, m, rfl⟩
  go_wp2_with fail
  go_ret
  exact ⟨rfl, m, rfl⟩


theorem takeBool_nil (w : World) :
    Calls Try.prog 101 #[.pointer none, .func (.func 102) #[] #[]] w (fun e w' => e = .returned (.bool false) ∧ w = w') := by
  go_enter Try.func101, Try.ntmps101
  go_wp2_with fail
  go_ret
  exact ⟨rfl, rfl⟩


set_option maxHeartbeats 1000000 in
theorem takeBool_err (b : Nat) (A : Option Addr) (n c e0 : Nat) (w : World) (h : Bk w b 93 #[.slice A n c, .int .i64 e0]) (he : e0 ≠ 0) :
    Calls Try.prog 101 #[.pointer (some ⟨b, 0, none⟩), .func (.func 102) #[] #[]] w (fun e w' => e = .returned (.bool false) ∧ w = w') := by
  have h1 : w.cell? ⟨b, 1, none⟩ = some (.int .i64 e0) := h.cell 1
  have hne : ((e0 : Int) != 0) = true := by simp; omega
  clear h he
  go_enter Try.func101, Try.ntmps101
  go_wp2_with fail
  go_ret
  exact ⟨rfl, rfl⟩


set_option maxHeartbeats 1000000 in
theorem takeBool_fail (b : Nat) (A : Option Addr) (n c : Nat) (v : Value) (used er : Nat) (w : World) (h : Bk w b 93 #[.slice A n c, .int .i64 0]) (he : er ≠ 0)
    (hd : Calls Try.prog 102 #[.slice A n c] w (Dec v used er w)) :
    Calls Try.prog 101 #[.pointer (some ⟨b, 0, none⟩), .func (.func 102) #[] #[]] w (fun e w' => e = .returned (.bool false) ∧ ∃ m, w' = (w.drewN m).setCell ⟨b, 1, none⟩ (.int .i64 er)) := by
  have h0 : w.cell? ⟨b, 0, none⟩ = some (.slice A n c) := h.cell 0
  have h1 : w.cell? ⟨b, 1, none⟩ = some (.int .i64 0) := h.cell 1
  have hf := h.frz 1
  have hne : ((er : Int) != 0) = true := by simp; omega
  have HD := Lib.hid hd
  clear h he hd
  go_enter Try.func101, Try.ntmps101
  go_wp2_with fail
  refine HD.out.mono ?_
  rintro e w1 ⟨rfl, m, rfl⟩
  go_wp2_with fail
  go_ret
  exact ⟨rfl, m, rfl⟩


set_option maxHeartbeats 1000000 in
theorem takeBool_ok (b : Nat) (A : Option Addr) (n c : Nat) (v : Value) (used : Nat) (w : World) (h : Bk w b 93 #[.slice A n c, .int .i64 0]) (B : Option Addr) (k d : Nat)
    (hs : ∀ u, (Instr.slice 33 (.slice A n c) (some (.int .i64 used)) none none).run Try.prog u = .ok (.slice B k d) u)
    (hd : Calls Try.prog 102 #[.slice A n c] w (Dec v used 0 w)) :
    Calls Try.prog 101 #[.pointer (some ⟨b, 0, none⟩), .func (.func 102) #[] #[]] w (fun e w' => e = .returned v ∧ ∃ m, w' = (w.drewN m).setCell ⟨b, 0, none⟩ (.slice B k d)) := by
  have h0 : w.cell? ⟨b, 0, none⟩ = some (.slice A n c) := h.cell 0
  have h1 : w.cell? ⟨b, 1, none⟩ = some (.int .i64 0) := h.cell 1
  have hf := h.frz 0
  have HD := Lib.hid hd
  clear h hd
  go_enter Try.func101, Try.ntmps101
  go_wp2_with fail
  refine HD.out.mono ?_
  rintro e w1 ⟨rfl, m, rfl⟩
  go_wp2_with fail
  go_ret
  exact ⟨rfl, m, rfl⟩


theorem takeStr_nil (q : Addr) (w : World) :
    Calls Try.prog 98 #[.pointer none, .func (.func 99) #[] #[.pointer (some q)]] w (fun e w' => e = .returned (.string ByteArray.empty) ∧ w = w') := by
  go_enter Try.func98, Try.ntmps98
  go_wp2_with fail
  go_ret
  exact ⟨rfl, rfl⟩


set_option maxHeartbeats 1000000 in
theorem takeStr_err (b : Nat) (q : Addr) (A : Option Addr) (n c e0 : Nat) (w : World) (h : Bk w b 93 #[.slice A n c, .int .i64 e0]) (he : e0 ≠ 0) :
    Calls Try.prog 98 #[.pointer (some ⟨b, 0, none⟩), .func (.func 99) #[] #[.pointer (some q)]] w (fun e w' => e = .returned (.string ByteArray.empty) ∧ w = w') := by
  have h1 : w.cell? ⟨b, 1, none⟩ = some (.int .i64 e0) := h.cell 1
  have hne : ((e0 : Int) != 0) = true := by simp; omega
  clear h he
  go_enter Try.func98, Try.ntmps98
  go_wp2_with fail
  go_ret
  exact ⟨rfl, rfl⟩


set_option maxHeartbeats 1000000 in
theorem takeStr_fail (b : Nat) (q : Addr) (A : Option Addr) (n c : Nat) (v : Value) (used er : Nat) (w : World) (h : Bk w b 93 #[.slice A n c, .int .i64 0]) (he : er ≠ 0)
    (hd : Calls Try.prog 99 #[.slice A n c, .pointer (some q)] w (Dec v used er w)) :
    Calls Try.prog 98 #[.pointer (some ⟨b, 0, none⟩), .func (.func 99) #[] #[.pointer (some q)]] w (fun e w' => e = .returned (.string ByteArray.empty) ∧ ∃ m, w' = (w.drewN m).setCell ⟨b, 1, none⟩ (.int .i64 er)) := by
  have h0 : w.cell? ⟨b, 0, none⟩ = some (.slice A n c) := h.cell 0
  have h1 : w.cell? ⟨b, 1, none⟩ = some (.int .i64 0) := h.cell 1
  have hf := h.frz 1
  have hne : ((er : Int) != 0) = true := by simp; omega
  have HD := Lib.hid hd
  clear h he hd
  go_enter Try.func98, Try.ntmps98
  go_wp2_with fail
  refine HD.out.mono ?_
  rintro e w1 ⟨rfl, m, rfl⟩
  go_wp2_with fail
  go_ret
  exact ⟨rfl, m, rfl⟩


set_option maxHeartbeats 1000000 in
theorem takeStr_ok (b : Nat) (q : Addr) (A : Option Addr) (n c : Nat) (v : Value) (used : Nat) (w : World) (h : Bk w b 93 #[.slice A n c, .int .i64 0]) (B : Option Addr) (k d : Nat)
    (hs : ∀ u, (Instr.slice 33 (.slice A n c) (some (.int .i64 used)) none none).run Try.prog u = .ok (.slice B k d) u)
    (hd : Calls Try.prog 99 #[.slice A n c, .pointer (some q)] w (Dec v used 0 w)) :
    Calls Try.prog 98 #[.pointer (some ⟨b, 0, none⟩), .func (.func 99) #[] #[.pointer (some q)]] w (fun e w' => e = .returned v ∧ ∃ m, w' = (w.drewN m).setCell ⟨b, 0, none⟩ (.slice B k d)) := by
  have h0 : w.cell? ⟨b, 0, none⟩ = some (.slice A n c) := h.cell 0
  have h1 : w.cell? ⟨b, 1, none⟩ = some (.int .i64 0) := h.cell 1
  have hf := h.frz 0
  have HD := Lib.hid hd
  clear h hd
  go_enter Try.func98, Try.ntmps98
  go_wp2_with fail
  refine HD.out.mono ?_
  rintro e w1 ⟨rfl, m, rfl⟩
  go_wp2_with fail
  go_ret
  exact ⟨rfl, m, rfl⟩

end Go.Proofs.Ytfldcddbmikfiaa

/- a reader behind a pointer; seal.take at its four types as one step of it: the value, the rest, the error. -/
namespace Go.Proofs.Ytfldcddbmikfiaa
open Go.RowKit

/-- The reader at block b: what is left (in block g), and the error. -/
structure Rd (w : World) (t : TypeId) (b g : Nat) (l : List Int) (e : Nat) : Prop where
  ne : g ≠ b
  ex : ∃ A n c, Bk w b t #[.slice A n c, .int .i64 e] ∧ Byt w A n c l ∧ (0 < n → ∀ a, A = some a → a.block = g)

theorem Rd.lt {w : World} {t : TypeId} {b g : Nat} {l : List Int} {e : Nat} (h : Rd w t b g l e) : b < w.heap.size := by
  obtain ⟨A, n, c, hb, _⟩ := h.ex
  exact hb.lt

/-- A slice whose block is not written. -/
theorem Byt.grown {w w' : World} {A : Option Addr} {n c : Nat} {l : List Int} {row : Option Nat} (h : Byt w A n c l) (hg : w.grownBy w' row) (hne : 0 < n → ∀ a, A = some a → some a.block ≠ row) : Byt w' A n c l :=
  ⟨h.len, h.cap, h.max, h.rng, h.nil_, fun hn => by
    obtain ⟨g, off, e, hc⟩ := h.at_ hn
    exact ⟨g, off, e, fun i hi => hg.cell (hc i hi) (show some g ≠ row from hne hn ⟨g, off, none⟩ e)⟩⟩

theorem Rd.grown {w w' : World} {t : TypeId} {b g : Nat} {l : List Int} {e : Nat} {row : Option Nat} (h : Rd w t b g l e) (hg : w.grownBy w' row) (hb : some b ≠ row) (hgr : some g ≠ row) : Rd w' t b g l e := by
  obtain ⟨A, n, c, h1, h2, h3⟩ := h.ex
  exact ⟨h.ne, A, n, c, (hg.block b h1.lt hb).trans h1, h2.grown hg (fun hn a ha => by rw [h3 hn a ha]; exact hgr), h3⟩

theorem grown_drewN (w : World) (m : Nat) (row : Option Nat) : w.grownBy (w.drewN m) row := ⟨rfl, rfl, rfl, Nat.le_refl _, fun _ _ _ => rfl⟩
theorem grown_set (w : World) (b k : Nat) (v : Value) : w.grownBy (w.setCell ⟨b, k, none⟩ v) (some b) :=
  ⟨rfl, rfl, rfl, by simp [World.setCell], fun i _ hi => Below.heap_setCell w _ _ i (fun e => hi (by simp [e]))⟩
theorem grown_trans {a b c : World} {row : Option Nat} (h : a.grownBy b row) (k : b.grownBy c row) : a.grownBy c row :=
  ⟨k.os.trans h.os, k.tape.trans h.tape, k.output.trans h.output, Nat.le_trans h.size k.size, fun i hi hr => (k.block i (Nat.lt_of_lt_of_le hi h.size) hr).trans (h.block i hi hr)⟩
theorem grown_below {w w' : World} {row : Option Nat} (h : Below w.heap.size w w') : w.grownBy w' row := ⟨h.os, h.tape, h.output, h.size, fun k hk _ => h.block k hk⟩

/-- What a reader's method leaves. -/
def RdPost (t : TypeId) (b g : Nat) (l : List Int) (e0 : Nat) (v : Value) (w : World) (e : Ending) (w' : World) : Prop := e = .returned v ∧ Rd w' t b g l e0 ∧ w.grownBy w' (some b)

theorem Rd.fail {w : World} {t : TypeId} {b g : Nat} {l : List Int} {e : Nat} (h : Rd w t b g l e) (m er : Nat) : Rd ((w.drewN m).setCell ⟨b, 1, none⟩ (.int .i64 er)) t b g l er ∧ w.grownBy ((w.drewN m).setCell ⟨b, 1, none⟩ (.int .i64 er)) (some b) := by
  have hg := grown_trans (grown_drewN w m (some b)) (grown_set (w.drewN m) b 1 (.int .i64 er))
  obtain ⟨A, n, c, h1, h2, h3⟩ := h.ex
  refine ⟨⟨h.ne, A, n, c, ?_, h2.grown hg (fun hn a ha => by rw [h3 hn a ha]; simpa using h.ne), h3⟩, hg⟩
  have := (h1.drewN m).setc 1 (.int .i64 er)
  simpa using this

theorem Rd.next {w : World} {t : TypeId} {b g : Nat} {l l' : List Int} {e : Nat} (h : Rd w t b g l e) (m : Nat) {B : Option Addr} {k d : Nat} (hb : Byt w B k d l') (hB : 0 < k → ∀ a, B = some a → a.block = g) :
    Rd ((w.drewN m).setCell ⟨b, 0, none⟩ (.slice B k d)) t b g l' e ∧ w.grownBy ((w.drewN m).setCell ⟨b, 0, none⟩ (.slice B k d)) (some b) := by
  have hg := grown_trans (grown_drewN w m (some b)) (grown_set (w.drewN m) b 0 (.slice B k d))
  obtain ⟨A, n, c, h1, h2, h3⟩ := h.ex
  refine ⟨⟨h.ne, B, k, d, ?_, hb.grown hg (fun hk a ha => by rw [hB hk a ha]; simpa using h.ne), hB⟩, hg⟩
  have := (h1.drewN m).setc 0 (.slice B k d)
  simpa using this

/-- Which of both: a reader's value, its rest, its error. -/
def stepV (z v : Value) (e er : Nat) : Value := if e ≠ 0 then z else if er ≠ 0 then z else v
def stepL (l : List Int) (used e er : Nat) : List Int := if e ≠ 0 then l else if er ≠ 0 then l else l.drop used
def stepE (e er : Nat) : Nat := if e ≠ 0 then e else er


theorem takeInt_step (b g : Nat) (q : Addr) (l : List Int) (e0 : Nat) (v : Value) (used er : Nat) (w : World) (h : Rd w 93 b g l e0) (hu : er = 0 → used ≤ l.length)
    (hd : e0 = 0 → ∀ A n c, Byt w A n c l → Calls Try.prog 88 #[.slice A n c, .pointer (some q)] w (Dec v used er w)) :
    Calls Try.prog 87 #[.pointer (some ⟨b, 0, none⟩), .func (.func 88) #[] #[.pointer (some q)]] w (RdPost 93 b g (stepL l used e0 er) (stepE e0 er) (stepV (.int .i64 0) v e0 er) w) := by
  obtain ⟨A, n, c, h1, h2, h3⟩ := h.ex
  by_cases he : e0 = 0
  · subst he
    have hd := hd rfl A n c h2
    by_cases hr : er = 0
    · subst hr
      obtain ⟨B, k, d, hs, hkn, hb, hB⟩ := cut_lb h2 used (by rw [← h2.len]; exact hu rfl) (used : Int) rfl
      refine (takeInt_ok b q A n c v used w h1 B k d hs hd).mono ?_
      rintro e w' ⟨rfl, m, rfl⟩
      have := h.next m hb (fun hk a ha => by obtain ⟨a', e1, e2⟩ := hB a ha; rw [e2]; exact h3 (by omega) a' e1)
      simp only [stepL, stepE, stepV]
      exact ⟨rfl, this⟩
    · refine (takeInt_fail b q A n c v used er w h1 hr hd).mono ?_
      rintro e w' ⟨rfl, m, rfl⟩
      simp only [stepL, stepE, stepV, if_pos hr, if_neg (show ¬ (0 : Nat) ≠ 0 by simp)]
      exact ⟨rfl, h.fail m er⟩
  · refine (takeInt_err b q A n c e0 w h1 he).mono ?_
    rintro e w' ⟨rfl, rfl⟩
    simp only [stepL, stepE, stepV, if_pos he]
    exact ⟨rfl, h, grown_drewN w 0 _⟩


theorem takeBool_step (b g : Nat) (l : List Int) (e0 : Nat) (v : Value) (used er : Nat) (w : World) (h : Rd w 93 b g l e0) (hu : er = 0 → used ≤ l.length)
    (hd : e0 = 0 → ∀ A n c, Byt w A n c l → Calls Try.prog 102 #[.slice A n c] w (Dec v used er w)) :
    Calls Try.prog 101 #[.pointer (some ⟨b, 0, none⟩), .func (.func 102) #[] #[]] w (RdPost 93 b g (stepL l used e0 er) (stepE e0 er) (stepV (.bool false) v e0 er) w) := by
  obtain ⟨A, n, c, h1, h2, h3⟩ := h.ex
  by_cases he : e0 = 0
  · subst he
    have hd := hd rfl A n c h2
    by_cases hr : er = 0
    · subst hr
      obtain ⟨B, k, d, hs, hkn, hb, hB⟩ := cut_lb h2 used (by rw [← h2.len]; exact hu rfl) (used : Int) rfl
      refine (takeBool_ok b A n c v used w h1 B k d hs hd).mono ?_
      rintro e w' ⟨rfl, m, rfl⟩
      have := h.next m hb (fun hk a ha => by obtain ⟨a', e1, e2⟩ := hB a ha; rw [e2]; exact h3 (by omega) a' e1)
      simp only [stepL, stepE, stepV]
      exact ⟨rfl, this⟩
    · refine (takeBool_fail b A n c v used er w h1 hr hd).mono ?_
      rintro e w' ⟨rfl, m, rfl⟩
      simp only [stepL, stepE, stepV, if_pos hr, if_neg (show ¬ (0 : Nat) ≠ 0 by simp)]
      exact ⟨rfl, h.fail m er⟩
  · refine (takeBool_err b A n c e0 w h1 he).mono ?_
    rintro e w' ⟨rfl, rfl⟩
    simp only [stepL, stepE, stepV, if_pos he]
    exact ⟨rfl, h, grown_drewN w 0 _⟩


theorem takeStr_step (b g : Nat) (q : Addr) (l : List Int) (e0 : Nat) (v : Value) (used er : Nat) (w : World) (h : Rd w 93 b g l e0) (hu : er = 0 → used ≤ l.length)
    (hd : e0 = 0 → ∀ A n c, Byt w A n c l → Calls Try.prog 99 #[.slice A n c, .pointer (some q)] w (Dec v used er w)) :
    Calls Try.prog 98 #[.pointer (some ⟨b, 0, none⟩), .func (.func 99) #[] #[.pointer (some q)]] w (RdPost 93 b g (stepL l used e0 er) (stepE e0 er) (stepV (.string ByteArray.empty) v e0 er) w) := by
  obtain ⟨A, n, c, h1, h2, h3⟩ := h.ex
  by_cases he : e0 = 0
  · subst he
    have hd := hd rfl A n c h2
    by_cases hr : er = 0
    · subst hr
      obtain ⟨B, k, d, hs, hkn, hb, hB⟩ := cut_lb h2 used (by rw [← h2.len]; exact hu rfl) (used : Int) rfl
      refine (takeStr_ok b q A n c v used w h1 B k d hs hd).mono ?_
      rintro e w' ⟨rfl, m, rfl⟩
      have := h.next m hb (fun hk a ha => by obtain ⟨a', e1, e2⟩ := hB a ha; rw [e2]; exact h3 (by omega) a' e1)
      simp only [stepL, stepE, stepV]
      exact ⟨rfl, this⟩
    · refine (takeStr_fail b q A n c v used er w h1 hr hd).mono ?_
      rintro e w' ⟨rfl, m, rfl⟩
      simp only [stepL, stepE, stepV, if_pos hr, if_neg (show ¬ (0 : Nat) ≠ 0 by simp)]
      exact ⟨rfl, h.fail m er⟩
  · refine (takeStr_err b q A n c e0 w h1 he).mono ?_
    rintro e w' ⟨rfl, rfl⟩
    simp only [stepL, stepE, stepV, if_pos he]
    exact ⟨rfl, h, grown_drewN w 0 _⟩

end Go.Proofs.Ytfldcddbmikfiaa

/- bytes.Clone hands back the same bytes in new memory. -/
namespace Go.Proofs.Ytfldcddbmikfiaa
open Go.RowKit

/-- The same, of bytes.Clone, the slice not nil. -/
theorem clone_own (ad : Addr) (n c : Nat) (l : List Int) (w : World) (h : Byt w (some ad) n c l) (hn : n ≤ 140737488355328) :
    Calls Try.prog 50 #[.slice (some ad) n c] w (RetOwn l w) := by
  obtain ⟨i0, hi, hz0, hz1, hz2⟩ := info_parts info_u8
  have hown0 := World.ownsRow_made (base := w.heap.size) (e := 5) (size := 1) w #[] 0 (Nat.le_refl _) (Nat.zero_le _) rfl
  have q := fun w : World => Lib.run_eql_slice_nil (P := Try.prog) w 33 5 (some ad) n c 0 0 Try.underlying33
  go_enter Try.func50, Try.ntmps50
  go_wp2_with (at_builtin; refine wpList_append_byt rfl _ _ 33 rfl w.heap.size 5 i0 Try.underlying33 hi hz0 hz1 hz2 _ 0 [] rfl (by exact hown0) (some ad) n c l rfl (h.alloc _) (by omega) (by simp) ?_)
  intro A' c' w' h1 h2
  have R := Lib.hid (own_end h.rng h1 h2)
  clear h1 h2 h hown0 q
  go_wp2
  go_ret
  exact R.out

/-- The same, told of the bytes alone. -/
theorem bclone_any (ad : Addr) (n c : Nat) (l : List Int) (w : World) (h : Byt w (some ad) n c l) (hn : n ≤ 140737488355328) :
    Calls Try.prog 50 #[.slice (some ad) n c] w (RetByt l w) := (clone_own ad n c l w h hn).mono fun _ _ h => h.byt
end Go.Proofs.Ytfldcddbmikfiaa

/- num.Short hands back a number's digits to the base 128, in new memory. -/
namespace Go.Proofs.Ytfldcddbmikfiaa
open Go.RowKit

/-- What is gathered so far, in the last cells of the array. -/
structure ArrRel (n : Nat) (w : World) (m at_ : Nat) (acc : List Int) (cs : Array Value) (wr : World) : Prop where
  blk : Bk wr w.heap.size 135 cs
  size : cs.size = 10
  len : acc.length + at_ = 10
  pos : 0 < acc.length
  cells : ∀ i, i < acc.length → cs[at_ + i]? = some (.int .u8 (acc.getD i 0))
  all : hiD (m / 128) ++ acc = shortL n
  bel : Below w.heap.size w wr

theorem ArrRel.more {n : Nat} {w : World} {m at_ : Nat} {acc : List Int} {cs : Array Value} {wr : World} (h : ArrRel n w m at_ acc cs wr) (hn : n < 18446744073709551616) (hm : m / 128 ≠ 0) : ∃ j, at_ = j + 1 := by
  have h1 := shortL_len n hn
  rw [← h.all, hiD_pos hm] at h1
  simp at h1
  have := h.len
  exact ⟨at_ - 1, by omega⟩

theorem ArrRel.step {n : Nat} {w : World} {m j : Nat} {acc : List Int} {cs : Array Value} {wr : World} (h : ArrRel n w m (j + 1) acc cs wr) (hm : m / 128 ≠ 0) :
    ArrRel n w (m / 128) j ((((m / 128 : Nat) : Int) % 128 + 128) :: acc) (cs.setIfInBounds j (.int .u8 (((m / 128 : Nat) : Int) % 128 + 128))) (wr.setCell ⟨w.heap.size, j, none⟩ (.int .u8 (((m / 128 : Nat) : Int) % 128 + 128))) := by
  have hl := h.len
  refine ⟨h.blk.setc j _, by simp [h.size], by simp; omega, by simp, fun i hi => ?_, by rw [← h.all, hiD_pos hm]; simp, h.bel.setCell (Nat.le_refl _) _⟩
  have hs := h.size
  cases i with
  | zero => simp [Array.getElem?_setIfInBounds, hs]; omega
  | succ i =>
    have := h.cells i (by simpa using hi)
    rw [Array.getElem?_setIfInBounds, if_neg (by omega)]
    rw [show j + (i + 1) = j + 1 + i from by omega, this]
    simp

theorem ArrRel.byt {n : Nat} {w : World} {m at_ : Nat} {acc : List Int} {cs : Array Value} {wr : World} (h : ArrRel n w m at_ acc cs wr) (hm : m / 128 = 0) : Byt wr (some ⟨w.heap.size, at_, none⟩) (10 - at_) (10 - at_) (shortL n) := by
  have e := h.all
  rw [hm, hiD_zero, List.nil_append] at e
  have hl := h.len
  rw [← e]
  exact Byt.of_bk h.blk at_ _ _ acc (by omega) (Nat.le_refl _) (by unfold maxLen; omega) (by rw [e]; exact shortL_rng n) (fun i hi => h.cells i (by omega))

theorem ArrRel.start (n : Nat) (w : World) : ArrRel n w n 9 [(n : Int) % 128] #[.int .u8 0, .int .u8 0, .int .u8 0, .int .u8 0, .int .u8 0, .int .u8 0, .int .u8 0, .int .u8 0, .int .u8 0, .int .u8 ((n : Int) % 128)]
    (w.alloc (.cells #[.int .u8 0, .int .u8 0, .int .u8 0, .int .u8 0, .int .u8 0, .int .u8 0, .int .u8 0, .int .u8 0, .int .u8 0, .int .u8 ((n : Int) % 128)] 135)) :=
  ⟨Bk.new _ _ _, rfl, rfl, by simp, fun i hi => by
    have : i = 0 := by simpa using hi
    subst this; rfl, rfl, (Below.refl _ _).alloc (Nat.le_refl _) _⟩

theorem arrayLen10 : Try.prog.arrayLen 135 = 10 := by kernel_rfl
theorem elem10 : Try.prog.elem 135 = 5 := by kernel_rfl
theorem under10 : Try.prog.underlying 135 = some (.array (Try.prog.arrayLen 135) (Try.prog.elem 135)) := by kernel_rfl
theorem size_u8 (W : World) : (sizeOf 5).run Try.prog W = .ok 1 W := by
  obtain ⟨i0, hi, hz0, hz1, hz2⟩ := info_parts info_u8
  simp [sizeOf, typeInfo, hi, hz1]

theorem slice10 (B at_ : Nat) (h : at_ ≤ 9) (W : World) :
    (Instr.sliceAt 135 (.pointer (some ⟨B, 0, none⟩)) (some (.int .i64 (at_ : Int))) none none).run Try.prog W = .ok (.slice (some ⟨B, at_, none⟩) (10 - at_) (10 - at_)) W := by
  rw [run_sliceAt_array_l (P := Try.prog) W _ _ under10 .i64 (at_ : Int) (by omega) (by rw [arrayLen10]; omega), elem10, size_u8, arrayLen10]
  simp [slicedAt, Result.andThen]
  rw [if_neg (by omega)]
  by_cases h0 : at_ = 0 <;> simp [Addr.add, h0]

set_option maxHeartbeats 1000000 in
theorem numShort_any (n : Nat) (hn : n < 18446744073709551616) (w : World) :
    Calls Try.prog 91 #[.int .u64 n] w (RetByt (shortL n) w) := by
  have R0 := Lib.hid (ArrRel.start n w)
  go_enter Try.func91, Try.ntmps91
  go_wp2_with fail
  go_step3
  go_wp2_with fail
  go_step3
  go_wp2_with fail
  go_loopw [0, 4] (fun s v wr => ∃ (m at_ : Nat) (acc : List Int) (cs : Array Value), m < 18446744073709551616 ∧ s = .int .u64 m ∧ v = .int .i64 at_ ∧ ArrRel n w m at_ acc cs wr) (fun s _ _ => (intOf s).toNat)
  case atStart => exact ⟨n, 9, _, _, hn, rfl, rfl, R0.out⟩
  case round =>
    obtain ⟨m, at_, acc, cs, hm, rfl, rfl, R⟩ := hrel
    have HR := Lib.hid R
    clear R
    by_cases h0 : m / 128 = 0
    · have hat : at_ ≤ 9 := by have := HR.out.len; have := HR.out.pos; omega
      have H0 := Lib.hid h0
      have hz : ((m : Int) / 128 == 0) = true := by simp; omega
      have hs := slice10 w.heap.size at_ hat
      have HB := Lib.hid (HR.out.byt h0)
      clear h0
      go_wp2_with (go_at_call 50; refine (bclone_any _ _ _ _ _ HB.out (by omega)).mono ?_; rintro e w1 ⟨A, k, c, rfl, hb, hbel⟩)
      rw [Exit.noGoto_ret]
      go_ret
      exact ⟨A, k, c, rfl, hb, Below.then HR.out.bel hbel⟩
    · obtain ⟨j, rfl⟩ := HR.out.more hn h0
      have hj : j ≤ 9 := by have := HR.out.len; omega
      have hge : (128 : Int) ≤ (m : Int) := by omega
      obtain ⟨u, hc⟩ : ∃ u, wr.cell? ⟨w.heap.size, j, none⟩ = some u := by
        rw [HR.out.blk.cell]; exact ⟨_, Array.getElem?_eq_getElem (by rw [HR.out.size]; omega)⟩
      have hf := HR.out.blk.frz j
      have R1 := Lib.hid (HR.out.step h0)
      go_wp2_with fail
      go_roundw
      case rel => exact ⟨m / 128, j, _, _, by omega, by go_num, rfl, R1.out⟩
      case measure => simp [intOf]; omega
end Go.Proofs.Ytfldcddbmikfiaa

/- a writer behind a pointer, and what its methods gather; nothing else that was there is turned. -/
namespace Go.Proofs.Ytfldcddbmikfiaa
open Go.RowKit

/-- A block of another type than bytes is no row of bytes. -/
theorem apart_row {w : World} {b base n : Nat} {t : TypeId} {cs : Array Value} {v : Value} {xs : List Value} (ht : t ≠ 5) (h : Bk w b t cs) (ho : w.ownsRow base 5 1 v n xs) : v.ownBlock ≠ some b := by
  rcases ho.2 with ⟨rfl, _⟩ | ⟨g, cap, cur, rfl, _, hg, _⟩
  · simp [Value.ownBlock]
  · intro e
    simp [Value.ownBlock] at e
    subst e
    unfold Bk at h
    rw [h] at hg
    simp at hg
    exact ht hg.2

/-- The writer at block b, and what it has gathered: memory of the call's own, from block number base on. -/
structure Wrt (w : World) (base b : Nat) (l : List Int) : Prop where
  low : base ≤ b
  rng : ∀ x ∈ l, 0 ≤ x ∧ x < 256
  ex : ∃ A n c, Bk w b 86 #[.slice A n c] ∧ w.ownsRow base 5 1 (.slice A n c) n (l.map (Value.int .u8))

theorem Wrt.lt {w : World} {base b : Nat} {l : List Int} (h : Wrt w base b l) : b < w.heap.size := by
  obtain ⟨A, n, c, hb, _⟩ := h.ex
  exact hb.lt

theorem Wrt.ret {w w' : World} {base b : Nat} {l : List Int} (h : Wrt w base b l) (hb : Below w.heap.size w w') : Wrt w' base b l := by
  obtain ⟨A, n, c, h1, h2⟩ := h.ex
  refine ⟨h.low, h.rng, A, n, c, h1.bel hb h1.lt, ?_⟩
  exact h2.kept (row := none) ⟨hb.os, hb.tape, hb.output, hb.size, fun k hk _ => hb.block k hk⟩ (by
    cases A with
    | none => exact .inl rfl
    | some a => exact .inr (by simp [Value.ownBlock]))

/-- What a writer's method leaves. -/
def RetW (base b : Nat) (l : List Int) (w : World) (e : Ending) (w' : World) : Prop := e = .returned (.tuple #[]) ∧ Wrt w' base b l ∧ Below base w w'

theorem put_end {base b : Nat} {l m : List Int} {w w1 : World} {A A' : Option Addr} {n c n' c' : Nat} (hlow : base ≤ b) (hb : Bk w b 86 #[.slice A n c]) (hbz : base ≤ w.heap.size)
    (ho : w.ownsRow base 5 1 (.slice A n c) n (l.map (Value.int .u8))) (hl : ∀ x ∈ l, 0 ≤ x ∧ x < 256) (hm : ∀ x ∈ m, 0 ≤ x ∧ x < 256)
    (h1 : w1.ownsRow base 5 1 (.slice A' n' c') n' (l.map (Value.int .u8) ++ m.map (Value.int .u8))) (h2 : w.grownBy w1 (Value.ownBlock (.slice A n c))) :
    RetW base b (l ++ m) w (.returned (.tuple #[])) (w1.setCell ⟨b, 0, none⟩ (.slice A' n' c')) := by
  rw [← List.map_append] at h1
  have hb1 : Bk w1 b 86 #[.slice A n c] := (h2.block b hb.lt (fun e => apart_row (by decide) hb ho e.symm)).trans hb
  refine ⟨rfl, ⟨hlow, fun x hx => ?_, A', n', c', ?_, ?_⟩, ?_⟩
  · rcases List.mem_append.1 hx with h | h
    · exact hl x h
    · exact hm x h
  · have := hb1.setc 0 (.slice A' n' c')
    simpa using this
  · refine h1.kept (row := some b) ⟨rfl, rfl, rfl, by simp [World.setCell], fun k hk hk' => ?_⟩ (.inr (apart_row (by decide) hb1 h1))
    exact Below.heap_setCell w1 _ _ k (fun e => hk' (by simp [e]))
  · exact (((Below.refl base w).grown h2 hbz (fun k hk => (ho.lt k hk).1)).setCell hlow _)

/-- Behind 'append': the writer's cell is there still. -/
theorem put_cell {base b : Nat} {l : List Int} {w w1 : World} {A : Option Addr} {n c : Nat} (hb : Bk w b 86 #[.slice A n c])
    (ho : w.ownsRow base 5 1 (.slice A n c) n (l.map (Value.int .u8))) (h2 : w.grownBy w1 (Value.ownBlock (.slice A n c))) :
    w1.cell? ⟨b, 0, none⟩ = some (.slice A n c) ∧ w1.frozen? ⟨b, 0, none⟩ = false := by
  have hb1 : Bk w1 b 86 #[.slice A n c] := (h2.block b hb.lt (fun e => apart_row (by decide) hb ho e.symm)).trans hb
  exact ⟨hb1.cell 0, hb1.frz 0⟩

set_option maxHeartbeats 1000000 in
theorem put_any (base b : Nat) (l m : List Int) (A : Option Addr) (n c : Nat) (w : World) (h : Wrt w base b l) (hm : Byt w A n c m) (hn : l.length + n ≤ 140737488355328) :
    Calls Try.prog 90 #[.pointer (some ⟨b, 0, none⟩), .slice A n c] w (RetW base b (l ++ m) w) := by
  obtain ⟨i0, hi, hz0, hz1, hz2⟩ := info_parts info_u8
  obtain ⟨A0, n0, c0, hb, ho⟩ := h.ex
  have hl0 : l.length = n0 := by simpa using ho.1
  have hcell : w.cell? ⟨b, 0, none⟩ = some (.slice A0 n0 c0) := hb.cell 0
  have hbz : base ≤ w.heap.size := by have := hb.lt; have := h.low; omega
  have HE := fun A' n' c' w1 h1 h2 => @put_end base b l m w w1 A0 A' n0 c0 n' c' h.low hb hbz ho h.rng hm.rng h1 h2
  have HC := fun w1 h2 => @put_cell base b l w w1 A0 n0 c0 hb ho h2
  have HE := Lib.hid HE
  have HC := Lib.hid HC
  have HO := Lib.hid ho
  clear h hb ho
  go_enter Try.func90, Try.ntmps90
  go_wp2_with (at_builtin; refine wpList_append_byt rfl _ _ 33 rfl base 5 i0 Try.underlying33 hi hz0 hz1 hz2 _ n0 l rfl (by exact HO.out) A n c m rfl hm (by omega) hbz ?_)
  intro A' c' w1 h1 h2
  obtain ⟨hc1, hf1⟩ := HC.out w1 h2
  have R := Lib.hid (HE.out _ _ _ w1 h1 h2)
  clear h1 h2 hcell hm HC HE
  go_wp2
  go_end0
  exact R.out

/-- A nil writer gathers nothing. -/
theorem put_nil (A : Option Addr) (n c : Nat) (w : World) :
    Calls Try.prog 90 #[.pointer none, .slice A n c] w (Ret (.tuple #[]) w) := by
  go_enter Try.func90, Try.ntmps90
  go_wp2
  go_end0
  exact ⟨rfl, Below.refl _ _⟩
end Go.Proofs.Ytfldcddbmikfiaa

/- what a writer's methods gather: a number, a byte, a flag, a text; a nil one gathers nothing; Bytes hands it back in new memory. -/
namespace Go.Proofs.Ytfldcddbmikfiaa
open Go.RowKit

theorem RetW.snd {base b : Nat} {l : List Int} {w w1 : World} {e : Ending} {w2 : World} (h1 : Below base w w1) (h : RetW base b l w1 e w2) : RetW base b l w e w2 := ⟨h.1, h.2.1, h1.trans h.2.2⟩

/-- Below base, where all of the writer's memory lies. -/
theorem Wrt.base_le {w : World} {base b : Nat} {l : List Int} (h : Wrt w base b l) : base ≤ w.heap.size := by have := h.lt; have := h.low; omega

/-- What Num writes. -/
def numL (n : Int) : List Int := shortL (max n 0).toNat
theorem numL_rng (n : Int) : ∀ x ∈ numL n, 0 ≤ x ∧ x < 256 := shortL_rng _
theorem numL_len (n : Int) (hn : n ≤ 9223372036854775807) : (numL n).length ≤ 10 := shortL_len _ (by omega)

theorem numL_nat (z : Nat) : numL (z : Int) = shortL z := by unfold numL; congr 1; omega
theorem numL_neg {n : Int} (h : n < 0) : numL n = shortL 0 := by unfold numL; congr 1; omega

set_option maxHeartbeats 1000000 in
theorem wNum_any (base b : Nat) (l : List Int) (n : Int) (w : World) (h : Wrt w base b l) (hn : -9223372036854775808 ≤ n ∧ n ≤ 9223372036854775807) (hl : l.length ≤ 140737488350000) :
    Calls Try.prog 69 #[.pointer (some ⟨b, 0, none⟩), .int .i64 n] w (RetW base b (l ++ numL n) w) := by
  have go : ∀ z : Nat, z ≤ 9223372036854775807 → ∀ (A : Option Addr) (k c : Nat) (w1 : World), Byt w1 A k c (shortL z) → Below w.heap.size w w1 → Calls Try.prog 90 #[.pointer (some ⟨b, 0, none⟩), .slice A k c] w1 (RetW base b (l ++ shortL z) w) := by
    intro z hz A k c w1 hb hbel
    have hk : k ≤ 10 := by rw [← hb.len]; exact shortL_len z (by omega)
    exact (put_any base b l (shortL z) A k c w1 (h.ret hbel) hb (by omega)).mono fun e w2 hr => hr.snd (hbel.mono h.base_le)
  have GO := Lib.hid go
  clear go h
  by_cases h0 : n < 0
  · rw [numL_neg h0]
    go_enter Try.func69, Try.ntmps69
    go_wp2_with fail
    refine (numShort_any 0 (by omega) w).mono ?_
    rintro e w1 ⟨A, k, c, rfl, hb, hbel⟩
    have C := Lib.hid (GO.out 0 (by omega) A k c w1 hb hbel)
    clear hb hbel
    go_wp2_with fail
    refine C.out.mono ?_
    rintro e w2 ⟨rfl, R⟩
    have R := Lib.hid R
    go_wp2_with fail
    go_end0
    exact ⟨rfl, R.out⟩
  · obtain ⟨z, rfl⟩ := Int.eq_ofNat_of_zero_le (Int.not_lt.1 h0)
    rw [numL_nat]
    obtain ⟨_, hz⟩ := hn
    go_enter Try.func69, Try.ntmps69
    go_wp2_with fail
    refine (numShort_any z (by omega) w).mono ?_
    rintro e w1 ⟨A, k, c, rfl, hb, hbel⟩
    have C := Lib.hid (GO.out z (by omega) A k c w1 hb hbel)
    clear hb hbel
    go_wp2_with fail
    refine C.out.mono ?_
    rintro e w2 ⟨rfl, R⟩
    have R := Lib.hid R
    go_wp2_with fail
    go_end0
    exact ⟨rfl, R.out⟩

set_option maxHeartbeats 1000000 in
theorem wNum_nil (n : Int) (w : World) (hn : -9223372036854775808 ≤ n ∧ n ≤ 9223372036854775807) :
    Calls Try.prog 69 #[.pointer none, .int .i64 n] w (Ret (.tuple #[]) w) := by
  by_cases h0 : n < 0
  · go_enter Try.func69, Try.ntmps69
    go_wp2_with fail
    refine (numShort_any 0 (by omega) w).mono ?_
    rintro e w1 ⟨A, k, c, rfl, hb, hbel⟩
    have L := Lib.hid hbel
    clear hb hbel
    go_wp2_with fail
    refine (put_nil _ _ _ _).mono ?_
    rintro e w2 ⟨rfl, b2⟩
    have R := Lib.hid (Below.then L.out b2)
    clear b2
    go_wp2_with fail
    go_end0
    exact ⟨rfl, R.out⟩
  · obtain ⟨z, rfl⟩ := Int.eq_ofNat_of_zero_le (Int.not_lt.1 h0)
    obtain ⟨_, hz⟩ := hn
    go_enter Try.func69, Try.ntmps69
    go_wp2_with fail
    refine (numShort_any z (by omega) w).mono ?_
    rintro e w1 ⟨A, k, c, rfl, hb, hbel⟩
    have L := Lib.hid hbel
    clear hb hbel
    go_wp2_with fail
    refine (put_nil _ _ _ _).mono ?_
    rintro e w2 ⟨rfl, b2⟩
    have R := Lib.hid (Below.then L.out b2)
    clear b2
    go_wp2_with fail
    go_end0
    exact ⟨rfl, R.out⟩

/-- A new slice of one byte, as 'put(c)' lays it. -/
theorem one_byt (W : World) (x : Int) (hx : 0 ≤ x ∧ x < 256) : Byt (W.alloc (.cells #[.int .u8 x] 5)) (some ⟨W.heap.size, 0, none⟩) 1 1 [x] :=
  Byt.of_own (own_one W W.heap.size 5 x (Nat.le_refl _)) (by intro y hy; simp at hy; subst hy; exact hx)

theorem put_one {w : World} {base b : Nat} {l : List Int} (h : Wrt w base b l) (x : Int) (hx : 0 ≤ x ∧ x < 256) (hl : l.length ≤ 140737488350000) :
    Calls Try.prog 90 #[.pointer (some ⟨b, 0, none⟩), .slice (some ⟨w.heap.size, 0, none⟩) 1 1] (w.alloc (.cells #[.int .u8 x] 5)) (RetW base b (l ++ [x]) w) :=
  (put_any base b l [x] _ 1 1 _ (h.ret ((Below.refl _ _).alloc (Nat.le_refl _) _)) (one_byt w x hx) (by omega)).mono fun e w2 hr => hr.snd ((Below.refl _ _).alloc h.base_le _)

/-- What Flag writes. -/
def flagL (is : Bool) : List Int := [if is then 1 else 0]
theorem flagL_rng (is : Bool) : ∀ x ∈ flagL is, 0 ≤ x ∧ x < 256 := by cases is <;> simp [flagL]

set_option maxHeartbeats 1000000 in
theorem wFlag_any (base b : Nat) (l : List Int) (is : Bool) (w : World) (h : Wrt w base b l) (hl : l.length ≤ 140737488350000) :
    Calls Try.prog 95 #[.pointer (some ⟨b, 0, none⟩), .bool is] w (RetW base b (l ++ flagL is) w) := by
  cases is with
  | true =>
    have C : Hid _ := Lib.hid (put_one h 1 (by omega) hl)
    clear h
    go_enter Try.func95, Try.ntmps95
    go_wp2_with fail
    refine C.out.mono ?_
    rintro e w2 ⟨rfl, R⟩
    have R := Lib.hid R
    go_wp2_with fail
    go_end0
    exact ⟨rfl, R.out⟩
  | false =>
    have C : Hid _ := Lib.hid (put_one h 0 (by omega) hl)
    clear h
    go_enter Try.func95, Try.ntmps95
    go_wp2_with fail
    refine C.out.mono ?_
    rintro e w2 ⟨rfl, R⟩
    have R := Lib.hid R
    go_wp2_with fail
    go_end0
    exact ⟨rfl, R.out⟩

theorem one_nil (x : Int) (w : World) :
    Calls Try.prog 90 #[.pointer none, .slice (some ⟨w.heap.size, 0, none⟩) 1 1] (w.alloc (.cells #[.int .u8 x] 5)) (Ret (.tuple #[]) w) :=
  (put_nil _ _ _ _).mono fun _ _ ⟨he, hb⟩ => ⟨he, Below.then ((Below.refl _ _).alloc (Nat.le_refl _) _) hb⟩

set_option maxHeartbeats 1000000 in
theorem wFlag_nil (is : Bool) (w : World) :
    Calls Try.prog 95 #[.pointer none, .bool is] w (Ret (.tuple #[]) w) := by
  cases is <;>
  · go_enter Try.func95, Try.ntmps95
    go_wp2_with fail
    refine (one_nil _ _).mono ?_
    rintro e w2 ⟨rfl, R⟩
    have R := Lib.hid R
    go_wp2_with fail
    go_end0
    exact ⟨rfl, R.out⟩

/-- What Text writes. -/
def textL (m : List Int) : List Int := shortL m.length ++ m
theorem textL_rng {m : List Int} (h : ∀ x ∈ m, 0 ≤ x ∧ x < 256) : ∀ x ∈ textL m, 0 ≤ x ∧ x < 256 := fun x hx => by
  rcases List.mem_append.1 hx with h1 | h1
  · exact shortL_rng _ x h1
  · exact h x h1
theorem textL_len (m : List Int) (h : m.length ≤ 9223372036854775807) : (textL m).length ≤ m.length + 10 := by
  have := shortL_len m.length (by omega)
  simp [textL]; omega

set_option maxHeartbeats 1000000 in
theorem wText_any (base b : Nat) (l : List Int) (s : ByteArray) (w : World) (h : Wrt w base b l) (hs : l.length + s.size ≤ 140737488350000) :
    Calls Try.prog 93 #[.pointer (some ⟨b, 0, none⟩), .string s] w (RetW base b (l ++ textL (nums s)) w) := by
  have go : ∀ w1, RetW base b (l ++ numL (s.size : Int)) w (.returned (.tuple #[])) w1 → Calls Try.prog 90 #[.pointer (some ⟨b, 0, none⟩), .slice (some ⟨w1.heap.size, 0, none⟩) s.size (grownCap w1 s.size 0 5)] (Lib.bytesWorld w1 5 s) (RetW base b (l ++ textL (nums s)) w) := by
    intro w1 hr
    have hlen : (numL (s.size : Int)).length ≤ 10 := numL_len _ (by omega)
    have hb := bytesWorld_below w1 5 s
    have := put_any base b (l ++ numL (s.size : Int)) (nums s) _ _ _ _ (hr.2.1.ret hb) (Byt.ofString w1 5 s (by unfold maxLen; omega)) (by simp; omega)
    refine this.mono fun e w2 h2 => ?_
    have h3 := RetW.snd (hr.2.2.trans (hb.mono hr.2.1.base_le)) h2
    rw [List.append_assoc, numL_nat] at h3
    unfold textL
    rw [nums_len]
    exact h3
  have GO := Lib.hid go
  have CN := Lib.hid (wNum_any base b l (s.size : Int) w h (by omega) (by omega))
  have kc := conv_str
  clear go h
  go_enter Try.func93, Try.ntmps93
  go_wp2_with fail
  refine CN.out.mono ?_
  rintro e w1 ⟨rfl, R⟩
  have C := Lib.hid (GO.out w1 ⟨rfl, R⟩)
  clear R
  go_wp2_with fail
  refine C.out.mono ?_
  rintro e w2 ⟨rfl, R⟩
  have R := Lib.hid R
  go_wp2_with fail
  go_end0
  exact ⟨rfl, R.out⟩

set_option maxHeartbeats 1000000 in
theorem wText_nil (s : ByteArray) (w : World) (hs : s.size ≤ 140737488355328) :
    Calls Try.prog 93 #[.pointer none, .string s] w (Ret (.tuple #[]) w) := by
  have CN := Lib.hid (wNum_nil (s.size : Int) w (by omega))
  have kc := conv_str
  go_enter Try.func93, Try.ntmps93
  go_wp2_with fail
  refine CN.out.mono ?_
  rintro e w1 ⟨rfl, R⟩
  have R1 := Lib.hid R
  clear R
  go_wp2_with fail
  refine (put_nil _ _ _ _).mono ?_
  rintro e w2 ⟨rfl, R⟩
  have R := Lib.hid (Below.then (Below.then R1.out (bytesWorld_below _ _ _)) R)
  go_wp2_with fail
  go_end0
  exact ⟨rfl, R.out⟩

set_option maxHeartbeats 1000000 in
theorem wBytes_nil (w : World) :
    Calls Try.prog 47 #[.pointer none] w (RetByt [] w) := by
  go_enter Try.func47, Try.ntmps47
  go_wp2_with fail
  go_ret
  exact ⟨none, 0, 0, rfl, Byt.nil _, Below.refl _ _⟩
end Go.Proofs.Ytfldcddbmikfiaa
