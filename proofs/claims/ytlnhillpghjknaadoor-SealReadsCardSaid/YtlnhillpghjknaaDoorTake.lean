/- What it says: num.TakeShort and trothref01.TakeShort answer what 'takeF' reads of the bytes, and write nothing. -/
import Derived.Test.YtlnhillpghjknaaDoorRows
import Derived.Test.YtlnhillpghjknaaDoorKit
import Derived.Test.YtlnhillpghjknaaDoorNumMath
import Derived.Deep.QuietTactic
import Derived.BigQuiet
namespace Go.Proofs.YtlnhillpghjknaaDoor
open Go.RowKit

def Take3 (k : IntKind) (l : List Int) (w : World) (e : Ending) (w' : World) : Prop :=
  e = .returned (.tuple #[.int .u64 ((takeF l 0 0).1 : Int), .int .i64 ((takeF l 0 0).2.1 : Int), .int k ((takeF l 0 0).2.2 : Int)]) ∧ ∃ m, w' = w.drewN m

theorem take3_of {k : IntKind} {l : List Int} {w w' : World} {a b c : Nat} {x y z : Int} (h : takeF l 0 0 = (a, b, c)) (hx : x = a) (hy : y = b) (hz : z = c) (hw : ∃ m, w' = w.drewN m) :
    Take3 k l w (.returned (.tuple #[.int .u64 x, .int .i64 y, .int k z])) w' := by
  subst hx hy hz
  exact ⟨by rw [h], hw⟩

/-- One step: what is read from place k on. -/
theorem takeF_at {l : List Int} {k m : Nat} (h : k < l.length) (e : takeF l 0 0 = takeF (l.drop k) m k) : takeF l 0 0 = if k = 0 ∧ l.getD k 0 = 128 then (0, 0, 11) else if 144115188075855872 ≤ m then (0, 0, 12) else
      if l.getD k 0 < 128 then (m * 128 + (l.getD k 0 % 128).toNat, k + 1, 0) else takeF (l.drop (k + 1)) (m * 128 + (l.getD k 0 % 128).toNat) (k + 1) := by
  rw [e, List.drop_eq_getElem_cons h, takeF_cons]
  have : l.getD k 0 = l[k] := by simp [List.getD, List.getElem?_eq_getElem h]
  rw [this]

set_option maxHeartbeats 1000000 in
theorem numTake_rows (g off n c : Nat) (l : List Int) (w : World) (h : Byt w (some ⟨g, off, none⟩) n c l) (hn : 0 < n) :
    Calls Tryd.prog 58 #[.slice (some ⟨g, off, none⟩) n c] w (Take3 .i64 l w) := by
  have hc0 : ∀ i, i < n → w.cell? ⟨g, off + i, none⟩ = some (.int .u8 (l.getD i 0)) := by
    obtain ⟨g1, o1, e, hc⟩ := h.at_ hn
    injection e with e; injection e with e1 e2; subst e1; subst e2
    exact hc
  have hcap := h.cap
  have hmax := h.max
  unfold maxLen at hmax
  have HL := Lib.hid h.len
  have HR := Lib.hid h.lt_
  have HC := Lib.hid hc0
  clear hc0 h
  go_enter Tryd.func58, Tryd.ntmps58
  go_wp2_with fail
  go_loop [5, 10] (fun s i => ∃ k m : Nat, k ≤ n ∧ m < 18446744073709551616 ∧ s = .int .u64 m ∧ i = .int .i64 k ∧ takeF l 0 0 = takeF (l.drop k) m k) (fun _ i => n - (intOf i).toNat)
  case atStart => exact ⟨0, 0, Nat.zero_le _, by omega, rfl, rfl, rfl⟩
  case round =>
    obtain ⟨k, m, hk, hm, rfl, rfl, ht⟩ := hrel
    have HT := Lib.hid ht
    clear ht
    by_cases hlt : k < n
    · have hx := HC.out k hlt
      have hr := HR.out k hlt
      have T := Lib.hid (takeF_at (by rw [HL.out]; exact hlt) HT.out)
      obtain ⟨x, ex⟩ : ∃ x, x = l.getD k 0 := ⟨_, rfl⟩
      rw [← ex] at hx hr T
      clear ex
      obtain ⟨hr0, hr1⟩ := hr
      by_cases h1 : k = 0 ∧ x = 128
      · obtain ⟨rfl, rfl⟩ := h1
        have T1 := T.out
        rw [if_pos ⟨rfl, rfl⟩] at T1
        have T2 := Lib.hid T1
        clear T1
        have hx' : w.cell? ⟨g, off, none⟩ = some (.int .u8 128) := hx
        clear hx
        go_wp2_with fail
        refine bodyPost_ret (results_tmp3 rfl _ _ _) rfl ?_
        exact take3_of T2.out rfl rfl rfl ⟨0, rfl⟩
      · have T1 := T.out
        rw [if_neg h1] at T1
        have HK := Lib.hid hk
        clear hk
        have two : ∀ {p : Prop}, (k = 0 → (x == 128) = false → p) → (((k : Int) == 0) = false → p) → p := by
          intro p a b
          by_cases h : k = 0
          · exact a h (by simp; intro e; exact h1 ⟨h, e⟩)
          · exact b (by simp; omega)
        clear h1
        have HX := Lib.hid hx
        clear hx
        by_cases h2 : 144115188075855872 ≤ m
        · rw [if_pos h2] at T1
          have T2 := Lib.hid T1
          have e2 : ((m : Int) / 144115188075855872 != 0) = true := by simp; omega
          clear T1 T h2 HT
          refine two ?_ ?_
          · rintro rfl hx1
            have hx := HX.out
            rw [Nat.add_zero] at hx
            clear two
            go_wp2_with fail
            refine bodyPost_ret (results_tmp3 rfl _ _ _) rfl ?_
            exact take3_of T2.out rfl rfl rfl ⟨0, rfl⟩
          · intro hk0
            have hx := HX.out
            clear two
            go_wp2_with fail
            refine bodyPost_ret (results_tmp3 rfl _ _ _) rfl ?_
            exact take3_of T2.out rfl rfl rfl ⟨0, rfl⟩
        · rw [if_neg h2] at T1
          have hm2 : (m : Int) < 144115188075855872 := by omega
          have e2 : ((m : Int) / 144115188075855872 != 0) = false := by simp; omega
          clear T HT h2
          by_cases h3 : x < 128
          · rw [if_pos h3] at T1
            have T2 := Lib.hid T1
            clear T1
            refine two ?_ ?_
            · rintro rfl hx1
              have hx := HX.out
              rw [Nat.add_zero] at hx
              clear two
              go_wp2_with fail
              refine bodyPost_ret (results_tmp3 rfl _ _ _) rfl ?_
              exact take3_of T2.out (by omega) (by omega) rfl ⟨0, rfl⟩
            · intro hk0
              have hx := HX.out
              clear two
              go_wp2_with fail
              refine bodyPost_ret (results_tmp3 rfl _ _ _) rfl ?_
              exact take3_of T2.out (by omega) (by omega) rfl ⟨0, rfl⟩
          · rw [if_neg h3] at T1
            have T2 := Lib.hid T1
            clear T1
            refine two ?_ ?_
            · rintro rfl hx1
              have hx := HX.out
              rw [Nat.add_zero] at hx
              clear two
              go_wp2_with fail
              have hk := HK.out
              go_round
              case rel => exact ⟨0 + 1, m * 128 + (x % 128).toNat, by omega, by omega, by congr 1; omega, by go_num, T2.out⟩
              case measure => simp [intOf]; omega
            · intro hk0
              have hx := HX.out
              clear two
              go_wp2_with fail
              have hk := HK.out
              go_round
              case rel => exact ⟨k + 1, m * 128 + (x % 128).toNat, by omega, by omega, by congr 1; omega, by go_num, T2.out⟩
              case measure => simp [intOf]; omega
    · have hkn : k = n := by omega
      subst hkn
      have T1 := HT.out
      rw [List.drop_of_length_le (by rw [HL.out]; omega)] at T1
      have T2 : Hid (takeF l 0 0 = (0, 0, 10)) := T1
      clear T1
      go_wp2_with fail
      refine bodyPost_ret (results_tmp3 rfl _ _ _) rfl ?_
      exact take3_of T2.out rfl rfl rfl ⟨0, rfl⟩

theorem numTake_any (A : Option Addr) (n c : Nat) (l : List Int) (w : World) (h : Byt w A n c l) :
    Calls Tryd.prog 58 #[.slice A n c] w (Take3 .i64 l w) := by
  by_cases hn : 0 < n
  · obtain ⟨g, off, rfl, _⟩ := h.at_ hn
    exact numTake_rows g off n c l w h hn
  · have h0 : n = 0 := by omega
    subst h0
    have e : l = [] := List.eq_nil_of_length_eq_zero h.len
    subst e
    clear h hn
    go_enter Tryd.func58, Tryd.ntmps58
    go_wp2_with fail
    refine wp_loop_rounds 1 ?_
    rw [rounds_succ]
    go_wp2_with fail
    refine bodyPost_ret (results_tmp3 rfl _ _ _) rfl ?_
    exact take3_of (a := 0) (b := 0) (c := 10) rfl rfl rfl rfl ⟨0, rfl⟩

theorem q128 (x : Int) : (18446744073709551615 - x % 128) / 128 = 144115188075855871 := by omega
attribute [local go_sem] q128

set_option maxHeartbeats 1000000 in
theorem refTake_rows (g off n c : Nat) (l : List Int) (w : World) (h : Byt w (some ⟨g, off, none⟩) n c l) (hn : 0 < n) :
    Calls Tryd.prog 45 #[.slice (some ⟨g, off, none⟩) n c] w (Take3 .i64 l w) := by
  have hc0 : ∀ i, i < n → w.cell? ⟨g, off + i, none⟩ = some (.int .u8 (l.getD i 0)) := by
    obtain ⟨g1, o1, e, hc⟩ := h.at_ hn
    injection e with e; injection e with e1 e2; subst e1; subst e2
    exact hc
  have hcap := h.cap
  have hmax := h.max
  unfold maxLen at hmax
  have HL := Lib.hid h.len
  have HR := Lib.hid h.lt_
  have HC := Lib.hid hc0
  clear hc0 h
  go_enter Tryd.func45, Tryd.ntmps45
  go_wp2_with fail
  go_loop [5, 6] (fun s i => ∃ k m : Nat, k ≤ n ∧ m < 18446744073709551616 ∧ s = .int .u64 m ∧ i = .int .i64 k ∧ takeF l 0 0 = takeF (l.drop k) m k) (fun _ i => n - (intOf i).toNat)
  case atStart => exact ⟨0, 0, Nat.zero_le _, by omega, rfl, rfl, rfl⟩
  case round =>
    obtain ⟨k, m, hk, hm, rfl, rfl, ht⟩ := hrel
    have HT := Lib.hid ht
    clear ht
    by_cases hlt : k < n
    · have hx := HC.out k hlt
      have hr := HR.out k hlt
      have T := Lib.hid (takeF_at (by rw [HL.out]; exact hlt) HT.out)
      obtain ⟨x, ex⟩ : ∃ x, x = l.getD k 0 := ⟨_, rfl⟩
      rw [← ex] at hx hr T
      clear ex
      obtain ⟨hr0, hr1⟩ := hr
      by_cases h1 : k = 0 ∧ x = 128
      · obtain ⟨rfl, rfl⟩ := h1
        have T1 := T.out
        rw [if_pos ⟨rfl, rfl⟩] at T1
        have T2 := Lib.hid T1
        clear T1
        have hx' : w.cell? ⟨g, off, none⟩ = some (.int .u8 128) := hx
        clear hx
        go_wp2_with fail
        refine bodyPost_ret (results_tmp3 rfl _ _ _) rfl ?_
        exact take3_of T2.out rfl rfl rfl ⟨0, rfl⟩
      · have T1 := T.out
        rw [if_neg h1] at T1
        have HK := Lib.hid hk
        clear hk
        have two : ∀ {p : Prop}, (k = 0 → (x == 128) = false → p) → (((k : Int) == 0) = false → p) → p := by
          intro p a b
          by_cases h : k = 0
          · exact a h (by simp; intro e; exact h1 ⟨h, e⟩)
          · exact b (by simp; omega)
        clear h1
        have HX := Lib.hid hx
        clear hx
        by_cases h2 : 144115188075855872 ≤ m
        · rw [if_pos h2] at T1
          have T2 := Lib.hid T1
          have e2 : (144115188075855871 : Int) < (m : Int) := by omega
          clear T1 T h2 HT
          refine two ?_ ?_
          · rintro rfl hx1
            have hx := HX.out
            rw [Nat.add_zero] at hx
            clear two
            go_wp2_with fail
            refine bodyPost_ret (results_tmp3 rfl _ _ _) rfl ?_
            exact take3_of T2.out rfl rfl rfl ⟨0, rfl⟩
          · intro hk0
            have hx := HX.out
            clear two
            go_wp2_with fail
            refine bodyPost_ret (results_tmp3 rfl _ _ _) rfl ?_
            exact take3_of T2.out rfl rfl rfl ⟨0, rfl⟩
        · rw [if_neg h2] at T1
          have hm2 : (m : Int) < 144115188075855872 := by omega
          have e2 : ¬ (144115188075855871 : Int) < (m : Int) := by omega
          clear T HT h2
          by_cases h3 : x < 128
          · rw [if_pos h3] at T1
            have T2 := Lib.hid T1
            clear T1
            refine two ?_ ?_
            · rintro rfl hx1
              have hx := HX.out
              rw [Nat.add_zero] at hx
              clear two
              go_wp2_with fail
              refine bodyPost_ret (results_tmp3 rfl _ _ _) rfl ?_
              exact take3_of T2.out (by omega) (by omega) rfl ⟨0, rfl⟩
            · intro hk0
              have hx := HX.out
              clear two
              go_wp2_with fail
              refine bodyPost_ret (results_tmp3 rfl _ _ _) rfl ?_
              exact take3_of T2.out (by omega) (by omega) rfl ⟨0, rfl⟩
          · rw [if_neg h3] at T1
            have T2 := Lib.hid T1
            clear T1
            refine two ?_ ?_
            · rintro rfl hx1
              have hx := HX.out
              rw [Nat.add_zero] at hx
              clear two
              go_wp2_with fail
              have hk := HK.out
              go_round
              case rel => exact ⟨0 + 1, m * 128 + (x % 128).toNat, by omega, by omega, by congr 1; omega, by go_num, T2.out⟩
              case measure => simp [intOf]; omega
            · intro hk0
              have hx := HX.out
              clear two
              go_wp2_with fail
              have hk := HK.out
              go_round
              case rel => exact ⟨k + 1, m * 128 + (x % 128).toNat, by omega, by omega, by congr 1; omega, by go_num, T2.out⟩
              case measure => simp [intOf]; omega
    · have hkn : k = n := by omega
      subst hkn
      have T1 := HT.out
      rw [List.drop_of_length_le (by rw [HL.out]; omega)] at T1
      have T2 : Hid (takeF l 0 0 = (0, 0, 10)) := T1
      clear T1
      go_wp2_with fail
      refine bodyPost_ret (results_tmp3 rfl _ _ _) rfl ?_
      exact take3_of T2.out rfl rfl rfl ⟨0, rfl⟩

theorem refTake_any (A : Option Addr) (n c : Nat) (l : List Int) (w : World) (h : Byt w A n c l) :
    Calls Tryd.prog 45 #[.slice A n c] w (Take3 .i64 l w) := by
  by_cases hn : 0 < n
  · obtain ⟨g, off, rfl, _⟩ := h.at_ hn
    exact refTake_rows g off n c l w h hn
  · have h0 : n = 0 := by omega
    subst h0
    have e : l = [] := List.eq_nil_of_length_eq_zero h.len
    subst e
    clear h hn
    go_enter Tryd.func45, Tryd.ntmps45
    go_wp2_with fail
    refine wp_loop_rounds 1 ?_
    rw [rounds_succ]
    go_wp2_with fail
    refine bodyPost_ret (results_tmp3 rfl _ _ _) rfl ?_
    exact take3_of (a := 0) (b := 0) (c := 10) rfl rfl rfl rfl ⟨0, rfl⟩


/-- The same, what is read being known. -/
theorem numTake_is (A : Option Addr) (n c : Nat) (l : List Int) (x i e : Nat) (w : World) (h : Byt w A n c l) (ht : takeF l 0 0 = (x, i, e)) :
    Calls Tryd.prog 58 #[.slice A n c] w (Quiet (.tuple #[.int .u64 x, .int .i64 i, .int .i64 e]) w) := by
  refine (numTake_any A n c l w h).mono fun e' w' hq => ?_
  unfold Take3 at hq
  rw [ht] at hq
  exact hq

/-- The same, what is read being known. -/
theorem refTake_is (A : Option Addr) (n c : Nat) (l : List Int) (x i e : Nat) (w : World) (h : Byt w A n c l) (ht : takeF l 0 0 = (x, i, e)) :
    Calls Tryd.prog 45 #[.slice A n c] w (Quiet (.tuple #[.int .u64 x, .int .i64 i, .int .i64 e]) w) := by
  refine (refTake_any A n c l w h).mono fun e' w' hq => ?_
  unfold Take3 at hq
  rw [ht] at hq
  exact hq
end Go.Proofs.YtlnhillpghjknaaDoor
