/- What it says: num.TakeWide and trothref01.TakeWide answer the number of the first bytes, or the error, and write nothing. -/
import Derived.Test.YtmglnfgngnekeaaWide
import Derived.Deep.QuietTactic
import Derived.BigQuiet
namespace Go.Proofs.Ytmglnfgngnekeaa
open Go.RowKit

/-- A number and an error's number; at most a draw. -/
def Quiet2 (x y : Int) (w : World) (e : Ending) (w' : World) : Prop := e = .returned (.tuple #[.int .u64 x, .int .i64 y]) ∧ ∃ m, w' = w.drewN m

theorem ofWide_step (l : List Int) (hr : ∀ x ∈ l, 0 ≤ x ∧ x < 256) (i : Nat) (h : i < l.length) (h8 : i < 8) :
    ofWide (l.take i) < 72057594037927936 ∧ ofWide (l.take (i + 1)) = ofWide (l.take i) * 256 + (l.getD i 0).toNat := by
  constructor
  · have h1 := ofWide_lt (l.take i) (fun x hx => hr x (List.mem_of_mem_take hx))
    have h2 : (l.take i).length ≤ 7 := by simp; omega
    have h3 : 256 ^ (l.take i).length ≤ 256 ^ 7 := Nat.pow_le_pow_right (by decide) h2
    have h4 : (256 : Nat) ^ 7 = 72057594037927936 := rfl
    omega
  · rw [List.take_succ_eq_append_getElem h, ofWide_snoc]
    simp [List.getD, List.getElem?_eq_getElem h]

theorem or8 (m : Nat) (x : Int) (hm : m < 72057594037927936) (h0 : 0 ≤ x) (h1 : x < 256) : bits .or .u64 ((m : Int) * 256) x = ((m * 256 + x.toNat : Nat) : Int) := by
  obtain ⟨y, rfl⟩ := Int.eq_ofNat_of_zero_le h0
  have e : (m : Int) * 256 = ((m * 256 : Nat) : Int) := by omega
  rw [e, u64_or_nat _ _ (by omega) (by omega), nat_join 8 (m * 256) y (by omega) (by omega)]
  rfl

set_option maxHeartbeats 1000000 in
theorem numTakeWide_rows (g off n c k : Nat) (l : List Int) (w : World) (h : Byt w (some ⟨g, off, none⟩) n c l) (h1 : 1 ≤ k) (h2 : k ≤ 8) (hkn : k ≤ n) :
    Calls Try.prog 11 #[.slice (some ⟨g, off, none⟩) n c, .int .i64 k] w (Quiet2 (ofWide (l.take k)) 0 w) := by
  have hc0 : ∀ i, i < n → w.cell? ⟨g, off + i, none⟩ = some (.int .u8 (l.getD i 0)) := by
    obtain ⟨g1, o1, e, hc⟩ := h.at_ (by omega)
    injection e with e; injection e with e1 e2; subst e1; subst e2
    exact hc
  have hcap := h.cap
  have hmax := h.max
  unfold maxLen at hmax
  have HL := Lib.hid h.len
  have HR := Lib.hid h.lt_
  have HG := Lib.hid h.rng
  have HC := Lib.hid hc0
  clear hc0 h
  go_enter Try.func11, Try.ntmps11
  go_wp2_with (go_at_call 23; refine (isWidth_yes _ (by omega) (by omega) _).mono ?_; rintro e w1 ⟨rfl, rfl⟩)
  go_loop [6, 20] (fun s j => ∃ (i m : Nat), i ≤ k ∧ s = .int .u64 m ∧ j = .int .i64 i ∧ m = ofWide (l.take i)) (fun _ j => k - (intOf j).toNat)
  case atStart => exact ⟨0, 0, Nat.zero_le _, rfl, rfl, rfl⟩
  case round =>
    obtain ⟨i, m, hik, rfl, rfl, hm⟩ := hrel
    have HM := Lib.hid hm
    clear hm
    by_cases hlt : i < k
    · have hx := HC.out i (by omega)
      have hr := HR.out i (by omega)
      obtain ⟨s1, s2⟩ := ofWide_step l HG.out i (by rw [HL.out]; omega) (by omega)
      rw [← HM.out] at s1 s2
      have S2 := Lib.hid s2
      clear s2
      obtain ⟨x, ex⟩ : ∃ x, x = l.getD i 0 := ⟨_, rfl⟩
      rw [← ex] at hx hr S2
      clear ex
      obtain ⟨hr0, hr1⟩ := hr
      have hm64 : (m : Int) < 72057594037927936 := by omega
      have E := Lib.hid (or8 m x s1 hr0 hr1)
      go_wp2_with fail
      go_round
      case rel => exact ⟨i + 1, m * 256 + x.toNat, by omega, by rw [E.out], by go_num, S2.out.symm⟩
      case measure => simp [intOf]; omega
    · have hik2 : i = k := by omega
      subst hik2
      go_wp2_with fail
      go_ret2
      exact ⟨by rw [← HM.out]; rfl, 0, rfl⟩

set_option maxHeartbeats 1000000 in
theorem numTakeWide_any (A : Option Addr) (n c k : Nat) (l : List Int) (w : World) (h : Byt w A n c l) (h1 : 1 ≤ k) (h2 : k ≤ 8) :
    Calls Try.prog 11 #[.slice A n c, .int .i64 k] w (Quiet2 (if k ≤ n then ofWide (l.take k) else 0 : Nat) (if k ≤ n then 0 else 10) w) := by
  by_cases hkn : k ≤ n
  · obtain ⟨g, off, rfl, _⟩ := h.at_ (by omega)
    rw [if_pos hkn, if_pos hkn]
    exact numTakeWide_rows g off n c k l w h h1 h2 hkn
  · rw [if_neg hkn, if_neg hkn]
    have hlt : n < k := by omega
    clear h hkn
    go_enter Try.func11, Try.ntmps11
    go_wp2_with (go_at_call 23; refine (isWidth_yes _ (by omega) (by omega) _).mono ?_; rintro e w1 ⟨rfl, rfl⟩)
    go_ret2
    exact ⟨rfl, 0, rfl⟩

set_option maxHeartbeats 1000000 in
theorem numTakeWide_no (A : Option Addr) (n c : Nat) (x : Int) (w : World) (hx : x < 1 ∨ 8 < x) :
    Calls Try.prog 11 #[.slice A n c, .int .i64 x] w (Quiet2 0 1 w) := by
  have HX := Lib.hid hx
  clear hx
  go_enter Try.func11, Try.ntmps11
  go_wp2_with (go_at_call 23; refine (isWidth_no _ HX.out _).mono ?_; rintro e w1 ⟨rfl, rfl⟩)
  go_ret2
  exact ⟨rfl, 0, rfl⟩

set_option maxHeartbeats 1000000 in
theorem refTakeWide_rows (g off n c k : Nat) (l : List Int) (w : World) (h : Byt w (some ⟨g, off, none⟩) n c l) (h1 : 1 ≤ k) (h2 : k ≤ 8) (hkn : k ≤ n) :
    Calls Try.prog 13 #[.slice (some ⟨g, off, none⟩) n c, .int .i64 k] w (Quiet2 (ofWide (l.take k)) 0 w) := by
  have hc0 : ∀ i, i < n → w.cell? ⟨g, off + i, none⟩ = some (.int .u8 (l.getD i 0)) := by
    obtain ⟨g1, o1, e, hc⟩ := h.at_ (by omega)
    injection e with e; injection e with e1 e2; subst e1; subst e2
    exact hc
  have hcap := h.cap
  have hmax := h.max
  unfold maxLen at hmax
  have HL := Lib.hid h.len
  have HR := Lib.hid h.lt_
  have HG := Lib.hid h.rng
  have HC := Lib.hid hc0
  clear hc0 h
  go_enter Try.func13, Try.ntmps13
  go_wp2_with fail
  go_loop [6, 7] (fun s j => ∃ (i m : Nat), i ≤ k ∧ s = .int .u64 m ∧ j = .int .i64 i ∧ m = ofWide (l.take i)) (fun _ j => k - (intOf j).toNat)
  case atStart => exact ⟨0, 0, Nat.zero_le _, rfl, rfl, rfl⟩
  case round =>
    obtain ⟨i, m, hik, rfl, rfl, hm⟩ := hrel
    have HM := Lib.hid hm
    clear hm
    by_cases hlt : i < k
    · have hx := HC.out i (by omega)
      have hr := HR.out i (by omega)
      obtain ⟨s1, s2⟩ := ofWide_step l HG.out i (by rw [HL.out]; omega) (by omega)
      rw [← HM.out] at s1 s2
      have S2 := Lib.hid s2
      clear s2
      obtain ⟨x, ex⟩ : ∃ x, x = l.getD i 0 := ⟨_, rfl⟩
      rw [← ex] at hx hr S2
      clear ex
      obtain ⟨hr0, hr1⟩ := hr
      have hm64 : (m : Int) < 72057594037927936 := by omega
      go_wp2_with fail
      go_round
      case rel => exact ⟨i + 1, m * 256 + x.toNat, by omega, by congr 1; omega, by go_num, S2.out.symm⟩
      case measure => simp [intOf]; omega
    · have hik2 : i = k := by omega
      subst hik2
      go_wp2_with fail
      go_ret2
      exact ⟨by rw [← HM.out]; rfl, 0, rfl⟩

set_option maxHeartbeats 1000000 in
theorem refTakeWide_any (A : Option Addr) (n c k : Nat) (l : List Int) (w : World) (h : Byt w A n c l) (h1 : 1 ≤ k) (h2 : k ≤ 8) :
    Calls Try.prog 13 #[.slice A n c, .int .i64 k] w (Quiet2 (if k ≤ n then ofWide (l.take k) else 0 : Nat) (if k ≤ n then 0 else 10) w) := by
  by_cases hkn : k ≤ n
  · obtain ⟨g, off, rfl, _⟩ := h.at_ (by omega)
    rw [if_pos hkn, if_pos hkn]
    exact refTakeWide_rows g off n c k l w h h1 h2 hkn
  · rw [if_neg hkn, if_neg hkn]
    have hlt : n < k := by omega
    clear h hkn
    go_enter Try.func13, Try.ntmps13
    go_wp2_with fail
    go_ret2
    exact ⟨rfl, 0, rfl⟩

set_option maxHeartbeats 1000000 in
theorem refTakeWide_no (A : Option Addr) (n c : Nat) (x : Int) (w : World) (hx : x < 1 ∨ 8 < x) :
    Calls Try.prog 13 #[.slice A n c, .int .i64 x] w (Quiet2 0 1 w) := by
  rcases hx with h | h
  · go_enter Try.func13, Try.ntmps13
    go_wp2_with fail
    go_ret2
    exact ⟨rfl, 0, rfl⟩
  · have h1 : 1 ≤ x := by omega
    go_enter Try.func13, Try.ntmps13
    go_wp2_with fail
    go_ret2
    exact ⟨rfl, 0, rfl⟩
end Go.Proofs.Ytmglnfgngnekeaa
