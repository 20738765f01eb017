/- What it says: crc.Sum and trothref02.Sum answer the checksum of what a slice reads as; nothing is turned. -/
import Derived.Test.YtlnhillpghjknaaDoorCrcReg
namespace Go.Proofs.YtlnhillpghjknaaDoor
open Go.RowKit

theorem crc_next (l : List Int) (k : Nat) (hk : k < l.length) (x : Nat) (hx : l.getD k 0 = (x : Int)) : crcFrom ones (l.take (k + 1)) = steps 8 (crcFrom ones (l.take k) ^^^ x) := by
  rw [List.take_succ_eq_append_getElem hk, crcFrom_snoc, stepByte]
  simp [List.getD, List.getElem?_eq_getElem hk] at hx
  rw [hx, Int.toNat_natCast]

theorem not32 (v : Nat) (h : v < 4294967296) : bits .xor .u32 (v : Int) 4294967295 = ((v ^^^ ones : Nat) : Int) := by
  have := xor32 v 4294967295 h (by omega)
  exact this

theorem not_u32 (v : Nat) (h : v < 4294967296) : bits .xor .u32 IntKind.u32.max (v : Int) = ((v ^^^ ones : Nat) : Int) := by
  have := xor32 4294967295 v (by omega) h
  rw [Nat.xor_comm] at this
  exact this

theorem ret32 {a b : Int} (h : a = b) : Ending.returned (.int .u32 a) = .returned (.int .u32 b) := by rw [h]

set_option maxHeartbeats 1000000 in
theorem crcSum_rows (g off n c : Nat) (l : List Int) (w : World) (h : Byt w (some ⟨g, off, none⟩) n c l) (hn : 0 < n) (hT : Tab w) :
    Calls Tryd.prog 59 #[.slice (some ⟨g, off, none⟩) n c] w (Same32 (crcL l : Nat) w) := by
  have hc0 : ∀ i, i < n → w.cell? ⟨g, off + i, none⟩ = some (.int .u8 (l.getD i 0)) := by
    obtain ⟨g1, o1, e, hc⟩ := h.at_ hn
    injection e with e; injection e with e1 e2; subst e1; subst e2
    exact hc
  have hcap := h.cap
  have hmax := h.max
  unfold maxLen at hmax
  have HL := Lib.hid h.len
  have HR := Lib.hid h.lt_
  have HC := Lib.hid hc0
  have HT := Lib.hid hT
  clear hc0 h hT
  go_enter Tryd.func59, Tryd.ntmps59
  go_wp2_with fail
  go_loop [3, 8] (fun s j => ∃ i v : Nat, i ≤ n ∧ v < 4294967296 ∧ s = .int .u32 v ∧ j = .int .i64 i ∧ v = crcFrom ones (l.take i)) (fun _ j => n - (intOf j).toNat)
  case atStart => exact ⟨0, ones, Nat.zero_le _, by decide, rfl, rfl, rfl⟩
  case round =>
    obtain ⟨i, v, hin, hv, rfl, rfl, ev⟩ := hrel
    have EV := Lib.hid ev
    clear ev
    by_cases hlt : i < n
    · have hx := HC.out i hlt
      have hr := HR.out i hlt
      obtain ⟨x, ex⟩ : ∃ x : Nat, x = (l.getD i 0).toNat := ⟨_, rfl⟩
      have exi : l.getD i 0 = (x : Int) := by omega
      rw [exi] at hx hr
      have hx256 : x < 256 := by omega
      have hst := crc_next l i (by rw [HL.out]; exact hlt) x exi
      rw [← EV.out] at hst
      have hxor := xor32 v x hv (by omega)
      have hd : v ^^^ x < 4294967296 := Nat.xor_lt_two_pow (n := 32) hv (by omega)
      obtain ⟨d, ed⟩ : ∃ d, v ^^^ x = d := ⟨_, rfl⟩
      rw [ed] at hst hxor hd
      have CS := shiftByte_any d hd w HT.out
      have hs8 : steps 8 d < 4294967296 := steps_lt 8 hd
      obtain ⟨z, ez⟩ : ∃ z, steps 8 d = z := ⟨_, rfl⟩
      rw [ez] at CS hst hs8
      have HST := Lib.hid hst
      have HCS := Lib.hid CS
      obtain ⟨hr0, hr1⟩ := hr
      clear exi ex ed ez hst CS hr0 hr1
      go_wp2_with fail
      refine HCS.out.mono ?_
      rintro e w1 ⟨rfl, rfl⟩
      clear hxor hx
      go_wp2_with fail
      go_round
      case rel => exact ⟨i + 1, z, by omega, hs8, rfl, by go_num, HST.out.symm⟩
      case measure => simp [intOf]; omega
    · have hik : i = n := by omega
      subst hik
      have e := EV.out
      rw [List.take_of_length_le (by rw [HL.out]; omega)] at e
      have E := Lib.hid e
      clear e
      go_wp2_with fail
      go_ret
      exact ⟨ret32 (by rw [not_u32 v hv, E.out]; rfl), rfl⟩

set_option maxHeartbeats 1000000 in
theorem crcSum_any (A : Option Addr) (n c : Nat) (l : List Int) (w : World) (h : Byt w A n c l) (hT : Tab w) :
    Calls Tryd.prog 59 #[.slice A n c] w (Same32 (crcL l : Nat) w) := by
  by_cases hn : 0 < n
  · obtain ⟨g, off, rfl, _⟩ := h.at_ hn
    exact crcSum_rows g off n c l w h hn hT
  · have h0 : n = 0 := by omega
    subst h0
    have e : l = [] := List.eq_nil_of_length_eq_zero h.len
    subst e
    clear h hn hT
    go_enter Tryd.func59, Tryd.ntmps59
    go_wp2_with fail
    refine wp_loop_rounds 1 ?_
    rw [rounds_succ]
    go_wp2_with fail
    go_ret
    exact ⟨ret32 (by rw [crcL_nil]; rfl), rfl⟩

set_option maxHeartbeats 1000000 in
theorem refSum_rows (g off n c : Nat) (l : List Int) (w : World) (h : Byt w (some ⟨g, off, none⟩) n c l) (hn : 0 < n) :
    Calls Tryd.prog 60 #[.slice (some ⟨g, off, none⟩) n c] w (Same32 (crcL l : Nat) w) := by
  have hc0 : ∀ i, i < n → w.cell? ⟨g, off + i, none⟩ = some (.int .u8 (l.getD i 0)) := by
    obtain ⟨g1, o1, e, hc⟩ := h.at_ hn
    injection e with e; injection e with e1 e2; subst e1; subst e2
    exact hc
  have hcap := h.cap
  have hmax := h.max
  unfold maxLen at hmax
  have HL := Lib.hid h.len
  have HR := Lib.hid h.lt_
  have HC := Lib.hid hc0
  clear hc0 h
  go_enter Tryd.func60, Tryd.ntmps60
  go_wp2_with fail
  go_loop [3, 4] (fun s j => ∃ i v : Nat, i ≤ n ∧ v < 4294967296 ∧ s = .int .u32 v ∧ j = .int .i64 i ∧ v = crcFrom ones (l.take i)) (fun _ j => n - (intOf j).toNat)
  case atStart => exact ⟨0, ones, Nat.zero_le _, by decide, rfl, rfl, rfl⟩
  case round =>
    obtain ⟨i, v, hin, hv, rfl, rfl, ev⟩ := hrel
    have EV := Lib.hid ev
    clear ev
    by_cases hlt : i < n
    · have hx := HC.out i hlt
      have hr := HR.out i hlt
      obtain ⟨x, ex⟩ : ∃ x : Nat, x = (l.getD i 0).toNat := ⟨_, rfl⟩
      have exi : l.getD i 0 = (x : Int) := by omega
      rw [exi] at hx hr
      have hx256 : x < 256 := by omega
      have hst := crc_next l i (by rw [HL.out]; exact hlt) x exi
      rw [← EV.out] at hst
      have CS := fun w => refStep_any v x hv hx256 w
      have hs8 : steps 8 (v ^^^ x) < 4294967296 := steps_lt 8 (Nat.xor_lt_two_pow (n := 32) hv (by omega))
      obtain ⟨z, ez⟩ : ∃ z, steps 8 (v ^^^ x) = z := ⟨_, rfl⟩
      rw [ez] at CS hst hs8
      have HST := Lib.hid hst
      have HCS := Lib.hid CS
      obtain ⟨hr0, hr1⟩ := hr
      clear exi ex ez hst CS hr0 hr1
      go_wp2_with fail
      refine (HCS.out _).mono ?_
      rintro e w1 ⟨rfl, rfl⟩
      clear hx
      go_wp2_with fail
      go_round
      case rel => exact ⟨i + 1, z, by omega, hs8, rfl, by go_num, HST.out.symm⟩
      case measure => simp [intOf]; omega
    · have hik : i = n := by omega
      subst hik
      have e := EV.out
      rw [List.take_of_length_le (by rw [HL.out]; omega)] at e
      have E := Lib.hid e
      clear e
      go_wp2_with fail
      go_ret
      exact ⟨ret32 (by rw [not32 v hv, E.out]; rfl), rfl⟩

set_option maxHeartbeats 1000000 in
theorem refSum_any (A : Option Addr) (n c : Nat) (l : List Int) (w : World) (h : Byt w A n c l) :
    Calls Tryd.prog 60 #[.slice A n c] w (Same32 (crcL l : Nat) w) := by
  by_cases hn : 0 < n
  · obtain ⟨g, off, rfl, _⟩ := h.at_ hn
    exact refSum_rows g off n c l w h hn
  · have h0 : n = 0 := by omega
    subst h0
    have e : l = [] := List.eq_nil_of_length_eq_zero h.len
    subst e
    clear h hn
    go_enter Tryd.func60, Tryd.ntmps60
    go_wp2_with fail
    refine wp_loop_rounds 1 ?_
    rw [rounds_succ]
    go_wp2_with fail
    go_ret
    exact ⟨ret32 (by rw [crcL_nil]; rfl), rfl⟩
end Go.Proofs.YtlnhillpghjknaaDoor
