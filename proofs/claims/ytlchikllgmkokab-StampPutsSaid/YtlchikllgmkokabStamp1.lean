/- What it says: stamp.free, Next and isStamp answer what the plain mathematics says, and turn nothing. -/
import Derived.Test.YtlchikllgmkokabStMath
import Derived.Test.YtlchikllgmkokabDisk2
import Derived.Test.YtlchikllgmkokabKit
import Derived.WalkMore
namespace Go.Proofs.Ytlchikllgmkokab
open Go.RowKit

section
variable {w : World} {A : Option Addr} {c : Nat} {l : List Int}
theorem Byt.ends (h : Byt w A 256 c l) : ∃ g off, A = some ⟨g, off, none⟩ ∧ w.cell? ⟨g, off, none⟩ = some (.int .u8 (l.getD 0 0)) ∧ w.cell? ⟨g, off + 255, none⟩ = some (.int .u8 (l.getD 255 0)) := by
  obtain ⟨g, off, e, hc⟩ := h.at_ (by omega)
  exact ⟨g, off, e, hc 0 (by omega), hc 255 (by omega)⟩
end

set_option maxHeartbeats 2000000 in
theorem free_any (A : Option Addr) (c : Nat) (l : List Int) (w : World) (h : Byt w A 256 c l) :
    Calls Try.prog 27 #[.slice A 256 c] w (Same (.int .u8 (nextOf l)) w) := by
  obtain ⟨g, off, rfl, h0, h1⟩ := h.ends
  have ra := h.lt_ 0 (by omega)
  have rb := h.lt_ 255 (by omega)
  have hcap := h.cap
  have hmax := h.max
  unfold maxLen at hmax
  obtain ⟨a, ha⟩ : ∃ a, l.getD 0 0 = a := ⟨_, rfl⟩
  obtain ⟨b, hb⟩ : ∃ b, l.getD 255 0 = b := ⟨_, rfl⟩
  have HE : Hid (nextOf l = nextB a b) := Lib.hid (by unfold nextOf; rw [ha, hb])
  rw [HE.out]
  rw [ha] at h0 ra
  rw [hb] at h1 rb
  clear ha hb h HE
  go_enter Try.func27, Try.ntmps27
  go_wp2
  go_step3
  go_wp2
  go_step3
  go_wp2
  go_loopw [3, 5] (fun m q wr => ∃ j : Nat, j ≤ 3 ∧ m = .int .u8 j ∧ q = .int .u8 j ∧ (1 ≤ j → a = 1 ∨ b = 1) ∧ (2 ≤ j → a = 2 ∨ b = 2) ∧ wr = w) (fun _ q _ => 3 - (intOf q).toNat)
  case atStart => exact ⟨0, by omega, rfl, rfl, by omega, by omega, rfl⟩
  case round =>
    obtain ⟨j, hj, rfl, rfl, t1, t2, rfl⟩ := hrel
    by_cases hlt : j < 3
    · by_cases e1 : ((j : Int) + 1) = a
      · have d1 : (((j : Int) + 1) != a) = false := by simpa using e1
        have R : Hid ((1 ≤ j + 1 → a = 1 ∨ b = 1) ∧ (2 ≤ j + 1 → a = 2 ∨ b = 2)) := Lib.hid ⟨fun _ => by
          by_cases q : 1 ≤ j
          · exact t1 q
          · omega, fun q => by
          by_cases q2 : 2 ≤ j
          · exact t2 q2
          · omega⟩
        clear t1 t2 e1
        go_wp2_with fail
        go_roundw
        case rel => exact ⟨j + 1, by omega, by go_num, by go_num, R.out.1, R.out.2, trivial⟩
        case measure => simp [intOf]; omega
      · have d1 : (((j : Int) + 1) != a) = true := by simpa using e1
        by_cases e2 : ((j : Int) + 1) = b
        · have d2 : (((j : Int) + 1) != b) = false := by simpa using e2
          have R : Hid ((1 ≤ j + 1 → a = 1 ∨ b = 1) ∧ (2 ≤ j + 1 → a = 2 ∨ b = 2)) := Lib.hid ⟨fun _ => by
            by_cases q : 1 ≤ j
            · exact t1 q
            · omega, fun q => by
            by_cases q2 : 2 ≤ j
            · exact t2 q2
            · omega⟩
          clear t1 t2 e1 e2
          go_wp2_with fail
          go_roundw
          case rel => exact ⟨j + 1, by omega, by go_num, by go_num, R.out.1, R.out.2, trivial⟩
          case measure => simp [intOf]; omega
        · have d2 : (((j : Int) + 1) != b) = true := by simpa using e2
          have R : Hid ((j : Int) + 1 = nextB a b) := Lib.hid (by
            have : j = 0 ∨ j = 1 ∨ j = 2 := by omega
            rcases this with q | q | q
            · rw [nextB_one ⟨by omega, by omega⟩]; omega
            · rw [nextB_two (t1 (by omega)) ⟨by omega, by omega⟩]; omega
            · rw [nextB_three (t1 (by omega)) (t2 (by omega))]; omega)
          clear t1 t2 e1 e2
          go_wp2_with fail
          (try rw [Exit.noGoto_ret])
          go_ret
          exact ⟨by rw [← R.out]; rfl, rfl⟩
    · obtain rfl : j = 3 := by omega
      have R : Hid (3 = nextB a b) := Lib.hid (nextB_three (t1 (by omega)) (t2 (by omega))).symm
      clear t1 t2
      go_wp2_with fail
      (try rw [Exit.noGoto_ret])
      go_ret
      exact ⟨by rw [← R.out]; rfl, rfl⟩

set_option maxHeartbeats 1000000 in
theorem next_any (A : Option Addr) (n c : Nat) (l : List Int) (w : World) (h : Byt w A n c l) :
    Calls Try.prog 13 #[.slice A n c] w (Same (.tuple #[.int .u8 (nextV l), .int .i64 (nextE l)]) w) := by
  have hl := h.len
  have hcap := h.cap
  have hmax := h.max
  unfold maxLen at hmax
  by_cases hn : n = 256
  · subst hn
    have C := Lib.hid (free_any A c l w h)
    have E : Hid (nextV l = nextOf l ∧ nextE l = 0) := Lib.hid ⟨by unfold nextV; rw [if_neg (by omega)], by unfold nextE; rw [if_neg (by omega)]⟩
    clear h hl
    go_enter Try.func13, Try.ntmps13
    go_wp2_with fail
    refine C.out.mono ?_
    rintro e w1 ⟨rfl, rfl⟩
    go_wp2_with fail
    go_ret2
    exact ⟨by rw [E.out.1, E.out.2]; rfl, rfl⟩
  · have E : Hid (nextV l = 0 ∧ nextE l = 12) := Lib.hid ⟨by unfold nextV; rw [if_pos (by omega)], by unfold nextE; rw [if_pos (by omega)]⟩
    have hd : ((n : Int) != 256) = true := by simp; omega
    clear h hl
    go_enter Try.func13, Try.ntmps13
    go_wp2_with fail
    go_ret2
    exact ⟨by rw [E.out.1, E.out.2]; rfl, rfl⟩

theorem isStamp_any (m : Int) (hm : 0 ≤ m ∧ m < 256) (w : World) : Calls Try.prog 25 #[.int .u8 m] w (Same (.bool (decide (1 ≤ m ∧ m ≤ 3))) w) := by
  by_cases h1 : 1 ≤ m
  · by_cases h3 : m ≤ 3
    · have e : decide (1 ≤ m ∧ m ≤ 3) = true := by simp; omega
      rw [e]
      go_enter Try.func25, Try.ntmps25
      go_wp2_with fail
      go_ret
      exact ⟨rfl, rfl⟩
    · have e : decide (1 ≤ m ∧ m ≤ 3) = false := by simp; omega
      rw [e]
      go_enter Try.func25, Try.ntmps25
      go_wp2_with fail
      go_ret
      exact ⟨rfl, rfl⟩
  · have e : decide (1 ≤ m ∧ m ≤ 3) = false := by simp; omega
    rw [e]
    go_enter Try.func25, Try.ntmps25
    go_wp2_with fail
    go_ret
    exact ⟨rfl, rfl⟩
end Go.Proofs.Ytlchikllgmkokab
