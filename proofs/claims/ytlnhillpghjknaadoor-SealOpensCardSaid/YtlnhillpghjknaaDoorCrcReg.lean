/- What it says: crc.shiftByte and trothref02.Step shift a register by eight bits, crc.unshift back by 32; nothing is turned. The table reads as its text lays it. -/
import Derived.Test.YtlnhillpghjknaaDoorRows
import Derived.Test.YtlnhillpghjknaaDoorKit
import Derived.Test.YtlnhillpghjknaaDoorCrcMath
import Derived.Laws.BitsAllLaws
import Derived.Deep.QuietTactic
import Derived.BigQuiet
namespace Go.Proofs.YtlnhillpghjknaaDoor
open Go.RowKit

/-- The table's cells. -/
def Tab (w : World) : Prop := ∀ i : Nat, i < 16 → w.cell? ⟨0, i, none⟩ = some (.int .u32 (nib i))

theorem Tab.below {w w' : World} {B : Nat} (h : Tab w) (hb : Below B w w') (hB : 0 < B) : Tab w' := fun i hi => (hb.cell (p := ⟨0, i, none⟩) hB).trans (h i hi)

/-- What a call answers; nothing is turned. -/
def Same32 (x : Int) (w : World) (e : Ending) (w' : World) : Prop := e = .returned (.int .u32 x) ∧ w = w'

theorem xor32 (a b : Nat) (ha : a < 4294967296) (hb : b < 4294967296) : bits .xor .u32 (a : Int) (b : Int) = ((a ^^^ b : Nat) : Int) := u32_xor_nat a b ha hb

theorem and15 (c : Nat) (hc : c < 4294967296) : bits .and .u32 (c : Int) 15 = ((c % 16 : Nat) : Int) := by
  have := u32_and_nat c 15 hc (by omega)
  rw [show ((15 : Nat) : Int) = 15 from rfl] at this
  rw [this]
  congr 1
  exact Nat.and_two_pow_sub_one_eq_mod c 4

theorem nib_lt (m : Nat) (h : m < 16) : nib m < 4294967296 := by
  rw [← nib_steps m h]
  exact steps_lt 4 (by omega)

/-- Four bits by the table: what the walk asks. -/
theorem four (c : Nat) (hc : c < 4294967296) (w : World) (hT : Tab w) : ∃ m q t : Nat, bits .and .u32 (c : Int) 15 = (m : Int) ∧ m < 16 ∧ (c : Int) / 16 = (q : Int) ∧ w.cell? ⟨0, m, none⟩ = some (.int .u32 (t : Int)) ∧ bits .xor .u32 (q : Int) (t : Int) = ((steps 4 c : Nat) : Int) := by
  have hm : c % 16 < 16 := Nat.mod_lt _ (by decide)
  refine ⟨c % 16, c / 16, nib (c % 16), and15 c hc, hm, by simp, hT _ hm, ?_⟩
  rw [xor32 _ _ (by omega) (nib_lt _ hm), steps4]

set_option maxHeartbeats 1000000 in
theorem shiftByte_any (c : Nat) (hc : c < 4294967296) (w : World) (hT : Tab w) :
    Calls Tryd.prog 61 #[.int .u32 c] w (Same32 (steps 8 c : Nat) w) := by
  have h4 : steps 4 c < 4294967296 := steps_lt 4 hc
  obtain ⟨m, q, t, e1, hm, e2, e3, e4⟩ := four c hc w hT
  obtain ⟨m', q', t', f1, hm', f2, f3, f4⟩ := four (steps 4 c) h4 w hT
  have e8 : steps 4 (steps 4 c) = steps 8 c := by rw [show (8 : Nat) = 4 + 4 from rfl, steps_add]
  rw [e8] at f4
  obtain ⟨r, hr⟩ : ∃ r, steps 4 c = r := ⟨_, rfl⟩
  obtain ⟨z, hz⟩ : ∃ z, steps 8 c = z := ⟨_, rfl⟩
  rw [hz] at f4
  rw [hr] at e4 f1 f2 h4
  rw [hz]
  clear hT hr hz e8
  go_enter Tryd.func61, Tryd.ntmps61
  go_wp2_with fail
  go_ret
  exact ⟨rfl, rfl⟩

theorem stepBit_odd (c r : Nat) (hc : c < 4294967296) (h : c % 2 = 1) (hr : stepBit c = r) : bits .xor .u32 ((c / 2 : Nat) : Int) 3988292384 = (r : Int) := by
  rw [stepBit, if_pos h] at hr
  have := xor32 (c / 2) poly (by omega) (by decide)
  rw [hr] at this
  exact this

theorem stepBit_even (c r : Nat) (h : ¬ c % 2 = 1) (hr : stepBit c = r) : c / 2 = r := by rwa [stepBit, if_neg h] at hr

set_option maxHeartbeats 1000000 in
theorem refStep_any (c x : Nat) (hc : c < 4294967296) (hx : x < 256) (w : World) :
    Calls Tryd.prog 62 #[.int .u32 c, .int .u8 x] w (Same32 (steps 8 (c ^^^ x) : Nat) w) := by
  have e0 := xor32 c x hc (by omega)
  have hd : c ^^^ x < 4294967296 := Nat.xor_lt_two_pow (n := 32) hc (by omega)
  obtain ⟨d, ed⟩ : ∃ d, c ^^^ x = d := ⟨_, rfl⟩
  rw [ed] at e0 hd ⊢
  clear ed
  go_enter Tryd.func62, Tryd.ntmps62
  go_wp2_with fail
  clear e0
  go_loop [0, 5] (fun s j => ∃ i v : Nat, i ≤ 8 ∧ v < 4294967296 ∧ s = .int .u32 v ∧ j = .int .i64 i ∧ v = steps i d) (fun _ j => 8 - (intOf j).toNat)
  case atStart => exact ⟨0, d, Nat.zero_le _, hd, rfl, rfl, rfl⟩
  case round =>
    obtain ⟨i, v, hi, hv, rfl, rfl, ev⟩ := hrel
    have EV := Lib.hid ev
    clear ev
    by_cases hlt : i < 8
    · obtain ⟨r, er⟩ : ∃ r, stepBit v = r := ⟨_, rfl⟩
      have hr : r < 4294967296 := by rw [← er]; exact stepBit_lt hv
      have ER : Hid (r = steps (i + 1) d) := Lib.hid (by rw [steps_succ, ← EV.out, er])
      by_cases hodd : v % 2 = 1
      · have e1 := stepBit_odd v r hv hodd er
        obtain ⟨h, eh⟩ : ∃ h, v / 2 = h := ⟨_, rfl⟩
        have e2 : (v : Int) / 2 = (h : Int) := by omega
        have e3 : (v : Int) % 2 = 1 := by omega
        rw [eh] at e1
        clear er hodd eh
        go_wp2_with fail
        clear e1 e2 e3
        go_round
        case rel => exact ⟨i + 1, r, by omega, hr, rfl, by go_num, ER.out⟩
        case measure => simp [intOf]; omega
      · have e1 := stepBit_even v r hodd er
        have e2 : (v : Int) / 2 = (r : Int) := by omega
        have e3 : (v : Int) % 2 = 0 := by omega
        clear er hodd e1
        go_wp2_with fail
        clear e2 e3
        go_round
        case rel => exact ⟨i + 1, r, by omega, hr, rfl, by go_num, ER.out⟩
        case measure => simp [intOf]; omega
    · have HI : Hid (i = 8) := Lib.hid (by omega)
      go_wp2_with fail
      go_ret
      exact ⟨by rw [EV.out, HI.out]; rfl, rfl⟩

theorem bit_of (c i : Nat) (hc : c < 4294967296) : bits .and .u32 ((c : Int) / 2 ^ i) 1 = ((c / 2 ^ i % 2 : Nat) : Int) := by
  have e : (c : Int) / 2 ^ i = ((c / 2 ^ i : Nat) : Int) := by simp
  rw [e]
  have hlt : c / 2 ^ i < 4294967296 := Nat.lt_of_le_of_lt (Nat.div_le_self _ _) hc
  have := u32_and_nat (c / 2 ^ i) 1 hlt (by omega)
  rw [show ((1 : Nat) : Int) = 1 from rfl] at this
  rw [this, Nat.and_one_is_mod]
end Go.Proofs.YtlnhillpghjknaaDoor
