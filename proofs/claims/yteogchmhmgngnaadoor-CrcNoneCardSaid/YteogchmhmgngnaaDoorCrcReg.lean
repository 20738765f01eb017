/- What it says: crc.shiftByte and trothref02.Step shift a register by eight bits, crc.unshift back by 32; nothing is turned. The table reads as its text lays it. -/
import Derived.Test.YteogchmhmgngnaaDoorRows
import Derived.Test.YteogchmhmgngnaaDoorKit
import Derived.Test.YteogchmhmgngnaaDoorCrcMath
import Derived.Laws.BitsAllLaws
import Derived.Deep.QuietTactic
import Derived.BigQuiet
namespace Go.Proofs.YteogchmhmgngnaaDoor
open Go.RowKit

/-- The table's cells. -/
def Tab (w : World) : Prop := ∀ i : Nat, i < 16 → w.cell? ⟨0, i, none⟩ = some (.int .u32 (nib i))

theorem Tab.below {w w' : World} {B : Nat} (h : Tab w) (hb : Below B w w') (hB : 0 < B) : Tab w' := fun i hi => (hb.cell (p := ⟨0, i, none⟩) hB).trans (h i hi)

/-- What a call answers; nothing is turned. -/
def Same32 (x : Int) (w : World) (e : Ending) (w' : World) : Prop := e = .returned (.int .u32 x) ∧ w = w'

theorem xor32 (a b : Nat) (ha : a < 4294967296) (hb : b < 4294967296) : bits .xor .u32 (a : Int) (b : Int) = ((a ^^^ b : Nat) : Int) := u32_xor_nat a b ha hb

theorem and15 (c : Nat) (hc : c < 4294967296) : bits .and .u32 (c : Int) 15 = ((c % 16 : Nat) : Int) := by
  have := u32_and_nat c 15 hc (by omega)
  rw [show ((15 : Nat) : Int) = 15 from rfl] at this
  rw [this]
  congr 1
  exact Nat.and_two_pow_sub_one_eq_mod c 4

theorem nib_lt (m : Nat) (h : m < 16) : nib m < 4294967296 := by
  rw [← nib_steps m h]
  exact steps_lt 4 (by omega)

/-- Four bits by the table: what the walk asks. -/
theorem four (c : Nat) (hc : c < 4294967296) (w : World) (hT : Tab w) : ∃ m q t : Nat, bits .and .u32 (c : Int) 15 = (m : Int) ∧ m < 16 ∧ (c : Int) / 16 = (q : Int) ∧ w.cell? ⟨0, m, none⟩ = some (.int .u32 (t : Int)) ∧ bits .xor .u32 (q : Int) (t : Int) = ((steps 4 c : Nat) : Int) := by
  have hm : c % 16 < 16 := Nat.mod_lt _ (by decide)
  refine ⟨c % 16, c / 16, nib (c % 16), and15 c hc, hm, by simp, hT _ hm, ?_⟩
  rw [xor32 _ _ (by omega) (nib_lt _ hm), steps4]

set_option maxHeartbeats 1000000 in
theorem shiftByte_any (c : Nat) (hc : c < 4294967296) (w : World) (hT : Tab w) :
    Calls Tryd.prog 14 #[.int .u32 c] w (Same32 (steps 8 c : Nat) w) := by
  have h4 : steps 4 c < 4294967296 := steps_lt 4 hc
  obtain ⟨m, q, t, e1, hm, e2, e3, e4⟩ := four c hc w hT
  obtain ⟨m', q', t', f1, hm', f2, f3, f4⟩ := four (steps 4 c) h4 w hT
  have e8 : steps 4 (steps 4 c) = steps 8 c := by rw [show (8 : Nat) = 4 + 4 from rfl, steps_add]
  rw [e8] at f4
  obtain ⟨r, hr⟩ : ∃ r, steps 4 c = r := ⟨_, rfl⟩
  obtain ⟨z, hz⟩ : ∃ z, steps 8 c = z := ⟨_, rfl⟩
  rw [hz] at f4
  rw [hr] at e4 f1 f2 h4
  rw [hz]
  clear hT hr hz e8
  go_enter Tryd.func14, Tryd.ntmps14
  go_wp2_with fail
  go_ret
  exact ⟨rfl, rfl⟩

theorem stepBit_odd (c r : Nat) (hc : c < 4294967296) (h : c % 2 = 1) (hr : stepBit c = r) : bits .xor .u32 ((c / 2 : Nat) : Int) 3988292384 = (r : Int) := by
  rw [stepBit, if_pos h] at hr
  have := xor32 (c / 2) poly (by omega) (by decide)
  rw [hr] at this
  exact this

theorem stepBit_even (c r : Nat) (h : ¬ c % 2 = 1) (hr : stepBit c = r) : c / 2 = r := by rwa [stepBit, if_neg h] at hr

set_option maxHeartbeats 1000000 in
theorem refStep_any (c x : Nat) (hc : c < 4294967296) (hx : x < 256) (w : World) :
    Calls Tryd.prog 15 #[.int .u32 c, .int .u8 x] w (Same32 (steps 8 (c ^^^ x) : Nat) w) := by
  have e0 := xor32 c x hc (by omega)
  have hd : c ^^^ x < 4294967296 := Nat.xor_lt_two_pow (n := 32) hc (by omega)
  obtain ⟨d, ed⟩ : ∃ d, c ^^^ x = d := ⟨_, rfl⟩
  rw [ed] at e0 hd ⊢
  clear ed
  go_enter Tryd.func15, Tryd.ntmps15
  go_wp2_with fail
  clear e0
  go_loop [0, 5] (fun s j => ∃ i v : Nat, i ≤ 8 ∧ v < 4294967296 ∧ s = .int .u32 v ∧ j = .int .i64 i ∧ v = steps i d) (fun _ j => 8 - (intOf j).toNat)
  case atStart => exact ⟨0, d, Nat.zero_le _, hd, rfl, rfl, rfl⟩
  case round =>
    obtain ⟨i, v, hi, hv, rfl, rfl, ev⟩ := hrel
    have EV := Lib.hid ev
    clear ev
    by_cases hlt : i < 8
    · obtain ⟨r, er⟩ : ∃ r, stepBit v = r := ⟨_, rfl⟩
      have hr : r < 4294967296 := by rw [← er]; exact stepBit_lt hv
      have ER : Hid (r = steps (i + 1) d) := Lib.hid (by rw [steps_succ, ← EV.out, er])
      by_cases hodd : v % 2 = 1
      · have e1 := stepBit_odd v r hv hodd er
        obtain ⟨h, eh⟩ : ∃ h, v / 2 = h := ⟨_, rfl⟩
        have e2 : (v : Int) / 2 = (h : Int) := by omega
        have e3 : (v : Int) % 2 = 1 := by omega
        rw [eh] at e1
        clear er hodd eh
        go_wp2_with fail
        clear e1 e2 e3
        go_round
        case rel => exact ⟨i + 1, r, by omega, hr, rfl, by go_num, ER.out⟩
        case measure => simp [intOf]; omega
      · have e1 := stepBit_even v r hodd er
        have e2 : (v : Int) / 2 = (r : Int) := by omega
        have e3 : (v : Int) % 2 = 0 := by omega
        clear er hodd e1
        go_wp2_with fail
        clear e2 e3
        go_round
        case rel => exact ⟨i + 1, r, by omega, hr, rfl, by go_num, ER.out⟩
        case measure => simp [intOf]; omega
    · have HI : Hid (i = 8) := Lib.hid (by omega)
      go_wp2_with fail
      go_ret
      exact ⟨by rw [EV.out, HI.out]; rfl, rfl⟩

theorem wrap_dbl (r : Nat) (h : r < 2147483648) : IntKind.u32.wrap ((r : Int) * 2) = ((r * 2 : Nat) : Int) := by
  rw [IntKind.wrap_u32']; omega

theorem or_one (r : Nat) (h : r < 2147483648) : bits .or .u32 ((r * 2 : Nat) : Int) 1 = ((r * 2 + 1 : Nat) : Int) := by
  have := u32_or_nat (r * 2) 1 (by omega) (by omega)
  rw [show ((1 : Nat) : Int) = 1 from rfl] at this
  rw [this]
  congr 1
  have h2 := Nat.two_pow_add_eq_or_of_lt (b := 1) (i := 1) (by decide) r
  rw [show r * 2 = 2 ^ 1 * r from by omega]
  exact h2.symm

theorem unstep_top (c r : Nat) (hc : c < 4294967296) (h : c / 2147483648 = 1) (hr : unstep c = r) : ∃ y : Nat, bits .xor .u32 (c : Int) 3988292384 = (y : Int) ∧ y < 2147483648 ∧ bits .or .u32 ((y : Int) * 2) 1 = (r : Int) := by
  rw [unstep, if_pos h] at hr
  have hl := xor_poly_lt c hc h
  refine ⟨c ^^^ poly, xor32 c poly hc (by decide), hl, ?_⟩
  have := or_one (c ^^^ poly) hl
  rw [hr] at this
  rw [← this]
  rfl

theorem unstep_low (c r : Nat) (h : ¬ c / 2147483648 = 1) (hr : unstep c = r) : c * 2 = r := by rwa [unstep, if_neg h] at hr

theorem unsteps_succ (k c : Nat) : unsteps (k + 1) c = unstep (unsteps k c) := rfl

set_option maxHeartbeats 1000000 in
theorem unshift_any (c : Nat) (hc : c < 4294967296) (w : World) :
    Calls Tryd.prog 19 #[.int .u32 c] w (Same32 (unsteps 32 c : Nat) w) := by
  go_enter Tryd.func19, Tryd.ntmps19
  go_wp2_with fail
  go_loop [0, 3] (fun s j => ∃ i v : Nat, i ≤ 32 ∧ v < 4294967296 ∧ s = .int .u32 v ∧ j = .int .i64 i ∧ v = unsteps i c) (fun _ j => 32 - (intOf j).toNat)
  case atStart => exact ⟨0, c, Nat.zero_le _, hc, rfl, rfl, rfl⟩
  case round =>
    obtain ⟨i, v, hi, hv, rfl, rfl, ev⟩ := hrel
    have EV := Lib.hid ev
    clear ev
    by_cases hlt : i < 32
    · obtain ⟨r, er⟩ : ∃ r, unstep v = r := ⟨_, rfl⟩
      have hr : r < 4294967296 := by rw [← er]; exact unstep_lt v hv
      have ER : Hid (r = unsteps (i + 1) c) := Lib.hid (by rw [unsteps_succ, ← EV.out, er])
      by_cases htop : v / 2147483648 = 1
      · obtain ⟨y, e1, hy, e2⟩ := unstep_top v r hv htop er
        have e3 : (v : Int) / 2147483648 = 1 := by omega
        clear er htop
        go_wp2_with fail
        clear e1 e2 e3
        go_round
        case rel => exact ⟨i + 1, r, by omega, hr, rfl, by go_num, ER.out⟩
        case measure => simp [intOf]; omega
      · have e1 := unstep_low v r htop er
        have e2 : (v : Int) * 2 = (r : Int) := by omega
        have e3 : (v : Int) / 2147483648 = 0 := by omega
        clear er htop e1
        go_wp2_with fail
        clear e2 e3
        go_round
        case rel => exact ⟨i + 1, r, by omega, hr, rfl, by go_num, ER.out⟩
        case measure => simp [intOf]; omega
    · have HI : Hid (i = 32) := Lib.hid (by omega)
      go_wp2_with fail
      go_ret
      exact ⟨by rw [EV.out, HI.out]; rfl, rfl⟩
end Go.Proofs.YteogchmhmgngnaaDoor
