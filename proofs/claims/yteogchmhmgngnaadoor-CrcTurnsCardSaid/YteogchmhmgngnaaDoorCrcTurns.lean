/- What it says: the Go text of trothlaw02.CrcTurns answers true, and writes nothing that was there. -/
import Derived.Test.YteogchmhmgngnaaDoorCrcAwake
import Derived.Test.YteogchmhmgngnaaDoorCrcMat
import Derived.RegionTactic
import Derived.BigRegion
import Derived.IntWalk
namespace Go.Proofs.YteogchmhmgngnaaDoor
open Go.RowKit

/-- What stands in the copy, when i bits have been looked at. -/
structure TurnRel (w : World) (g n : Nat) (l : List Int) (turn a i : Nat) (m : List Int) (cur : Array Value) (wr : World) : Prop where
  blk : Bk wr g 5 cur
  own : w.heap.size ≤ g
  len : m.length = n
  size : n ≤ cur.size
  max : cur.size ≤ maxLen
  rng : ∀ x ∈ m, 0 ≤ x ∧ x < 256
  cells : ∀ j, j < n → cur[j]? = some (.int .u8 (m.getD j 0))
  num : leN m = leN l ^^^ (turn % 2 ^ i * 2 ^ a)
  bel : Below w.heap.size w wr

theorem TurnRel.byt {w wr : World} {g n : Nat} {l : List Int} {turn a i : Nat} {m : List Int} {cur : Array Value} (h : TurnRel w g n l turn a i m cur wr) : Byt wr (some ⟨g, 0, none⟩) n cur.size m :=
  Byt.of_bk h.blk 0 n cur.size m h.len h.size h.max h.rng (fun j hj => by rw [Nat.zero_add]; exact h.cells j hj)

theorem turn_more (turn i : Nat) : turn % 2 ^ (i + 1) = turn % 2 ^ i + 2 ^ i * (turn / 2 ^ i % 2) := by
  rw [Nat.pow_succ, Nat.mod_mul]

theorem turn_set (turn i a p : Nat) (hp : p = a + i) (h : turn / 2 ^ i % 2 = 1) (x : Nat) : (x ^^^ (turn % 2 ^ i * 2 ^ a)) ^^^ 2 ^ p = x ^^^ (turn % 2 ^ (i + 1) * 2 ^ a) := by
  have e1 : turn % 2 ^ (i + 1) = (turn % 2 ^ i) ^^^ 2 ^ i := by
    have hx := split_xor i (turn % 2 ^ (i + 1))
    have e1 : turn % 2 ^ (i + 1) % 2 ^ i = turn % 2 ^ i := Nat.mod_mod_of_dvd _ ⟨2, by rw [Nat.pow_succ]⟩
    have e2 : turn % 2 ^ (i + 1) / 2 ^ i = turn / 2 ^ i % 2 := by rw [Nat.pow_succ, Nat.mod_mul_right_div_self]
    rw [e1, e2, h, Nat.one_mul] at hx
    exact hx.symm
  rw [e1, hp, Nat.add_comm, Nat.pow_add]
  have sh : ∀ x y : Nat, (x ^^^ y) * 2 ^ a = (x * 2 ^ a) ^^^ (y * 2 ^ a) := fun x y => by
    rw [← Nat.shiftLeft_eq, ← Nat.shiftLeft_eq, ← Nat.shiftLeft_eq, Nat.shiftLeft_xor_distrib]
  rw [sh, Nat.xor_assoc]

theorem turn_keep (turn i : Nat) (h : ¬ turn / 2 ^ i % 2 = 1) : turn % 2 ^ (i + 1) = turn % 2 ^ i := by
  rw [turn_more, show turn / 2 ^ i % 2 = 0 from by omega, Nat.mul_zero, Nat.add_zero]

theorem TurnRel.keep {w wr : World} {g n : Nat} {l : List Int} {turn a i : Nat} {m : List Int} {cur : Array Value} (h : TurnRel w g n l turn a i m cur wr) (hb : ¬ turn / 2 ^ i % 2 = 1) : TurnRel w g n l turn a (i + 1) m cur wr :=
  { h with num := by rw [turn_keep turn i hb]; exact h.num }

/-- The byte that is turned. -/
def turned (m : List Int) (p : Nat) : Nat := (m.getD (p / 8) 0).toNat ^^^ 2 ^ (p % 8)

theorem pow8 (b : Nat) (h : b < 8) : 2 ^ b < 256 := Nat.lt_of_le_of_lt (Nat.pow_le_pow_right (by decide) (show b ≤ 7 by omega)) (by decide)

theorem TurnRel.set {w wr : World} {g n : Nat} {l : List Int} {turn a i : Nat} {m : List Int} {cur : Array Value} (h : TurnRel w g n l turn a i m cur wr) (p : Nat) (hp : p = a + i) (hpn : p < 8 * n) (hb : turn / 2 ^ i % 2 = 1) :
    TurnRel w g n l turn a (i + 1) (m.set (p / 8) ((turned m p : Nat) : Int)) (cur.setIfInBounds (p / 8) (.int .u8 ((turned m p : Nat) : Int))) (wr.setCell ⟨g, p / 8, none⟩ (.int .u8 ((turned m p : Nat) : Int))) := by
  have hj : p / 8 < n := by omega
  have hm : p / 8 < m.length := by rw [h.len]; exact hj
  have hx : 0 ≤ m.getD (p / 8) 0 ∧ m.getD (p / 8) 0 < 256 := by
    have : m.getD (p / 8) 0 = m[p / 8] := by simp [List.getD, List.getElem?_eq_getElem hm]
    rw [this]
    exact h.rng _ (List.getElem_mem hm)
  have hy : turned m p < 256 := Nat.xor_lt_two_pow (n := 8) (by omega) (pow8 _ (Nat.mod_lt _ (by decide)))
  refine ⟨h.blk.setc _ _, h.own, by simp [h.len], by simp [h.size], by simp [h.max], ?_, ?_, ?_, h.bel.setCell h.own _⟩
  · intro x hx
    rcases List.mem_or_eq_of_mem_set hx with h1 | h1
    · exact h.rng x h1
    · subst h1; omega
  · intro j hj
    have hs := h.size
    rw [Array.getElem?_setIfInBounds]
    by_cases e : p / 8 = j
    · subst e
      rw [if_pos rfl, if_pos (by omega)]
      simp [List.getD, hm]
    · rw [if_neg e, h.cells j hj]
      simp [List.getD, e]
  · have := leN_turn m h.rng (p / 8) (p % 8) hm (Nat.mod_lt _ (by decide))
    rw [show 8 * (p / 8) + p % 8 = p from by omega] at this
    unfold turned
    rw [this, h.num, turn_set turn i a p hp hb]

theorem TurnRel.old {w wr : World} {g n : Nat} {l : List Int} {turn a i : Nat} {m : List Int} {cur : Array Value} (h : TurnRel w g n l turn a i m cur wr) (j : Nat) (hj : j < n) : ∃ x : Nat, x = (m.getD j 0).toNat ∧ x < 256 ∧ wr.cell? ⟨g, j, none⟩ = some (.int .u8 (x : Int)) ∧ wr.frozen? ⟨g, j, none⟩ = false := by
  have hm : j < m.length := by rw [h.len]; exact hj
  have hx : 0 ≤ m.getD j 0 ∧ m.getD j 0 < 256 := by
    have : m.getD j 0 = m[j] := by simp [List.getD, List.getElem?_eq_getElem hm]
    rw [this]
    exact h.rng _ (List.getElem_mem hm)
  refine ⟨_, rfl, by omega, ?_, h.blk.frz j⟩
  rw [h.blk.cell, h.cells j hj]
  congr 2
  omega

theorem TurnRel.drew {w wr : World} {g n : Nat} {l : List Int} {turn a i : Nat} {m : List Int} {cur : Array Value} (h : TurnRel w g n l turn a i m cur wr) : TurnRel w g n l turn a i m cur wr.drew :=
  { h with blk := h.blk, bel := ⟨h.bel.os, h.bel.tape, h.bel.output, h.bel.size, h.bel.block⟩ }

theorem TurnRel.start {w w1 : World} {g n c : Nat} {l : List Int} {turn a : Nat} (ho : w1.ownsRow w.heap.size 5 1 (.slice (some ⟨g, 0, none⟩) n c) n (l.map (Value.int .u8))) (hr : ∀ x ∈ l, 0 ≤ x ∧ x < 256) (hb : Below w.heap.size w w1) (hl : l.length = n) :
    ∃ cur, cur.size = c ∧ TurnRel w g n l turn a 0 l cur w1 := by
  have hby := Byt.of_own ho hr
  rcases ho.2 with ⟨hv, _⟩ | ⟨g', cap, cur, hv, hg, hh, hn, hm, hs, _⟩
  · injection hv with h1
    cases h1
  · injection hv with h1 h2 h3
    injection h1 with h1
    injection h1 with h1
    subst h1 h3
    have hblk : Bk w1 g 5 cur := hh
    refine ⟨cur, by omega, hblk, hg, hl, by omega, by omega, hr, fun j hj => ?_, by simp [Nat.mod_one], hb⟩
    by_cases h0 : 0 < n
    · obtain ⟨g1, o1, e, hc⟩ := hby.at_ h0
      injection e with e; injection e with e1 e2; subst e1; subst e2
      have := hc j hj
      rw [hblk.cell, Nat.zero_add] at this
      exact this
    · omega

theorem xor8 (x b : Nat) (hx : x < 256) (hb : b < 256) : bits .xor .u8 (x : Int) (b : Int) = ((x ^^^ b : Nat) : Int) := u8_xor_nat x b hx hb

set_option maxHeartbeats 4000000 in
theorem crcTurns_main (A : Option Addr) (n c : Nat) (l : List Int) (at_ : Int) (a turn : Nat) (w : World) (h : Byt w A n c l) (hn0 : 0 < n) (hn : n ≤ 2000) (ht : turn < 4294967296) (ht0 : turn ≠ 0) (hT : Tab w)
    (hat : (IntKind.u64.wrap at_).tmod (8 * n) = (a : Int)) (ha : a < 8 * n) :
    Calls Tryd.prog 7 #[.slice A n c, .int .i64 at_, .int .u32 turn] w (Ret (.bool true) w) := by
  have HB := Lib.hid h
  have HT := Lib.hid hT
  have z1 : ¬ (2000 : Int) < (n : Int) := by omega
  have z2 : ((n : Int) == 0) = false := by simp; omega
  have z3 : ((turn : Int) == 0) = false := by simp; omega
  have z4 : (8 : Int) * (n : Int) ≤ 16000 := by omega
  have z5 : (0 : Int) < (n : Int) := by omega
  have z6 : (a : Int) ≤ 16000 := by omega
  clear h hT ht0
  go_enter Tryd.func7, Tryd.ntmps7
  go_wp2_with fail
  refine (own_own _ _ _ l _ HB.out (by omega)).mono ?_
  rintro e w1 ⟨A1, k1, c1, rfl, ho1, hr1, b1⟩
  obtain rfl : k1 = n := by have := ho1.1; simp at this; rw [← this, HB.out.len]
  obtain ⟨g, rfl⟩ : ∃ g, A1 = some ⟨g, 0, none⟩ := by
    rcases ho1.2 with ⟨_, h0⟩ | ⟨g, cap, cur, hv, _⟩
    · omega
    · injection hv with h1
      exact ⟨g, h1⟩
  obtain ⟨cur0, hc0, R0⟩ := TurnRel.start (turn := turn) (a := a) ho1 hr1 b1 HB.out.len
  subst hc0
  have HR0 := Lib.hid R0
  clear ho1 hr1 b1 R0
  go_wp2_with fail
  clear hat
  go_loopw [8, 9] (fun s t wr => ∃ (i : Nat) (tb : Bool) (m : List Int) (cur : Array Value), i ≤ 32 ∧ s = .bool tb ∧ t = .int .i64 i ∧ tb = decide (turn % 2 ^ i ≠ 0) ∧ cur.size = cur0.size ∧ TurnRel w g k1 l turn a i m cur wr) (fun _ t _ => 32 - (intOf t).toNat)
  case atStart => exact ⟨0, false, l, cur0, by omega, rfl, rfl, by simp [Nat.mod_one], rfl, HR0.out⟩
  case round =>
    obtain ⟨i, tb, m, cur, hi, rfl, rfl, htb, hcs, hr⟩ := hrel
    have HR := Lib.hid hr
    have HTB := Lib.hid htb
    have HCS := Lib.hid hcs
    clear hr htb hcs HR0
    by_cases hgo : i < 32 ∧ a + i < 8 * k1
    · obtain ⟨hlt, hin⟩ := hgo
      obtain ⟨p, ep⟩ : ∃ p, p = a + i := ⟨_, rfl⟩
      have hsum : (a : Int) + (i : Int) = (p : Int) := by omega
      have hpn : (p : Int) < 8 * (k1 : Int) := by omega
      have hb := bit_of turn i ht
      by_cases h1 : turn / 2 ^ i % 2 = 1
      · rw [h1] at hb
        have HR1 := Lib.hid (HR.out.set p ep (by omega) h1)
        have TB : Hid (true = decide (turn % 2 ^ (i + 1) ≠ 0)) := Lib.hid (by
          have : 0 < 2 ^ i := Nat.pow_pos (by decide)
          rw [turn_more, h1]
          simp)
        obtain ⟨x, ex, hx, hc, hf⟩ := HR.out.old (p / 8) (by omega)
        obtain ⟨j, ej⟩ : ∃ j, p / 8 = j := ⟨_, rfl⟩
        obtain ⟨b, eb⟩ : ∃ b, p % 8 = b := ⟨_, rfl⟩
        have hb8 : b < 8 := by omega
        have ey : turned m p = x ^^^ 2 ^ b := by unfold turned; rw [eb, ← ex]
        have hxor := xor8 x (2 ^ b) hx (pow8 b hb8)
        have hp8 := pow8 b hb8
        have epb : (2 : Int) ^ b = ((2 ^ b : Nat) : Int) := by simp
        obtain ⟨q, eq⟩ : ∃ q, 2 ^ b = q := ⟨_, rfl⟩
        rw [eq] at epb hxor hp8 ey
        obtain ⟨y, ey2⟩ : ∃ y, x ^^^ q = y := ⟨_, rfl⟩
        rw [ey2] at hxor ey
        rw [ej, ey] at HR1
        rw [ej] at hc hf
        have hjk : (j : Int) < (k1 : Int) := by omega
        have hd : (p : Int) / 8 = (j : Int) := by omega
        have hm : (p : Int) % 8 = (b : Int) := by omega
        have EP := Lib.hid ep
        clear ep ex ej eb ey eq ey2 h1
        go_wp2_with fail
        go_region
        go_wp2_with fail
        go_roundw
        case rel => exact ⟨i + 1, true, _, _, by omega, rfl, by go_num, TB.out, by rw [Array.size_setIfInBounds]; exact HCS.out, HR1.out.drew⟩
        case measure => simp [intOf]; omega
      · have HR1 := Lib.hid (HR.out.keep h1)
        have TB : Hid (tb = decide (turn % 2 ^ (i + 1) ≠ 0)) := Lib.hid (by rw [turn_keep turn i h1]; exact HTB.out)
        rw [show turn / 2 ^ i % 2 = 0 from by omega] at hb
        have EP := Lib.hid ep
        clear h1 ep
        go_wp2_with fail
        go_roundw
        case rel => exact ⟨i + 1, tb, m, cur, by omega, rfl, by go_num, TB.out, HCS.out, HR1.out⟩
        case measure => simp [intOf]; omega
    · have hu : turn % 2 ^ i < 4294967296 := Nat.lt_of_le_of_lt (Nat.mod_le _ _) ht
      have hct := crc_turned l m HB.out.rng HR.out.rng (by rw [HB.out.len, HR.out.len]) a (turn % 2 ^ i) (by rw [HB.out.len]; omega) hu HR.out.num
      have HS := Lib.hid (fun A n c w h hT => crcSum_any A n c l w h hT)
      have HS' := Lib.hid (crcSum_any _ _ _ m wr HR.out.byt (HT.out.ret HR.out.bel))
      have L1 := Lib.hid HR.out.bel
      rw [HCS.out] at HS'
      obtain ⟨s, es⟩ : ∃ s, crcL l = s := ⟨_, rfl⟩
      obtain ⟨t, et⟩ : ∃ t, crcL m = t := ⟨_, rfl⟩
      rw [es] at hct HS
      rw [et] at hct HS'
      have HEQ : Hid (((t : Int) == (s : Int)) = !tb) := by
        refine Lib.hid ?_
        rw [HTB.out]
        by_cases hz : turn % 2 ^ i = 0
        · have := hct.2 hz
          simp [hz, this]
        · have : ¬ s = t := fun e => hz (hct.1 e)
          simp [hz]
          omega
      have hq : ((i : Int) < 32 ∧ ¬ (a : Int) + (i : Int) < 8 * (k1 : Int)) ∨ ¬ (i : Int) < 32 := by omega
      have hai : (a : Int) + (i : Int) ≤ 17000 := by omega
      clear hu hct es et hgo
      rcases hq with ⟨q1, q2⟩ | q1
      all_goals
        go_wp2_with fail
        refine HS'.out.mono ?_
        rintro e w2 ⟨rfl, rfl⟩
        go_wp2_with fail
        refine (own_any _ _ _ l _ (HB.out.below L1.out) (by omega)).mono ?_
        rintro e w3 ⟨A3, k3, c3, rfl, hb3, b3⟩
        have HB3 := Lib.hid hb3
        have L3 := Lib.hid (Below.then L1.out b3)
        clear hb3 b3
        go_wp2_with fail
        refine (HS.out _ _ _ _ HB3.out (HT.out.ret L3.out)).mono ?_
        rintro e w4 ⟨rfl, rfl⟩
        have he := HEQ.out
        go_wp2_with fail
        clear he
        refine (awake_any _ (HT.out.ret L3.out)).mono ?_
        rintro e w5 ⟨rfl, b5⟩
        have L5 := Lib.hid (Below.then L3.out b5)
        clear b5
        go_wp2
        go_ret
        exact ⟨rfl, L5.out⟩

theorem u64_wrap_pos (x : Int) : 0 ≤ IntKind.u64.wrap x := by rw [IntKind.wrap_u64]; omega

set_option maxHeartbeats 2000000 in
theorem crcTurns_walk (A : Option Addr) (n c : Nat) (l : List Int) (at_ : Int) (turn : Nat) (w : World) (h : Byt w A n c l) (_hk : n ≤ 140737488351232) (_hat : -9223372036854775808 ≤ at_ ∧ at_ ≤ 9223372036854775807) (ht : turn < 4294967296) (hT : Tab w) :
    Calls Tryd.prog 7 #[.slice A n c, .int .i64 at_, .int .u32 turn] w (Ret (.bool true) w) := by
  by_cases hmain : 0 < n ∧ n ≤ 2000 ∧ turn ≠ 0
  · obtain ⟨h1, h2, h3⟩ := hmain
    have hm0 : 0 ≤ (IntKind.u64.wrap at_).tmod (8 * n) := Int.tmod_nonneg _ (u64_wrap_pos at_)
    have hm1 : (IntKind.u64.wrap at_).tmod (8 * n) < 8 * n := by
      have := Int.tmod_lt_of_pos (IntKind.u64.wrap at_) (show (0 : Int) < 8 * n by omega)
      exact this
    obtain ⟨a, ha⟩ := Int.eq_ofNat_of_zero_le hm0
    exact crcTurns_main A n c l at_ a turn w h h1 h2 ht h3 hT ha (by omega)
  · have HT := Lib.hid hT
    have hs : ((2000 : Int) < (n : Int)) ∨ ((n : Int) ≤ 2000 ∧ ((n : Int) == 0) = true) ∨ ((n : Int) ≤ 2000 ∧ ((n : Int) == 0) = false ∧ ((turn : Int) == 0) = true) := by
      simp
      omega
    clear h hT hmain
    rcases hs with q1 | ⟨q1, q2⟩ | ⟨q1, q2, q3⟩
    all_goals
      go_enter Tryd.func7, Tryd.ntmps7
      go_wp2_with fail
      refine (awake_any _ HT.out).mono ?_
      rintro e w2 ⟨rfl, b2⟩
      have H := Lib.hid b2
      clear b2
      go_wp2
      go_ret
      exact ⟨rfl, H.out⟩
end Go.Proofs.YteogchmhmgngnaaDoor
