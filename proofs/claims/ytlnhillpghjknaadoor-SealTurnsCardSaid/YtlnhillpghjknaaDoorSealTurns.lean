/- What it says: the Go text of trothlaw03.SealTurns answers true, and writes nothing that was there. -/
import Derived.Test.YtlnhillpghjknaaDoorTurnMath
import Derived.Test.YtlnhillpghjknaaDoorTurn
namespace Go.Proofs.YtlnhillpghjknaaDoor
open Go.RowKit

theorem u64_tmod (at_ : Int) (B : Nat) (hB : 0 < B) : ∃ a : Nat, (IntKind.u64.wrap at_).tmod (B : Int) = (a : Int) ∧ a < B := by
  have h0 : 0 ≤ (IntKind.u64.wrap at_).tmod (B : Int) := Int.tmod_nonneg _ (u64_wrap_pos at_)
  have h1 := Int.tmod_lt_of_pos (IntKind.u64.wrap at_) (show (0 : Int) < B by omega)
  obtain ⟨a, ha⟩ := Int.eq_ofNat_of_zero_le h0
  exact ⟨a, ha, by omega⟩

set_option maxHeartbeats 4000000 in
theorem sealTurns_main (A : Option Addr) (n c : Nat) (l : List Int) (at_ : Int) (turn : Nat) (w : World) (h : Byt w A n c l) (hn : n ≤ 1000) (ht : turn < 4294967296) (hT : Tab w) (a B : Nat) (hB : B = 8 * (n + 4))
    (hat : (IntKind.u64.wrap at_).tmod (B : Int) = (a : Int)) (ha : a < B) :
    Calls Tryd.prog 8 #[.slice A n c, .int .i64 at_, .int .u32 turn] w (Ret (.bool true) w) := by
  have hlen := h.len
  have HB := Lib.hid h
  have HT := Lib.hid hT
  have z1 : ¬ (1000 : Int) < (n : Int) := by omega
  clear h hT
  obtain ⟨hd, ehd⟩ : ∃ hd, hd = (shortL l.length).length := ⟨_, rfl⟩
  have hd1 : 0 < hd := by rw [ehd]; exact shortL_pos _
  have hd2 : hd ≤ 10 := by rw [ehd]; exact shortL_len _ (by omega)
  have hsl : (sealL l).length = hd + n + 4 := by rw [sealL_len, ehd]; simp [textL]; omega
  have HAT := Lib.hid hat
  have EHD := Lib.hid ehd
  have HSL := Lib.hid hsl
  have HBB := Lib.hid hB
  have hB2 : (B : Int) ≤ 8032 := by omega
  have hB3 : (0 : Int) < (B : Int) := by omega
  clear ehd hsl hat hB
  go_enter Tryd.func8, Tryd.ntmps8
  go_wp2_with fail
  refine (own_any A n c l w HB.out (by omega)).mono ?_
  rintro e w1 ⟨A1, n1, c1, rfl, hb1, b1⟩
  have C1 := Lib.hid (seal_any A1 n1 c1 l w1 hb1 (HT.out.ret b1))
  have L1 := Lib.hid b1
  clear hb1 b1
  go_wp2_with fail
  refine C1.out.mono ?_
  intro e w2 h2
  unfold SealPost at h2
  rw [if_neg (by omega)] at h2
  obtain ⟨A2, n2, c2, rfl, ho2, hr2, b2⟩ := h2
  have hn2 : n2 = hd + n + 4 := by rw [← HSL.out]; have := ho2.1; simp at this; exact this.symm
  obtain ⟨g, rfl⟩ : ∃ g, A2 = some ⟨g, 0, none⟩ := by
    rcases ho2.2 with ⟨_, h0⟩ | ⟨g, cap, cur, hv, _⟩
    · omega
    · injection hv with h1
      exact ⟨g, h1⟩
  obtain ⟨q, eq⟩ : ∃ q, q = 8 * hd + a := ⟨_, rfl⟩
  obtain ⟨cur0, hc0, R0⟩ := TurnRel.start (turn := turn) (a := q) ho2 hr2 b2 (by rw [HSL.out, hn2])
  subst hc0
  have HR0 := Lib.hid R0
  have e1 : (n2 : Int) - (n : Int) - 4 = (hd : Int) := by omega
  have e2 : (8 : Int) * ((n2 : Int) - (hd : Int)) = (B : Int) := by have := HBB.out; omega
  have HN2 := Lib.hid hn2
  have n2b : (n2 : Int) ≤ 1014 := by omega
  have EQ := Lib.hid eq
  have hcs := b2.size
  have hat := HAT.out
  clear ho2 hr2 b2 R0 C1 hn2 eq hcs
  go_wp2_with fail
  clear hat e1 e2
  go_loopw [11, 12] (fun s t wr => ∃ (i : Nat) (tb : Bool) (m : List Int) (cur : Array Value), i ≤ 32 ∧ s = .bool tb ∧ t = .int .i64 i ∧ tb = decide (turn % 2 ^ i ≠ 0) ∧ cur.size = cur0.size ∧ TurnRel w1 g n2 (sealL l) turn q i m cur wr) (fun _ t _ => 32 - (intOf t).toNat)
  case atStart => exact ⟨0, false, sealL l, cur0, by omega, rfl, rfl, by simp [Nat.mod_one], rfl, HR0.out⟩
  case round =>
    obtain ⟨i, tb, m, cur, hi, rfl, rfl, htb, hcs, hr⟩ := hrel
    have HR := Lib.hid hr
    have HTB := Lib.hid htb
    have HCS := Lib.hid hcs
    clear hr htb hcs HR0
    by_cases hgo : i < 32 ∧ a + i < B
    · obtain ⟨hlt, hin⟩ := hgo
      obtain ⟨p, ep⟩ : ∃ p, p = q + i := ⟨_, rfl⟩
      have hq : (8 : Int) * (hd : Int) + (a : Int) = (q : Int) := by have := EQ.out; omega
      have hsum : (q : Int) + (i : Int) = (p : Int) := by omega
      have hin' : (a : Int) + (i : Int) < (B : Int) := by omega
      have hpn : (p : Int) < 8 * (n2 : Int) := by have := EQ.out; have := HN2.out; have := HBB.out; omega
      have hb := bit_of turn i ht
      by_cases h1 : turn / 2 ^ i % 2 = 1
      · rw [h1] at hb
        have HR1 := Lib.hid (HR.out.set p ep (by omega) h1)
        have TB : Hid (true = decide (turn % 2 ^ (i + 1) ≠ 0)) := Lib.hid (by
          have : 0 < 2 ^ i := Nat.pow_pos (by decide)
          rw [turn_more, h1]
          simp)
        obtain ⟨x, ex, hx, hc, hf⟩ := HR.out.old (p / 8) (by omega)
        obtain ⟨j, ej⟩ : ∃ j, p / 8 = j := ⟨_, rfl⟩
        obtain ⟨b, eb⟩ : ∃ b, p % 8 = b := ⟨_, rfl⟩
        have hb8 : b < 8 := by omega
        have ey : turned m p = x ^^^ 2 ^ b := by unfold turned; rw [eb, ← ex]
        have hxor := xor8 x (2 ^ b) hx (pow8 b hb8)
        have hp8 := pow8 b hb8
        have epb : (2 : Int) ^ b = ((2 ^ b : Nat) : Int) := by simp
        obtain ⟨r, er⟩ : ∃ r, 2 ^ b = r := ⟨_, rfl⟩
        rw [er] at epb hxor hp8 ey
        obtain ⟨y, ey2⟩ : ∃ y, x ^^^ r = y := ⟨_, rfl⟩
        rw [ey2] at hxor ey
        rw [ej, ey] at HR1
        rw [ej] at hc hf
        have hjk : (j : Int) < (n2 : Int) := by omega
        have hdj : (p : Int) / 8 = (j : Int) := by omega
        have hm : (p : Int) % 8 = (b : Int) := by omega
        have EP := Lib.hid ep
        clear ep ex ej eb ey er ey2 h1
        go_wp2_with fail
        go_region
        go_wp2_with fail
        go_roundw
        case rel => exact ⟨i + 1, true, _, _, by omega, rfl, by go_num, TB.out, by rw [Array.size_setIfInBounds]; exact HCS.out, HR1.out.drew⟩
        case measure => simp [intOf]; omega
      · have HR1 := Lib.hid (HR.out.keep h1)
        have TB : Hid (tb = decide (turn % 2 ^ (i + 1) ≠ 0)) := Lib.hid (by rw [turn_keep turn i h1]; exact HTB.out)
        rw [show turn / 2 ^ i % 2 = 0 from by omega] at hb
        have EP := Lib.hid ep
        clear h1 ep hq hsum hpn
        go_wp2_with fail
        go_roundw
        case rel => exact ⟨i + 1, tb, m, cur, by omega, rfl, by go_num, TB.out, HCS.out, HR1.out⟩
        case measure => simp [intOf]; omega
    · have hu : turn % 2 ^ i < 4294967296 := Nat.lt_of_le_of_lt (Nat.mod_le _ _) ht
      have hnum := HR.out.num
      have hml : m.length = (sealL l).length := by rw [HR.out.len, HSL.out, HN2.out]
      have L2 := Lib.hid (Below.then L1.out HR.out.bel)
      have hq : ((i : Int) < 32 ∧ ¬ (a : Int) + (i : Int) < (B : Int)) ∨ ¬ (i : Int) < 32 := by omega
      have hai : (a : Int) + (i : Int) ≤ 17000 := by omega
      by_cases hz : turn % 2 ^ i = 0
      · rw [hz] at hnum
        have em : m = sealL l := unturned (sealL l) m (sealL_rng HB.out.rng) HR.out.rng hml q hnum
        have C := open_any (some ⟨g, 0, none⟩) n2 cur.size m wr HR.out.byt (by omega) (HT.out.ret L2.out) l (sealL l).length 0 (by rw [em]; exact open_seal0 l (by omega))
        rw [HCS.out] at C
        have C := Lib.hid C
        have htb : tb = false := by rw [HTB.out, hz]; rfl
        subst htb
        clear hu hgo hnum hml hz em
        rcases hq with ⟨q1, q2⟩ | q1
        all_goals
          go_wp2_with fail
          refine C.out.mono ?_
          rintro e w3 ⟨A3, n3, c3, rfl, hb3, b3⟩
          have HB3 := Lib.hid hb3
          have L3 := Lib.hid (Below.then L2.out b3)
          clear hb3 b3
          go_wp2_with fail
          refine (Quiet.ret (same_yes _ _ _ _ _ _ _ _ _ HB3.out (HB.out.below L3.out) rfl)).mono ?_
          rintro e w4 ⟨rfl, b4⟩
          have L4 := Lib.hid (Below.then L3.out b4)
          clear b4
          go_wp2_with fail
          refine (awake_any _ (HT.out.ret L4.out)).mono ?_
          rintro e w5 ⟨rfl, b5⟩
          have L5 := Lib.hid (Below.then L4.out b5)
          clear b5
          go_wp2
          go_ret
          exact ⟨rfl, L5.out⟩
      · have C := open_any (some ⟨g, 0, none⟩) n2 cur.size m wr HR.out.byt (by omega) (HT.out.ret L2.out) [] 0 30 (open_turned l m (by omega) HB.out.rng HR.out.rng hml a (turn % 2 ^ i) hu hz (by rw [hnum, EQ.out, EHD.out]))
        rw [HCS.out] at C
        have C := Lib.hid C
        have htb : tb = true := by rw [HTB.out]; simp [hz]
        subst htb
        clear hu hgo hnum hml hz
        rcases hq with ⟨q1, q2⟩ | q1
        all_goals
          go_wp2_with fail
          refine C.out.mono ?_
          rintro e w3 ⟨A3, n3, c3, rfl, hb3, b3⟩
          have hn3 : n3 = 0 := by have := hb3.len; simpa using this.symm
          subst hn3
          have L3 := Lib.hid (Below.then L2.out b3)
          clear hb3 b3
          go_wp2_with fail
          refine (awake_any _ (HT.out.ret L3.out)).mono ?_
          rintro e w5 ⟨rfl, b5⟩
          have L5 := Lib.hid (Below.then L3.out b5)
          clear b5
          go_wp2
          go_ret
          exact ⟨rfl, L5.out⟩

set_option maxHeartbeats 2000000 in
theorem sealTurns_walk (A : Option Addr) (n c : Nat) (l : List Int) (at_ : Int) (turn : Nat) (w : World) (h : Byt w A n c l) (_hk : n ≤ 140737488351232) (_hat : -9223372036854775808 ≤ at_ ∧ at_ ≤ 9223372036854775807) (ht : turn < 4294967296) (hT : Tab w) :
    Calls Tryd.prog 8 #[.slice A n c, .int .i64 at_, .int .u32 turn] w (Ret (.bool true) w) := by
  by_cases hlong : (1000 : Int) < (n : Int)
  · have HT := Lib.hid hT
    clear h hT
    go_enter Tryd.func8, Tryd.ntmps8
    go_wp2_with fail
    refine (awake_any _ HT.out).mono ?_
    rintro e w2 ⟨rfl, b2⟩
    have H := Lib.hid b2
    clear b2
    go_wp2
    go_ret
    exact ⟨rfl, H.out⟩
  · obtain ⟨a, ha, hab⟩ := u64_tmod at_ (8 * (n + 4)) (by omega)
    exact sealTurns_main A n c l at_ turn w h (by omega) ht hT a _ rfl ha hab
end Go.Proofs.YtlnhillpghjknaaDoor
