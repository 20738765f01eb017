/- What it says: the walk of the law StampTorn: whatever comes in, it answers true and turns nothing that was there. -/
import Derived.Test.YtlchikllgmkokabStAwake
import Derived.Test.YtlchikllgmkokabSame
import Derived.Test.YtlchikllgmkokabStr
namespace Go.Proofs.Ytlchikllgmkokab
open Go.RowKit

theorem cut_eq (cut : Int) : ∃ q : Nat, q ≤ 256 ∧ wrap64 ((IntKind.u64.wrap cut).tmod 257) = q := by
  have e : IntKind.u64.wrap cut = cut % 18446744073709551616 := by simp [IntKind.wrap, IntKind.bits, IntKind.signed]
  have h0 : 0 ≤ cut % 18446744073709551616 := Int.emod_nonneg _ (by omega)
  rw [e, Int.tmod_eq_emod_of_nonneg h0]
  refine ⟨(cut % 18446744073709551616 % 257).toNat, by omega, ?_⟩
  unfold wrap64
  omega

/-- What opening a sector that was torn answers. -/
theorem torn_open {m : Int} {p l : List Int} (hp : p.length ≤ 254) (hs : Sec (wrapL m p)) (hm : 1 ≤ m ∧ m ≤ 3) (hl : l.length = 256) (hn : m ≠ l.getD 255 0) (q : Nat) (hq : q ≤ 256) :
    (q = 256 ∧ openE ((wrapL m p).take q ++ l.drop q) = 0) ∨ (q ≠ 256 ∧ openE ((wrapL m p).take q ++ l.drop q) = 50) ∨ (q = 0 ∧ openE ((wrapL m p).take q ++ l.drop q) = 0) := by
  have hlen : ((wrapL m p).take q ++ l.drop q).length = 256 := by rw [List.length_append, List.length_take, List.length_drop, hs.1, hl]; omega
  by_cases h1 : q = 256
  · refine .inl ⟨h1, ?_⟩
    subst h1
    rw [List.take_of_length_le (by rw [hs.1]; omega), List.drop_of_length_le (by omega), List.append_nil]
    exact openE_right hs.1 (right_wrap hm hp)
  · by_cases h0 : q = 0
    · by_cases hr : rightL ((wrapL m p).take q ++ l.drop q)
      · exact .inr (.inr ⟨h0, openE_right hlen hr⟩)
      · exact .inr (.inl ⟨h1, openE_torn hlen hr⟩)
    · exact .inr (.inl ⟨h1, openE_torn hlen (torn_mix hp hl hn q (by omega) (by omega))⟩)

set_option maxRecDepth 100000 in
set_option maxHeartbeats 4000000 in
theorem stampTorn_walk (A0 : Option Addr) (n0 c0 : Nat) (old : List Int) (A : Option Addr) (n c : Nat) (p : List Int) (cut : Int) (w : World) (h0 : Byt w A0 n0 c0 old) (hz0 : n0 ≤ 140737488351232) (h : Byt w A n c p) (hz : n ≤ 140737488351232) (hcut : -9223372036854775808 ≤ cut ∧ cut ≤ 9223372036854775807) :
    Calls Try.prog 6 #[.slice A0 n0 c0, .slice A n c, .int .i64 cut] w (Ret (.bool true) w) := by
  have hcap := h.cap
  have hmax := h.max
  have hcap0 := h0.cap
  have hmax0 := h0.max
  unfold maxLen at hmax hmax0
  by_cases k1 : 254 < n
  · clear h h0
    go_enter Try.func6, Try.ntmps6
    go_wp2_with fail
    refine (awake_any _).mono ?_
    rintro e w1 ⟨rfl, b1⟩
    have B1 := Lib.hid b1
    clear b1
    go_wp2_with fail
    go_ret
    exact ⟨rfl, B1.out⟩
  by_cases k2 : 256 < n0
  · clear h h0
    go_enter Try.func6, Try.ntmps6
    go_wp2_with fail
    refine (awake_any _).mono ?_
    rintro e w1 ⟨rfl, b1⟩
    have B1 := Lib.hid b1
    clear b1
    go_wp2_with fail
    go_ret
    exact ⟨rfl, B1.out⟩
  obtain ⟨i0, hi, hz0', hz1, hz2⟩ := info_parts info_u8
  have C1 := Lib.hid (own_own A0 n0 c0 old w h0 (by omega))
  have HP := Lib.hid h
  have HL := Lib.hid h.len
  have HN0 := Lib.hid h0.len
  obtain ⟨q, hq, hqe⟩ := cut_eq cut
  clear h h0
  go_enter Try.func6, Try.ntmps6
  go_wp2_with fail
  refine C1.out.mono ?_
  rintro e w1 ⟨A1, n1, c1, rfl, ho1, hr1, hbel1⟩
  have R0 : Hid (∃ l : List Int, (∀ x ∈ l, 0 ≤ x ∧ x < 256) ∧ w1.ownsRow w.heap.size 5 1 (.slice A1 n1 c1) n1 (l.map (Value.int .u8)) ∧ Below w.heap.size w w1) := Lib.hid ⟨old, hr1, ho1, hbel1⟩
  have hn1 : n1 ≤ 256 := by
    have q1 := ho1.1
    have q2 := HN0.out
    rw [List.length_map] at q1
    omega
  clear ho1 hr1 hbel1 C1
  go_wp2_with fail
  go_loopw [7] (fun v wr => ∃ (B : Option Addr) (k d : Nat), k ≤ 256 ∧ v = .slice B k d ∧ ∃ l : List Int, (∀ x ∈ l, 0 ≤ x ∧ x < 256) ∧ wr.ownsRow w.heap.size 5 1 (.slice B k d) k (l.map (Value.int .u8)) ∧ Below w.heap.size w wr) (fun v _ => 256 - (match v with | .slice _ k _ => k | _ => 0))
  case atStart => exact ⟨A1, n1, c1, hn1, rfl, R0.out⟩
  case round =>
    obtain ⟨B, k, d, hk, rfl, l, hrl, ho, hb⟩ := hrel
    have HO := Lib.hid ho
    have HB := Lib.hid hb
    have HR := Lib.hid hrl
    clear ho hb hrl R0
    by_cases hlt : k < 256
    · have ho2 := HO.out.alloc (.cells #[.int .u8 k] 5)
      have hb2 := byt_one wr k (by omega)
      go_wp2_with (at_builtin; refine wpList_append_byt rfl _ _ 22 rfl w.heap.size 5 i0 Try.underlying22 hi hz0' hz1 hz2 _ k l rfl (by exact ho2) _ 1 1 [(k : Int)] rfl (by exact hb2) (by omega) (by have := HB.out.size; simp; omega) ?_)
      intro A2 c2 w2 h1' h2'
      have R : Hid (∃ l : List Int, (∀ x ∈ l, 0 ≤ x ∧ x < 256) ∧ w2.ownsRow w.heap.size 5 1 (.slice A2 (k + 1) c2) (k + 1) (l.map (Value.int .u8)) ∧ Below w.heap.size w w2) := Lib.hid ⟨l ++ [(k : Int)], by
          intro x hx
          rcases List.mem_append.1 hx with q | q
          · exact HR.out x q
          · simp at q; omega, by rw [List.map_append]; exact h1', (HB.out.alloc HB.out.size _).grown h2' (by have := HB.out.size; simp; omega) (fun q hq => (HO.out.lt q hq).1)⟩
      clear h1' h2' ho2 hb2
      go_wp2_with fail
      go_roundw
      case rel => exact ⟨A2, k + 1, c2, by omega, rfl, R.out⟩
      case measure => simp; omega
    · obtain rfl : k = 256 := by omega
      have HW : Hid (Byt wr B 256 d l) := Lib.hid (Byt.of_own HO.out HR.out)
      have hc2 := HW.out.cap
      have hm2 := HW.out.max
      unfold maxLen at hm2
      have C2 := Lib.hid (own_any B 256 d l wr HW.out (by omega))
      clear HO hlt
      go_wp2_with fail
      refine C2.out.mono ?_
      rintro e w2 ⟨A2, n2, c2, rfl, hb2, hbel2⟩
      have C3 := Lib.hid (next_any A2 n2 c2 l w2 hb2)
      have HLL : Hid (l.length = 256) := Lib.hid HW.out.len
      have HV : Hid (nextV l = nextOf l ∧ nextE l = 0) := Lib.hid ⟨by unfold nextV; rw [if_neg (by rw [HLL.out]; omega)], by unfold nextE; rw [if_neg (by rw [HLL.out]; omega)]⟩
      rw [HV.out.1, HV.out.2] at C3
      have B2 := Lib.hid (HB.out.trans (hbel2.mono HB.out.size))
      have HW2 := Lib.hid (HW.out.below hbel2)
      obtain ⟨m, hm⟩ : ∃ m, nextOf l = m := ⟨_, rfl⟩
      have HM := Lib.hid hm
      have hm13 := nextOf_rng l
      rw [hm] at C3 hm13
      clear hb2 hbel2 C2 hm
      go_wp2_with fail
      refine C3.out.mono ?_
      rintro e w3 ⟨rfl, rfl⟩
      have C4 := Lib.hid (own_any A n c p w2 (HP.out.below B2.out) (by omega))
      clear C3
      go_wp2_with fail
      refine C4.out.mono ?_
      rintro e w3 ⟨A3, n3, c3, rfl, hb3, hbel3⟩
      have B3 := Lib.hid (B2.out.trans (hbel3.mono B2.out.size))
      have HW3 := Lib.hid (HW2.out.below hbel3)
      have C5 := Lib.hid (wrap_any m (by omega) A3 n3 c3 p w3 hb3)
      rw [wrapE_ok (by omega) (by rw [HL.out]; omega), wrapB_ok (by omega) (by rw [HL.out]; omega)] at C5
      clear hb3 hbel3 C4
      go_wp2_with fail
      refine C5.out.mono ?_
      rintro e w4 ⟨A4, n4, c4, rfl, hb4, hbel4⟩
      have B4 := Lib.hid (B3.out.trans (hbel4.mono B3.out.size))
      have HW4 := Lib.hid (HW3.out.below hbel4)
      have HSEC : Hid (Sec (wrapL m p)) := Lib.hid (wrapL_sec (by omega) HP.out.rng (by rw [HL.out]; omega))
      obtain rfl : n4 = 256 := by rw [← hb4.len]; exact HSEC.out.1
      have H4 := Lib.hid hb4
      have hc4 := hb4.cap
      have hm4 := hb4.max
      unfold maxLen at hm4
      clear hb4 hbel4 C5
      have C6 := Lib.hid (own_own A4 q c4 _ w4 (H4.out.take q hq) (by omega))
      go_wp2_with fail
      refine C6.out.mono ?_
      rintro e w5 ⟨A5, n5, c5, rfl, ho5, hr5, hbel5⟩
      obtain rfl : n5 = q := by
        have q1 := ho5.1
        rw [List.length_map, List.length_take, HSEC.out.1] at q1
        omega
      have B5 := Lib.hid (B4.out.trans (hbel5.mono B4.out.size))
      have HB45 := Lib.hid hbel5
      have HW5 := Lib.hid (HW4.out.below hbel5)
      obtain ⟨BB, mm, dd, hs, rfl, hbb⟩ := cut_l HW5.out n5 hq (n5 : Int) rfl
      have e256 : n5 + (256 - n5) = 256 := by omega
      have E256 := Lib.hid e256
      clear e256
      have HR5 := Lib.hid hr5
      clear hbel5 C6 hr5
      go_wp2_with (at_builtin; refine wpList_append_byt rfl _ _ 22 rfl w4.heap.size 5 i0 Try.underlying22 hi hz0' hz1 hz2 _ n5 _ rfl (by exact ho5) BB (256 - n5) dd _ rfl (by exact hbb) (by omega) (by exact HB45.out.size) ?_)
      intro A6 c6 w6 h1' h2'
      rw [← List.map_take, ← List.map_drop] at h1'
      have HB6 : Hid (Byt w6 A6 256 c6 ((wrapL m p).take n5 ++ l.drop n5) ∧ Below w.heap.size w w6) := Lib.hid ⟨app_byt h1' HR5.out hbb.rng, B4.out.trans ((HB45.out.grown h2' HB45.out.size (fun k hk => (ho5.lt k hk).1)).mono B4.out.size)⟩
      have C7 := Lib.hid (open_any A6 256 c6 _ w6 HB6.out.1)
      have HCS := Lib.hid (torn_open (m := m) (p := p) (l := l) (by rw [HL.out]; omega) HSEC.out hm13 HLL.out (by rw [← HM.out]; exact (nextB_ne _ _).2) n5 hq)
      obtain ⟨oe, hoe⟩ : ∃ oe, openE ((wrapL m p).take n5 ++ l.drop n5) = oe := ⟨_, rfl⟩
      rw [hoe] at C7 HCS
      clear h1' h2' ho5 hs hbb hoe
      rcases HCS.out with ⟨e1, e2⟩ | ⟨e1, e2⟩ | ⟨e1, e2⟩
      · subst e1 e2
        go_wp2_with fail
        refine C7.out.mono ?_
        rintro e w7 ⟨A7, n7, c7, rfl, _, hbel7⟩
        have B7 := Lib.hid (HB6.out.2.trans (hbel7.mono HB6.out.2.size))
        clear hbel7 C7
        go_wp2_with fail
        refine (awake_any _).mono ?_
        rintro e w8 ⟨rfl, b8⟩
        have B8 := Lib.hid (B7.out.trans (b8.mono B7.out.size))
        clear b8
        go_wp2_with fail
        go_ret
        exact ⟨rfl, B8.out⟩
      · subst e2
        have hd : ((n5 : Int) == 256) = false := by simp; omega
        clear e1
        go_wp2_with fail
        refine C7.out.mono ?_
        rintro e w7 ⟨A7, n7, c7, rfl, _, hbel7⟩
        have B7 := Lib.hid (HB6.out.2.trans (hbel7.mono HB6.out.2.size))
        clear hbel7 C7
        go_wp2_with fail
        refine (awake_any _).mono ?_
        rintro e w8 ⟨rfl, b8⟩
        have B8 := Lib.hid (B7.out.trans (b8.mono B7.out.size))
        clear b8
        go_wp2_with fail
        go_ret
        exact ⟨rfl, B8.out⟩
      · subst e1 e2
        go_wp2_with fail
        refine C7.out.mono ?_
        rintro e w7 ⟨A7, n7, c7, rfl, _, hbel7⟩
        have B7 := Lib.hid (HB6.out.2.trans (hbel7.mono HB6.out.2.size))
        clear hbel7 C7
        go_wp2_with fail
        refine (awake_any _).mono ?_
        rintro e w8 ⟨rfl, b8⟩
        have B8 := Lib.hid (B7.out.trans (b8.mono B7.out.size))
        clear b8
        go_wp2_with fail
        go_ret
        exact ⟨rfl, B8.out⟩
end Go.Proofs.Ytlchikllgmkokab
