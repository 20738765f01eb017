/- What it says: the walk of the law StampPuts: whatever comes in, it answers true and turns nothing that was there. -/
import Derived.Test.YtlchikllgmkokabStAwake
import Derived.Test.YtlchikllgmkokabStPutsM
import Derived.Test.YtlchikllgmkokabStDone
import Derived.Test.YtlchikllgmkokabSame
import Derived.Test.YtlchikllgmkokabHead
import Derived.Deep.CutBlock
import Derived.Deep.QuietTactic
import Derived.BigQuiet
namespace Go.Proofs.Ytlchikllgmkokab
open Go.RowKit

theorem padz_next {p : List Int} {k : Nat} (h : p.length ≤ k) : p ++ List.replicate (k - p.length) 0 ++ [(0 : Int)] = p ++ List.replicate (k + 1 - p.length) 0 := by
  rw [show k + 1 - p.length = (k - p.length) + 1 from by omega, List.replicate_succ', List.append_assoc]

theorem build_cr (A : Option Addr) (m c : Nat) (t : Bool) (x : Int) : Try.prog.built 49 [(0, .slice A m c), (1, .bool t), (2, .int .i64 x)] = some #[.slice A m c, .bool t, .int .i64 x] := by
  kernel_rfl

set_option maxRecDepth 100000 in
set_option maxHeartbeats 40000000 in
theorem stampPuts_walk (A : Option Addr) (n c : Nat) (cs : List Don) (w : World) (h : Dns w A n c cs) :
    Calls Try.prog 7 #[.slice A n c] w (Ret (.bool true) w) := by
  obtain ⟨i0, hi, hz0, hz1, hz2⟩ := info_parts info_u8
  have hcap := h.cap
  have hmax := h.max
  unfold maxLen at hmax
  have HX := Lib.hid h
  clear h
  by_cases hlong : 40 < n
  · go_enter Try.func7, Try.ntmps7
    go_wp2_with fail
    refine (awake_any _).mono ?_
    rintro e w1 ⟨rfl, b1⟩
    have B1 := Lib.hid b1
    clear b1
    go_wp2_with fail
    go_ret
    exact ⟨rfl, B1.out⟩
  have CN := Lib.hid (hasD_new (Has.emp w.heap.size w) (Nat.le_refl w.heap.size) 4 (by omega))
  go_enter Try.func7, Try.ntmps7
  go_wp2_with fail
  refine CN.out.mono ?_
  rintro e w1 ⟨b, rfl, h1, b1⟩
  have R0 : Hid (∃ s X v l, Pts s 0 ∧ Has w.heap.size ((dsk b s).star ((hav w1.heap.size (fun m => openB (s.syn m)) v l).star X)) (w1.alloc (.cells #[.slice none 0 0, .slice none 0 0, .slice none 0 0, .slice none 0 0] 46)) ∧ Below w.heap.size w (w1.alloc (.cells #[.slice none 0 0, .slice none 0 0, .slice none 0 0, .slice none 0 0] 46))) := Lib.hid ⟨St.new 4, emp, _, _, Pts.start, by
      have hn := hav_new h1 b1.size
      have hz : ∀ m, m < 4 → [] = openB ((St.new 4).syn m) := fun m _ => by
        show [] = openB zeros
        rw [openB_bad]
        rw [openE_torn zeros_sec.1 (fun q => by
          have : zeros.getD 0 0 = 0 := rfl
          have := q.2.1
          omega)]
        simp
      exact (hav_congr hn hz).swap, b1.alloc b1.size _⟩
  obtain ⟨q0, hq0⟩ : ∃ q0, w1.heap.size = q0 := ⟨_, rfl⟩
  obtain ⟨W1, hW1⟩ : ∃ W1, w1.alloc (.cells #[.slice none 0 0, .slice none 0 0, .slice none 0 0, .slice none 0 0] 46) = W1 := ⟨_, rfl⟩
  rw [hq0, hW1] at R0
  have HQ := Lib.hid hq0
  have HW1 := Lib.hid hW1
  clear h1 b1 CN hW1 hq0
  go_wp2_with fail
  rw [HW1.out, HQ.out]
  clear HW1 HQ
  go_loopw [3, 6] (fun d q wr => ∃ k b, k ≤ n ∧ d = .pointer (some ⟨b, 0, none⟩) ∧ q = .int .i64 (k : Nat) ∧ ∃ s X v l, Pts s k ∧ Has w.heap.size ((dsk b s).star ((hav q0 (fun m => openB (s.syn m)) v l).star X)) wr ∧ Below w.heap.size w wr) (fun _ q _ => n - (intOf q).toNat)
  case atStart => exact ⟨0, b, Nat.zero_le _, rfl, rfl, R0.out⟩
  case round =>
    obtain ⟨k, b, hkn, rfl, rfl, s, X, v, l, hp, hs, hb⟩ := hrel
    have HP := Lib.hid hp
    have HS := Lib.hid hs
    have HOK := Lib.hid (hasD_ok hs)
    have HB := Lib.hid hb
    clear hp hs hb R0
    by_cases hlt : k < n
    · obtain ⟨qd, off, rfl, hc⟩ := HX.out.at_ (by omega)
      have hin := HX.out.each k hlt
      obtain ⟨cl, hcl⟩ : ∃ cl, cs.getD k default = cl := ⟨_, rfl⟩
      have hc0 := hc k hlt
      rw [hcl] at hin hc0
      have X0 : ∀ j v, cl.cells[j]? = some v → wr.cell? ⟨qd, off + k * 6 + j, none⟩ = some v := fun j v hv => (HB.out.cell (World.block_lt_of_cell? w _ (hc0 j v hv))).trans (hc0 j v hv)
      have x0 : wr.cell? ⟨qd, off + k * 6, none⟩ = some (.int .i64 cl.n) := X0 0 _ rfl
      have x1 : wr.cell? ⟨qd, off + k * 6 + 1, none⟩ = some (.slice cl.pA cl.pn cl.pc) := X0 1 _ rfl
      have x2 : wr.cell? ⟨qd, off + k * 6 + 2, none⟩ = some (.slice cl.kA cl.kn cl.kc) := X0 2 _ rfl
      have x3 : wr.cell? ⟨qd, off + k * 6 + 3, none⟩ = some (.bool cl.crs.torn) := X0 3 _ rfl
      have x4 : wr.cell? ⟨qd, off + k * 6 + 4, none⟩ = some (.int .i64 cl.crs.cut) := X0 4 _ rfl
      have x5 : wr.cell? ⟨qd, off + k * 6 + 5, none⟩ = some (.bool cl.falls) := X0 5 _ rfl
      have HIN := Lib.hid (hin.below HB.out)
      have HINW := Lib.hid hin
      have hcn := hin.n
      have hcut := hin.cut
      have hpc := hin.pay.cap
      have hpm := hin.pay.max
      have hkc := hin.keep.cap
      have hkm := hin.keep.max
      unfold maxLen at hpm hkm
      have hk0 : (0 : Int) ≤ (k : Int) := Int.natCast_nonneg _
      have hk1 : (k : Int) < (n : Int) := by omega
      clear hc hc0 hin X0 hcl
      obtain ⟨cn, hcn'⟩ : ∃ cn, cl.n = cn := ⟨_, rfl⟩
      obtain ⟨fl, hfl⟩ : ∃ fl, cl.falls = fl := ⟨_, rfl⟩
      obtain ⟨tn, htn⟩ : ∃ tn, cl.crs.torn = tn := ⟨_, rfl⟩
      obtain ⟨ct, hct⟩ : ∃ ct, cl.crs.cut = ct := ⟨_, rfl⟩
      have HCR : Hid (cl.crs.torn = tn ∧ cl.crs.cut = ct) := Lib.hid ⟨htn, hct⟩
      rw [hcn'] at hcn x0
      rw [hfl] at x5
      rw [htn] at x3
      rw [hct] at hcut x4
      clear hcn' hfl htn hct
      by_cases g1 : cn < 0
      · go_wp2_with fail
        go_roundw
        case rel => exact ⟨k + 1, b, by omega, rfl, by go_num, s, X, v, l, HP.out.next, HS.out.below ((Below.refl _ _).alloc (Nat.le_refl _) _), HB.out.alloc HB.out.size _⟩
        case measure => simp [intOf]; omega
      by_cases g2 : 3 < cn
      · go_wp2_with fail
        go_roundw
        case rel => exact ⟨k + 1, b, by omega, rfl, by go_num, s, X, v, l, HP.out.next, HS.out.below ((Below.refl _ _).alloc (Nat.le_refl _) _), HB.out.alloc HB.out.size _⟩
        case measure => simp [intOf]; omega
      by_cases g3 : 254 < cl.pn
      · go_wp2_with fail
        go_roundw
        case rel => exact ⟨k + 1, b, by omega, rfl, by go_num, s, X, v, l, HP.out.next, HS.out.below ((Below.refl _ _).alloc (Nat.le_refl _) _), HB.out.alloc HB.out.size _⟩
        case measure => simp [intOf]; omega
      by_cases g4 : 20 < cl.kn
      · go_wp2_with fail
        go_roundw
        case rel => exact ⟨k + 1, b, by omega, rfl, by go_num, s, X, v, l, HP.out.next, HS.out.below ((Below.refl _ _).alloc (Nat.le_refl _) _), HB.out.alloc HB.out.size _⟩
        case measure => simp [intOf]; omega
      obtain ⟨nn, rfl⟩ := Int.eq_ofNat_of_zero_le (show 0 ≤ cn by omega)
      have hnn : nn < 4 := by omega
      obtain ⟨W0, hW0⟩ : ∃ W0, wr.alloc (.cells #[.int .i64 nn, .slice cl.pA cl.pn cl.pc, .slice cl.kA cl.kn cl.kc, .bool tn, .int .i64 ct, .bool fl] 51) = W0 := ⟨_, rfl⟩
      obtain ⟨qx, hqx⟩ : ∃ qx, wr.heap.size = qx := ⟨_, rfl⟩
      have HWR : Hid (Below wr.heap.size wr W0) := Lib.hid (by rw [← hW0]; exact (Below.refl _ _).alloc (Nat.le_refl _) _)
      have HS0 : Hid (Has w.heap.size ((dsk b s).star ((hav q0 (fun m => openB (s.syn m)) v l).star (X.star (blkR qx 51 #[.int .i64 nn, .slice cl.pA cl.pn cl.pc, .slice cl.kA cl.kn cl.kc, .bool tn, .int .i64 ct, .bool fl])))) W0) := Lib.hid (by
        have := toP (blkR_new 51 #[.int .i64 nn, .slice cl.pA cl.pn cl.pc, .slice cl.kA cl.kn cl.kc, .bool tn, .int .i64 ct, .bool fl] HS.out HB.out.size)
        rwa [hW0, hqx] at this)
      have HB0 := Lib.hid (HB.out.trans (HWR.out.mono HB.out.size))
      have HIN0 := Lib.hid (HIN.out.below HWR.out)
      have C1 := Lib.hid (own_own cl.pA cl.pn cl.pc cl.pay W0 HIN0.out.pay (by omega))
      have HPL := Lib.hid HIN0.out.pay.len
      have HW0 := Lib.hid hW0
      have HQX := Lib.hid hqx
      clear hW0 hqx
      go_wp2_with fail
      rw [HW0.out]
      (try rw [HQX.out])
      clear HW0 HQX x0 x1 x2 x3 x4 x5
      refine C1.out.mono ?_
      rintro e W2 ⟨A2, n2, c2, rfl, ho2, hr2, hbel2⟩
      have R2 : Hid (W2.ownsRow W0.heap.size 5 1 (.slice A2 n2 c2) n2 ((cl.pay ++ List.replicate (n2 - cl.pay.length) 0).map (Value.int .u8)) ∧ Below W0.heap.size W0 W2) := Lib.hid ⟨by
        have q1 := ho2.1
        rw [List.length_map] at q1
        rw [show n2 - cl.pay.length = 0 from by omega, List.replicate_zero, List.append_nil]
        exact ho2, hbel2⟩
      have hn2 : cl.pay.length ≤ n2 ∧ n2 ≤ 254 := by
        have q1 := ho2.1
        have q2 := HPL.out
        rw [List.length_map] at q1
        omega
      have HN2 := Lib.hid hn2.1
      have hn2' := hn2.2
      have HRR := Lib.hid hr2
      clear ho2 hr2 hbel2 C1 hn2
      clear HS HB HIN HWR
      go_wp2_with fail
      go_loopw [8] (fun v wr => ∃ (B : Option Addr) (kk d : Nat), cl.pay.length ≤ kk ∧ kk ≤ 254 ∧ v = .slice B kk d ∧ wr.ownsRow W0.heap.size 5 1 (.slice B kk d) kk ((cl.pay ++ List.replicate (kk - cl.pay.length) 0).map (Value.int .u8)) ∧ Below W0.heap.size W0 wr) (fun v _ => 254 - (match v with | .slice _ k _ => k | _ => 0))
      case atStart => exact ⟨A2, n2, c2, HN2.out, hn2', rfl, R2.out⟩
      case round =>
        obtain ⟨B, kk, d, hkk1, hkk2, rfl, ho, hbw⟩ := hrel
        have HO := Lib.hid ho
        have HBW := Lib.hid hbw
        have HK1 := Lib.hid hkk1
        clear ho hbw hkk1
        by_cases hlt3 : kk < 254
        · have ho2 := HO.out.alloc (.cells #[.int .u8 0] 5)
          have hb2 := byt_one wr 0 (by omega)
          go_wp2_with (at_builtin; refine wpList_append_byt rfl _ _ 22 rfl W0.heap.size 5 i0 Try.underlying22 hi hz0 hz1 hz2 _ kk _ rfl (by exact ho2) _ 1 1 [0] rfl (by exact hb2) (by omega) (by have := HBW.out.size; simp; omega) ?_)
          intro A3 c3 w3 h1' h2'
          have R : Hid (w3.ownsRow W0.heap.size 5 1 (.slice A3 (kk + 1) c3) (kk + 1) ((cl.pay ++ List.replicate (kk + 1 - cl.pay.length) 0).map (Value.int .u8)) ∧ Below W0.heap.size W0 w3) := Lib.hid ⟨by
            rw [← padz_next HK1.out, List.map_append]
            simpa using h1', (HBW.out.alloc HBW.out.size _).grown h2' (by have := HBW.out.size; simp; omega) (fun q hq => (HO.out.lt q hq).1)⟩
          clear h1' h2' ho2 hb2
          go_wp2_with fail
          go_roundw
          case rel => exact ⟨A3, kk + 1, c3, by have := HK1.out; omega, by omega, rfl, R.out⟩
          case measure => simp; omega
        · obtain rfl : kk = 254 := by omega
          have HS3 : Hid (Has w.heap.size ((dsk b s).star ((hav q0 (fun m => openB (s.syn m)) (.slice B 254 d) (padL cl.pay)).star (X.star (blkR qx 51 #[.int .i64 nn, .slice cl.pA cl.pn cl.pc, .slice cl.kA cl.kn cl.kc, .bool tn, .int .i64 ct, .bool fl])))) wr) := Lib.hid (hav_want HS0.out.sw HB0.out.size HBW.out HO.out (padL_rng HRR.out)).wsBack
          have HB3 := Lib.hid (HB0.out.trans (HBW.out.mono HB0.out.size))
          have HIN3 := Lib.hid (HIN0.out.below HBW.out)
          obtain ⟨W3, hW3⟩ : ∃ W3, W3 = wr := ⟨_, rfl⟩
          subst hW3
          have KS : Hid (∀ W, Below W3.heap.size W3 W → W.cell? ⟨qx, 0, none⟩ = some (.int .i64 nn) ∧ W.cell? ⟨qx, 1, none⟩ = some (.slice cl.pA cl.pn cl.pc)) := Lib.hid (fun W hb => by
            have hz := bk_of (HS3.out.below hb).snd.snd.snd
            exact ⟨hz.cell 0, hz.cell 1⟩)
          have hS0 := KS.out W3.drew (Below.refl _ _).drew
          clear HO HBW hlt3 HS0 HB0 HIN0 R2 HN2
          go_wp2_with fail
          refine wp_region_noPanic ?_
          refine upto_start (fun w' => w'.cell? ⟨qx, 0, none⟩ = some (.int .i64 nn) ∧ w'.cell? ⟨qx, 1, none⟩ = some (.slice cl.pA cl.pn cl.pc)) 7 (by kernel_rfl) ?_
          change Upto _ _ _ _ _ 8 _ _ _
          refine Upto.take (i := 0) (v := ?_) rfl (by kernel_rfl) (fun _ _ _ h => h) rfl (fun w' hS => ?_) hS0 ?_
          rotate_left
          · (try dsimp only at hS); go_split_ands; go_simp; (try with_reducible rfl)
          simp only [Act.put, List.setIfInBounds_toArray, List.set_cons_zero, List.set_cons_succ]
          refine Upto.take (i := 1) (v := ?_) rfl (by kernel_rfl) (fun _ _ _ h => h) rfl (fun w' hS => ?_) hS0 ?_
          rotate_left
          · (try dsimp only at hS); go_split_ands; go_simp; (try with_reducible rfl)
          simp only [Act.put, List.setIfInBounds_toArray, List.set_cons_zero, List.set_cons_succ]
          refine Upto.take (i := 2) (v := ?_) rfl (by kernel_rfl) (fun _ _ _ h => h) rfl (fun w' hS => ?_) hS0 ?_
          rotate_left
          · (try dsimp only at hS); go_split_ands; go_simp; (try with_reducible rfl)
          simp only [Act.put, List.setIfInBounds_toArray, List.set_cons_zero, List.set_cons_succ]
          refine Upto.take (i := 3) (v := ?_) rfl (by kernel_rfl) (fun _ _ _ h => h) rfl (fun w' hS => ?_) hS0 ?_
          rotate_left
          · (try dsimp only at hS); go_split_ands; go_simp; (try with_reducible rfl)
          simp only [Act.put, List.setIfInBounds_toArray, List.set_cons_zero, List.set_cons_succ]
          refine Upto.take (i := 4) (v := ?_) rfl (by kernel_rfl) (fun _ _ _ h => h) rfl (fun w' hS => ?_) hS0 ?_
          rotate_left
          · (try dsimp only at hS); go_split_ands; go_simp; (try with_reducible rfl)
          simp only [Act.put, List.setIfInBounds_toArray, List.set_cons_zero, List.set_cons_succ]
          have CO := own_any cl.pA cl.pn cl.pc cl.pay W3.drew (HIN3.out.pay.below (Below.refl _ _).drew) (by omega)
          refine Upto.law (i := 5) rfl (by kernel_rfl) rfl (fun K hK => ?_)
          refine wp_enter (f := 11) (args := #[.slice cl.pA cl.pn cl.pc]) (by go_simp) CO ?_
          rintro e W4 ⟨A4, n4, c4, rfl, hb4, hbel4⟩
          have hbel4' : Below W3.heap.size W3 W4 := ⟨hbel4.os, hbel4.tape, hbel4.output, hbel4.size, hbel4.block⟩
          refine ⟨_, rfl, hK _ _ (KS.out W4 hbel4') ?_⟩
          clear hK
          have HB4 := Lib.hid (HB3.out.trans (hbel4'.mono HB3.out.size))
          have CP := Lib.hid (put_any (HS3.out.below hbel4') HB4.out.size A4 n4 c4 cl.pay hb4 nn hcn (by rw [HP.out.pend]; simp))
          have EP := Lib.hid (HP.out.put hnn (by rw [HPL.out]; omega) HRR.out)
          rw [EP.out.1, EP.out.2] at CP
          clear hb4 hbel4 hbel4' CO hS0
          simp only [Act.put, List.setIfInBounds_toArray, List.set_cons_zero, List.set_cons_succ]
          refine Upto.law (i := 6) rfl (by kernel_rfl) rfl (fun K hK => ?_)
          refine wp_enter (f := 19) (args := #[.pointer (some ⟨b, 0, none⟩), .int .i64 nn, .slice A4 n4 c4]) (by go_simp) CP.out ?_
          rintro e W5 ⟨rfl, h5, hbel5⟩
          have hbk5 := bk_of h5.snd.snd.snd
          refine ⟨_, rfl, hK _ _ ⟨hbk5.cell 0, hbk5.cell 1⟩ ?_⟩
          clear hK
          have HB5 := Lib.hid (HB4.out.trans hbel5)
          have HS5 := Lib.hid h5
          have y0 : W5.cell? ⟨qx, 0, none⟩ = some (.int .i64 nn) := hbk5.cell 0
          have y2 : W5.cell? ⟨qx, 2, none⟩ = some (.slice cl.kA cl.kn cl.kc) := hbk5.cell 2
          have y3 : W5.cell? ⟨qx, 3, none⟩ = some (.bool tn) := hbk5.cell 3
          have y4 : W5.cell? ⟨qx, 4, none⟩ = some (.int .i64 ct) := hbk5.cell 4
          have y5 : W5.cell? ⟨qx, 5, none⟩ = some (.bool fl) := hbk5.cell 5
          clear h5 hbel5 hbk5 CP KS HS3 HB4
          simp only [Act.put, List.setIfInBounds_toArray, List.set_cons_zero, List.set_cons_succ]
          refine Upto.tail rfl (by kernel_rfl) ?_
          simp only [List.drop_succ_cons, List.drop_zero]
          go_wp2_with fail
          refine NoPanic.normal ?_
          go_upto_if 70 with fail
          go_cut [3] from 71 to 90 (fun dv wx => ∃ b' s' L, dv = .pointer (some ⟨b', 0, none⟩) ∧ Pts s' (k + 1) ∧ PutsRel L s' nn fl cl.pay ∧ Has w.heap.size ((dsk b' s').star ((hav q0 L (.slice B 254 d) (padL cl.pay)).star (X.star (blkR qx 51 #[.int .i64 nn, .slice cl.pA cl.pn cl.pc, .slice cl.kA cl.kn cl.kc, .bool tn, .int .i64 ct, .bool fl])))) wx ∧ Below w.heap.size w wx)
          case first =>
            cases fl with
            | false =>
              have hsy := HP.out.sync (n := nn) (l := putL s nn cl.pay)
              have CS := Lib.hid (hasD_sync HS5.out HB5.out.size (HP.out.lim (by omega)))
              rw [hsy.1] at CS
              have HSY := Lib.hid hsy
              clear hsy
              go_wp2_with fail
              refine CS.out.mono ?_
              rintro e W6 ⟨rfl, h6, hbel6⟩
              have HB6 := Lib.hid (HB5.out.trans hbel6)
              have z0 : W6.cell? ⟨qx, 0, none⟩ = some (.int .i64 nn) := (bk_of h6.snd.snd.snd).cell 0
              obtain ⟨A6, n6, c6, zc, _⟩ := hav_at h6.sw nn hnn
              have zf := hav_frz h6.sw nn
              have hset := hav_set h6.sw HB6.out.size nn hnn (.slice B 254 d) (padL cl.pay) (.inl ⟨rfl, rfl⟩)
              have R6 : Hid (Has w.heap.size ((dsk b (s.wrote nn (putL s nn cl.pay)).sync).star ((hav q0 (fun m => if m = nn then padL cl.pay else openB (s.syn m)) (.slice B 254 d) (padL cl.pay)).star (X.star (blkR qx 51 #[.int .i64 nn, .slice cl.pA cl.pn cl.pc, .slice cl.kA cl.kn cl.kc, .bool tn, .int .i64 ct, .bool false])))) (W6.setCell ⟨q0, nn, none⟩ (.slice B 254 d)) ∧ Below w.heap.size w (W6.setCell ⟨q0, nn, none⟩ (.slice B 254 d))) := Lib.hid ⟨hset.1.wsBack, HB6.out.trans hset.2⟩
              clear h6 hbel6 CS hset
              go_wp2_with fail
              go_meet
              case rel => exact ⟨b, _, _, rfl, HSY.out.2.1, PutsRel.sync HP.out (by rw [HPL.out]; omega) HRR.out (fun _ _ => rfl), R6.out⟩
            | true =>
              have KS : Hid (∀ W, Below W5.heap.size W5 W → W.cell? ⟨qx, 2, none⟩ = some (.slice cl.kA cl.kn cl.kc) ∧ W.cell? ⟨qx, 3, none⟩ = some (.bool tn) ∧ W.cell? ⟨qx, 4, none⟩ = some (.int .i64 ct)) := Lib.hid (fun W hb => by
                have hz := bk_of (HS5.out.below hb).snd.snd.snd
                exact ⟨hz.cell 2, hz.cell 3, hz.cell 4⟩)
              have hS0 := KS.out W5.drew (Below.refl _ _).drew
              go_wp2_with fail
              refine wp_region_noPanic ?_
              refine upto_start (fun w' => w'.cell? ⟨qx, 2, none⟩ = some (.slice cl.kA cl.kn cl.kc) ∧ w'.cell? ⟨qx, 3, none⟩ = some (.bool tn) ∧ w'.cell? ⟨qx, 4, none⟩ = some (.int .i64 ct)) 13 (by kernel_rfl) ?_
              change Upto _ _ _ _ _ 14 _ _ _
              refine Upto.take (i := 0) (v := ?_) rfl (by kernel_rfl) (fun _ _ _ h => h) rfl (fun w' hS => ?_) hS0 ?_
              rotate_left
              · (try dsimp only at hS); go_split_ands; go_simp; (try with_reducible rfl)
              simp only [Act.put, List.setIfInBounds_toArray, List.set_cons_zero, List.set_cons_succ]
              refine Upto.take (i := 1) (v := ?_) rfl (by kernel_rfl) (fun _ _ _ h => h) rfl (fun w' hS => ?_) hS0 ?_
              rotate_left
              · (try dsimp only at hS); go_split_ands; go_simp; (try with_reducible rfl)
              simp only [Act.put, List.setIfInBounds_toArray, List.set_cons_zero, List.set_cons_succ]
              refine Upto.take (i := 2) (v := ?_) rfl (by kernel_rfl) (fun _ _ _ h => h) rfl (fun w' hS => ?_) hS0 ?_
              rotate_left
              · (try dsimp only at hS); go_split_ands; go_simp; (try with_reducible rfl)
              simp only [Act.put, List.setIfInBounds_toArray, List.set_cons_zero, List.set_cons_succ]
              refine Upto.take (i := 3) (v := ?_) rfl (by kernel_rfl) (fun _ _ _ h => h) rfl (fun w' hS => ?_) hS0 ?_
              rotate_left
              · (try dsimp only at hS); go_split_ands; go_simp; (try with_reducible rfl)
              simp only [Act.put, List.setIfInBounds_toArray, List.set_cons_zero, List.set_cons_succ]
              refine Upto.take (i := 5) (v := ?_) rfl (by kernel_rfl) (fun _ _ _ h => h) rfl (fun w' hS => ?_) hS0 ?_
              rotate_left
              · (try dsimp only at hS); go_split_ands; go_simp; (try with_reducible rfl)
              simp only [Act.put, List.setIfInBounds_toArray, List.set_cons_zero, List.set_cons_succ]
              refine Upto.take (i := 6) (v := ?_) rfl (by kernel_rfl) (fun _ _ _ h => h) rfl (fun w' hS => ?_) hS0 ?_
              rotate_left
              · (try dsimp only at hS); go_split_ands; go_simp; (try with_reducible rfl)
              simp only [Act.put, List.setIfInBounds_toArray, List.set_cons_zero, List.set_cons_succ]
              refine Upto.take (i := 7) (v := ?_) rfl (by kernel_rfl) (fun _ _ _ h => h) rfl (fun w' hS => ?_) hS0 ?_
              rotate_left
              · (try dsimp only at hS); go_split_ands; go_simp; (try with_reducible rfl)
              simp only [Act.put, List.setIfInBounds_toArray, List.set_cons_zero, List.set_cons_succ]
              refine Upto.take (i := 8) (v := ?_) rfl (by kernel_rfl) (fun _ _ _ h => h) rfl (fun w' hS => ?_) hS0 ?_
              rotate_left
              · (try dsimp only at hS); go_split_ands; go_simp; (try with_reducible rfl)
              simp only [Act.put, List.setIfInBounds_toArray, List.set_cons_zero, List.set_cons_succ]
              refine Upto.take (i := 9) (v := ?_) rfl (by kernel_rfl) (fun _ _ _ h => h) rfl (fun w' hS => ?_) hS0 ?_
              rotate_left
              · (try dsimp only at hS); go_split_ands; go_simp; (try with_reducible rfl)
              simp only [Act.put, List.setIfInBounds_toArray, List.set_cons_zero, List.set_cons_succ]
              refine Upto.take (i := 10) (v := ?_) rfl (by kernel_rfl) (fun _ _ _ h => h) rfl (fun w' hS => ?_) hS0 ?_
              rotate_left
              · (try dsimp only at hS); go_split_ands; go_simp; (try with_reducible rfl)
              simp only [Act.put, List.setIfInBounds_toArray, List.set_cons_zero, List.set_cons_succ]
              have CO := own2_any cl.kA cl.kn cl.kc cl.crs.keep W5.drew (HINW.out.below HB5.out.drew).keep (by omega)
              refine Upto.law (i := 4) rfl (by kernel_rfl) rfl (fun K hK => ?_)
              refine wp_enter (f := 22) (args := #[.slice cl.kA cl.kn cl.kc]) (by go_simp) CO ?_
              rintro e W6 ⟨A6, c6, rfl, hn6, hbel6⟩
              have hbel6' : Below W5.heap.size W5 W6 := ⟨hbel6.os, hbel6.tape, hbel6.output, hbel6.size, hbel6.block⟩
              refine ⟨_, rfl, hK _ _ (KS.out W6 hbel6') ?_⟩
              clear hK
              have HB6 := Lib.hid (HB5.out.trans (hbel6'.mono HB5.out.size))
              have h6 := HS5.out.below hbel6'
              have CC := Lib.hid (hasD_crash h6 h6.snd HB6.out.size A6 cl.kn c6 cl.crs hn6 (by rw [HCR.out.2]; exact hcut))
              unfold crsV at CC
              rw [HCR.out.1, HCR.out.2] at CC
              have hcr := HP.out.crash (n := nn) (l := putL s nn cl.pay) cl.crs
              have HCR2 := Lib.hid hcr
              have HB56 := Lib.hid hbel6'
              clear hn6 hbel6 hbel6' CO hS0 h6 hcr y0 y2 y3 y4 y5
              simp only [Act.put, List.setIfInBounds_toArray, List.set_cons_zero, List.set_cons_succ]
              refine Upto.only (i := 11) rfl (by kernel_rfl) rfl (exec_build rfl [(0, .slice A6 cl.kn c6), (1, .bool tn), (2, .int .i64 ct)] (by rfl) (build_cr _ _ _ _ _)) (KS.out _ HB56.out) ?_
              simp only [Act.put, List.setIfInBounds_toArray, List.set_cons_zero, List.set_cons_succ]
              refine Upto.law (i := 12) rfl (by kernel_rfl) rfl (fun K hK => ?_)
              refine wp_enter (f := 21) (args := #[.pointer (some ⟨b, 0, none⟩), .agg #[.slice A6 cl.kn c6, .bool tn, .int .i64 ct]]) (by go_simp) CC.out ?_
              rintro e W7 ⟨b7, rfl, h7, hbel7⟩
              have hbk7 := bk_of h7.snd.snd.snd
              refine ⟨_, rfl, hK _ _ ⟨hbk7.cell 2, hbk7.cell 3, hbk7.cell 4⟩ ?_⟩
              clear hK
              have HB7 := Lib.hid (HB6.out.trans (hbel7.mono HB6.out.size))
              have HS7 := Lib.hid h7
              clear h7 hbel7 hbk7 CC KS HS5 HB56
              simp only [Act.put, List.setIfInBounds_toArray, List.set_cons_zero, List.set_cons_succ]
              refine Upto.tail rfl (by kernel_rfl) ?_
              simp only [List.drop_succ_cons, List.drop_zero]
              go_wp2_with fail
              refine NoPanic.normal ?_
              go_wp2_with fail
              go_meet
              case rel => exact ⟨b7, _, _, rfl, HCR2.out.1, PutsRel.crash HOK.out HP.out (by rw [HPL.out]; omega) HRR.out (fun _ _ => rfl) hnn cl.crs, HS7.out, HB7.out⟩
          case rest =>
            obtain ⟨b', s', L, rfl, hp', hpr, hs', hb'⟩ := hcut
            have HP' := Lib.hid hp'
            have HPR := Lib.hid hpr
            have HS' := Lib.hid hs'
            have HB' := Lib.hid hb'
            have HOK' := Lib.hid (hasD_ok hs')
            clear hp' hpr hs' hb' HS5 HB5 y0 y2 y3 y4 y5 HIN3 EP HB3 HP HOK
            go_wp2_with fail
            go_loopw [9] (fun qv wr => ∃ (j : Nat) (L' : Nat → List Int), j ≤ 4 ∧ qv = .int .i64 j ∧ (∀ m, m < 4 → m ≠ nn → L' m = openB (s'.syn m)) ∧ (nn < j → L' nn = openB (s'.syn nn)) ∧ (j ≤ nn → L' nn = L nn) ∧ Has w.heap.size ((dsk b' s').star ((hav q0 L' (.slice B 254 d) (padL cl.pay)).star (X.star (blkR qx 51 #[.int .i64 nn, .slice cl.pA cl.pn cl.pc, .slice cl.kA cl.kn cl.kc, .bool tn, .int .i64 ct, .bool fl])))) wr ∧ Below w.heap.size w wr) (fun qv _ => 4 - (intOf qv).toNat)
            case atStart => exact ⟨0, L, by omega, rfl, HPR.out.others, fun q => absurd q (by omega), fun _ => rfl, HS'.out, HB'.out⟩
            case round =>
              obtain ⟨j, L', hj, rfl, hot, hlo, hge, hsj, hbj⟩ := hrel
              have HOT := Lib.hid hot
              have HLO := Lib.hid hlo
              have HGE := Lib.hid hge
              by_cases hj4 : j < 4
              · have CG := Lib.hid (get_any hsj j (by omega))
                rw [(HP'.out.get hj4).1, (HP'.out.get hj4).2] at CG
                have HSJ := Lib.hid hsj
                have HBJ := Lib.hid hbj
                have HSE := Lib.hid (HOK'.out.syn j)
                clear hot hlo hge hsj hbj
                obtain ⟨oe, hoe⟩ : ∃ oe, openE (s'.syn j) = oe := ⟨_, rfl⟩
                have HOE := Lib.hid hoe
                rw [hoe] at CG
                clear hoe
                go_wp2_with fail
                refine CG.out.mono ?_
                rintro e W9 ⟨A9, n9, c9, rfl, hb9, hbel9⟩
                have HS9 := Lib.hid (HSJ.out.below hbel9)
                have HB9 := Lib.hid (HBJ.out.trans (hbel9.mono HBJ.out.size))
                have y0 : W9.cell? ⟨qx, 0, none⟩ = some (.int .i64 nn) := (bk_of HS9.out.snd.snd.snd).cell 0
                have y5 : W9.cell? ⟨qx, 3 + 2, none⟩ = some (.bool fl) := (bk_of HS9.out.snd.snd.snd).cell 5
                have y5' : W9.cell? ⟨qx, 5, none⟩ = some (.bool fl) := y5
                obtain ⟨Ah, nh, ch, zc, hbh⟩ := hav_at HS9.out.sw j hj4
                have zf := hav_frz HS9.out.sw j
                have HYW := Lib.hid (hav_byt HS9.out.sw)
                have HY9 := Lib.hid hb9
                have HYH := Lib.hid hbh
                have HL9 := Lib.hid hb9.len
                have HLH := Lib.hid hbh.len
                have hj0 : (0 : Int) ≤ (j : Int) := Int.natCast_nonneg _
                have hj1 : (j : Int) < 4 := by omega
                clear hb9 hbel9 hbh CG y5
                have hoe2 : oe = 0 ∨ oe = 50 := by rw [← HOE.out]; exact openE_two HSE.out
                by_cases hjn : j = nn
                · subst hjn
                  rcases hoe2 with rfl | rfl
                  · obtain rfl : n9 = 254 := by rw [← HL9.out]; exact openB_len0 HSE.out HOE.out
                    by_cases hsame : openB (s'.syn j) = padL cl.pay
                    · have S1 := Lib.hid (same_yes A9 254 c9 B 254 d _ _ W9 HY9.out HYW.out hsame)
                      go_wp2_with fail
                      refine S1.out.mono ?_
                      rintro e Wz ⟨rfl, kz, rfl⟩
                      have hset := hav_set (HS9.out.below (below_drewN (Below.refl _ _) kz)).sw (below_drewN HB9.out kz).size j hj4 (.slice B 254 d) (padL cl.pay) (.inl ⟨rfl, rfl⟩)
                      have RZ := Lib.hid (And.intro hset.1.wsBack ((below_drewN HB9.out kz).trans hset.2))
                      have zc2 : (W9.drewN kz).cell? ⟨q0, j, none⟩ = some (.slice Ah nh ch) := zc
                      have zf2 : (W9.drewN kz).frozen? ⟨q0, j, none⟩ = false := zf
                      clear S1 hset zc zf y0 y5'
                      go_wp2_with fail
                      go_roundw
                      case rel => exact ⟨j + 1, _, by omega, by go_num, fun m hm hne => by
                        simp only [if_neg hne]
                        exact HOT.out m hm hne, fun _ => by simp only [if_pos]; exact hsame.symm, fun q => absurd q (by omega), RZ.out.1, RZ.out.2⟩
                      case measure => simp [intOf]; omega
                    · have S1 := Lib.hid (same_no A9 254 c9 B 254 d _ _ W9 HY9.out HYW.out hsame)
                      have EQ : Hid (L' j = openB (s'.syn j)) := Lib.hid (by
                        rw [HGE.out (Nat.le_refl _)]
                        rcases HPR.out.it with q | ⟨_, q | ⟨_, q⟩⟩
                        · exact q
                        · rw [HOE.out] at q; omega
                        · exact absurd q hsame)
                      have REL : Hid (j < j + 1 → L' j = openB (s'.syn j)) := Lib.hid (fun _ => EQ.out)
                      obtain rfl : nh = 254 := by rw [← HLH.out, EQ.out]; exact openB_len0 HSE.out HOE.out
                      have hch : 254 ≤ ch := HYH.out.cap
                      go_wp2_with fail
                      refine S1.out.mono ?_
                      rintro e Wy ⟨rfl, ky, rfl⟩
                      have z1 : (W9.drewN ky).cell? ⟨q0, j, none⟩ = some (.slice Ah 254 ch) := zc
                      have z2 : (W9.drewN ky).cell? ⟨qx, 0, none⟩ = some (.int .i64 j) := y0
                      have S9 := Lib.hid (same_yes A9 254 c9 Ah 254 ch _ _ (W9.drewN ky) (HY9.out.drewN ky) (HYH.out.drewN ky) (by rw [EQ.out]))
                      clear S1
                      go_wp2_with fail
                      refine S9.out.mono ?_
                      rintro e Wz ⟨rfl, kz, rfl⟩
                      have RZ := Lib.hid (And.intro (HS9.out.below (below_drewN (below_drewN (Below.refl _ _) ky) kz)) (below_drewN (below_drewN HB9.out ky) kz))
                      clear S9
                      go_wp2_with fail
                      go_roundw
                      case rel => exact ⟨j + 1, L', by omega, by go_num, HOT.out, fun q => REL.out q, fun q => HGE.out (by omega), by simpa only [World.drewN_drewN] using RZ.out.1, by simpa only [World.drewN_drewN] using RZ.out.2⟩
                      case measure => simp [intOf]; omega
                  · obtain rfl : n9 = 0 := by rw [← HL9.out, openB_len50 HOE.out]; rfl
                    by_cases hfl : fl = true
                    · have y6 : W9.cell? ⟨qx, 5, none⟩ = some (.bool true) := by rw [y5', hfl]
                      clear y5' hfl
                      have hset := hav_set HS9.out.sw HB9.out.size j hj4 (.slice none 0 0) [] (.inr ⟨rfl, rfl⟩)
                      have RZ := Lib.hid (And.intro hset.1.wsBack (HB9.out.trans hset.2))
                      have HE50 := Lib.hid (openB_len50 HOE.out)
                      clear hset
                      go_wp2_with fail
                      go_roundw
                      case rel => exact ⟨j + 1, _, by omega, by go_num, fun m hm hne => by
                        simp only [if_neg hne]
                        exact HOT.out m hm hne, fun _ => by simp only [if_pos]; exact HE50.out.symm, fun q => absurd q (by omega), RZ.out.1, RZ.out.2⟩
                      case measure => simp [intOf]; omega
                    · have y6 : W9.cell? ⟨qx, 5, none⟩ = some (.bool false) := by rw [y5']; cases fl <;> simp_all
                      have HFL := Lib.hid hfl
                      clear y5' hfl
                      have EQ : Hid (L' j = openB (s'.syn j)) := Lib.hid (by
                        rw [HGE.out (Nat.le_refl _)]
                        rcases HPR.out.it with q | ⟨q, _⟩
                        · exact q
                        · exact absurd q HFL.out)
                      have REL : Hid (j < j + 1 → L' j = openB (s'.syn j)) := Lib.hid (fun _ => EQ.out)
                      obtain rfl : nh = 0 := by rw [← HLH.out, EQ.out, openB_len50 HOE.out]; rfl
                      go_wp2_with fail
                      go_roundw
                      case rel => exact ⟨j + 1, L', by omega, by go_num, HOT.out, fun q => REL.out q, fun q => HGE.out (by omega), HS9.out, HB9.out⟩
                      case measure => simp [intOf]; omega
                · have hde : ((j : Int) == (nn : Int)) = false := by rw [beq_eq_false_iff_ne]; omega
                  have EQ : Hid (L' j = openB (s'.syn j)) := Lib.hid (HOT.out j hj4 hjn)
                  have REL : Hid (nn < j + 1 → L' nn = openB (s'.syn nn)) := Lib.hid (fun q => HLO.out (by omega))
                  rcases hoe2 with rfl | rfl
                  · obtain rfl : n9 = 254 := by rw [← HL9.out]; exact openB_len0 HSE.out HOE.out
                    obtain rfl : nh = 254 := by rw [← HLH.out, EQ.out]; exact openB_len0 HSE.out HOE.out
                    have S9 := Lib.hid (same_yes A9 254 c9 Ah 254 ch _ _ W9 HY9.out HYH.out (by rw [EQ.out]))
                    go_wp2_with fail
                    refine S9.out.mono ?_
                    rintro e Wz ⟨rfl, kz, rfl⟩
                    have RZ : Hid (Has w.heap.size ((dsk b' s').star ((hav q0 L' (.slice B 254 d) (padL cl.pay)).star (X.star (blkR qx 51 #[.int .i64 nn, .slice cl.pA cl.pn cl.pc, .slice cl.kA cl.kn cl.kc, .bool tn, .int .i64 ct, .bool fl])))) (W9.drewN kz) ∧ Below w.heap.size w (W9.drewN kz)) := Lib.hid ⟨HS9.out.below (below_drewN (Below.refl _ _) kz), below_drewN HB9.out kz⟩
                    clear S9
                    go_wp2_with fail
                    go_roundw
                    case rel => exact ⟨j + 1, L', by omega, by go_num, HOT.out, fun q => REL.out q, fun q => HGE.out (by omega), RZ.out⟩
                    case measure => simp [intOf]; omega
                  · obtain rfl : n9 = 0 := by rw [← HL9.out, openB_len50 HOE.out]; rfl
                    obtain rfl : nh = 0 := by rw [← HLH.out, EQ.out, openB_len50 HOE.out]; rfl
                    go_wp2_with fail
                    go_roundw
                    case rel => exact ⟨j + 1, L', by omega, by go_num, HOT.out, fun q => REL.out q, fun q => HGE.out (by omega), HS9.out, HB9.out⟩
                    case measure => simp [intOf]; omega
              · obtain rfl : j = 4 := by omega
                have R9 : Hid (∃ s X v l, Pts s (k + 1) ∧ Has w.heap.size ((dsk b' s).star ((hav q0 (fun m => openB (s.syn m)) v l).star X)) wr ∧ Below w.heap.size w wr) := Lib.hid ⟨s', _, _, _, HP'.out, (hav_congr hsj.sw (fun m hm => by
                  by_cases e : m = nn
                  · subst e; exact hlo hm
                  · exact hot m hm e)).wsBack, hbj⟩
                clear hot hlo hge hsj hbj HOT HLO HGE
                go_wp2_with fail
                go_roundw
                case rel =>
                  obtain ⟨s9, X9, v9, l9, q1, q2, q3⟩ := R9.out
                  exact ⟨k + 1, b', by omega, rfl, by go_num, s9, X9, v9, l9, q1, q2, q3⟩
                case measure => simp [intOf]; omega
    · obtain rfl : k = n := by omega
      go_wp2_with fail
      refine (awake_any _).mono ?_
      rintro e w7 ⟨rfl, b7⟩
      have B7 := Lib.hid (HB.out.trans (b7.mono HB.out.size))
      clear b7
      go_wp2_with fail
      go_ret
      exact ⟨rfl, B7.out⟩
end Go.Proofs.Ytlchikllgmkokab
