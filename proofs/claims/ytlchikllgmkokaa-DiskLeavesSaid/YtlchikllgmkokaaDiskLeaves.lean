/- What it says: the walk of the law DiskLeaves: whatever comes in, it answers true and turns nothing that was there. -/
import Derived.Test.YtlchikllgmkokaaOwnC
import Derived.Test.YtlchikllgmkokaaPlayed
import Derived.Test.YtlchikllgmkokaaSame
import Derived.Test.YtlchikllgmkokaaDLeaves
import Derived.Test.YtlchikllgmkokaaStr
import Derived.Test.YtlchikllgmkokaaDiskEnds
import Derived.Deep.QuietTactic
import Derived.BigQuiet
import Derived.Lib.MinMax
import Derived.Deep.CutBlock
namespace Go.Proofs.Ytlchikllgmkokaa
open Go.RowKit

theorem Byt.re {w : World} {kd : Nat} {A : Option Addr} {n c : Nat} {l : List Int} (h : Byt (w.drewN kd) A n c l) (k : Nat) : Byt (w.drewN k) A n c l := h.keep fun _ _ hu => hu

/-- What a callee of a drawn region says, where draws lie ahead of the region. -/
theorem quiet_sum {P : Program} {f : FuncId} {args : Array Value} {w : World} {v : Value} {kd a : Nat} (h : Calls P f args (w.drewN (kd + a)) (Quiet v (w.drewN (kd + a)))) : Calls P f args (w.drewN (kd + a)) fun e w'' => e = .returned v ∧ ∃ n, w'' = w.drewN (kd + n) :=
  h.mono fun _ _ ⟨he, m, hm⟩ => ⟨he, a + m, by rw [hm, World.drewN_drewN, Nat.add_assoc]⟩

set_option maxRecDepth 100000 in
set_option maxHeartbeats 40000000 in
theorem diskLeaves_walk (A : Option Addr) (n c : Nat) (cs : List Cal) (KA : Option Addr) (kn kc : Nat) (cr : Crs) (w : World) (h : Cls w A n c cs) (hk : Nts w KA kn kc cr.keep) (hcut : -9223372036854775808 ≤ cr.cut ∧ cr.cut ≤ 9223372036854775807) :
    Calls Try.prog 4 #[.slice A n c, .agg #[.slice KA kn kc, .bool cr.torn, .int .i64 cr.cut]] w (Ret (.bool true) w) := by
  have hB0 : Below w.heap.size w (w.alloc (.cells (crsV KA kn kc cr) 35)) := (Below.refl _ _).alloc (Nat.le_refl _) _
  have hbox : Bk (w.alloc (.cells (crsV KA kn kc cr) 35)) w.heap.size 35 (crsV KA kn kc cr) := Bk.new _ _ _
  have hlt0 : w.heap.size < (w.alloc (.cells (crsV KA kn kc cr) 35)).heap.size := hbox.lt
  have h0 := h.below hB0
  have hkb := hk.below hB0
  have hw0 : w.alloc (.cells (crsV KA kn kc cr) 35) = w.alloc (.cells (crsV KA kn kc cr) 35) := rfl
  obtain ⟨W0, hW0⟩ : ∃ W0, W0 = w.alloc (.cells (crsV KA kn kc cr) 35) := ⟨_, rfl⟩
  rw [← hW0] at h0 hkb hB0 hbox hlt0
  have CL := Lib.hid (long_any A n c cs W0 h0)
  have HW0 : Hid (W0 = w.alloc (.cells #[.slice KA kn kc, .bool cr.torn, .int .i64 cr.cut] 35)) := Lib.hid hW0
  have HB0 := Lib.hid hB0
  have HK := Lib.hid hkb
  have HBOX := Lib.hid hbox
  have hkn := hk.cap
  have hkm := hk.max
  have b0 : W0.cell? ⟨w.heap.size, 0, none⟩ = some (.slice KA kn kc) := hbox.cell 0
  clear hw0 hk hkb hB0 hbox hW0
  by_cases hlong : longC cs = true
  · rw [hlong] at CL
    clear hlong h h0
    go_enter Try.func4, Try.ntmps4
    go_wp2_with fail
    rw [← HW0.out]; clear HW0
    refine CL.out.mono ?_
    rintro e w1 ⟨rfl, rfl⟩
    go_wp2_with fail
    refine (awake_any _).mono ?_
    rintro e w1 ⟨rfl, b1⟩
    have B1 := Lib.hid (HB0.out.trans (b1.mono HB0.out.size))
    clear b1
    go_wp2_with fail
    go_ret
    exact ⟨rfl, B1.out⟩
  have hlong' : longC cs = false := by simpa using hlong
  have hn60 : n ≤ 60 := by rw [← h.len]; exact (longC_no hlong').1
  rw [hlong'] at CL
  by_cases hkb : 60 < kn
  · clear hlong hlong' h h0
    go_enter Try.func4, Try.ntmps4
    go_wp2_with fail
    rw [← HW0.out]; clear HW0
    refine CL.out.mono ?_
    rintro e w1 ⟨rfl, rfl⟩
    go_wp2_with fail
    refine (awake_any _).mono ?_
    rintro e w1 ⟨rfl, b1⟩
    have B1 := Lib.hid (HB0.out.trans (b1.mono HB0.out.size))
    clear b1
    go_wp2_with fail
    go_ret
    exact ⟨rfl, B1.out⟩
  have CP := Lib.hid (played_any A n c cs W0 h0 hn60)
  clear hlong hlong' h h0
  go_enter Try.func4, Try.ntmps4
  go_wp2_with fail
  rw [← HW0.out]; clear HW0
  refine CL.out.mono ?_
  rintro e w1 ⟨rfl, rfl⟩
  go_wp2_with fail
  refine CP.out.mono ?_
  rintro e w1 ⟨b, g, s, rfl, hp, hs, hb⟩
  have HP := Lib.hid hp
  have HS := Lib.hid hs
  have HB1 : Hid (Below W0.heap.size W0 w1) := Lib.hid hb
  have HK1 := Lib.hid (HK.out.below hb)
  have HBOX1 : Hid (Bk w1 w.heap.size 35 (crsV KA kn kc cr)) := Lib.hid (HBOX.out.bel hb hlt0)
  have HX1 := Lib.hid (hasD_ok hs)
  have y0 : w1.cell? ⟨w.heap.size, 0, none⟩ = some (.slice KA kn kc) := HBOX1.out.cell 0
  have y1 : w1.cell? ⟨w.heap.size, 1, none⟩ = some (.bool cr.torn) := HBOX1.out.cell 1
  have y2 : w1.cell? ⟨w.heap.size, 2, none⟩ = some (.int .i64 cr.cut) := HBOX1.out.cell 2
  have CO := Lib.hid (ownC_any KA kn kc cr w1 HK1.out (by omega))
  unfold crsV at CO
  clear hp hs hb CL CP b0
  go_wp2_with fail
  refine CO.out.mono ?_
  rintro e w2 ⟨A2, c2, rfl, hn2, _, hbel2⟩
  have HB2 := Lib.hid (HB1.out.trans (hbel2.mono HB1.out.size))
  have HS2 := Lib.hid (HS.out.below hbel2)
  have HBOX2 : Hid (Bk w2 w.heap.size 35 (crsV KA kn kc cr)) := Lib.hid (HBOX1.out.bel hbel2 (Nat.lt_of_lt_of_le hlt0 HB1.out.size))
  have CC := Lib.hid (hasD_crash HS2.out HS2.out HB2.out.size A2 kn c2 cr hn2 hcut)
  unfold crsV at CC ⊢
  clear hn2 hbel2 CO y0 y1 y2 HS HK1 HBOX1
  go_wp2_with fail
  refine CC.out.mono ?_
  rintro e w3 ⟨bx, rfl, hx, hbx⟩
  have HB3 := Lib.hid (HB2.out.trans (hbx.mono HB2.out.size))
  have HX := Lib.hid hx
  have HBOX3 : Hid (Bk w3 w.heap.size 35 (crsV KA kn kc cr)) := Lib.hid (HBOX2.out.bel hbx (Nat.lt_of_lt_of_le hlt0 HB2.out.size))
  obtain ⟨F3, SA, sc, LA, lc, sl, rl, hrd⟩ := hx.snd.sw.oneR
  have HRD := Lib.hid hrd
  have hlen60 : s.pend.length ≤ 60 := HP.out.pend
  have hnum : s.num = 4 := HP.out.num
  have hlcap := hrd.lcap
  clear hx hbx CC HS2 HBOX2 hrd
  go_wp2_with fail
  go_loopw [8] (fun q wr => ∃ j : Nat, j ≤ 4 ∧ q = .int .i64 j ∧ Below w3.heap.size w3 wr) (fun q _ => 4 - (intOf q).toNat)
  case atStart => exact ⟨0, Nat.zero_le _, rfl, Below.refl _ _⟩
  case round =>
    obtain ⟨j, hj, rfl, hbj⟩ := hrel
    obtain ⟨wi, hwi⟩ : ∃ wi, wi = wr := ⟨_, rfl⟩
    subst hwi
    by_cases hj4 : j < 4
    · have C1 := Lib.hid (hasD_read (HX.out.below hbj) (j : Int))
      rw [(rd_ok (s := s.crash cr) rfl HP.out.num j hj4).1, (rd_ok (s := s.crash cr) rfl HP.out.num j hj4).2] at C1
      have HBJ := Lib.hid hbj
      obtain ⟨l, hl⟩ : ∃ l, (s.crash cr).now j = l := ⟨_, rfl⟩
      rw [hl] at C1
      have HLV : Hid ((∀ i, s.pend.length = i + 1 → (s.at_ i).1 = j → cr.torn = false) → l = s.syn j ∨ ∃ i, i < s.pend.length ∧ (s.at_ i).1 = j ∧ l = (s.at_ i).2) := Lib.hid (fun q => by
        rw [← hl]; exact leaves_whole HX1.out cr j q)
      have HTN : Hid (∀ i, s.pend.length = i + 1 → (s.at_ i).1 = j → cr.torn = true → l.take (clamp cr.cut) = (s.at_ i).2.take (clamp cr.cut) ∧ (l.drop (clamp cr.cut) = (s.syn j).drop (clamp cr.cut) ∨ ∃ x, x < i ∧ (s.at_ x).1 = j ∧ l.drop (clamp cr.cut) = (s.at_ x).2.drop (clamp cr.cut))) := Lib.hid (fun i q1 q2 q3 => by
        rw [← hl]; exact leaves_torn HX1.out cr j i q1 q2 q3)
      have HSEC : Hid (Sec l) := Lib.hid (by rw [← hl]; exact (HX1.out.crash cr).now j)
      clear hbj hl
      go_wp2_with fail
      refine C1.out.mono ?_
      rintro e w4 ⟨A4, n4, c4, rfl, hb4, _, hbel4⟩
      have B4 := Lib.hid (HBJ.out.trans (hbel4.mono HBJ.out.size))
      obtain rfl : n4 = 256 := by rw [← hb4.len]; exact HSEC.out.1
      obtain ⟨bg, bo, rfl, _⟩ := hb4.at_ (by omega)
      have Y4 := Lib.hid hb4
      have hc4 := hb4.cap
      have hm4 := hb4.max
      unfold maxLen at hm4
      have hd4 := HRD.out.below B4.out
      have x0 : w4.cell? ⟨g, 0, none⟩ = some (.slice SA s.num sc) := hd4.blk.cell 0
      have x1 : w4.cell? ⟨g, 1, none⟩ = some (.slice LA s.pend.length lc) := hd4.blk.cell 1
      obtain ⟨sb, vg, vc, rfl, hs1, hs2, hsx, hsd⟩ := hd4.syn_at j (by rw [hnum]; exact hj4)
      have S1 := Lib.hid (same_any (some ⟨bg, bo, none⟩) 256 c4 (some ⟨vg, 0, none⟩) 256 vc _ _ w4 Y4.out (Dat.byt hsd (HX1.out.syn j)))
      have HSD := Lib.hid (Dat.byt hsd (HX1.out.syn j))
      have HD4 := Lib.hid hd4
      rw [hnum] at x0 hs1
      unfold maxLen at hs2
      have hj0 : (0 : Int) ≤ (j : Int) := Int.natCast_nonneg _
      have hj1 : (j : Int) < 4 := by omega
      clear hb4 hbel4 C1 hd4 hsd
      go_wp2_with fail
      refine S1.out.mono ?_
      rintro e w5 ⟨rfl, kd, rfl⟩
      obtain ⟨f, hf⟩ : ∃ f, f = decide (l = s.syn j) := ⟨_, rfl⟩
      have HF0 : Hid (l = s.syn j → f = true) := Lib.hid (fun q => by rw [hf]; simpa using q)
      rw [← hf]
      clear S1 hf
      go_wp2_with fail
      go_loopw [11, 12] (fun v q wr => ∃ (i : Nat) (f : Bool) (kd : Nat), i ≤ s.pend.length ∧ v = .bool f ∧ q = .int .i64 i ∧ (l = s.syn j → f = true) ∧ (∀ x, x < i → (s.at_ x).1 = j → l = (s.at_ x).2 → f = true) ∧ wr = w4.drewN kd) (fun _ q _ => s.pend.length - (intOf q).toNat)
      case atStart => exact ⟨0, f, kd, Nat.zero_le _, rfl, rfl, HF0.out, fun x hx => absurd hx (by omega), rfl⟩
      case round =>
        obtain ⟨i, f, kd, hi, rfl, rfl, hf0, hf1, rfl⟩ := hrel
        have HF0 := Lib.hid hf0
        have HF1 := Lib.hid hf1
        clear hf0 hf1
        have hbw : Below w3.heap.size w3 (w4.drewN kd) := below_drewN B4.out kd
        have hd := HRD.out.below hbw
        have z1 : (w4.drewN kd).cell? ⟨g, 1, none⟩ = some (.slice LA s.pend.length lc) := hd.blk.cell 1
        by_cases hlt : i < s.pend.length
        · obtain ⟨lb, vg2, vc2, rfl, hl1, hl2, hcn, hcd, hdat⟩ := hd.list_at i hlt
          unfold maxLen at hl2
          have HAT := Lib.hid (HX1.out.at_ i hlt)
          have HDB := Lib.hid (Dat.byt hdat HAT.out.2)
          have hi0 : (0 : Int) ≤ (i : Int) := Int.natCast_nonneg _
          have hi1 : (i : Int) < (s.pend.length : Int) := by omega
          obtain ⟨N, hN⟩ : ∃ N, (s.at_ i).1 = N := ⟨_, rfl⟩
          rw [hN] at hcn
          have HN := Lib.hid hN
          clear hd hdat hbw hN
          cases f with
          | true =>
            go_wp2_with fail
            go_roundw
            case rel => exact ⟨i + 1, true, kd, by omega, rfl, by go_num, fun _ => rfl, fun _ _ _ _ => rfl, rfl⟩
            case measure => simp [intOf]; omega
          | false =>
            by_cases hNj : N = j
            · have hde : ((N : Int) == (j : Int)) = true := by rw [beq_iff_eq]; omega
              have S2 := Lib.hid (same_any (some ⟨bg, bo, none⟩) 256 c4 (some ⟨vg2, 0, none⟩) 256 vc2 _ _ (w4.drewN kd) (Y4.out.drewN kd) HDB.out)
              go_wp2_with fail
              refine S2.out.mono ?_
              rintro e w6 ⟨rfl, k2, rfl⟩
              obtain ⟨f2, hf2⟩ : ∃ f2, f2 = decide (l = (s.at_ i).2) := ⟨_, rfl⟩
              have HF2 : Hid (l = (s.at_ i).2 → f2 = true) := Lib.hid (fun q => by rw [hf2]; simpa using q)
              rw [← hf2]
              clear S2 hf2
              go_wp2_with fail
              go_roundw
              case rel => exact ⟨i + 1, f2, kd + k2, by omega, rfl, by go_num, fun q => absurd (HF0.out q) (by simp), fun x hx q1 q2 => by
                by_cases hxi : x = i
                · subst hxi; exact HF2.out q2
                · exact absurd (HF1.out x (by omega) q1 q2) (by simp), rfl⟩
              case measure => simp [intOf]; omega
            · have hde : ((N : Int) == (j : Int)) = false := by rw [beq_eq_false_iff_ne]; omega
              go_wp2_with fail
              go_roundw
              case rel => exact ⟨i + 1, false, kd, by omega, rfl, by go_num, fun q => HF0.out q, fun x hx q1 q2 => by
                by_cases hxi : x = i
                · subst hxi; exact absurd (HN.out.symm.trans q1) hNj
                · exact HF1.out x (by omega) q1 q2, rfl⟩
              case measure => simp [intOf]; omega
        · obtain rfl : i = s.pend.length := by omega
          clear hlt hi
          have HALL : Hid ((l = s.syn j ∨ ∃ i, i < s.pend.length ∧ (s.at_ i).1 = j ∧ l = (s.at_ i).2) → f = true) := Lib.hid (fun q => by
            rcases q with q | ⟨x, q1, q2, q3⟩
            · exact HF0.out q
            · exact HF1.out x q1 q2 q3)
          have HBK : Hid (Bk (w4.drewN kd) w.heap.size 35 (crsV KA kn kc cr)) := Lib.hid (HBOX3.out.bel hbw (Nat.lt_of_lt_of_le hlt0 HB3.out.size))
          by_cases hz : s.pend.length = 0
          · obtain rfl : f = true := HALL.out (HLV.out (fun i q _ => by omega))
            have hd0 : decide ((0 : Int) ≤ (s.pend.length : Int) - 1) = false := by simp; omega
            clear hd
            go_wp2_with fail
            go_roundw
            case rel => exact ⟨j + 1, by omega, by go_num, hbw⟩
            case measure => simp [intOf]; omega
          · obtain ⟨t, ht⟩ : ∃ t, s.pend.length = t + 1 := ⟨s.pend.length - 1, by omega⟩
            obtain ⟨lb, vg2, vc2, rfl, hl1, hl2, hcn, hcd, hdat⟩ := hd.list_at t (by omega)
            unfold maxLen at hl2
            have HAT := Lib.hid (HX1.out.at_ t (by omega))
            have HDB := Lib.hid (Dat.byt hdat HAT.out.2)
            have hd0 : decide ((0 : Int) ≤ (s.pend.length : Int) - 1) = true := by simp; omega
            have ht1 : (s.pend.length : Int) - 1 = (t : Int) := by omega
            obtain ⟨N, hN⟩ : ∃ N, (s.at_ t).1 = N := ⟨_, rfl⟩
            rw [hN] at hcn
            have HN := Lib.hid hN
            have HT := Lib.hid ht
            have HHD := Lib.hid hd
            have HBW := Lib.hid hbw
            clear hd hdat hbw hN hz ht
            by_cases hNj : N = j
            · have hde : ((N : Int) == (j : Int)) = true := by rw [beq_iff_eq]; omega
              have e1 : (w4.drewN kd).cell? ⟨w.heap.size, 1, none⟩ = some (.bool cr.torn) := HBK.out.cell 1
              have e2 : (w4.drewN kd).cell? ⟨w.heap.size, 2, none⟩ = some (.int .i64 cr.cut) := HBK.out.cell 2
              obtain ⟨tn, htn⟩ : ∃ tn, cr.torn = tn := ⟨_, rfl⟩
              rw [htn] at e1
              cases tn with
              | false =>
                obtain rfl : f = true := HALL.out (HLV.out (fun _ _ _ => htn))
                clear e2 htn
                go_wp2_with fail
                go_roundw
                case rel => exact ⟨j + 1, by omega, by go_num, HBW.out⟩
                case measure => simp [intOf]; omega
              | true =>
                have HLT := Lib.hid (HTN.out t HT.out (HN.out.trans hNj) htn)
                obtain ⟨k, hk⟩ : ∃ k, clamp cr.cut = k := ⟨_, rfl⟩
                have hk256 : k ≤ 256 := by rw [← hk]; exact clamp_le _
                obtain ⟨mc, hmc⟩ : ∃ mc, min cr.cut 256 = mc := ⟨_, rfl⟩
                have hmx : max 0 mc = (k : Int) := by rw [← hmc, ← hk]; unfold clamp; omega
                rw [hk] at HLT
                clear htn hk
                obtain ⟨P1, d1, hs1', hp1⟩ := cut_h Y4.out k hk256 (k : Int) rfl
                obtain ⟨P2, d2, hs2', hp2⟩ := cut_h HDB.out k hk256 (k : Int) rfl
                have S3 : Hid (∀ nq, Calls Try.prog 20 #[.slice P1 k d1, .slice P2 k d2] (w4.drewN nq) (Quiet (.bool true) (w4.drewN nq))) := Lib.hid (fun nq => same_yes P1 k d1 P2 k d2 _ _ _ (hp1.drewN nq) (hp2.re nq) HLT.out.1)
                have hi0 : (0 : Int) ≤ (t : Int) := Int.natCast_nonneg _
                have hi1 : (t : Int) < (s.pend.length : Int) := by omega
                clear hp1 hp2
                have hcd' : w4.cell? ⟨lb, t * 2 + 1, none⟩ = some (.slice (some ⟨vg2, 0, none⟩) 256 vc2) := hcd
                go_wp2_with fail
                go_quiet (first | (go_at_call 20; exact quiet_sum (S3.out _)))
                obtain ⟨P3, mm3, d3, hs3', hm3, hp3⟩ := cut_l Y4.out k hk256 (k : Int) rfl
                obtain ⟨P4, mm4, d4, hs4', hm4', hp4⟩ := cut_l HSD.out k hk256 (k : Int) rfl
                subst hm3 hm4'
                have S4 : Hid (∀ nq, Calls Try.prog 20 #[.slice P3 (256 - k) d3, .slice P4 (256 - k) d4] (w4.drewN nq) (Quiet (.bool (decide (l.drop k = (s.syn j).drop k))) (w4.drewN nq))) := Lib.hid (fun nq => same_any P3 (256 - k) d3 P4 (256 - k) d4 _ _ _ (hp3.drewN nq) (hp4.drewN nq))
                have HP3 := Lib.hid hp3
                have HT0 : Hid (l.drop k = (s.syn j).drop k ∨ ∃ x, x < t ∧ (s.at_ x).1 = j ∧ l.drop k = (s.at_ x).2.drop k) := Lib.hid HLT.out.2
                clear hp3 hp4 S3 hcn hcd hcd' hs1' hs2' hmc hmx e2 e1 hde z1
                go_wp2_with fail
                go_cut [11] from 137 to 155 (fun v wx => ∃ (f' : Bool) (kq : Nat), v = .bool f' ∧ wx = w4.drewN kq ∧ (l.drop k = (s.syn j).drop k → f' = true))
                case first =>
                  cases f with
                  | true =>
                    go_quiet (fail)
                    go_wp2_with fail
                    go_meet
                    case rel => exact ⟨true, _, rfl, (by first | rfl | (simp only [World.drewN_drewN]; rfl)), fun _ => rfl⟩
                  | false =>
                    go_quiet (first | (go_at_call 20; exact quiet_sum (S4.out _)))
                    go_wp2_with fail
                    go_meet
                    case rel => exact ⟨_, _, rfl, (by first | rfl | (simp only [World.drewN_drewN]; rfl)), fun q => by simpa using q⟩
                case rest =>
                  obtain ⟨f', kq, rfl, rfl, hf'⟩ := hcut
                  have HF' := Lib.hid hf'
                  clear hf' S4 hs4' x0 hsx
                  go_wp2_with fail
                  go_loopw [11, 16] (fun v q wr => ∃ (i : Nat) (f : Bool) (kd : Nat), i ≤ t ∧ v = .bool f ∧ q = .int .i64 i ∧ (l.drop k = (s.syn j).drop k → f = true) ∧ (∀ x, x < i → (s.at_ x).1 = j → l.drop k = (s.at_ x).2.drop k → f = true) ∧ wr = w4.drewN kd) (fun _ q _ => t - (intOf q).toNat)
                  case atStart => exact ⟨0, f', kq, Nat.zero_le _, rfl, rfl, HF'.out, fun x hx => absurd hx (by omega), rfl⟩
                  case round =>
                    obtain ⟨i, f, kd2, hi, rfl, rfl, hf0, hf1, rfl⟩ := hrel
                    have HF0 := Lib.hid hf0
                    have HF1 := Lib.hid hf1
                    clear hf0 hf1
                    by_cases hlt : i < t
                    · have hil : i < s.pend.length := by omega
                      obtain ⟨lb2, vg4, vc4, hlb, _, _, hcn, hcd, hdat⟩ := HD4.out.list_at i hil
                      injection hlb with hlb
                      injection hlb with hlb
                      subst hlb
                      have HAT2 := Lib.hid (HX1.out.at_ i hil)
                      obtain ⟨P5, mm5, d5, hs5', hm5', hp5⟩ := cut_l (Dat.byt hdat HAT2.out.2) k hk256 (k : Int) rfl
                      subst hm5'
                      have hi0' : (0 : Int) ≤ (i : Int) := Int.natCast_nonneg _
                      have hi1' : (i : Int) < (s.pend.length : Int) := by omega
                      have hi2' : (i : Int) < (t : Int) := by omega
                      obtain ⟨N2, hN2⟩ : ∃ N2, (s.at_ i).1 = N2 := ⟨_, rfl⟩
                      rw [hN2] at hcn
                      have HN2 := Lib.hid hN2
                      clear hdat hN2 hil
                      cases f with
                      | true =>
                        go_wp2_with fail
                        go_quiet (fail)
                        go_wp2_with fail
                        go_roundw
                        case rel => exact ⟨i + 1, true, _, by omega, rfl, by go_num, fun _ => rfl, fun _ _ _ _ => rfl, rfl⟩
                        case measure => simp [intOf]; omega
                      | false =>
                        by_cases hNj2 : N2 = j
                        · have hde : ((N2 : Int) == (j : Int)) = true := by rw [beq_iff_eq]; omega
                          have S5 : Hid (∀ nq, Calls Try.prog 20 #[.slice P3 (256 - k) d3, .slice P5 (256 - k) d5] (w4.drewN nq) (Quiet (.bool (decide (l.drop k = (s.at_ i).2.drop k))) (w4.drewN nq))) := Lib.hid (fun nq => same_any P3 (256 - k) d3 P5 (256 - k) d5 _ _ _ (HP3.out.drewN nq) (hp5.drewN nq))
                          obtain ⟨f2, hf2⟩ : ∃ f2, f2 = decide (l.drop k = (s.at_ i).2.drop k) := ⟨_, rfl⟩
                          have HF2 : Hid (l.drop k = (s.at_ i).2.drop k → f2 = true) := Lib.hid (fun q => by rw [hf2]; simpa using q)
                          rw [← hf2] at S5
                          clear hp5 hf2
                          go_wp2_with fail
                          go_quiet (first | (go_at_call 20; exact quiet_sum (S5.out _)))
                          go_wp2_with fail
                          go_roundw
                          case rel => exact ⟨i + 1, f2, _, by omega, rfl, by go_num, fun q => absurd (HF0.out q) (by simp), fun x hx q1 q2 => by
                            by_cases hxi : x = i
                            · subst hxi; exact HF2.out q2
                            · exact absurd (HF1.out x (by omega) q1 q2) (by simp), rfl⟩
                          case measure => simp [intOf]; omega
                        · have hde : ((N2 : Int) == (j : Int)) = false := by rw [beq_eq_false_iff_ne]; omega
                          clear hp5
                          go_wp2_with fail
                          go_quiet (fail)
                          go_wp2_with fail
                          go_roundw
                          case rel => exact ⟨i + 1, false, _, by omega, rfl, by go_num, fun q => HF0.out q, fun x hx q1 q2 => by
                            by_cases hxi : x = i
                            · subst hxi; exact absurd (HN2.out.symm.trans q1) hNj2
                            · exact HF1.out x (by omega) q1 q2, rfl⟩
                          case measure => simp [intOf]; omega
                    · obtain rfl : i = t := by omega
                      obtain rfl : f = true := by
                        rcases HT0.out with q | ⟨x, q1, q2, q3⟩
                        · exact HF0.out q
                        · exact HF1.out x q1 q2 q3
                      have hbw : Below w3.heap.size w3 (w4.drewN kd2) := below_drewN B4.out kd2
                      go_wp2_with fail
                      go_roundw
                      case rel => exact ⟨j + 1, by omega, by go_num, hbw⟩
                      case measure => simp [intOf]; omega
            · have hde : ((N : Int) == (j : Int)) = false := by rw [beq_eq_false_iff_ne]; omega
              obtain rfl : f = true := HALL.out (HLV.out (fun i q1 q2 => absurd (by
                obtain rfl : i = t := by have := HT.out; omega
                exact HN.out.symm.trans q2) hNj))
              go_wp2_with fail
              go_roundw
              case rel => exact ⟨j + 1, by omega, by go_num, HBW.out⟩
              case measure => simp [intOf]; omega
    · have HBJ := Lib.hid (HB3.out.trans (hbj.mono HB3.out.size))
      clear hbj
      go_wp2_with fail
      refine (awake_any _).mono ?_
      rintro e w9 ⟨rfl, b9⟩
      have B9 := Lib.hid ((HB0.out.trans (HBJ.out.mono HB0.out.size)).trans (b9.mono (Nat.le_trans HB0.out.size HBJ.out.size)))
      clear b9
      go_wp2_with fail
      go_ret
      exact ⟨rfl, B9.out⟩
end Go.Proofs.Ytlchikllgmkokaa
