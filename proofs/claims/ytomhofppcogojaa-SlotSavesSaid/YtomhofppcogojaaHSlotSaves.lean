/- What it says: 'Rows.SlotSavesSaid': for every input trothlaw11.SlotSaves answers true, and what came in reads behind the call as before. No condition. -/
import Derived.Test.YtomhofppcogojaaPs6
import Derived.Test.YtomhofppcogojaaPs7
import Derived.Test.YtomhofppcogojaaPs8
import Derived.Test.YtomhofppcogojaaPs9
import Derived.Deep.CutBlock
import Derived.Deep.CutRange

set_option linter.unusedSimpArgs false
set_option linter.unusedVariables false
set_option linter.deprecated false
set_option linter.unusedSectionVars false
set_option linter.all false

/- the walk of the law SlotSaves: whatever comes in, it answers true and turns nothing that was there. -/
namespace Go.Proofs.Ytomhofppcogojaa
open Go.RowKit

set_option maxRecDepth 100000 in
set_option maxHeartbeats 8000000 in
theorem slotSaves_walk (base n turn : Int) (x : Xp) (w : World) (hb : -9223372036854775808 ≤ base ∧ base ≤ 9223372036854775807) (hn : -9223372036854775808 ≤ n ∧ n ≤ 9223372036854775807) (ht : -9223372036854775808 ≤ turn ∧ turn ≤ 9223372036854775807) (h : XpIn w x) :
    Calls Try.prog 3 #[.int .i64 base, .int .i64 n, .int .i64 turn, x.val] w (Ret (.bool true) w) := by
  obtain ⟨lsn, A, m, c, l⟩ := x
  obtain ⟨_, hp⟩ := h
  simp only [Xp.val] at *
  obtain ⟨W0, hW0⟩ : ∃ W0, W0 = w.alloc (.cells #[.int .i64 lsn, .slice A m c] 24) := ⟨_, rfl⟩
  have B0 : Hid (Below w.heap.size w W0) := Lib.hid (by rw [hW0]; exact (Below.refl _ _).alloc (Nat.le_refl _) _)
  have BP : Hid (Bk W0 w.heap.size 24 #[.int .i64 lsn, .slice A m c]) := Lib.hid (by rw [hW0]; exact Bk.new w _ _)
  have P0 := Lib.hid (hp.below B0.out)
  have p0 : W0.cell? ⟨w.heap.size, 0, none⟩ = some (.int .i64 lsn) := BP.out.cell 0
  have p1 : W0.cell? ⟨w.heap.size, 1, none⟩ = some (.slice A m c) := BP.out.cell 1
  have CG := Lib.hid (greatPg_any lsn A m c l W0 P0.out)
  have HW := Lib.hid hW0
  clear hp hW0
  go_enter Try.func3, Try.ntmps3
  go_upto_region 1 with fail
  rw [← HW.out]
  go_wp2_with fail
  refine CG.out.mono ?_
  rintro e W1 ⟨gr, rfl, hfew, b1⟩
  have HF := Lib.hid hfew
  have B1 := Lib.hid (Below.then B0.out b1)
  have K1 := Lib.hid (BP.out.bel b1 BP.out.lt)
  have P1 := Lib.hid (P0.out.below b1)
  clear hfew b1 CG p0 p1 B0 BP P0 HW
  cases gr with
  | true =>
    go_wp2_with fail
    refine (awake11_any _).mono ?_
    rintro e wy ⟨rfl, by_⟩
    have BY := Lib.hid (Below.then B1.out by_)
    clear by_
    go_wp2_with fail
    go_ret
    exact ⟨rfl, BY.out⟩
  | false =>
    have hm20 : m ≤ 20 := by rw [← P1.out.len]; exact (HF.out rfl).1
    have CN := Lib.hid (hasD_new (Has.emp W1.heap.size W1) (Nat.le_refl W1.heap.size) 40 (by omega))
    go_wp2_with fail
    refine CN.out.mono ?_
    rintro e W2 ⟨b, rfl, h2, b2⟩
    have H2 := Lib.hid h2
    have B2 := Lib.hid b2
    have K2 := Lib.hid (K1.out.bel b2 K1.out.lt)
    have P2 := Lib.hid (P1.out.below b2)
    have p0 : W2.cell? ⟨w.heap.size, 0, none⟩ = some (.int .i64 lsn) := K2.out.cell 0
    have p1 : W2.cell? ⟨w.heap.size, 1, none⟩ = some (.slice A m c) := K2.out.cell 1
    have CC := Lib.hid (copy_any lsn A m c l W2 P2.out (by omega))
    clear h2 b2 CN hm20
    go_wp2_with fail
    refine CC.out.mono ?_
    rintro e W3 ⟨A3, m3, c3, rfl, ho, b3⟩
    have B3 := Lib.hid (Below.trans B2.out (b3.mono B2.out.size))
    have CS := slSave_any (H2.out.below b3) B3.out.size base n turn lsn A3 m3 c3 l ho.pcs (by show 0 < 999999; omega) (by show 0 < 999999; omega)
    obtain ⟨er, her⟩ : ∃ x, slE (St.new 40) base n turn ⟨lsn, l⟩ = x := ⟨_, rfl⟩
    obtain ⟨S, hS⟩ : ∃ x, slS (St.new 40) base n turn ⟨lsn, l⟩ = x := ⟨_, rfl⟩
    rw [her, hS] at CS
    have HER := Lib.hid her
    have HST := Lib.hid hS
    have CS := Lib.hid CS
    clear ho b3 CC H2 B2 K2 P2 p0 p1 her hS
    go_wp2_with fail
    refine CS.out.mono ?_
    rintro e W4 ⟨rfl, h4, b4⟩
    have H4 := Lib.hid h4
    have B4 := Lib.hid (Below.trans B3.out b4)
    have CL := slLoad_any h4 base n
    obtain ⟨el, hel⟩ : ∃ x, ldE S.rErr base n = x := ⟨_, rfl⟩
    obtain ⟨⟨vt, ⟨vl, vc⟩⟩, hv⟩ : ∃ x, ldV S.rErr S.rBytes base n = x := ⟨_, rfl⟩
    rw [hel, hv] at CL
    have HEL := Lib.hid hel
    have HV := Lib.hid hv
    have CL := Lib.hid CL
    clear h4 b4 CS B3 hel hv
    go_wp2_with fail
    refine CL.out.mono ?_
    rintro e W5 ⟨A5, m5, c5, rfl, ho, b5⟩
    have ho := ho.pcs
    simp only at ho
    have HO5 := Lib.hid ho
    go_upto_region 6 with fail
    obtain ⟨X, hX⟩ : ∃ X, W5.heap.size = X := ⟨_, rfl⟩
    obtain ⟨W6, hW6⟩ : ∃ W, W = W5.alloc (.cells #[.int .i64 vl, .slice A5 m5 c5] 24) := ⟨_, rfl⟩
    have hal : Below W5.heap.size W5 W6 := by rw [hW6]; exact (Below.refl _ _).alloc (Nat.le_refl _) _
    have b6 : Below W4.heap.size W4 W6 := Below.then b5 hal
    have Q6 : Hid (Bk W6 X 24 #[.int .i64 vl, .slice A5 m5 c5]) := Lib.hid (by rw [hW6, ← hX]; exact Bk.new W5 _ _)
    have H6 := Lib.hid (H4.out.below b6)
    have B6a := Lib.hid (Below.trans B4.out (b6.mono B4.out.size))
    have B6 := Lib.hid (Below.then B1.out B6a.out)
    have K6 := Lib.hid (K1.out.bel B6a.out K1.out.lt)
    have P6 := Lib.hid (P1.out.below B6a.out)
    have V6 : Hid (Pcs W6 A5 m5 c5 vc) := Lib.hid (HO5.out.below hal)
    rw [← hW6]
    (try rw [hX])
    clear ho hal b5 b6 hW6 hX CL H4 B4 HO5 B6a P1 K1 B1
    obtain ⟨rg, hrg⟩ : ∃ x, decide (plOk base n) = x := ⟨_, rfl⟩
    have HRG := Lib.hid hrg
    clear hrg
    go_cut [15] from 43 to 56 (fun v wx => v = .bool rg ∧ wx = W6)
    case first =>
      clear hb hn ht
      by_cases h1 : 0 ≤ base
      · by_cases h2 : base ≤ 4096
        · by_cases h3 : 0 ≤ n
          · by_cases h4 : n ≤ 4096
            · have _t := trivial
              go_wp2_with fail
              go_meet
              case rel => exact ⟨by rw [← HRG.out, decide_eq_true (show plOk base n from ⟨⟨h1, h2⟩, h3, h4⟩)], rfl⟩
            · have _t := trivial
              go_wp2_with fail
              go_meet
              case rel => exact ⟨by rw [← HRG.out, decide_eq_false (show ¬ plOk base n from fun q => by have := q.2.2; omega)], rfl⟩
          · have _t := trivial
            go_wp2_with fail
            go_meet
            case rel => exact ⟨by rw [← HRG.out, decide_eq_false (show ¬ plOk base n from fun q => by have := q.2.1; omega)], rfl⟩
        · have _t := trivial
          go_wp2_with fail
          go_meet
          case rel => exact ⟨by rw [← HRG.out, decide_eq_false (show ¬ plOk base n from fun q => by have := q.1.2; omega)], rfl⟩
      · have _t := trivial
        go_wp2_with fail
        go_meet
        case rel => exact ⟨by rw [← HRG.out, decide_eq_false (show ¬ plOk base n from fun q => by have := q.1.1; omega)], rfl⟩
    case rest =>
      obtain ⟨rfl, hwc⟩ := hcut
      rw [hwc]
      clear hwc
      have p0 : W6.cell? ⟨w.heap.size, 0, none⟩ = some (.int .i64 lsn) := K6.out.cell 0
      have p1 : W6.cell? ⟨w.heap.size, 1, none⟩ = some (.slice A m c) := K6.out.cell 1
      have q0 : W6.cell? ⟨X, 0, none⟩ = some (.int .i64 vl) := Q6.out.cell 0
      have q1 : W6.cell? ⟨X, 1, none⟩ = some (.slice A5 m5 c5) := Q6.out.cell 1
      by_cases hpl : plOk base n
      rotate_left
      · have hno : ¬ slOk base n turn ⟨lsn, l⟩ := fun q => hpl (slOk_iff.1 q).2.1
        obtain rfl : er = 1 := HER.out.symm.trans (sl_no hno).1
        have hS : S = St.new 40 := HST.out.symm.trans (sl_no hno).2
        obtain rfl : el = 1 := HEL.out.symm.trans (ldE_bad hpl)
        have hv := HV.out
        rw [hS, ldV_new] at hv
        obtain ⟨rfl, rfl, rfl⟩ : vt = 0 ∧ vl = 0 ∧ vc = [] := by injection hv with a b; injection b with b c; exact ⟨a.symm, b.symm, c.symm⟩
        obtain rfl : m5 = 0 := V6.out.len.symm
        obtain rfl : rg = false := HRG.out.symm.trans (decide_eq_false hpl)
        clear hno hS hv hpl HER HST HEL HV
        go_wp2_with fail
        refine (awake11_any _).mono ?_
        rintro e wy ⟨rfl, by_⟩
        have BY := Lib.hid (Below.then B6.out by_)
        clear by_
        go_wp2_with fail
        go_ret
        exact ⟨rfl, BY.out⟩
      obtain rfl : rg = true := HRG.out.symm.trans (decide_eq_true hpl)
      have hplb : (0 ≤ base ∧ base ≤ 4096) ∧ (0 ≤ n ∧ n ≤ 4096) := hpl
      have HPL := Lib.hid hpl
      have NO : Hid (¬ slOk base n turn ⟨lsn, l⟩ → er = 1 ∧ el = (if 39 < base + 2 * n + 1 then 1 else 0) ∧ vt = 0 ∧ vl = 0 ∧ vc = []) := Lib.hid (fun hno => by
        have hS : S = St.new 40 := HST.out.symm.trans (sl_no hno).2
        have hv := HV.out
        rw [hS, ldV_new] at hv
        have he := HEL.out
        rw [hS, ldE_40 (Sld.start 40) HPL.out] at he
        injection hv with a b
        injection b with b c
        exact ⟨HER.out.symm.trans (sl_no hno).1, he.symm, a.symm, b.symm, c.symm⟩)
      have NB : Hid (∀ W', Below W6.heap.size W6 W' → er = 1 → el = (if 39 < base + 2 * n + 1 then 1 else 0) → True) := Lib.hid (fun _ _ _ _ => trivial)
      clear hpl
      by_cases h1 : turn < 1
      · have hno : ¬ slOk base n turn ⟨lsn, l⟩ := fun q => by have := q.1.1; omega
        obtain ⟨rfl, hel, rfl, rfl, rfl⟩ := NO.out hno
        obtain rfl : m5 = 0 := V6.out.len.symm
        clear hno NO HER HST HEL HV
        by_cases h39 : 39 < base + 2 * n + 1
        · rw [if_pos h39] at hel
          subst hel
          go_wp2_with fail
          refine (awake11_any _).mono ?_
          rintro e wy ⟨rfl, by_⟩
          have BY := Lib.hid (Below.then B6.out by_)
          clear by_
          go_wp2_with fail
          go_ret
          exact ⟨rfl, BY.out⟩
        · rw [if_neg h39] at hel
          subst hel
          go_wp2_with fail
          refine (awake11_any _).mono ?_
          rintro e wy ⟨rfl, by_⟩
          have BY := Lib.hid (Below.then B6.out by_)
          clear by_
          go_wp2_with fail
          go_ret
          exact ⟨rfl, BY.out⟩
      by_cases h2 : 1099511627776 < turn
      · have hno : ¬ slOk base n turn ⟨lsn, l⟩ := fun q => by have := q.1.2; omega
        obtain ⟨rfl, hel, rfl, rfl, rfl⟩ := NO.out hno
        obtain rfl : m5 = 0 := V6.out.len.symm
        clear hno NO HER HST HEL HV
        by_cases h39 : 39 < base + 2 * n + 1
        · rw [if_pos h39] at hel
          subst hel
          go_wp2_with fail
          refine (awake11_any _).mono ?_
          rintro e wy ⟨rfl, by_⟩
          have BY := Lib.hid (Below.then B6.out by_)
          clear by_
          go_wp2_with fail
          go_ret
          exact ⟨rfl, BY.out⟩
        · rw [if_neg h39] at hel
          subst hel
          go_wp2_with fail
          refine (awake11_any _).mono ?_
          rintro e wy ⟨rfl, by_⟩
          have BY := Lib.hid (Below.then B6.out by_)
          clear by_
          go_wp2_with fail
          go_ret
          exact ⟨rfl, BY.out⟩
      have CM := may10_any lsn A m c l W6 P6.out
      by_cases h3 : (⟨lsn, l⟩ : Pg).ok
      rotate_left
      · have hno : ¬ slOk base n turn ⟨lsn, l⟩ := fun q => h3 q.2.2
        rw [decide_eq_false h3] at CM
        have CM := Lib.hid CM
        clear h3
        obtain ⟨rfl, hel, rfl, rfl, rfl⟩ := NO.out hno
        obtain rfl : m5 = 0 := V6.out.len.symm
        clear hno NO HER HST HEL HV
        by_cases h39 : 39 < base + 2 * n + 1
        · rw [if_pos h39] at hel
          subst hel
          go_wp2_with fail
          refine CM.out.mono ?_
          rintro e W7 ⟨rfl, b7⟩
          have B7 := Lib.hid (Below.then B6.out b7)
          have q0 := (b7.cell (World.block_lt_of_cell? W6 _ q0)).trans q0
          have q1 := (b7.cell (World.block_lt_of_cell? W6 _ q1)).trans q1
          clear b7 CM p0 p1
          go_wp2_with fail
          refine (awake11_any _).mono ?_
          rintro e wy ⟨rfl, by_⟩
          have BY := Lib.hid (Below.then B7.out by_)
          clear by_
          go_wp2_with fail
          go_ret
          exact ⟨rfl, BY.out⟩
        · rw [if_neg h39] at hel
          subst hel
          go_wp2_with fail
          refine CM.out.mono ?_
          rintro e W7 ⟨rfl, b7⟩
          have B7 := Lib.hid (Below.then B6.out b7)
          have q0 := (b7.cell (World.block_lt_of_cell? W6 _ q0)).trans q0
          have q1 := (b7.cell (World.block_lt_of_cell? W6 _ q1)).trans q1
          clear b7 CM p0 p1
          go_wp2_with fail
          refine (awake11_any _).mono ?_
          rintro e wy ⟨rfl, by_⟩
          have BY := Lib.hid (Below.then B7.out by_)
          clear by_
          go_wp2_with fail
          go_ret
          exact ⟨rfl, BY.out⟩
      rw [decide_eq_true h3] at CM
      have CM := Lib.hid CM
      have HOK : Hid (slOk base n turn ⟨lsn, l⟩) := Lib.hid ⟨⟨by omega, by omega⟩, HPL.out, h3⟩
      have HPO := Lib.hid h3
      have HSE : Hid (slSec base n turn = base + 2 * n + turn % 2) := Lib.hid rfl
      clear NO NB h3
      go_wp2_with fail
      refine CM.out.mono ?_
      rintro e W7 ⟨rfl, b7⟩
      have B7 := Lib.hid (Below.then B6.out b7)
      have K7 := Lib.hid (K6.out.bel b7 K6.out.lt)
      have P7 := Lib.hid (P6.out.below b7)
      have H7 := Lib.hid (H6.out.below b7)
      have Q7 := Lib.hid (Q6.out.bel b7 Q6.out.lt)
      have V7 := Lib.hid (V6.out.below b7)
      clear b7 CM p0 p1 q0 q1 B6 K6 P6 H6 Q6 V6
      obtain ⟨td, htd⟩ : ∃ d, turn % 2 = d := ⟨_, rfl⟩
      have htd2 : 0 ≤ td ∧ td < 2 := by omega
      have ht1 : 1 ≤ turn := by omega
      rw [htd] at HSE
      have HTD := Lib.hid htd
      by_cases hat : 39 < base + 2 * n + td
      · obtain ⟨o1, o2, o3⟩ := out40 HOK.out (by rw [HSE.out]; exact hat)
        obtain rfl : er = 1 := HER.out.symm.trans o1
        have hS : S = St.new 40 := HST.out.symm.trans o2
        have hel := HEL.out
        rw [hS, ldE_40 (Sld.start 40) HPL.out, if_pos o3] at hel
        subst hel
        clear o1 o2 o3 hS
        go_wp2_with fail
        refine (awake11_any _).mono ?_
        rintro e wy ⟨rfl, by_⟩
        have BY := Lib.hid (Below.then B7.out by_)
        clear by_
        go_wp2_with fail
        go_ret
        exact ⟨rfl, BY.out⟩
      have sv := sav40 HOK.out (by rw [HSE.out]; omega)
      obtain rfl : er = 0 := HER.out.symm.trans sv.err
      have sr := sv.rd
      have sb := sv.byt
      have sl := sv.ld
      have sw := sv.lv
      rw [HST.out] at sr sb sl sw
      rw [HEL.out] at sl
      rw [HV.out] at sw
      rw [HSE.out] at sr sb
      obtain ⟨z, hz⟩ : ∃ z, base + 2 * n + td = z := ⟨_, rfl⟩
      rw [hz] at sr sb hat
      have CR := hasD_read H7.out z
      rw [sr, sb] at CR
      have CR := Lib.hid CR
      have SL := Lib.hid sl
      have SW := Lib.hid sw
      have HZ := Lib.hid hz
      have hz1 : 0 ≤ z ∧ z ≤ 39 := by omega
      clear sv sr sb sl sw HER HST HEL HV
      go_wp2_with fail
      (try rw [HTD.out])
      (try rw [HZ.out])
      refine CR.out.mono ?_
      rintro e W8 ⟨A8, n8, c8, rfl, hy, _, b8⟩
      have Y8 := Lib.hid hy
      have B8 := Lib.hid (Below.then B7.out b8)
      have K8 := Lib.hid (K7.out.bel b8 K7.out.lt)
      have P8 := Lib.hid (P7.out.below b8)
      have Q8 := Lib.hid (Q7.out.bel b8 Q7.out.lt)
      have V8 := Lib.hid (V7.out.below b8)
      have p0 : W8.cell? ⟨w.heap.size, 0, none⟩ = some (.int .i64 lsn) := K8.out.cell 0
      have p1 : W8.cell? ⟨w.heap.size, 1, none⟩ = some (.slice A m c) := K8.out.cell 1
      have CB := Lib.hid (refBody_any turn (by omega) lsn A m c l W8 P8.out HPO.out)
      clear hy b8 CR B7 K7 P7 Q7 V7 H7
      go_wp2_with fail
      refine CB.out.mono ?_
      rintro e W9 ⟨A9, n9, c9, rfl, ho, hr9, b9⟩
      have Y9 := Lib.hid (Y8.out.below b9)
      have B9 := Lib.hid (Below.then B8.out b9)
      have K9 := Lib.hid (K8.out.bel b9 K8.out.lt)
      have P9 := Lib.hid (P8.out.below b9)
      have Q9 := Lib.hid (Q8.out.bel b9 Q8.out.lt)
      have V9 := Lib.hid (V8.out.below b9)
      have CW := rwrap_any 1 (by omega) A9 n9 c9 _ W9 (Byt.of_own ho hr9)
      have hbl := bodyV_len (t := turn) (by omega) HPO.out
      rw [wrapE_ok (by omega) (by omega), wrapB_ok (by omega) (by omega)] at CW
      have CW := Lib.hid CW
      clear ho hr9 b9 CB Y8 B8 K8 P8 Q8 V8 p0 p1 hbl
      go_wp2_with fail
      refine CW.out.mono ?_
      rintro e Wa ⟨Aa, na, ca, rfl, hya, ba⟩
      have Ya := Lib.hid (Y9.out.below ba)
      have Ba := Lib.hid (Below.then B9.out ba)
      have Ka := Lib.hid (K9.out.bel ba K9.out.lt)
      have Pa := Lib.hid (P9.out.below ba)
      have Qa := Lib.hid (Q9.out.bel ba Q9.out.lt)
      have Va := Lib.hid (V9.out.below ba)
      obtain rfl : na = n8 := by rw [← hya.len, ← Ya.out.len]
      have CM := Lib.hid (Quiet.ret (same_yes A8 na c8 Aa na ca _ _ Wa Ya.out hya rfl))
      clear hya ba CW Y9 B9 K9 P9 Q9 V9
      go_wp2_with fail
      refine CM.out.mono ?_
      rintro e Wb ⟨rfl, bb⟩
      have Bb := Lib.hid (Below.then Ba.out bb)
      have Kb := Lib.hid (Ka.out.bel bb Ka.out.lt)
      have Pb := Lib.hid (Pa.out.below bb)
      have Qb := Lib.hid (Qa.out.bel bb Qa.out.lt)
      have Vb := Lib.hid (Va.out.below bb)
      clear bb CM Ya Ba Ka Pa Qa Va
      by_cases h39 : 39 < base + 2 * n + 1
      · have hel := SL.out
        rw [if_pos h39] at hel
        subst hel
        clear SL SW HZ hz1 hat HSE
        go_wp2_with fail
        refine (awake11_any _).mono ?_
        rintro e wy ⟨rfl, by_⟩
        have BY := Lib.hid (Below.then Bb.out by_)
        clear by_
        go_wp2_with fail
        go_ret
        exact ⟨rfl, BY.out⟩
      have hel := SL.out
      rw [if_neg h39] at hel
      subst hel
      have hv := SW.out (by omega)
      obtain ⟨rfl, rfl, rfl⟩ : vt = turn ∧ vl = lsn ∧ vc = l := by injection hv with a b; injection b with b c; exact ⟨a, b, c⟩
      have p0 : Wb.cell? ⟨w.heap.size, 0, none⟩ = some (.int .i64 vl) := Kb.out.cell 0
      have p1 : Wb.cell? ⟨w.heap.size, 1, none⟩ = some (.slice A m c) := Kb.out.cell 1
      have q0 : Wb.cell? ⟨X, 0, none⟩ = some (.int .i64 vl) := Qb.out.cell 0
      have q1 : Wb.cell? ⟨X, 1, none⟩ = some (.slice A5 m5 c5) := Qb.out.cell 1
      have CS := Lib.hid (samePg_yes vl A5 m5 c5 A m c vc Wb Vb.out Pb.out)
      clear hv SL SW HZ hz1 hat HSE
      go_wp2_with fail
      refine CS.out.mono ?_
      rintro e Wc ⟨rfl, bc⟩
      have Bc := Lib.hid (Below.then Bb.out bc)
      clear bc CS p0 p1 q0 q1
      go_wp2_with fail
      refine (awake11_any _).mono ?_
      rintro e wy ⟨rfl, by_⟩
      have BY := Lib.hid (Below.then Bc.out by_)
      clear by_
      go_wp2_with fail
      go_ret
      exact ⟨rfl, BY.out⟩
end Go.Proofs.Ytomhofppcogojaa

/- 'Rows.SlotSavesSaid': for every input trothlaw11.SlotSaves answers true, and what came in reads behind the call as before. No condition. -/
namespace Go.Proofs.Ytomhofppcogojaa
open Go.ChangeShapes Go.WideShapes Go.ChangeAt Go.RowKit

set_option maxRecDepth 100000 in
theorem slotSaves_lifted (os : Os) (started : os.Started) (H : Type) (enc : TypeId × Value → H) :
    ReturnsInHanded {} Try.checked os 3 .any (Rows.slotSavesSpec.pre6 enc Try.prog Try.f3 Rows.slotSavesRow.domain false) (Rows.slotSavesSpec.post enc Try.prog Try.f3 false true false false) := by
  refine returnsInHanded_of_change_sized (C := Try.checked) own_knob started (by kernel_rfl) Try.func3
    (ChangeSpec.witness6 (enc := enc) (C := Try.checked) false ⟨#[], #[.int .i64 0, .int .i64 0, .int .i64 0, .agg #[.int .i64 0, .slice none 0 0]], []⟩ 8 (by kernel_rfl) (by kernel_rfl) (by kernel_rfl) (by kernel_rfl)) ?_
  intro W base args ds gs before hval0 hW _ hsz0 _
  have hval : ∀ (j : Nat) t v, Try.f3.params[j]? = some t → args[j]? = some v → Value.okWide Try.prog W .any base t v := hval0
  have hW' := hW
  obtain ⟨p, q, hA0, hV, rfl, hfz, hnd⟩ := hW
  have hA : DataW.TrodAll enc Try.prog W 0 (fun _ => true) true Try.f3.params.toList args.toList ds p := hA0
  rw [Try.params3] at hA hval
  obtain ⟨v0, vs0, d0, ds0, p0, q0, hargs, rfl, rfl, h0, r0⟩ := trodAll_cons hA
  obtain ⟨v1, vs1, d1, ds1, p1, q1, rfl, rfl, rfl, h1, r1⟩ := trodAll_cons r0
  obtain ⟨v2, vs2, d2, ds2, p2, q2, rfl, rfl, rfl, h2, r2⟩ := trodAll_cons r1
  obtain ⟨v3, vs3, d3, ds3, p3, q3, rfl, rfl, rfl, h3, r3⟩ := trodAll_cons r2
  obtain ⟨rfl, rfl, rfl⟩ := trodAll_nil r3
  obtain rfl : args = #[v0, v1, v2, v3] := by cases args; simp_all
  obtain ⟨rfl, rfl⟩ := trodVars_none hV
  obtain ⟨a0, rfl, rfl, rfl, w0⟩ := open_int Try.underlying3 (hval 0 3 v0 rfl rfl) h0
  have g0 := i64_bd w0
  obtain ⟨a1, rfl, rfl, rfl, w1⟩ := open_int Try.underlying3 (hval 1 3 v1 rfl rfl) h1
  have g1 := i64_bd w1
  obtain ⟨a2, rfl, rfl, rfl, w2⟩ := open_int Try.underlying3 (hval 2 3 v2 rfl rfl) h2
  have g2 := i64_bd w2
  have k3 := h3
  have lt3 : ∀ x ∈ p3, x.block < W.heap.size := by obtain ⟨m, hm⟩ := k3; exact DataW.trod_lt m _ _ _ hm
  obtain ⟨m3, rfl, b3⟩ := open_pg (hval 3 24 v3 rfl rfl) h3
  clear hA0 hval0 hsz0
  refine (slotSaves_walk a0 a1 a2 m3 W g0 g1 g2 b3).mono fun e W' ⟨he, bel⟩ => ?_
  subst he
  exact ⟨_, rfl, _, _, _, [], _, [], hW', trodAll_mk1 (shut_bool Try.underlying4 _), (trodAll_cons_mk (shut_int Try.underlying3 w0) (trodAll_cons_mk (shut_int Try.underlying3 w1) (trodAll_cons_mk (shut_int Try.underlying3 w2) (trodAll_cons_mk (Below.trod laidOut (by kernel_rfl) (of_decide_eq_true (by kernel_rfl)) k3 bel lt3) trodAll_mk0)))), rfl, bel.frame _, fun h => by cases h⟩

/-- The statement. -/
theorem slotSaves_holds : Rows.SlotSavesSaid :=
  OpenClaim.holds_of_wide 3 Try.f3 rfl rfl rfl rfl rfl rfl rfl ⟨rfl, rfl, rfl, rfl, rfl⟩ rfl rfl rfl rfl rfl (by kernel_rfl) Try.func3 (by kernel_rfl)
    (of_decide_eq_true (by kernel_rfl)) (by unfold Func.isWrapper; first | (rw [if_pos (by decide +kernel)]; kernel_rfl) | (rw [if_neg (by decide +kernel)]; exact ⟨rfl, rfl⟩))
    (fun os started H enc _ => slotSaves_lifted os started H enc)
#print axioms slotSaves_holds
end Go.Proofs.Ytomhofppcogojaa
