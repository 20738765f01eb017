/- What it says: 'Rows.PageWritesSaid': for every input trothlaw10.PageWrites answers true, and what came in reads behind the call as before. No condition. -/
import Derived.Test.YtfmfmdiegabobaaPc4
import Derived.Test.YtfmfmdiegabobaaPc6
import Derived.Test.YtfmfmdiegabobaaPc7
import Derived.Test.YtfmfmdiegabobaaPc8

set_option linter.unusedSimpArgs false
set_option linter.unusedVariables false
set_option linter.deprecated false
set_option linter.unusedSectionVars false
set_option linter.all false

/- the Go text of trothlaw10.PageWrites answers true, and writes nothing that was there. -/
namespace Go.Proofs.Ytfmfmdiegabobaa
open Go.RowKit

theorem encPg_len (p : Pg) : (encPg p).1.length ≤ 254 := by
  by_cases h : p.ok
  · rw [encPg_ok h]; exact pgL_len h
  · rw [encPg_no h]; simp
theorem decPg_small (l : List Int) : (decPg l).1.cells.length ≤ 4 := by
  by_cases h0 : (pPg (l, 0)).2.2 = 0
  · by_cases ho : (pPg (l, 0)).1.ok
    · rw [decPg_ok h0 ho]; exact ho.2.1
    · rw [decPg_no h0 ho]; simp [pg0]
  · rw [decPg_err h0]; simp [pg0]

set_option maxRecDepth 100000 in
set_option maxHeartbeats 8000000 in
theorem pageWrites_walk (m : Xp) (A : Option Addr) (k c : Nat) (b : List Int) (w : World) (h : XpIn w m) (hb : Byt w A k c b) (_hk : k ≤ 140737488351232) :
    Calls Try.prog 3 #[m.val, .slice A k c] w (Ret (.bool true) w) := by
  obtain ⟨lsn0, PA, pn, pc, l⟩ := m
  obtain ⟨_, hp⟩ := h
  simp only at hp
  show Calls _ _ #[pgV lsn0 PA pn pc, .slice A k c] w _
  have hcapb := hb.cap
  have hmaxb := hb.max
  unfold maxLen at hmaxb
  obtain ⟨i0, hi, hz0, hz1, hz2⟩ := info_parts info_u8
  obtain ⟨W0, hW0⟩ : ∃ W, W = w.alloc (.cells #[.int .i64 lsn0, .slice PA pn pc] 24) := ⟨_, rfl⟩
  have HB : Hid (Below w.heap.size w W0) := Lib.hid (by rw [hW0]; exact (Below.refl _ _).alloc (Nat.le_refl _) _)
  have BP : Hid (Bk W0 w.heap.size 24 #[.int .i64 lsn0, .slice PA pn pc]) := Lib.hid (by rw [hW0]; exact Bk.new w _ _)
  have HP := Lib.hid (hp.below HB.out)
  have HY := Lib.hid (hb.below HB.out)
  have HRB := Lib.hid hb.rng
  have hbl : b.length = k := hb.len
  have FC : Hid (∀ W, Below W0.heap.size W0 W → W.cell? ⟨w.heap.size, 0, none⟩ = some (.int .i64 lsn0) ∧ W.cell? ⟨w.heap.size, 1, none⟩ = some (.slice PA pn pc)) := Lib.hid (fun W hb => by
    have a := BP.out.bel hb BP.out.lt
    exact ⟨a.cell 0, a.cell 1⟩)
  have CG := Lib.hid (greatPg_any lsn0 PA pn pc l W0 HP.out)
  have HW := Lib.hid hW0
  obtain ⟨p0, p1⟩ := FC.out W0 (Below.refl _ _)
  clear hW0 hp hb
  go_enter Try.func3, Try.ntmps3
  go_upto_region 1 with fail
  rw [← HW.out]
  go_wp2_with fail
  refine CG.out.mono ?_
  rintro e w1 ⟨bg, rfl, hfew, b1⟩
  have HFEW := Lib.hid hfew
  have B1 := Lib.hid b1
  clear b1 hfew CG p0 p1
  have AWK : Hid (∀ (W : World), Below w.heap.size w W → ∀ e W', Ret (.bool true) W e W' → e = .returned (.bool true) ∧ Below w.heap.size w W') := Lib.hid (fun W hb e W' h => ⟨h.1, Below.then hb h.2⟩)
  by_cases hgo : bg = false ∧ ¬ (500 : Int) < (k : Int)
  rotate_left
  · cases bg with
    | true =>
      clear hgo
      go_wp2_with fail
      refine (awake10 _).mono ?_
      rintro e wz hr
      obtain ⟨rfl, hb⟩ := AWK.out _ (Below.then HB.out B1.out) _ _ hr
      have H := Lib.hid hb
      clear hb hr
      go_wp2_with fail
      go_ret
      exact ⟨rfl, H.out⟩
    | false =>
      have h1 : (500 : Int) < (k : Int) := by
        by_cases q : (500 : Int) < (k : Int)
        · exact q
        · exact absurd ⟨rfl, q⟩ hgo
      clear hgo
      go_wp2_with fail
      refine (awake10 _).mono ?_
      rintro e wz hr
      obtain ⟨rfl, hb⟩ := AWK.out _ (Below.then HB.out B1.out) _ _ hr
      have H := Lib.hid hb
      clear hb hr
      go_wp2_with fail
      go_ret
      exact ⟨rfl, H.out⟩
  obtain ⟨rfl, h1⟩ := hgo
  have hn20 : pn ≤ 20 := by rw [← HP.out.len]; exact (HFEW.out rfl).1
  have hk500 : k ≤ 500 := by omega
  obtain ⟨⟨xl, xe⟩, hE⟩ : ∃ r, encPg ⟨lsn0, l⟩ = r := ⟨_, rfl⟩
  have hxl : xl.length ≤ 254 := by have := encPg_len ⟨lsn0, l⟩; rw [hE] at this; exact this
  have HE := Lib.hid hE
  obtain ⟨⟨⟨ql, qc⟩, qe⟩, hD⟩ : ∃ r, decPg b = r := ⟨_, rfl⟩
  have hqc : qc.length ≤ 4 := by have := decPg_small b; rw [hD] at this; exact this
  have HD := Lib.hid hD
  clear hE hD
  obtain ⟨p0, p1⟩ := FC.out w1 B1.out
  have CC := Lib.hid (copy_any lsn0 PA pn pc l w1 (HP.out.below B1.out) (by omega))
  go_wp2_with fail
  refine CC.out.mono ?_
  rintro e w2 ⟨A2, n2, c2, rfl, ho2, b2⟩
  have CE := pgEnc_any lsn0 A2 n2 c2 l w2 ho2.pcs
  rw [HE.out] at CE
  have CE := Lib.hid CE
  have B2 := Lib.hid (Below.then B1.out b2)
  clear ho2 b2 CC p0 p1
  go_wp2_with fail
  refine CE.out.mono ?_
  rintro e w3 ⟨A3, n3, c3, rfl, ho3, hr3, b3⟩
  have X3 := Lib.hid (Byt.of_own ho3 hr3)
  have hn3 : n3 ≤ 254 := by rw [← X3.out.len]; exact hxl
  have B3 := Lib.hid (Below.then B2.out b3)
  clear ho3 hr3 b3 CE
  obtain ⟨p0, p1⟩ := FC.out w3 B3.out
  have CR := rpEnc_any lsn0 PA pn pc l w3 (HP.out.below B3.out)
  rw [HE.out] at CR
  have CR := Lib.hid CR
  go_wp2_with fail
  refine CR.out.mono ?_
  rintro e w4 ⟨A4, n4, c4, rfl, ho4, hr4, b4⟩
  have Y4 := Lib.hid (Byt.of_own ho4 hr4)
  have X4 := Lib.hid (X3.out.below b4)
  have B4 := Lib.hid (Below.then B3.out b4)
  clear ho4 hr4 b4 CR p0 p1 X3
  have hown0 := World.ownsRow_made (base := w4.heap.size) (e := 5) (size := 1) w4 #[] 0 (Nat.le_refl _) (Nat.zero_le _) rfl
  have HOW := Lib.hid hown0
  have HYB := Lib.hid (HY.out.below (Below.then B4.out ((Below.refl w4.heap.size w4).alloc (Nat.le_refl _) (.cells #[] 5))))
  clear hown0
  go_wp2_with (at_builtin; refine wpList_append_byt rfl _ _ 25 rfl w4.heap.size 5 i0 Try.underlying25 hi hz0 hz1 hz2 _ 0 [] rfl (by exact HOW.out) A k c b rfl HYB.out (by omega) (by simp) ?_)
  intro A5 c5 w5 k1 k2
  have R5 := Lib.hid (own_end HRB.out k1 k2)
  obtain ⟨_, _, _, e5, ho5, hr5, b5⟩ := R5.out
  have hb5 : Byt w5 A5 k c5 b := by
    injection e5 with e5
    injection e5 with e1 e2 e3
    subst e1 e2 e3
    exact Byt.of_own ho5 hr5
  have X5 := Lib.hid (X4.out.below b5)
  have Y5 := Lib.hid (Y4.out.below b5)
  have B5 := Lib.hid (Below.then B4.out b5)
  have CD := pgDec_any A5 k c5 b w5 hb5 (by omega)
  rw [HD.out] at CD
  have CD := Lib.hid CD
  clear k1 k2 e5 ho5 hr5 b5 hb5 HOW HYB X4 Y4 R5
  go_wp2_with fail
  refine CD.out.mono ?_
  rintro e w6 ⟨A6, n6, c6, rfl, ho6, b6⟩
  have hn6 : n6 ≤ 4 := by rw [← ho6.len]; exact hqc
  have X6 := Lib.hid (X5.out.below b6)
  have Y6 := Lib.hid (Y5.out.below b6)
  have B6 := Lib.hid (Below.then B5.out b6)
  simp only at ho6
  have Q6 := Lib.hid ho6.pcs
  clear ho6 b6 CD X5 Y5
  go_upto_region 6 with fail
  obtain ⟨W7, hW7⟩ : ∃ W, W = w6.alloc (.cells #[.int .i64 ql, .slice A6 n6 c6] 24) := ⟨_, rfl⟩
  rw [← hW7]
  have b7 : Below w6.heap.size w6 W7 := by rw [hW7]; exact (Below.refl _ _).alloc (Nat.le_refl _) _
  have KQ : Hid (Bk W7 w6.heap.size 24 #[.int .i64 ql, .slice A6 n6 c6]) := Lib.hid (by rw [hW7]; exact Bk.new w6 _ _)
  have X7 := Lib.hid (X6.out.below b7)
  have Y7 := Lib.hid (Y6.out.below b7)
  have Q7 := Lib.hid (Q6.out.below b7)
  have B7 := Lib.hid (Below.then B6.out b7)
  clear hW7 b7 X6 Y6 Q6
  have CR := rpDec_any A k c b W7 (HY.out.below B7.out) (by omega)
  rw [HD.out] at CR
  have CR := Lib.hid CR
  go_wp2_with fail
  refine CR.out.mono ?_
  rintro e w8 ⟨A8, n8, c8, rfl, ho8, b8⟩
  simp only at ho8
  have X8 := Lib.hid (X7.out.below b8)
  have Y8 := Lib.hid (Y7.out.below b8)
  have Q8 := Lib.hid (Q7.out.below b8)
  have S8 := Lib.hid ho8.pcs
  have B8 := Lib.hid (Below.then B7.out b8)
  have KQ8 := Lib.hid (KQ.out.bel b8 KQ.out.lt)
  clear ho8 b8 CR X7 Y7 Q7 KQ
  go_upto_region 7 with fail
  obtain ⟨W9, hW9⟩ : ∃ W, W = w8.alloc (.cells #[.int .i64 ql, .slice A8 n8 c8] 24) := ⟨_, rfl⟩
  rw [← hW9]
  have b9 : Below w8.heap.size w8 W9 := by rw [hW9]; exact (Below.refl _ _).alloc (Nat.le_refl _) _
  have KS : Hid (Bk W9 w8.heap.size 24 #[.int .i64 ql, .slice A8 n8 c8]) := Lib.hid (by rw [hW9]; exact Bk.new w8 _ _)
  have KQ9 := Lib.hid (KQ8.out.bel b9 KQ8.out.lt)
  have X9 := Lib.hid (X8.out.below b9)
  have Y9 := Lib.hid (Y8.out.below b9)
  have Q9 := Lib.hid (Q8.out.below b9)
  have S9 := Lib.hid (S8.out.below b9)
  have B9 := Lib.hid (Below.then B8.out b9)
  clear hW9 b9 X8 Y8 Q8 S8 KQ8
  have CS := Lib.hid (same_yes A3 n3 c3 A4 n4 c4 xl xl W9 X9.out Y9.out rfl)
  go_wp2_with fail
  refine (Quiet.ret CS.out).mono ?_
  rintro e w10 ⟨rfl, b10⟩
  have X10 := Lib.hid (X9.out.below b10)
  have Q10 := Lib.hid (Q9.out.below b10)
  have S10 := Lib.hid (S9.out.below b10)
  have B10 := Lib.hid (Below.then B9.out b10)
  have KQ10 := Lib.hid (KQ9.out.bel b10 KQ9.out.lt)
  have ks := KS.out.bel b10 KS.out.lt
  have q0 := KQ10.out.cell 0
  have q1 := KQ10.out.cell 1
  have s0 := ks.cell 0
  have s1 := ks.cell 1
  simp only [List.getElem?_toArray, List.getElem?_cons_zero, List.getElem?_cons_succ] at q0 q1 s0 s1
  have CP := Lib.hid (samePg_yes ql A6 n6 c6 A8 n8 c8 qc w10 Q10.out S10.out)
  clear b10 CS X9 Y9 Q9 S9 KQ9 KS ks
  go_wp2_with fail
  refine CP.out.mono ?_
  rintro e w11 ⟨rfl, b11⟩
  have X11 := Lib.hid (X10.out.below b11)
  have Q11 := Lib.hid (Q10.out.below b11)
  have B11 := Lib.hid (Below.then B10.out b11)
  have KQ11 := Lib.hid (KQ10.out.bel b11 KQ10.out.lt)
  clear b11 CP X10 Q10 S10 KQ10 q0 q1 s0 s1
  -- the first round trip
  go_upto_if 69 with fail
  go_cut [4] from 70 to 87 (fun s wx => Below w11.heap.size w11 wx)
  case first =>
    by_cases hok : (⟨lsn0, l⟩ : Pg).ok
    · obtain ⟨rfl, rfl⟩ : xl = pgL ⟨lsn0, l⟩ ∧ xe = 0 := by
        have := HE.out
        rw [encPg_ok hok] at this
        injection this with e1 e2
        exact ⟨e1.symm, e2.symm⟩
      have CD := pgDec_any A3 n3 c3 (pgL ⟨lsn0, l⟩) w11 X11.out (by omega)
      rw [show decPg (pgL ⟨lsn0, l⟩) = (⟨lsn0, l⟩, 0) by have := decPg_back hok []; rwa [List.append_nil] at this] at CD
      have CD := Lib.hid CD
      clear hok
      go_wp2_with fail
      refine CD.out.mono ?_
      rintro e w12 ⟨A12, n12, c12, rfl, ho12, b12⟩
      simp only at ho12
      have B12 := Lib.hid b12
      have Z12 := Lib.hid ho12.pcs
      clear ho12 b12 CD
      go_upto_region 11 with fail
      obtain ⟨W13, hW13⟩ : ∃ W, W = w12.alloc (.cells #[.int .i64 lsn0, .slice A12 n12 c12] 24) := ⟨_, rfl⟩
      rw [← hW13]
      have b13 : Below w12.heap.size w12 W13 := by rw [hW13]; exact (Below.refl _ _).alloc (Nat.le_refl _) _
      have kz : Bk W13 w12.heap.size 24 #[.int .i64 lsn0, .slice A12 n12 c12] := by rw [hW13]; exact Bk.new w12 _ _
      have B13 := Lib.hid (Below.then B12.out b13)
      have Z13 := Lib.hid (Z12.out.below b13)
      obtain ⟨p0, p1⟩ := FC.out W13 (Below.then B11.out B13.out)
      have z0 := kz.cell 0
      have z1 := kz.cell 1
      simp only [List.getElem?_toArray, List.getElem?_cons_zero, List.getElem?_cons_succ] at z0 z1
      have CP := Lib.hid (samePg_yes lsn0 A12 n12 c12 PA pn pc l W13 Z13.out (HP.out.below (Below.then B11.out B13.out)))
      have hn254 : ¬ (254 : Int) < (n3 : Int) := by omega
      clear hW13 b13 kz Z12
      go_wp2_with fail
      refine CP.out.mono ?_
      rintro e w14 ⟨rfl, b14⟩
      have B14 := Lib.hid (Below.then B13.out b14)
      clear b14 CP p0 p1 z0 z1
      go_wp2_with fail
      go_meet
      case rel => exact B14.out
    · obtain ⟨rfl, rfl⟩ : xl = [] ∧ xe = 1 := by
        have := HE.out
        rw [encPg_no hok] at this
        injection this with e1 e2
        exact ⟨e1.symm, e2.symm⟩
      clear hok
      go_wp2_with fail
      go_meet
      case rel => exact Below.refl _ _
  case rest =>
    have BC := Lib.hid (Below.then B11.out hcut)
    have Q12 := Lib.hid (Q11.out.below hcut)
    have KQ12 := Lib.hid (KQ11.out.bel hcut KQ11.out.lt)
    clear hcut Q11 KQ11 X11
    by_cases hq : qe = 0
    · subst hq
      obtain ⟨hqok, rr, hbe⟩ := decPg_exact HRB.out (show (decPg b).2 = 0 by rw [HD.out])
      rw [HD.out] at hqok hbe
      simp only at hqok hbe
      have CE := pgEnc_any ql A6 n6 c6 qc wc Q12.out
      rw [encPg_ok hqok] at CE
      have CE := Lib.hid CE
      have HBE := Lib.hid hbe
      have q0 := KQ12.out.cell 0
      have q1 := KQ12.out.cell 1
      simp only [List.getElem?_toArray, List.getElem?_cons_zero, List.getElem?_cons_succ] at q0 q1
      clear hqok hbe
      go_wp2_with fail
      refine CE.out.mono ?_
      rintro e w12 ⟨A12, n12, c12, rfl, ho12, hr12, b12⟩
      have Z12 := Lib.hid (Byt.of_own ho12 hr12)
      have B12 := Lib.hid (Below.then BC.out b12)
      have hn12 : n12 ≤ k := by
        rw [← Z12.out.len, ← hbl, HBE.out, List.length_append]
        simp only
        omega
      have TK := Lib.hid ((HY.out.below B12.out).take n12 hn12)
      have ET : Hid (pgL ⟨ql, qc⟩ = b.take n12) := Lib.hid (by
        rw [HBE.out, ← Z12.out.len]
        simp only
        rw [List.take_left])
      have CS := Lib.hid (same_yes A12 n12 c12 A n12 c _ _ w12 Z12.out TK.out ET.out)
      have hn12' : ¬ (k : Int) < (n12 : Int) := by omega
      have hn12c : (n12 : Int) ≤ (c : Int) := by omega
      have hn120 : (0 : Int) ≤ (n12 : Int) := by omega
      have hn12k : (n12 : Int) ≤ (k : Int) := by omega
      clear ho12 hr12 b12 CE q0 q1
      go_wp2_with fail
      refine (Quiet.ret CS.out).mono ?_
      rintro e w13 ⟨rfl, b13⟩
      have B13 := Lib.hid (Below.then B12.out b13)
      clear b13 CS
      go_wp2_with fail
      refine (awake10 _).mono ?_
      rintro e wz hr
      obtain ⟨rfl, hb⟩ := AWK.out _ (Below.then HB.out B13.out) _ _ hr
      have H := Lib.hid hb
      clear hb hr
      go_wp2_with fail
      go_ret
      exact ⟨rfl, H.out⟩
    · have hz : ((qe : Int) == 0) = false := by simp; omega
      clear hq
      go_wp2_with fail
      refine (awake10 _).mono ?_
      rintro e wz hr
      obtain ⟨rfl, hb⟩ := AWK.out _ (Below.then HB.out BC.out) _ _ hr
      have H := Lib.hid hb
      clear hb hr
      go_wp2_with fail
      go_ret
      exact ⟨rfl, H.out⟩
end Go.Proofs.Ytfmfmdiegabobaa

/- 'Rows.PageWritesSaid': for every input trothlaw10.PageWrites answers true, and what came in reads behind the call as before. No condition. -/
namespace Go.Proofs.Ytfmfmdiegabobaa
open Go.ChangeShapes Go.WideShapes Go.ChangeAt Go.RowKit

set_option maxRecDepth 100000 in
theorem pageWrites_lifted (os : Os) (started : os.Started) (H : Type) (enc : TypeId × Value → H) :
    ReturnsInHanded {} Try.checked os 3 .any (Rows.pageWritesSpec.pre6 enc Try.prog Try.f3 Rows.pageWritesRow.domain false) (Rows.pageWritesSpec.post enc Try.prog Try.f3 false true false false) := by
  refine returnsInHanded_of_change_sized (C := Try.checked) own_knob started (by kernel_rfl) Try.func3
    (ChangeSpec.witness6 (enc := enc) (C := Try.checked) false ⟨#[], #[.agg #[.int .i64 0, .slice none 0 0], .slice none 0 0], []⟩ 8 (by kernel_rfl) (by kernel_rfl) (by kernel_rfl) (by kernel_rfl)) ?_
  intro W base args ds gs before hval0 hW _ hsz0 _
  have hsz : (DataW.weightsEach Try.prog (Try.f3.params.toList ++ Rows.pageWritesSpec.plain.varTypes Try.prog) (ds ++ gs)).all (· ≤ reachBytes) = true := hsz0
  have hval : ∀ (j : Nat) t v, Try.f3.params[j]? = some t → args[j]? = some v → Value.okWide Try.prog W .any base t v := hval0
  have hW' := hW
  obtain ⟨p, q, hA0, hV, rfl, hfz, hnd⟩ := hW
  have hA : DataW.TrodAll enc Try.prog W 0 (fun _ => true) true Try.f3.params.toList args.toList ds p := hA0
  rw [Try.params3] at hA hval hsz
  obtain ⟨v0, vs0, d0, ds0, p0, q0, hargs, rfl, rfl, h0, r0⟩ := trodAll_cons hA
  obtain ⟨v1, vs1, d1, ds1, p1, q1, rfl, rfl, rfl, h1, r1⟩ := trodAll_cons r0
  obtain ⟨rfl, rfl, rfl⟩ := trodAll_nil r1
  obtain rfl : args = #[v0, v1] := by cases args; simp_all
  obtain ⟨rfl, rfl⟩ := trodVars_none hV
  have k0 := h0
  have lt0 : ∀ x ∈ p0, x.block < W.heap.size := by obtain ⟨m, hm⟩ := k0; exact DataW.trod_lt m _ _ _ hm
  obtain ⟨m0, rfl, b0⟩ := open_pg (hval 0 24 v0 rfl rfl) h0
  obtain ⟨a1, n1, c1, rfl⟩ := okWide_slice Try.underlying25 (hval 1 25 v1 rfl rfl)
  have k1 := h1
  have lt1 : ∀ x ∈ p1, x.block < W.heap.size := by obtain ⟨m, hm⟩ := k1; exact DataW.trod_lt m _ _ _ hm
  obtain ⟨l1, b1, e1⟩ := open_bytes h1
  have z1 : n1 ≤ 140737488351232 := bytes_reach hsz (j := 1) rfl rfl e1
  clear hA0 hval0 hsz0 hsz
  refine (pageWrites_walk m0 a1 n1 c1 l1 W b0 b1 z1).mono fun e W' ⟨he, bel⟩ => ?_
  subst he
  exact ⟨_, rfl, _, _, _, [], _, [], hW', trodAll_mk1 (shut_bool Try.underlying4 _), (trodAll_cons_mk (Below.trod laidOut (by kernel_rfl) (of_decide_eq_true (by kernel_rfl)) k0 bel lt0) (trodAll_cons_mk (Below.trod laidOut (by kernel_rfl) (of_decide_eq_true (by kernel_rfl)) k1 bel lt1) trodAll_mk0)), rfl, bel.frame _, fun h => by cases h⟩

/-- The statement. -/
theorem pageWrites_holds : Rows.PageWritesSaid :=
  OpenClaim.holds_of_wide 3 Try.f3 rfl rfl rfl rfl rfl rfl rfl ⟨rfl, rfl, rfl, rfl, rfl⟩ rfl rfl rfl rfl rfl (by kernel_rfl) Try.func3 (by kernel_rfl)
    (of_decide_eq_true (by kernel_rfl)) (by unfold Func.isWrapper; first | (rw [if_pos (by decide +kernel)]; kernel_rfl) | (rw [if_neg (by decide +kernel)]; exact ⟨rfl, rfl⟩))
    (fun os started H enc _ => pageWrites_lifted os started H enc)
#print axioms pageWrites_holds
end Go.Proofs.Ytfmfmdiegabobaa
