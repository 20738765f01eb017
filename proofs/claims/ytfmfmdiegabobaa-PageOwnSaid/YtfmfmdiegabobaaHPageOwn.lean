/- What it says: 'Rows.PageOwnSaid': for every input trothlaw10.PageOwn answers true, and what came in reads behind the call as before. No condition. -/
import Derived.Test.YtfmfmdiegabobaaPa3
import Derived.Test.YtfmfmdiegabobaaPa4
import Derived.Test.YtfmfmdiegabobaaPa5

set_option linter.unusedSimpArgs false
set_option linter.unusedVariables false
set_option linter.deprecated false
set_option linter.unusedSectionVars false
set_option linter.all false
namespace Go.Proofs.Ytfmfmdiegabobaa

/- the Go text of trothlaw10.PageOwn answers true, and writes nothing that was there. -/
section
open Go.RowKit
set_option maxRecDepth 100000 in
set_option maxHeartbeats 4000000 in
theorem pageOwn_walk (m : Xp) (lsn : Int) (key : ByteArray) (v : Vl) (w : World) (h : XpIn w m) (hl : -9223372036854775808 ≤ lsn ∧ lsn ≤ 9223372036854775807) (_hk : key.size ≤ 140737488351232) (_hv : True) :
    Calls Try.prog 7 #[m.val, .int .i64 lsn, .string key, vlV v] w (Ret (.bool true) w) := by
  obtain ⟨lsn0, A, n, c, l⟩ := m
  obtain ⟨hs, d⟩ := v
  obtain ⟨_, hp⟩ := h
  simp only at hp
  show Calls _ _ #[pgV lsn0 A n c, .int .i64 lsn, .string key, .agg #[.bool hs, .string d]] w _
  have hcap := hp.flt.cap
  have hmax := hp.flt.max
  unfold maxLen at hmax
  obtain ⟨W0, hW0⟩ : ∃ W, W = (w.alloc (.cells #[.int .i64 lsn0, .slice A n c] 24)).alloc (.cells #[.bool hs, .string d] 42) := ⟨_, rfl⟩
  have HB : Hid (Below w.heap.size w W0) := Lib.hid (by rw [hW0]; exact ((Below.refl _ _).alloc (Nat.le_refl _) _).alloc (by simp) _)
  have BP : Hid (Bk W0 w.heap.size 24 #[.int .i64 lsn0, .slice A n c]) := Lib.hid (by rw [hW0]; exact (Bk.new w _ _).bel ((Below.refl _ _).alloc (Nat.le_refl _) _) (by simp))
  have BV : Hid (Bk W0 (w.heap.size + 1) 42 #[.bool hs, .string d]) := Lib.hid (by
    rw [hW0]
    have := Bk.new (w.alloc (.cells #[.int .i64 lsn0, .slice A n c] 24)) 42 #[.bool hs, .string d]
    rwa [World.size_alloc] at this)
  have HP := Lib.hid (hp.below HB.out)
  have FC : Hid (∀ W, Below W0.heap.size W0 W → W.cell? ⟨w.heap.size, 0, none⟩ = some (.int .i64 lsn0) ∧ W.cell? ⟨w.heap.size, 1, none⟩ = some (.slice A n c) ∧ W.cell? ⟨w.heap.size + 1, 0, none⟩ = some (.bool hs) ∧ W.cell? ⟨w.heap.size + 1, 1, none⟩ = some (.string d)) := Lib.hid (fun W hb => by
    have a := BP.out.bel hb BP.out.lt
    have b := BV.out.bel hb BV.out.lt
    exact ⟨a.cell 0, a.cell 1, b.cell 0, b.cell 1⟩)
  have CG := Lib.hid (greatPg_any lsn0 A n c l W0 HP.out)
  have HW := Lib.hid hW0
  obtain ⟨p0, p1, v0, v1⟩ := FC.out W0 (Below.refl _ _)
  clear hW0 hp
  go_enter Try.func7, Try.ntmps7
  go_upto_region 1 with fail
  rw [← HW.out]
  go_wp2_with fail
  refine CG.out.mono ?_
  rintro e w1 ⟨bg, rfl, hfew, b1⟩
  have HFEW := Lib.hid hfew
  have B1 := Lib.hid b1
  clear b1 hfew CG p0 p1 v0 v1
  have awk : ∀ (W : World), Below w.heap.size w W → ∀ e W', Ret (.bool true) W e W' → e = .returned (.bool true) ∧ Below w.heap.size w W' := fun W hb e W' h => ⟨h.1, Below.then hb h.2⟩
  have AWK := Lib.hid awk
  clear awk
  cases bg with
  | true =>
    go_wp2_with fail
    refine (awake10 _).mono ?_
    rintro e w2 hr
    obtain ⟨rfl, hb⟩ := AWK.out _ (Below.then HB.out B1.out) _ _ hr
    have H := Lib.hid hb
    clear hb hr
    go_wp2_with fail
    go_ret
    exact ⟨rfl, H.out⟩
  | false =>
    have hn20 : l.length ≤ 20 := (HFEW.out rfl).1
    have hlen := HP.out.len
    go_wp2_with fail
    obtain ⟨bk, hbk⟩ : ∃ b, decide (keyOk key) = b := ⟨_, rfl⟩
    have CK := rKey_any key w1
    rw [hbk] at CK
    refine CK.mono ?_
    rintro e w2 ⟨rfl, b2⟩
    have B2 := Lib.hid (Below.then B1.out b2)
    clear b2 CK hbk
    cases bk with
    | false =>
      go_wp2_with fail
      refine (awake10 _).mono ?_
      rintro e w3 hr
      obtain ⟨rfl, hb⟩ := AWK.out _ (Below.then HB.out B2.out) _ _ hr
      have H := Lib.hid hb
      clear hb hr
      go_wp2_with fail
      go_ret
      exact ⟨rfl, H.out⟩
    | true =>
      obtain ⟨_, _, v0, v1⟩ := FC.out w2 B2.out
      go_wp2_with fail
      obtain ⟨bv, hbv⟩ : ∃ b, decide (vlOk ⟨hs, d⟩) = b := ⟨_, rfl⟩
      have CV := refValue_any ⟨hs, d⟩ w2
      rw [hbv] at CV
      refine CV.mono ?_
      rintro e w3 ⟨rfl, b3⟩
      have B3 := Lib.hid (Below.then B2.out b3)
      clear b3 CV hbv v0 v1
      cases bv with
      | false =>
        go_wp2_with fail
        refine (awake10 _).mono ?_
        rintro e w4 hr
        obtain ⟨rfl, hb⟩ := AWK.out _ (Below.then HB.out B3.out) _ _ hr
        have H := Lib.hid hb
        clear hb hr
        go_wp2_with fail
        go_ret
        exact ⟨rfl, H.out⟩
      | true =>
        obtain ⟨p0, p1, _, _⟩ := FC.out w3 B3.out
        have CC := Lib.hid (copy_any lsn0 A n c l w3 (HP.out.below B3.out) (by omega))
        go_wp2_with fail
        refine CC.out.mono ?_
        rintro e w4 ⟨A4, n4, c4, rfl, ho4, b4⟩
        have B4 := Lib.hid (Below.then B3.out b4)
        have HO4 := Lib.hid ho4
        obtain rfl : n4 = n := by rw [← ho4.len, hlen]
        have HLT : Hid (∀ q, (Value.slice A4 n4 c4).ownBlock = some q → w3.heap.size ≤ q ∧ q < w4.heap.size) := Lib.hid (fun q hq => ho4.own.lt q hq)
        clear b4 ho4 CC p0 p1
        go_upto_region 4 with fail
        obtain ⟨W5, hW5⟩ : ∃ W, W = w4.alloc (.cells #[.int .i64 lsn0, .slice A4 n4 c4] 24) := ⟨_, rfl⟩
        rw [← hW5]
        have b5 : Below w4.heap.size w4 W5 := by rw [hW5]; exact (Below.refl _ _).alloc (Nat.le_refl _) _
        have B5 := Lib.hid (Below.then B4.out b5)
        have K5 : Hid (Bk W5 w4.heap.size 24 #[.int .i64 lsn0, .slice A4 n4 c4]) := Lib.hid (by rw [hW5]; exact Bk.new w4 _ _)
        have HO5 := Lib.hid (HO4.out.below b5)
        obtain ⟨_, _, v0, v1⟩ := FC.out W5 B5.out
        have x0 : W5.cell? ⟨w4.heap.size, 0, none⟩ = some (.int .i64 lsn0) := K5.out.cell 0
        have x1 : W5.cell? ⟨w4.heap.size, 1, none⟩ = some (.slice A4 n4 c4) := K5.out.cell 1
        clear hW5 b5
        obtain ⟨r, hr⟩ : ∃ r, setPg ⟨lsn0, l⟩ lsn ⟨key, ⟨hs, d⟩⟩ = r := ⟨_, rfl⟩
        have HSM : Hid (r.1.cells.length ≤ 4 ∧ (r.2 ≠ 0 → r.1 = pg0)) := Lib.hid (by rw [← hr]; exact ⟨setPg_small _ _ _, setPg_zero⟩)
        have CS := set_any lsn0 A4 n4 c4 l lsn ⟨key, ⟨hs, d⟩⟩ W5 HO5.out.pcs
        rw [hr] at CS
        have CS := Lib.hid CS
        clear hr
        go_wp2_with fail
        refine CS.out.mono ?_
        rintro e w6 ⟨A6, n6, c6, rfl, ho6, b6⟩
        have B6 := Lib.hid (Below.then B5.out b6)
        have HO6 := Lib.hid ho6
        have K6 := Lib.hid (K5.out.bel b6 K5.out.lt)
        have HX6 := Lib.hid (HO5.out.below b6)
        obtain ⟨rp, re⟩ := r
        obtain ⟨rl, rc⟩ := rp
        simp only at HSM HO6
        have S56 := Lib.hid b6.size
        have S45 : Hid (w4.heap.size < W5.heap.size) := Lib.hid K5.out.lt
        clear b6 ho6 CS x0 x1 v0 v1 K5 HO5
        go_upto_region 5 with fail
        obtain ⟨W7, hW7⟩ : ∃ W, W = w6.alloc (.cells #[.int .i64 rl, .slice A6 n6 c6] 24) := ⟨_, rfl⟩
        rw [← hW7]
        have b7 : Below w6.heap.size w6 W7 := by rw [hW7]; exact (Below.refl _ _).alloc (Nat.le_refl _) _
        have B7 := Lib.hid (Below.then B6.out b7)
        have Q7 : Hid (Bk W7 w6.heap.size 24 #[.int .i64 rl, .slice A6 n6 c6]) := Lib.hid (by rw [hW7]; exact Bk.new w6 _ _)
        have HO7 := Lib.hid (HO6.out.below b7)
        have K7 := Lib.hid (K6.out.bel b7 K6.out.lt)
        have HX7 := Lib.hid (HX6.out.below b7)
        have y0 : W7.cell? ⟨w6.heap.size, 0, none⟩ = some (.int .i64 rl) := Q7.out.cell 0
        have y1 : W7.cell? ⟨w6.heap.size, 1, none⟩ = some (.slice A6 n6 c6) := Q7.out.cell 1
        have hn6 : n6 ≤ 4 := by rw [← HO6.out.len]; exact HSM.out.1
        have CC := Lib.hid (copy_any rl A6 n6 c6 rc W7 HO7.out.pcs (by omega))
        have S67 := Lib.hid b7.size
        clear hW7 b7 K6 HX6
        go_wp2_with fail
        refine CC.out.mono ?_
        rintro e w8 ⟨A8, n8, c8, rfl, ho8, b8⟩
        obtain rfl : n8 = n6 := by rw [← ho8.len, HO7.out.len]
        have HO8 := Lib.hid ho8
        have B8 := Lib.hid (Below.then B7.out b8)
        have Q8 := Lib.hid (Q7.out.bel b8 Q7.out.lt)
        have K8 := Lib.hid (K7.out.bel b8 K7.out.lt)
        have HX8 := Lib.hid (HX7.out.below b8)
        have HQ8 := Lib.hid (HO7.out.below b8)
        have S78 := Lib.hid b8.size
        clear b8 ho8 CC y0 y1 K7 HX7 HO7 Q7
        go_upto_region 6 with fail
        obtain ⟨W9, hW9⟩ : ∃ W, W = w8.alloc (.cells #[.int .i64 rl, .slice A8 n8 c8] 24) := ⟨_, rfl⟩
        rw [← hW9]
        have b9 : Below w8.heap.size w8 W9 := by rw [hW9]; exact (Below.refl _ _).alloc (Nat.le_refl _) _
        have B9 := Lib.hid (Below.then B8.out b9)
        have V9 : Hid (Bk W9 w8.heap.size 24 #[.int .i64 rl, .slice A8 n8 c8]) := Lib.hid (by rw [hW9]; exact Bk.new w8 _ _)
        have Q9 := Lib.hid (Q8.out.bel b9 Q8.out.lt)
        have K9 := Lib.hid (K8.out.bel b9 K8.out.lt)
        have HX9 := Lib.hid (HX8.out.below b9)
        have HQ9 := Lib.hid (HQ8.out.below b9)
        have HV9 := Lib.hid (HO8.out.below b9)
        clear hW9 b9 Q8 K8 HX8 HQ8 HO8
        obtain ⟨p0, p1, _, _⟩ := FC.out W9 B9.out
        have x0 : W9.cell? ⟨w4.heap.size, 0, none⟩ = some (.int .i64 lsn0) := K9.out.cell 0
        have x1 : W9.cell? ⟨w4.heap.size, 1, none⟩ = some (.slice A4 n4 c4) := K9.out.cell 1
        have CS := Lib.hid (samePg_yes lsn0 A4 n4 c4 A n4 c l W9 HX9.out.pcs (HP.out.below B9.out))
        go_wp2_with fail
        refine CS.out.mono ?_
        rintro e W10 ⟨rfl, b10⟩
        have B10 := Lib.hid (Below.then B9.out b10)
        have V10 := Lib.hid (V9.out.bel b10 V9.out.lt)
        have Q10 := Lib.hid (Q9.out.bel b10 Q9.out.lt)
        have K10 := Lib.hid (K9.out.bel b10 K9.out.lt)
        have HX10 := Lib.hid (HX9.out.below b10)
        have HQ10 := Lib.hid (HQ9.out.below b10)
        have HV10 := Lib.hid (HV9.out.below b10)
        clear b10 V9 Q9 K9 HX9 HQ9 HV9 CS p0 p1 x0 x1
        have x1 : W10.cell? ⟨w4.heap.size, 1, none⟩ = some (.slice A4 n4 c4) := K10.out.cell 1
        have FIN : Hid (∀ wr, Fr (fun q => (Value.slice A4 n4 c4).ownBlock = some q) W10 wr → Bk wr w6.heap.size 24 #[.int .i64 rl, .slice A6 n8 c6] ∧ Bk wr w8.heap.size 24 #[.int .i64 rl, .slice A8 n8 c8] ∧ Pcs wr A6 n8 c6 rc ∧ Pcs wr A8 n8 c8 rc ∧ Below w.heap.size w wr ∧ wr.cell? ⟨w4.heap.size, 1, none⟩ = some (.slice A4 n4 c4)) := Lib.hid (fun wr f => by
          have hne : ∀ k, w4.heap.size ≤ k → ¬ (Value.slice A4 n4 c4).ownBlock = some k := fun k hk q => by have := (HLT.out k q).2; omega
          have s45 := S45.out
          have s56 := S56.out
          have s7 := Q10.out.lt
          have s8 := V10.out.lt
          have bk : ∀ {k : Nat} {t : TypeId} {cs : Array Value}, w4.heap.size ≤ k → Bk W10 k t cs → Bk wr k t cs := fun {k t cs} hk hb => (f.block k hb.lt (hne k hk)).trans hb
          have s67 := S67.out
          have s78 := S78.out
          refine ⟨bk (by omega) Q10.out, bk (by omega) V10.out, (⟨own_stay HQ10.out.own (fun q hq => f.block q (HQ10.out.own.lt q hq).2 (hne q (by have := (HQ10.out.own.lt q hq).1; omega))), HQ10.out.len⟩ : OwnP _ _ _ _ _ _).pcs, (⟨own_stay HV10.out.own (fun q hq => f.block q (HV10.out.own.lt q hq).2 (hne q (by have := (HV10.out.own.lt q hq).1; omega))), HV10.out.len⟩ : OwnP _ _ _ _ _ _).pcs, ?_, (bk (Nat.le_refl _) K10.out).cell 1⟩
          exact (Below.then HB.out B10.out).trans (f.below (by have := (Below.then HB.out B10.out).size; exact this) (fun k hk => by have := (HLT.out k hk).1; have := (Below.then HB.out B3.out).size; omega)))
        have R0 : Hid (∀ g, (Value.slice A4 n4 c4).ownBlock = some g → ∃ cur, Bk W10 g 54 cur ∧ n4 * 3 ≤ cur.size) := Lib.hid (fun g hg => by
          rcases HX10.out.own.2 with ⟨h1, _⟩ | ⟨g', cap, cur, h1, _, h3, h4, _, h6, _⟩
          · rw [h1] at hg; simp [Value.ownBlock] at hg
          · rw [h1] at hg
            simp [Value.ownBlock] at hg
            subst hg
            exact ⟨cur, h3, by rw [h6]; exact Nat.mul_le_mul_right 3 h4⟩)
        have FRM : Hid (∃ a c', Value.slice A4 n4 c4 = .slice a n4 c' ∧ (0 < n4 → ∃ g, a = some ⟨g, 0, none⟩ ∧ n4 ≤ c' ∧ c' ≤ 9223372036854775807)) := Lib.hid (by
          rcases HX10.out.own.2 with ⟨h1, h2⟩ | ⟨g', cap, cur, h1, _, h3, h4, h5, _⟩
          · exact ⟨A4, c4, rfl, fun q => by omega⟩
          · exact ⟨_, cap, h1, fun _ => ⟨g', rfl, h4, by unfold maxLen at h5; omega⟩⟩)
        go_wp2_with fail
        go_loopw [13] (fun y wr => ∃ k : Nat, k ≤ n4 ∧ y = .int .i64 k ∧ Fr (fun q => (Value.slice A4 n4 c4).ownBlock = some q) W10 wr ∧ (∀ g, (Value.slice A4 n4 c4).ownBlock = some g → ∃ cur, Bk wr g 54 cur ∧ n4 * 3 ≤ cur.size)) (fun y _ => n4 - (intOf y).toNat)
        case atStart => exact ⟨0, Nat.zero_le _, rfl, Fr.refl _ _, R0.out⟩
        case round =>
          obtain ⟨k, hk, rfl, hf, hr⟩ := hrel
          have HF := Lib.hid hf
          have HR := Lib.hid hr
          obtain ⟨_, _, _, _, _, x1⟩ := FIN.out wr hf
          clear hf hr R0
          by_cases hlt : k < n4
          · obtain ⟨a, c', e1, e2⟩ := FRM.out
            obtain ⟨g, rfl, hnc, hcm⟩ := e2 (by omega)
            injection e1 with e1 _ e3
            subst e1 e3
            obtain ⟨cur, hb, hsz⟩ := HR.out g rfl
            have hex : ∃ u, wr.cell? ⟨g, k * 3 + 2, none⟩ = some u := ⟨_, by rw [hb.cell]; exact Array.getElem?_eq_getElem (by omega)⟩
            obtain ⟨u, hu⟩ := hex
            have hfz : wr.frozen? ⟨g, k * 3 + 2, none⟩ = false := hb.frz _
            have NR : Hid (Fr (fun q => (Value.slice (some ⟨g, 0, none⟩) n4 c4).ownBlock = some q) W10 (wr.setCell ⟨g, k * 3 + 2, none⟩ (.string ⟨#[63]⟩)) ∧ (∀ g', (Value.slice (some ⟨g, 0, none⟩) n4 c4).ownBlock = some g' → ∃ cur, Bk (wr.setCell ⟨g, k * 3 + 2, none⟩ (.string ⟨#[63]⟩)) g' 54 cur ∧ n4 * 3 ≤ cur.size)) := Lib.hid ⟨HF.out.setCell (a := ⟨g, k * 3 + 2, none⟩) rfl _, fun g' hg' => by
              simp [Value.ownBlock] at hg'
              subst hg'
              exact ⟨_, hb.setc (k * 3 + 2) (.string ⟨#[63]⟩), by simpa using hsz⟩⟩
            clear hb
            go_wp2_with fail
            go_roundw
            case rel => exact ⟨k + 1, by omega, by go_num, NR.out.1, NR.out.2⟩
            case measure => simp [intOf]; omega
          · obtain rfl : k = n4 := by omega
            obtain ⟨bq, bv, pq, pv, bw, _⟩ := FIN.out wr HF.out
            have q0 := bq.cell 0
            have q1 := bq.cell 1
            have u0 := bv.cell 0
            have u1 := bv.cell 1
            simp only [List.getElem?_toArray, List.getElem?_cons_zero, List.getElem?_cons_succ] at q0 q1 u0 u1
            have BW := Lib.hid bw
            have BQ := Lib.hid bq
            have CS := Lib.hid (samePg_yes rl A6 n8 c6 A8 n8 c8 rc wr pq pv)
            clear bq bv pq pv bw HF HR x1
            go_wp2_with fail
            refine CS.out.mono ?_
            rintro e w11 ⟨rfl, b11⟩
            have B11 := Lib.hid (Below.then BW.out b11)
            have q1' : w11.cell? ⟨w6.heap.size, 1, none⟩ = some (.slice A6 n8 c6) := (BQ.out.bel b11 BQ.out.lt).cell 1
            clear b11 CS q0 q1 u0 u1
            by_cases hre : re = 0
            · subst hre
              go_wp2_with fail
              refine (awake10 _).mono ?_
              rintro e w12 hr
              obtain ⟨rfl, hb⟩ := AWK.out _ B11.out _ _ hr
              have H := Lib.hid hb
              clear hb hr
              go_wp2_with fail
              go_ret
              exact ⟨rfl, H.out⟩
            · have hz : ((re : Int) == 0) = false := by simp; omega
              have hn0 : n8 = 0 := by
                have := HSM.out.2 hre
                have e2 : rc = [] := by injection this
                rw [← HQ10.out.len, e2]
                rfl
              subst hn0
              go_wp2_with fail
              refine (awake10 _).mono ?_
              rintro e w12 hr
              obtain ⟨rfl, hb⟩ := AWK.out _ B11.out _ _ hr
              have H := Lib.hid hb
              clear hb hr
              go_wp2_with fail
              go_ret
              exact ⟨rfl, H.out⟩
end

/- 'Rows.PageOwnSaid': for every input trothlaw10.PageOwn answers true, and what came in reads behind the call as before. No condition. -/
section
open Go.ChangeShapes Go.WideShapes Go.ChangeAt Go.RowKit
open Go.ChangeMaps (open_string shut_string)
set_option maxRecDepth 100000 in
theorem pageOwn_lifted (os : Os) (started : os.Started) (H : Type) (enc : TypeId × Value → H) :
    ReturnsInHanded {} Try.checked os 7 .any (Rows.pageOwnSpec.pre6 enc Try.prog Try.f7 Rows.pageOwnRow.domain false) (Rows.pageOwnSpec.post enc Try.prog Try.f7 false true false false) := by
  refine returnsInHanded_of_change_sized (C := Try.checked) own_knob started (by kernel_rfl) Try.func7
    (ChangeSpec.witness6 (enc := enc) (C := Try.checked) false ⟨#[], #[.agg #[.int .i64 0, .slice none 0 0], .int .i64 0, .string ByteArray.empty, .agg #[.bool false, .string ByteArray.empty]], []⟩ 8 (by kernel_rfl) (by kernel_rfl) (by kernel_rfl) (by kernel_rfl)) ?_
  intro W base args ds gs before hval0 hW _ hsz0 _
  have hsz : (DataW.weightsEach Try.prog (Try.f7.params.toList ++ Rows.pageOwnSpec.plain.varTypes Try.prog) (ds ++ gs)).all (· ≤ reachBytes) = true := hsz0
  have hval : ∀ (j : Nat) t v, Try.f7.params[j]? = some t → args[j]? = some v → Value.okWide Try.prog W .any base t v := hval0
  have hW' := hW
  obtain ⟨p, q, hA0, hV, rfl, hfz, hnd⟩ := hW
  have hA : DataW.TrodAll enc Try.prog W 0 (fun _ => true) true Try.f7.params.toList args.toList ds p := hA0
  rw [Try.params7] at hA hval hsz
  obtain ⟨v0, vs0, d0, ds0, p0, q0, hargs, rfl, rfl, h0, r0⟩ := trodAll_cons hA
  obtain ⟨v1, vs1, d1, ds1, p1, q1, rfl, rfl, rfl, h1, r1⟩ := trodAll_cons r0
  obtain ⟨v2, vs2, d2, ds2, p2, q2, rfl, rfl, rfl, h2, r2⟩ := trodAll_cons r1
  obtain ⟨v3, vs3, d3, ds3, p3, q3, rfl, rfl, rfl, h3, r3⟩ := trodAll_cons r2
  obtain ⟨rfl, rfl, rfl⟩ := trodAll_nil r3
  obtain rfl : args = #[v0, v1, v2, v3] := by cases args; simp_all
  obtain ⟨rfl, rfl⟩ := trodVars_none hV
  have k0 := h0
  have lt0 : ∀ x ∈ p0, x.block < W.heap.size := by obtain ⟨m, hm⟩ := k0; exact DataW.trod_lt m _ _ _ hm
  obtain ⟨m0, rfl, b0⟩ := open_pg (hval 0 24 v0 rfl rfl) h0
  obtain ⟨a1, rfl, rfl, rfl, w1⟩ := open_int Try.underlying3 (hval 1 3 v1 rfl rfl) h1
  have g1 := i64_bd w1
  obtain ⟨a2, rfl, e2, rfl, w2⟩ := open_string Try.underlying9 (hval 2 9 v2 rfl rfl) h2
  have z2 : a2.size ≤ 140737488351232 := by have := sized_string hsz (j := 2) rfl (by rw [e2]; rfl); rw [Lib.size_eq]; exact Nat.le_trans this (by decide)
  subst e2
  have k3 := h3
  have lt3 : ∀ x ∈ p3, x.block < W.heap.size := by obtain ⟨m, hm⟩ := k3; exact DataW.trod_lt m _ _ _ hm
  obtain ⟨m3, rfl, b3⟩ := open_value (hval 3 42 v3 rfl rfl) h3
  clear hA0 hval0 hsz0 hsz
  refine (pageOwn_walk m0 a1 a2 m3 W b0 g1 z2 b3).mono fun e W' ⟨he, bel⟩ => ?_
  subst he
  exact ⟨_, rfl, _, _, _, [], _, [], hW', trodAll_mk1 (shut_bool Try.underlying4 _), (trodAll_cons_mk (Below.trod laidOut (by kernel_rfl) (of_decide_eq_true (by kernel_rfl)) k0 bel lt0) (trodAll_cons_mk (shut_int Try.underlying3 w1) (trodAll_cons_mk (shut_string Try.underlying9 w2) (trodAll_cons_mk (Below.trod laidOut (by kernel_rfl) (of_decide_eq_true (by kernel_rfl)) k3 bel lt3) trodAll_mk0)))), rfl, bel.frame _, fun h => by cases h⟩
/-- The statement. -/
theorem pageOwn_holds : Rows.PageOwnSaid :=
  OpenClaim.holds_of_wide 7 Try.f7 rfl rfl rfl rfl rfl rfl rfl ⟨rfl, rfl, rfl, rfl, rfl⟩ rfl rfl rfl rfl rfl (by kernel_rfl) Try.func7 (by kernel_rfl)
    (of_decide_eq_true (by kernel_rfl)) (by unfold Func.isWrapper; first | (rw [if_pos (by decide +kernel)]; kernel_rfl) | (rw [if_neg (by decide +kernel)]; exact ⟨rfl, rfl⟩))
    (fun os started H enc _ => pageOwn_lifted os started H enc)
#print axioms pageOwn_holds
end
end Go.Proofs.Ytfmfmdiegabobaa
