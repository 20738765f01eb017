/- What it says: contracts and plain mathematics that the laws' walks use, 28 of 34: each part's own remark says what; no condition. -/
import Derived.Test.YtfldcddbmikfiaaPw25
import Derived.Test.YtfldcddbmikfiaaPw27

set_option linter.unusedSimpArgs false
set_option linter.unusedVariables false
set_option linter.deprecated false
set_option linter.unusedSectionVars false
set_option linter.all false

/- trothref07.check answers true just of a checkpoint's lists that may be. -/
namespace Go.Proofs.Ytfldcddbmikfiaa
open Go.RowKit
def pre {α : Type} [Inhabited α] (p : α → Prop) (q : α → α → Prop) (l : List α) (k : Nat) : Prop := ∀ i, i < k → p (l.getD i default) ∧ (0 < i → q (l.getD (i - 1) default) (l.getD i default))
theorem pre_0 {α : Type} [Inhabited α] {p : α → Prop} {q : α → α → Prop} {l : List α} : pre p q l 0 := fun i hi => absurd hi (by omega)
theorem pre_next {α : Type} [Inhabited α] {p : α → Prop} {q : α → α → Prop} {l : List α} {k : Nat} (h : pre p q l k) (h1 : p (l.getD k default)) (h2 : 0 < k → q (l.getD (k - 1) default) (l.getD k default)) : pre p q l (k + 1) := fun i hi => by
  rcases Nat.lt_or_ge i k with z | z
  · exact h i z
  · obtain rfl : i = k := by omega
    exact ⟨h1, h2⟩
theorem RetB.bool {P : Prop} {b : Bool} {p : Program} {f : FuncId} {args : Array Value} {w : World} (h : Calls p f args w (RetB P w)) (hb : b = true ↔ P) : Calls p f args w (Ret (.bool b) w) :=
  h.mono fun e w' ⟨c, he, hc, m, hw⟩ => ⟨by rw [he]; congr 2; exact Bool.eq_iff_iff.2 (hc.trans hb.symm), by rw [hw]; exact below_drewN (Below.refl _ _) m⟩
abbrev ckdP (d : Dt) : Prop := (0 ≤ d.page ∧ d.page ≤ 63) ∧ seqOk 1 d.lsn
abbrev ckdQ (a b : Dt) : Prop := a.page < b.page
abbrev ckeP (d : Dd) : Prop := seqOk 1 d.tx ∧ memOk d.mem
abbrev ckeQ (a b : Dd) : Prop := a.tx < b.tx
abbrev ckpP : Int → Prop := seqOk 1
abbrev ckpQ (a b : Int) : Prop := a < b
set_option maxRecDepth 100000 in
set_option maxHeartbeats 16000000 in
theorem refCheck_any (x : Xr) (H : Nat) (w : World) (hx : XrIn H w x) : Calls Try.prog 25 #[x.val] w (RetBB (checkOk x.read) w) := by
  obtain ⟨kind, tx, prev, next, key, ⟨oh, od⟩, ⟨nh, nd⟩, co, mA, mn, mc, mem, kA, kn, kc, lks, rA, rn, rc, rows, dA, dn, dc, dirty, eA, en, ec, deeds, pA, pn, pc, past⟩ := x
  obtain ⟨RD, hRD⟩ : ∃ RD, RD = Xr.read ⟨kind, tx, prev, next, key, ⟨oh, od⟩, ⟨nh, nd⟩, co, mA, mn, mc, mem, kA, kn, kc, lks, rA, rn, rc, rows, dA, dn, dc, dirty, eA, en, ec, deeds, pA, pn, pc, past⟩ := ⟨_, rfl⟩
  have LD : Hid (RD.dirty = dirty ∧ RD.deeds = deeds.map Xd.deed ∧ RD.past = past ∧ RD.rows = rows.map Xw.row) := Lib.hid (by rw [hRD]; exact ⟨rfl, rfl, rfl, rfl⟩)
  rw [← hRD]
  clear hRD
  unfold Xr.val
  simp only
  obtain ⟨r, hrr⟩ : ∃ r, w.heap.size = r := ⟨_, rfl⟩
  obtain ⟨W1, hW1⟩ : ∃ W1, W1 = w.alloc (.cells #[.int .i64 kind, .int .i64 tx, .int .i64 prev, .int .i64 next, .string key, .bool oh, .string od, .bool nh, .string nd, .int .i64 co, .slice mA mn mc, .slice kA kn kc, .slice rA rn rc, .slice dA dn dc, .slice eA en ec, .slice pA pn pc] 30) := ⟨_, rfl⟩
  have hb : Below w.heap.size w W1 := by rw [hW1]; exact (Below.refl _ _).alloc (Nat.le_refl _) _
  have V0 : Bk W1 r 30 #[.int .i64 kind, .int .i64 tx, .int .i64 prev, .int .i64 next, .string key, .bool oh, .string od, .bool nh, .string nd, .int .i64 co, .slice mA mn mc, .slice kA kn kc, .slice rA rn rc, .slice dA dn dc, .slice eA en ec, .slice pA pn pc] := by rw [hW1, ← hrr]; exact Bk.new w _ _
  have HX := Lib.hid (hx.calm (Calm.of_below hb))
  have a12 : W1.cell? ⟨r, 12, none⟩ = some (.slice rA rn rc) := V0.cell 12
  have a13 : W1.cell? ⟨r, 13, none⟩ = some (.slice dA dn dc) := V0.cell 13
  have a14 : W1.cell? ⟨r, 14, none⟩ = some (.slice eA en ec) := V0.cell 14
  have a15 : W1.cell? ⟨r, 15, none⟩ = some (.slice pA pn pc) := V0.cell 15
  have HCell : Hid (∀ W, Below W1.heap.size W1 W → W.cell? ⟨r, 13, none⟩ = some (.slice dA dn dc) ∧ W.cell? ⟨r, 14, none⟩ = some (.slice eA en ec) ∧ W.cell? ⟨r, 15, none⟩ = some (.slice pA pn pc)) :=
    Lib.hid (fun W hb => ⟨(hb.cell (p := ⟨r, 13, none⟩) V0.lt).trans a13, (hb.cell (p := ⟨r, 14, none⟩) V0.lt).trans a14, (hb.cell (p := ⟨r, 15, none⟩) V0.lt).trans a15⟩)
  have NO : Hid (¬ checkOk RD → ∀ W, Below W1.heap.size W1 W → RetBB (checkOk RD) w (.returned (.bool false)) W) := Lib.hid (fun q W hw => RetBB.of ⟨(fun z => nomatch z), fun z => absurd z q⟩ (Below.then hb hw))
  have YES : Hid (checkOk RD → ∀ W, Below W1.heap.size W1 W → RetBB (checkOk RD) w (.returned (.bool true)) W) := Lib.hid (fun q W hw => RetBB.of ⟨fun _ => q, fun _ => rfl⟩ (Below.then hb hw))
  have CR := Lib.hid (refRows_any rA rn rc H rows W1 HX.out.rows)
  have dcap := HX.out.dirty.cap
  have dmax := HX.out.dirty.max
  have ecap := HX.out.deeds.cap
  have emax := HX.out.deeds.max
  have pcap := HX.out.past.cap
  have pmax := HX.out.past.max
  unfold maxLen at dmax emax pmax
  have dlen := Lib.hid HX.out.dirty.len
  have elen := Lib.hid (show (deeds.map Xd.deed).length = en by rw [List.length_map]; exact HX.out.deeds.len)
  have plen := Lib.hid HX.out.past.len
  obtain ⟨sq, hsq⟩ : ∃ sq : Int → Int → Bool, sq = fun a b => decide (seqOk a b) := ⟨_, rfl⟩
  have SQ : Hid (Sq sq) := Lib.hid (by rw [hsq]; exact ⟨fun h => of_decide_eq_true h, fun h => of_decide_eq_false h⟩)
  have CG : Hid (∀ z a W, Calls Try.prog 26 #[.int .i64 z, .int .i64 a] W (Ret (.bool (sq a z)) W)) := Lib.hid (by rw [hsq]; exact fun z a W => RetB.dec (refSeq_any z a W))
  have HW := Lib.hid hW1
  have HV := Lib.hid V0
  clear hx hb hW1 V0 hsq
  go_enter Try.func25, Try.ntmps25
  go_upto_region 1 with fail
  (try rw [hrr])
  rw [← HW.out]
  clear HW hrr
  go_wp2_with fail
  refine CR.out.mono ?_
  rintro e0 w2 ⟨b, rfl, hb, hw2⟩
  obtain ⟨c13, c14, c15⟩ := HCell.out w2 hw2
  clear a12 a13 a14 a15 CR
  cases b with
  | false =>
    have R := Lib.hid (NO.out (fun q => by have := hb.2 (by rw [← LD.out.2.2.2]; exact q.1); cases this) _ hw2)
    clear NO YES HCell hb hw2 CG SQ
    go_wp2_with fail
    go_ret
    exact R.out
  | true =>
  have HR := Lib.hid (show rwsOk RD.rows by rw [LD.out.2.2.2]; exact hb.1 rfl)
  clear hb
  have HB2 := Lib.hid hw2
  clear hw2
  by_cases hd : ((dn : Nat) : Int) > 64
  · have R := Lib.hid (NO.out (fun q => by have := q.2.1.1; rw [LD.out.1] at this; have e := dlen.out; omega) _ HB2.out)
    clear NO YES HCell HB2 CG SQ HR
    go_wp2_with fail
    go_ret
    exact R.out
  by_cases he : ((en : Nat) : Int) > 64
  · have R := Lib.hid (NO.out (fun q => by have := q.2.2.1.1; rw [LD.out.2.1] at this; have e := elen.out; omega) _ HB2.out)
    clear NO YES HCell HB2 CG SQ HR
    go_wp2_with fail
    go_ret
    exact R.out
  by_cases hp : ((pn : Nat) : Int) > 256
  · have R := Lib.hid (NO.out (fun q => by have := q.2.2.2.1; rw [LD.out.2.2.1] at this; have e := plen.out; omega) _ HB2.out)
    clear NO YES HCell HB2 CG SQ HR
    go_wp2_with fail
    go_ret
    exact R.out
  go_wp2_with fail
  have HL := Lib.hid (show (dn ≤ 64 ∧ en ≤ 64 ∧ pn ≤ 256) from ⟨by omega, by omega, by omega⟩)
  clear hd he hp c13 c14 c15
  go_loopw [3] (fun q wr => ∃ k : Nat, k ≤ dn ∧ q = .int .i64 k ∧ Below W1.heap.size W1 wr ∧ Hid (pre ckdP ckdQ dirty k)) (fun q _ => dn - (intOf q).toNat)
  case atStart => exact ⟨0, Nat.zero_le _, rfl, HB2.out, Lib.hid pre_0⟩
  case round =>
    obtain ⟨k, hk, rfl, hbw, HP⟩ := hrel
    have HBW := Lib.hid hbw
    obtain ⟨c13, c14, c15⟩ := HCell.out wr hbw
    clear hbw
    by_cases hlt : k < dn
    · obtain ⟨g, off, hA, hs, hr⟩ := HX.out.dirty.at_ (show 0 < dn by omega)
      obtain rfl : dA = _ := hA
      obtain ⟨z, hz⟩ : ∃ z, dirty.getD k default = z := ⟨_, rfl⟩
      have hr2 : wr.rangeAt g (off + k * 2) (elD.cells z) := by rw [← hz]; exact below_range (hr k hlt) hs.1 HBW.out
      have hp0 : 0 < k → wr.cell? ⟨g, off + (k - 1) * 2, none⟩ = some (.int .i64 (dirty.getD (k - 1) default).page) := fun h0 => (below_range (hr (k - 1) (show k - 1 < dn by omega)) hs.1 HBW.out) 0 _ rfl
      have NOK : Hid (¬ (ckdP z ∧ (0 < k → ckdQ (dirty.getD (k - 1) default) z)) → Hid (¬ checkOk RD)) := Lib.hid fun q => Lib.hid fun ck => q (by have := ck.2.1.2 k (by rw [LD.out.1, dlen.out]; exact hlt); rw [LD.out.1, hz] at this; exact this)
      have YOK : Hid ((0 < k → ckdQ (dirty.getD (k - 1) default) z) → ckdP z → Hid (pre ckdP ckdQ dirty (k + 1))) := Lib.hid fun q2 q1 => Lib.hid (pre_next HP.out (by rw [hz]; exact q1) (by rw [hz]; exact q2))
      clear hr hs
      obtain ⟨zp, zl⟩ := z
      have HR2 : Hid (wr.rangeAt g (off + k * 2) [.int .i64 zp, .int .i64 zl]) := Lib.hid hr2
      obtain ⟨e, he⟩ : ∃ e, wr.heap.size = e := ⟨_, rfl⟩
      obtain ⟨wa, hwa⟩ : ∃ wa, wa = wr.alloc (.cells #[.int .i64 zp, .int .i64 zl] 89) := ⟨_, rfl⟩
      have ba : Below wr.heap.size wr wa := by rw [hwa]; exact (Below.refl _ _).alloc (Nat.le_refl _) _
      have Vwa : Bk wa e 89 #[.int .i64 zp, .int .i64 zl] := by rw [hwa, ← he]; exact Bk.new wr _ _
      have BA := Lib.hid (Below.then HBW.out ba)
      have hp : 0 < k → ∀ d' os, (Go.Sort.grow (redrawn wa d') os).cell? ⟨g, off + (k - 1) * 2, none⟩ = some (.int .i64 (dirty.getD (k - 1) default).page) := fun h0 => cell_regrown (below_cell_some ba (hp0 h0))
      have f0 : ∀ d' os, (Go.Sort.grow (redrawn wa d') os).cell? ⟨e, 0, none⟩ = some (.int .i64 zp) := cell_regrown (Vwa.cell 0)
      have f1 : ∀ d' os, (Go.Sort.grow (redrawn wa d') os).cell? ⟨e, 1, none⟩ = some (.int .i64 zl) := cell_regrown (Vwa.cell 1)
      have f2 : ∀ d' os, (Go.Sort.grow (redrawn wa d') os).cell? ⟨r, 13, none⟩ = some (.slice (some ⟨g, off, none⟩) dn dc) := cell_regrown (below_cell_some ba c13)
      have HWA := Lib.hid hwa
      clear hwa ba Vwa hr2 hp0 c14 c15
      go_upto_region 7 with (first
        | (refine wpList_load_mid rfl 89 _ rfl g (off + k * 2) rfl [.int .i64 zp, .int .i64 zl] _ HR2.out Try.underlying89 rfl (by kernel_rfl) ?_)
        | (refine wpList_store_new rfl (W := wr) rfl (c := #[.int .i64 0, .int .i64 0]) (c' := #[.int .i64 zp, .int .i64 zl]) rfl (by simp [he]) rfl (by kernel_rfl) rfl rfl ?_; simp only [Act.put]))
      (try rw [he])
      rw [← HWA.out]
      clear HWA he HR2 c13
      by_cases h3 : 0 < k
      · have fq := hp h3
        obtain ⟨y, ey⟩ : ∃ y, y = (dirty.getD (k - 1) default).page := ⟨_, rfl⟩
        rw [← ey] at fq
        have NOK : Hid (¬ (ckdP ⟨zp, zl⟩ ∧ (0 < k → y < zp)) → Hid (¬ checkOk RD)) := Lib.hid (by rw [ey]; exact NOK.out)
        have YOK : Hid ((0 < k → y < zp) → ckdP ⟨zp, zl⟩ → Hid (pre ckdP ckdQ dirty (k + 1))) := Lib.hid (by rw [ey]; exact YOK.out)
        obtain ⟨k1, rfl⟩ : ∃ k1, k = k1 + 1 := ⟨k - 1, by omega⟩
        simp only [Nat.add_sub_cancel] at fq
        have h3' : decide ((0 : Int) < ((k1 + 1 : Nat) : Int)) = true := decide_eq_true (by omega)
        have e4 : ((k1 + 1 : Nat) : Int) - 1 = (k1 : Int) := by omega
        clear ey hp
        by_cases s1 : zp < 0
        · have s1' : decide (zp < 0) = true := decide_eq_true s1
          have HNO := NOK.out (fun q => by have := q.1.1.1; have z : (0 : Int) ≤ zp := this; omega)
          refine wp_region_quiet_below (by kernel_rfl) (by kernel_rfl) ?_
          repeat (any_goals (first | go_big_quiet_step ((first | (go_at_call 26; exact Calls.regrown_of (CG.out _ _ _)))) | quiet_step ((first | (go_at_call 26; exact Calls.regrown_of (CG.out _ _ _))))))
          refine wpQuiet_nil ?_
          intro _ hw'
          obtain ⟨⟨dq, osq⟩, hw''⟩ := hw'
          subst hw''
          have R := Lib.hid (NO.out (HNO.out) _ (Below.then BA.out (below_regrown wa dq osq)))
          clear NO NOK YES HCell CG SQ f0 f1 f2 fq
          go_wp2_with fail
          go_ret
          exact R.out
        have s1' : decide (zp < 0) = false := decide_eq_false s1
        by_cases s2 : 63 < zp
        · have s2' : decide (63 < zp) = true := decide_eq_true s2
          have HNO := NOK.out (fun q => by have := q.1.1.2; have z : zp ≤ (63 : Int) := this; omega)
          refine wp_region_quiet_below (by kernel_rfl) (by kernel_rfl) ?_
          repeat (any_goals (first | go_big_quiet_step ((first | (go_at_call 26; exact Calls.regrown_of (CG.out _ _ _)))) | quiet_step ((first | (go_at_call 26; exact Calls.regrown_of (CG.out _ _ _))))))
          refine wpQuiet_nil ?_
          intro _ hw'
          obtain ⟨⟨dq, osq⟩, hw''⟩ := hw'
          subst hw''
          have R := Lib.hid (NO.out (HNO.out) _ (Below.then BA.out (below_regrown wa dq osq)))
          clear NO NOK YES HCell CG SQ f0 f1 f2 fq
          go_wp2_with fail
          go_ret
          exact R.out
        have s2' : decide (63 < zp) = false := decide_eq_false s2
        by_cases s3 : zp ≤ y
        · have s3' : decide (zp ≤ y) = true := decide_eq_true s3
          have HNO := NOK.out (fun q => by have := q.2 h3; have z : y < zp := this; omega)
          refine wp_region_quiet_below (by kernel_rfl) (by kernel_rfl) ?_
          repeat (any_goals (first | go_big_quiet_step ((first | (go_at_call 26; exact Calls.regrown_of (CG.out _ _ _)))) | quiet_step ((first | (go_at_call 26; exact Calls.regrown_of (CG.out _ _ _))))))
          refine wpQuiet_nil ?_
          intro _ hw'
          obtain ⟨⟨dq, osq⟩, hw''⟩ := hw'
          subst hw''
          have R := Lib.hid (NO.out (HNO.out) _ (Below.then BA.out (below_regrown wa dq osq)))
          clear NO NOK YES HCell CG SQ f0 f1 f2 fq
          go_wp2_with fail
          go_ret
          exact R.out
        have s3' : decide (zp ≤ y) = false := decide_eq_false s3
        cases s4 : sq 1 zl
        · have HNO := NOK.out (fun q => SQ.out.no s4 q.1.2)
          refine wp_region_quiet_below (by kernel_rfl) (by kernel_rfl) ?_
          repeat (any_goals (first | go_big_quiet_step ((first | (go_at_call 26; exact Calls.regrown_of (CG.out _ _ _)))) | quiet_step ((first | (go_at_call 26; exact Calls.regrown_of (CG.out _ _ _))))))
          refine wpQuiet_nil ?_
          intro _ hw'
          obtain ⟨⟨dq, osq⟩, hw''⟩ := hw'
          subst hw''
          have R := Lib.hid (NO.out (HNO.out) _ (Below.then BA.out (below_regrown wa dq osq)))
          clear NO NOK YES HCell CG SQ f0 f1 f2 fq
          go_wp2_with fail
          go_ret
          exact R.out
        have HQ := YOK.out (fun _ => by show y < zp; omega) ⟨⟨by show (0 : Int) ≤ zp; omega, by show zp ≤ (63 : Int); omega⟩, SQ.out.yes s4⟩
        refine wp_region_quiet_below (by kernel_rfl) (by kernel_rfl) ?_
        repeat (any_goals (first | go_big_quiet_step ((first | (go_at_call 26; exact Calls.regrown_of (CG.out _ _ _)))) | quiet_step ((first | (go_at_call 26; exact Calls.regrown_of (CG.out _ _ _))))))
        refine wpQuiet_nil ?_
        intro _ hw'
        obtain ⟨⟨dq, osq⟩, hw''⟩ := hw'
        subst hw''
        have BF := Lib.hid (Below.then BA.out (below_regrown wa dq osq))
        clear NO YES CG SQ NOK YOK f0 f1 f2 fq
        go_wp2_with fail
        go_roundw
        case rel => exact ⟨k1 + 1 + 1, by omega, by go_num, BF.out, HQ⟩
        case measure => simp [intOf]; omega
      · have h3' : decide ((0 : Int) < (k : Int)) = false := decide_eq_false (by omega)
        clear hp
        by_cases s1 : zp < 0
        · have s1' : decide (zp < 0) = true := decide_eq_true s1
          have HNO := NOK.out (fun q => by have := q.1.1.1; have z : (0 : Int) ≤ zp := this; omega)
          refine wp_region_quiet_below (by kernel_rfl) (by kernel_rfl) ?_
          repeat (any_goals (first | go_big_quiet_step ((first | (go_at_call 26; exact Calls.regrown_of (CG.out _ _ _)))) | quiet_step ((first | (go_at_call 26; exact Calls.regrown_of (CG.out _ _ _))))))
          refine wpQuiet_nil ?_
          intro _ hw'
          obtain ⟨⟨dq, osq⟩, hw''⟩ := hw'
          subst hw''
          have R := Lib.hid (NO.out (HNO.out) _ (Below.then BA.out (below_regrown wa dq osq)))
          clear NO NOK YES HCell CG SQ f0 f1 f2
          go_wp2_with fail
          go_ret
          exact R.out
        have s1' : decide (zp < 0) = false := decide_eq_false s1
        by_cases s2 : 63 < zp
        · have s2' : decide (63 < zp) = true := decide_eq_true s2
          have HNO := NOK.out (fun q => by have := q.1.1.2; have z : zp ≤ (63 : Int) := this; omega)
          refine wp_region_quiet_below (by kernel_rfl) (by kernel_rfl) ?_
          repeat (any_goals (first | go_big_quiet_step ((first | (go_at_call 26; exact Calls.regrown_of (CG.out _ _ _)))) | quiet_step ((first | (go_at_call 26; exact Calls.regrown_of (CG.out _ _ _))))))
          refine wpQuiet_nil ?_
          intro _ hw'
          obtain ⟨⟨dq, osq⟩, hw''⟩ := hw'
          subst hw''
          have R := Lib.hid (NO.out (HNO.out) _ (Below.then BA.out (below_regrown wa dq osq)))
          clear NO NOK YES HCell CG SQ f0 f1 f2
          go_wp2_with fail
          go_ret
          exact R.out
        have s2' : decide (63 < zp) = false := decide_eq_false s2
        cases s4 : sq 1 zl
        · have HNO := NOK.out (fun q => SQ.out.no s4 q.1.2)
          refine wp_region_quiet_below (by kernel_rfl) (by kernel_rfl) ?_
          repeat (any_goals (first | go_big_quiet_step ((first | (go_at_call 26; exact Calls.regrown_of (CG.out _ _ _)))) | quiet_step ((first | (go_at_call 26; exact Calls.regrown_of (CG.out _ _ _))))))
          refine wpQuiet_nil ?_
          intro _ hw'
          obtain ⟨⟨dq, osq⟩, hw''⟩ := hw'
          subst hw''
          have R := Lib.hid (NO.out (HNO.out) _ (Below.then BA.out (below_regrown wa dq osq)))
          clear NO NOK YES HCell CG SQ f0 f1 f2
          go_wp2_with fail
          go_ret
          exact R.out
        have HQ := YOK.out (fun q => absurd q (by omega)) ⟨⟨by show (0 : Int) ≤ zp; omega, by show zp ≤ (63 : Int); omega⟩, SQ.out.yes s4⟩
        refine wp_region_quiet_below (by kernel_rfl) (by kernel_rfl) ?_
        repeat (any_goals (first | go_big_quiet_step ((first | (go_at_call 26; exact Calls.regrown_of (CG.out _ _ _)))) | quiet_step ((first | (go_at_call 26; exact Calls.regrown_of (CG.out _ _ _))))))
        refine wpQuiet_nil ?_
        intro _ hw'
        obtain ⟨⟨dq, osq⟩, hw''⟩ := hw'
        subst hw''
        have BF := Lib.hid (Below.then BA.out (below_regrown wa dq osq))
        clear NO YES CG SQ NOK YOK f0 f1 f2
        go_wp2_with fail
        go_roundw
        case rel => exact ⟨k + 1, by omega, by go_num, BF.out, HQ⟩
        case measure => simp [intOf]; omega
    · obtain rfl : k = dn := by omega
      have HB2 := HBW
      have HD : Hid (rises ckdP ckdQ dirty) := Lib.hid (fun i hi => HP.out i (by have e := dlen.out; rw [← e]; exact hi))
      clear HP HBW
      go_wp2_with fail
      clear c13 c14 c15
      go_loopw [5] (fun q wr => ∃ k : Nat, k ≤ en ∧ q = .int .i64 k ∧ Below W1.heap.size W1 wr ∧ Hid (pre ckeP ckeQ (deeds.map Xd.deed) k)) (fun q _ => en - (intOf q).toNat)
      case atStart => exact ⟨0, Nat.zero_le _, rfl, HB2.out, Lib.hid pre_0⟩
      case round =>
        obtain ⟨k, hk, rfl, hbw, HP⟩ := hrel
        have HBW := Lib.hid hbw
        obtain ⟨c13, c14, c15⟩ := HCell.out wr hbw
        clear hbw
        by_cases hlt : k < en
        · obtain ⟨g, off, hA, hs, hr⟩ := HX.out.deeds.at_ (show 0 < en by omega)
          obtain rfl : eA = _ := hA
          obtain ⟨z, hz⟩ : ∃ z, deeds.getD k default = z := ⟨_, rfl⟩
          have hdl : k < deeds.length := by rw [HX.out.deeds.len]; exact hlt
          have hr2 : wr.rangeAt g (off + k * 2) (elE.cells z) := by rw [← hz]; exact below_range (hr k hlt) hs.1 HBW.out
          have hp0 : 0 < k → wr.cell? ⟨g, off + (k - 1) * 2, none⟩ = some (.int .i64 (deeds.getD (k - 1) default).tx) := fun h0 => (below_range (hr (k - 1) (show k - 1 < en by omega)) hs.1 HBW.out) 0 _ rfl
          have hzi : XdIn H W1 z := by rw [← hz]; exact HX.out.deeds.get (i := k) hlt
          have NOK : Hid (¬ (ckeP z.deed ∧ (0 < k → (deeds.getD (k - 1) default).tx < z.tx)) → Hid (¬ checkOk RD)) := Lib.hid fun q => Lib.hid fun ck => q (by have := ck.2.2.1.2 k (by rw [LD.out.2.1, elen.out]; exact hlt); rw [LD.out.2.1, mapg _ _ _ hdl, hz] at this; exact ⟨this.1, fun h0 => by have t := this.2 h0; rw [mapg _ _ _ (by omega)] at t; exact t⟩)
          have YOK : Hid ((0 < k → (deeds.getD (k - 1) default).tx < z.tx) → ckeP z.deed → Hid (pre ckeP ckeQ (deeds.map Xd.deed) (k + 1))) := Lib.hid fun q2 q1 => Lib.hid (pre_next HP.out (by rw [mapg _ _ _ hdl, hz]; exact q1) (fun h0 => by rw [mapg _ _ _ hdl, mapg _ _ _ (by omega), hz]; exact q2 h0))
          clear hr hs
          obtain ⟨zt, zA, zn, zc, zm⟩ := z
          have hm := hzi.mem
          obtain ⟨mb, hmb⟩ : ∃ mb : Bool, mb = true ↔ memOk zm := by
            by_cases q : memOk zm
            · exact ⟨true, fun _ => q, fun _ => rfl⟩
            · exact ⟨false, (fun z => nomatch z), fun z => absurd z q⟩
          have CM : Hid (∀ d os, Calls Try.prog 29 #[.slice zA zn zc] (Go.Sort.grow (redrawn wr d) os) (Ret (.bool mb) (Go.Sort.grow (redrawn wr d) os))) := Lib.hid (fun d os => RetB.bool (refMem_any zA zn zc H zm _ (hm.calm (Calm.of_below (H := H) (Below.then HBW.out (below_regrown wr d os))))) hmb)
          have HMB := Lib.hid hmb
          have hp : 0 < k → ∀ d' os, (Go.Sort.grow (redrawn wr d') os).cell? ⟨g, off + (k - 1) * 2, none⟩ = some (.int .i64 (deeds.getD (k - 1) default).tx) := fun h0 => cell_regrown (hp0 h0)
          have f0 : ∀ d' os, (Go.Sort.grow (redrawn wr d') os).cell? ⟨g, off + k * 2, none⟩ = some (.int .i64 zt) := cell_regrown (hr2 0 _ rfl)
          have f1 : ∀ d' os, (Go.Sort.grow (redrawn wr d') os).cell? ⟨g, off + k * 2 + 1, none⟩ = some (.slice zA zn zc) := cell_regrown (hr2 1 _ rfl)
          have f2 : ∀ d' os, (Go.Sort.grow (redrawn wr d') os).cell? ⟨r, 14, none⟩ = some (.slice (some ⟨g, off, none⟩) en ec) := cell_regrown c14
          clear hr2 hp0 hzi hm hmb hdl c13 c15
          go_wp2_with fail
          clear c14
          by_cases h3 : 0 < k
          · have fq := hp h3
            obtain ⟨y, ey⟩ : ∃ y, y = (deeds.getD (k - 1) default).tx := ⟨_, rfl⟩
            rw [← ey] at fq
            have NOK : Hid (¬ (ckeP (Xd.deed ⟨zt, zA, zn, zc, zm⟩) ∧ (0 < k → y < zt)) → Hid (¬ checkOk RD)) := Lib.hid (by rw [ey]; exact NOK.out)
            have YOK : Hid ((0 < k → y < zt) → ckeP (Xd.deed ⟨zt, zA, zn, zc, zm⟩) → Hid (pre ckeP ckeQ (deeds.map Xd.deed) (k + 1))) := Lib.hid (by rw [ey]; exact YOK.out)
            obtain ⟨k1, rfl⟩ : ∃ k1, k = k1 + 1 := ⟨k - 1, by omega⟩
            simp only [Nat.add_sub_cancel] at fq
            have h3' : decide ((0 : Int) < ((k1 + 1 : Nat) : Int)) = true := decide_eq_true (by omega)
            have e4 : ((k1 + 1 : Nat) : Int) - 1 = (k1 : Int) := by omega
            clear ey hp
            cases s1 : sq 1 zt
            · have HNO := NOK.out (fun q => SQ.out.no s1 q.1.1)
              refine wp_region_quiet_below (by kernel_rfl) (by kernel_rfl) ?_
              repeat (any_goals (first | go_big_quiet_step ((first | (go_at_call 26; exact Calls.regrown_of (CG.out _ _ _)) | (go_at_call 29; exact Calls.regrown_of (CM.out _ _)))) | quiet_step ((first | (go_at_call 26; exact Calls.regrown_of (CG.out _ _ _)) | (go_at_call 29; exact Calls.regrown_of (CM.out _ _))))))
              refine wpQuiet_nil ?_
              intro _ hw'
              obtain ⟨⟨dq, osq⟩, hw''⟩ := hw'
              subst hw''
              have R := Lib.hid (NO.out (HNO.out) _ (Below.then HBW.out (below_regrown wr dq osq)))
              clear NO NOK YES HCell CG SQ f0 f1 f2 CM HMB fq
              go_wp2_with fail
              go_ret
              exact R.out
            by_cases s3 : zt ≤ y
            · have s3' : decide (zt ≤ y) = true := decide_eq_true s3
              have HNO := NOK.out (fun q => by have := q.2 h3; have z : y < zt := this; omega)
              refine wp_region_quiet_below (by kernel_rfl) (by kernel_rfl) ?_
              repeat (any_goals (first | go_big_quiet_step ((first | (go_at_call 26; exact Calls.regrown_of (CG.out _ _ _)) | (go_at_call 29; exact Calls.regrown_of (CM.out _ _)))) | quiet_step ((first | (go_at_call 26; exact Calls.regrown_of (CG.out _ _ _)) | (go_at_call 29; exact Calls.regrown_of (CM.out _ _))))))
              refine wpQuiet_nil ?_
              intro _ hw'
              obtain ⟨⟨dq, osq⟩, hw''⟩ := hw'
              subst hw''
              have R := Lib.hid (NO.out (HNO.out) _ (Below.then HBW.out (below_regrown wr dq osq)))
              clear NO NOK YES HCell CG SQ f0 f1 f2 CM HMB fq
              go_wp2_with fail
              go_ret
              exact R.out
            have s3' : decide (zt ≤ y) = false := decide_eq_false s3
            cases s4 : mb
            · have HNO := NOK.out (fun q => by have := HMB.out.2 q.1.2; rw [s4] at this; cases this)
              refine wp_region_quiet_below (by kernel_rfl) (by kernel_rfl) ?_
              repeat (any_goals (first | go_big_quiet_step ((first | (go_at_call 26; exact Calls.regrown_of (CG.out _ _ _)) | (go_at_call 29; exact Calls.regrown_of (CM.out _ _)))) | quiet_step ((first | (go_at_call 26; exact Calls.regrown_of (CG.out _ _ _)) | (go_at_call 29; exact Calls.regrown_of (CM.out _ _))))))
              refine wpQuiet_nil ?_
              intro _ hw'
              obtain ⟨⟨dq, osq⟩, hw''⟩ := hw'
              subst hw''
              have R := Lib.hid (NO.out (HNO.out) _ (Below.then HBW.out (below_regrown wr dq osq)))
              clear NO NOK YES HCell CG SQ f0 f1 f2 CM HMB fq
              go_wp2_with fail
              go_ret
              exact R.out
            have HQ := YOK.out (fun _ => by show y < zt; omega) ⟨SQ.out.yes s1, HMB.out.1 s4⟩
            refine wp_region_quiet_below (by kernel_rfl) (by kernel_rfl) ?_
            repeat (any_goals (first | go_big_quiet_step ((first | (go_at_call 26; exact Calls.regrown_of (CG.out _ _ _)) | (go_at_call 29; exact Calls.regrown_of (CM.out _ _)))) | quiet_step ((first | (go_at_call 26; exact Calls.regrown_of (CG.out _ _ _)) | (go_at_call 29; exact Calls.regrown_of (CM.out _ _))))))
            refine wpQuiet_nil ?_
            intro _ hw'
            obtain ⟨⟨dq, osq⟩, hw''⟩ := hw'
            subst hw''
            have BF := Lib.hid (Below.then HBW.out (below_regrown wr dq osq))
            clear NO YES CG SQ NOK YOK f0 f1 f2 CM HMB fq
            go_wp2_with fail
            go_roundw
            case rel => exact ⟨k1 + 1 + 1, by omega, by go_num, BF.out, HQ⟩
            case measure => simp [intOf]; omega
          · have h3' : decide ((0 : Int) < (k : Int)) = false := decide_eq_false (by omega)
            clear hp
            cases s1 : sq 1 zt
            · have HNO := NOK.out (fun q => SQ.out.no s1 q.1.1)
              refine wp_region_quiet_below (by kernel_rfl) (by kernel_rfl) ?_
              repeat (any_goals (first | go_big_quiet_step ((first | (go_at_call 26; exact Calls.regrown_of (CG.out _ _ _)) | (go_at_call 29; exact Calls.regrown_of (CM.out _ _)))) | quiet_step ((first | (go_at_call 26; exact Calls.regrown_of (CG.out _ _ _)) | (go_at_call 29; exact Calls.regrown_of (CM.out _ _))))))
              refine wpQuiet_nil ?_
              intro _ hw'
              obtain ⟨⟨dq, osq⟩, hw''⟩ := hw'
              subst hw''
              have R := Lib.hid (NO.out (HNO.out) _ (Below.then HBW.out (below_regrown wr dq osq)))
              clear NO NOK YES HCell CG SQ f0 f1 f2 CM HMB
              go_wp2_with fail
              go_ret
              exact R.out
            cases s4 : mb
            · have HNO := NOK.out (fun q => by have := HMB.out.2 q.1.2; rw [s4] at this; cases this)
              refine wp_region_quiet_below (by kernel_rfl) (by kernel_rfl) ?_
              repeat (any_goals (first | go_big_quiet_step ((first | (go_at_call 26; exact Calls.regrown_of (CG.out _ _ _)) | (go_at_call 29; exact Calls.regrown_of (CM.out _ _)))) | quiet_step ((first | (go_at_call 26; exact Calls.regrown_of (CG.out _ _ _)) | (go_at_call 29; exact Calls.regrown_of (CM.out _ _))))))
              refine wpQuiet_nil ?_
              intro _ hw'
              obtain ⟨⟨dq, osq⟩, hw''⟩ := hw'
              subst hw''
              have R := Lib.hid (NO.out (HNO.out) _ (Below.then HBW.out (below_regrown wr dq osq)))
              clear NO NOK YES HCell CG SQ f0 f1 f2 CM HMB
              go_wp2_with fail
              go_ret
              exact R.out
            have HQ := YOK.out (fun q => absurd q (by omega)) ⟨SQ.out.yes s1, HMB.out.1 s4⟩
            refine wp_region_quiet_below (by kernel_rfl) (by kernel_rfl) ?_
            repeat (any_goals (first | go_big_quiet_step ((first | (go_at_call 26; exact Calls.regrown_of (CG.out _ _ _)) | (go_at_call 29; exact Calls.regrown_of (CM.out _ _)))) | quiet_step ((first | (go_at_call 26; exact Calls.regrown_of (CG.out _ _ _)) | (go_at_call 29; exact Calls.regrown_of (CM.out _ _))))))
            refine wpQuiet_nil ?_
            intro _ hw'
            obtain ⟨⟨dq, osq⟩, hw''⟩ := hw'
            subst hw''
            have BF := Lib.hid (Below.then HBW.out (below_regrown wr dq osq))
            clear NO YES CG SQ NOK YOK f0 f1 f2 CM HMB
            go_wp2_with fail
            go_roundw
            case rel => exact ⟨k + 1, by omega, by go_num, BF.out, HQ⟩
            case measure => simp [intOf]; omega
        · obtain rfl : k = en := by omega
          have HB2 := HBW
          have HE : Hid (rises ckeP ckeQ (deeds.map Xd.deed)) := Lib.hid (fun i hi => HP.out i (by have e := elen.out; rw [← e]; exact hi))
          clear HP HBW
          go_wp2_with fail
          clear c13 c14 c15
          go_loopw [6] (fun q wr => ∃ k : Nat, k ≤ pn ∧ q = .int .i64 k ∧ Below W1.heap.size W1 wr ∧ Hid (pre ckpP ckpQ past k)) (fun q _ => pn - (intOf q).toNat)
          case atStart => exact ⟨0, Nat.zero_le _, rfl, HB2.out, Lib.hid pre_0⟩
          case round =>
            obtain ⟨k, hk, rfl, hbw, HP⟩ := hrel
            have HBW := Lib.hid hbw
            obtain ⟨c13, c14, c15⟩ := HCell.out wr hbw
            clear hbw
            by_cases hlt : k < pn
            · obtain ⟨g, off, hA, hs, hr⟩ := HX.out.past.at_ (show 0 < pn by omega)
              obtain rfl : pA = _ := hA
              obtain ⟨z, hz⟩ : ∃ z, past.getD k default = z := ⟨_, rfl⟩
              have hr2 : wr.cell? ⟨g, off + k, none⟩ = some (.int .i64 z) := by have := (below_range (hr k hlt) hs.1 HBW.out) 0 _ rfl; rw [hz] at this; simpa [elI] using this
              have hp0 : 0 < k → wr.cell? ⟨g, off + (k - 1), none⟩ = some (.int .i64 (past.getD (k - 1) default)) := fun h0 => by have := (below_range (hr (k - 1) (show k - 1 < pn by omega)) hs.1 HBW.out) 0 _ rfl; simpa [elI] using this
              have NOK : Hid (¬ (ckpP z ∧ (0 < k → past.getD (k - 1) default < z)) → Hid (¬ checkOk RD)) := Lib.hid fun q => Lib.hid fun ck => q (by have := ck.2.2.2.2 k (by rw [LD.out.2.2.1, plen.out]; exact hlt); rw [LD.out.2.2.1, hz] at this; exact this)
              have YOK : Hid ((0 < k → past.getD (k - 1) default < z) → ckpP z → Hid (pre ckpP ckpQ past (k + 1))) := Lib.hid fun q2 q1 => Lib.hid (pre_next HP.out (by rw [hz]; exact q1) (by rw [hz]; exact q2))
              clear hr hs
              have hp : 0 < k → ∀ d' os, (Go.Sort.grow (redrawn wr d') os).cell? ⟨g, off + (k - 1), none⟩ = some (.int .i64 (past.getD (k - 1) default)) := fun h0 => cell_regrown (hp0 h0)
              have f0 : ∀ d' os, (Go.Sort.grow (redrawn wr d') os).cell? ⟨g, off + k, none⟩ = some (.int .i64 z) := cell_regrown hr2
              have f2 : ∀ d' os, (Go.Sort.grow (redrawn wr d') os).cell? ⟨r, 15, none⟩ = some (.slice (some ⟨g, off, none⟩) pn pc) := cell_regrown c15
              clear hr2 hp0 c13 c14 hz
              go_wp2_with fail
              clear c15
              by_cases h3 : 0 < k
              · have fq := hp h3
                obtain ⟨y, ey⟩ : ∃ y, y = past.getD (k - 1) default := ⟨_, rfl⟩
                rw [← ey] at fq
                have NOK : Hid (¬ (ckpP z ∧ (0 < k → y < z)) → Hid (¬ checkOk RD)) := Lib.hid (by rw [ey]; exact NOK.out)
                have YOK : Hid ((0 < k → y < z) → ckpP z → Hid (pre ckpP ckpQ past (k + 1))) := Lib.hid (by rw [ey]; exact YOK.out)
                obtain ⟨k1, rfl⟩ : ∃ k1, k = k1 + 1 := ⟨k - 1, by omega⟩
                simp only [Nat.add_sub_cancel] at fq
                have h3' : decide ((0 : Int) < ((k1 + 1 : Nat) : Int)) = true := decide_eq_true (by omega)
                have e4 : ((k1 + 1 : Nat) : Int) - 1 = (k1 : Int) := by omega
                clear ey hp
                cases s1 : sq 1 z
                · have HNO := NOK.out (fun q => SQ.out.no s1 q.1)
                  refine wp_region_quiet_below (by kernel_rfl) (by kernel_rfl) ?_
                  repeat (any_goals (first | go_big_quiet_step ((first | (go_at_call 26; exact Calls.regrown_of (CG.out _ _ _)))) | quiet_step ((first | (go_at_call 26; exact Calls.regrown_of (CG.out _ _ _))))))
                  refine wpQuiet_nil ?_
                  intro _ hw'
                  obtain ⟨⟨dq, osq⟩, hw''⟩ := hw'
                  subst hw''
                  have R := Lib.hid (NO.out (HNO.out) _ (Below.then HBW.out (below_regrown wr dq osq)))
                  clear NO NOK YES HCell CG SQ f0 f2 fq
                  go_wp2_with fail
                  go_ret
                  exact R.out
                by_cases s3 : z ≤ y
                · have s3' : decide (z ≤ y) = true := decide_eq_true s3
                  have HNO := NOK.out (fun q => by have := q.2 h3; omega)
                  refine wp_region_quiet_below (by kernel_rfl) (by kernel_rfl) ?_
                  repeat (any_goals (first | go_big_quiet_step ((first | (go_at_call 26; exact Calls.regrown_of (CG.out _ _ _)))) | quiet_step ((first | (go_at_call 26; exact Calls.regrown_of (CG.out _ _ _))))))
                  refine wpQuiet_nil ?_
                  intro _ hw'
                  obtain ⟨⟨dq, osq⟩, hw''⟩ := hw'
                  subst hw''
                  have R := Lib.hid (NO.out (HNO.out) _ (Below.then HBW.out (below_regrown wr dq osq)))
                  clear NO NOK YES HCell CG SQ f0 f2 fq
                  go_wp2_with fail
                  go_ret
                  exact R.out
                have s3' : decide (z ≤ y) = false := decide_eq_false s3
                have HQ := YOK.out (fun _ => by omega) (SQ.out.yes s1)
                refine wp_region_quiet_below (by kernel_rfl) (by kernel_rfl) ?_
                repeat (any_goals (first | go_big_quiet_step ((first | (go_at_call 26; exact Calls.regrown_of (CG.out _ _ _)))) | quiet_step ((first | (go_at_call 26; exact Calls.regrown_of (CG.out _ _ _))))))
                refine wpQuiet_nil ?_
                intro _ hw'
                obtain ⟨⟨dq, osq⟩, hw''⟩ := hw'
                subst hw''
                have BF := Lib.hid (Below.then HBW.out (below_regrown wr dq osq))
                clear NO YES CG SQ NOK YOK f0 f2 fq
                go_wp2_with fail
                go_roundw
                case rel => exact ⟨k1 + 1 + 1, by omega, by go_num, BF.out, HQ⟩
                case measure => simp [intOf]; omega
              · have h3' : decide ((0 : Int) < (k : Int)) = false := decide_eq_false (by omega)
                clear hp
                cases s1 : sq 1 z
                · have HNO := NOK.out (fun q => SQ.out.no s1 q.1)
                  refine wp_region_quiet_below (by kernel_rfl) (by kernel_rfl) ?_
                  repeat (any_goals (first | go_big_quiet_step ((first | (go_at_call 26; exact Calls.regrown_of (CG.out _ _ _)))) | quiet_step ((first | (go_at_call 26; exact Calls.regrown_of (CG.out _ _ _))))))
                  refine wpQuiet_nil ?_
                  intro _ hw'
                  obtain ⟨⟨dq, osq⟩, hw''⟩ := hw'
                  subst hw''
                  have R := Lib.hid (NO.out (HNO.out) _ (Below.then HBW.out (below_regrown wr dq osq)))
                  clear NO NOK YES HCell CG SQ f0 f2
                  go_wp2_with fail
                  go_ret
                  exact R.out
                have HQ := YOK.out (fun q => absurd q (by omega)) (SQ.out.yes s1)
                refine wp_region_quiet_below (by kernel_rfl) (by kernel_rfl) ?_
                repeat (any_goals (first | go_big_quiet_step ((first | (go_at_call 26; exact Calls.regrown_of (CG.out _ _ _)))) | quiet_step ((first | (go_at_call 26; exact Calls.regrown_of (CG.out _ _ _))))))
                refine wpQuiet_nil ?_
                intro _ hw'
                obtain ⟨⟨dq, osq⟩, hw''⟩ := hw'
                subst hw''
                have BF := Lib.hid (Below.then HBW.out (below_regrown wr dq osq))
                clear NO YES CG SQ NOK YOK f0 f2
                go_wp2_with fail
                go_roundw
                case rel => exact ⟨k + 1, by omega, by go_num, BF.out, HQ⟩
                case measure => simp [intOf]; omega
            · obtain rfl : k = pn := by omega
              have R := Lib.hid (YES.out ⟨HR.out, ⟨by rw [LD.out.1, dlen.out]; exact HL.out.1, by rw [LD.out.1]; exact HD.out⟩, ⟨by rw [LD.out.2.1, elen.out]; exact HL.out.2.1, by rw [LD.out.2.1]; exact HE.out⟩, ⟨by rw [LD.out.2.2.1, plen.out]; exact HL.out.2.2, by rw [LD.out.2.2.1]; exact fun i hi => HP.out i (by have e := plen.out; rw [← e]; exact hi)⟩⟩ _ HBW.out)
              clear HP HBW NO YES
              go_wp2_with fail
              go_ret
              exact R.out
end Go.Proofs.Ytfldcddbmikfiaa
