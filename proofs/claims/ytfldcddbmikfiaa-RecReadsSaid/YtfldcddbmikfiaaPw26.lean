/- What it says: contracts and plain mathematics that the laws' walks use, 26 of 34: each part's own remark says what; no condition. -/
import Derived.Test.YtfldcddbmikfiaaPw7
import Derived.Test.YtfldcddbmikfiaaPw15
import Derived.Test.YtfldcddbmikfiaaPw21

set_option linter.unusedSimpArgs false
set_option linter.unusedVariables false
set_option linter.deprecated false
set_option linter.unusedSectionVars false
set_option linter.all false

/- trothref07.sameLists says yes of records whose lists read as the same. -/
namespace Go.Proofs.Ytfldcddbmikfiaa
open Go.RowKit
theorem inf_row8 : (Try.prog.info? 51).map (·.size) = some 8 := by kernel_rfl
theorem inf_dirty2 : (Try.prog.info? 89).map (·.size) = some 2 := by kernel_rfl
theorem map_getD {α β : Type} [Inhabited α] [Inhabited β] {f : α → β} (hd : f default = default) {l m : List α} (h : l.map f = m.map f) (i : Nat) : f (l.getD i default) = f (m.getD i default) := by
  have e : ∀ q : List α, (q.map f).getD i default = f (q.getD i default) := fun q => by
    rw [List.getD_eq_getElem?_getD, List.getElem?_map, List.getD_eq_getElem?_getD]
    cases q[i]? <;> simp [hd]
  rw [← e, ← e, h]
theorem below_range {w w' : World} {g o : Nat} {cs : List Value} (h : w.rangeAt g o cs) (hg : g < w.heap.size) (hb : Below w.heap.size w w') : w'.rangeAt g o cs := rangeAt_heap h (hb.block g hg)
set_option maxRecDepth 100000 in
set_option maxHeartbeats 16000000 in
theorem sameLists_yes (x y : Xr) (H H' : Nat) (w : World) (hx : XrIn H w x) (hy : XrIn H' w y) (e1 : x.rows.map Xw.row = y.rows.map Xw.row) (e2 : x.dirty = y.dirty) (e3 : x.deeds.map Xd.deed = y.deeds.map Xd.deed) (e4 : x.past = y.past) :
    Calls Try.prog 45 #[x.val, y.val] w (fun e w' => e = .returned (.bool true) ∧ Below w.heap.size w w') := by
  have n1 : x.rn = y.rn := by rw [← hx.rows.len, ← hy.rows.len]; have := congrArg List.length e1; simpa using this
  have n2 : x.dn = y.dn := by rw [← hx.dirty.len, ← hy.dirty.len, e2]
  have n3 : x.en = y.en := by rw [← hx.deeds.len, ← hy.deeds.len]; have := congrArg List.length e3; simpa using this
  obtain ⟨kind, tx, prev, next, key, ⟨oh, od⟩, ⟨nh, nd⟩, co, mA, mn, mc, mem, kA, kn, kc, lks, rA, rn, rc, rows, dA, dn, dc, dirty, eA, en, ec, deeds, pA, pn, pc, past⟩ := x
  obtain ⟨kind', tx', prev', next', key', ⟨oh', od'⟩, ⟨nh', nd'⟩, co', mA', mn', mc', mem', kA', kn', kc', lks', rA', rn', rc', rows', dA', dn', dc', dirty', eA', en', ec', deeds', pA', pn', pc', past'⟩ := y
  simp only at n1 n2 n3 e1 e2 e3 e4
  subst n1 n2 n3 e2 e4
  unfold Xr.val
  simp only
  obtain ⟨r, hrr⟩ : ∃ r, w.heap.size = r := ⟨_, rfl⟩
  obtain ⟨W1, hW1⟩ : ∃ W1, W1 = (w.alloc (.cells #[.int .i64 kind, .int .i64 tx, .int .i64 prev, .int .i64 next, .string key, .bool oh, .string od, .bool nh, .string nd, .int .i64 co, .slice mA mn mc, .slice kA kn kc, .slice rA rn rc, .slice dA dn dc, .slice eA en ec, .slice pA pn pc] 30)).alloc (.cells #[.int .i64 kind', .int .i64 tx', .int .i64 prev', .int .i64 next', .string key', .bool oh', .string od', .bool nh', .string nd', .int .i64 co', .slice mA' mn' mc', .slice kA' kn' kc', .slice rA' rn rc', .slice dA' dn dc', .slice eA' en ec', .slice pA' pn' pc'] 30) := ⟨_, rfl⟩
  have hb : Below w.heap.size w W1 := by rw [hW1]; exact ((Below.refl _ _).alloc (Nat.le_refl _) _).alloc (by simp) _
  have V0 : Bk W1 r 30 #[.int .i64 kind, .int .i64 tx, .int .i64 prev, .int .i64 next, .string key, .bool oh, .string od, .bool nh, .string nd, .int .i64 co, .slice mA mn mc, .slice kA kn kc, .slice rA rn rc, .slice dA dn dc, .slice eA en ec, .slice pA pn pc] := by rw [hW1, ← hrr]; exact (Bk.new w _ _).bel ((Below.refl _ _).alloc (Nat.le_refl _) _) (by simp)
  have V1 : Bk W1 (r + 1) 30 #[.int .i64 kind', .int .i64 tx', .int .i64 prev', .int .i64 next', .string key', .bool oh', .string od', .bool nh', .string nd', .int .i64 co', .slice mA' mn' mc', .slice kA' kn' kc', .slice rA' rn rc', .slice dA' dn dc', .slice eA' en ec', .slice pA' pn' pc'] := by
    rw [hW1, ← hrr]
    have := Bk.new (w.alloc (.cells #[.int .i64 kind, .int .i64 tx, .int .i64 prev, .int .i64 next, .string key, .bool oh, .string od, .bool nh, .string nd, .int .i64 co, .slice mA mn mc, .slice kA kn kc, .slice rA rn rc, .slice dA dn dc, .slice eA en ec, .slice pA pn pc] 30)) 30 #[.int .i64 kind', .int .i64 tx', .int .i64 prev', .int .i64 next', .string key', .bool oh', .string od', .bool nh', .string nd', .int .i64 co', .slice mA' mn' mc', .slice kA' kn' kc', .slice rA' rn rc', .slice dA' dn dc', .slice eA' en ec', .slice pA' pn' pc']
    rw [World.size_alloc] at this
    exact this
  have HX := Lib.hid (hx.calm (Calm.of_below hb))
  have HY := Lib.hid (hy.calm (Calm.of_below hb))
  have a12 : W1.cell? ⟨r, 12, none⟩ = some (.slice rA rn rc) := V0.cell 12
  have a13 : W1.cell? ⟨r, 13, none⟩ = some (.slice dA dn dc) := V0.cell 13
  have a14 : W1.cell? ⟨r, 14, none⟩ = some (.slice eA en ec) := V0.cell 14
  have a15 : W1.cell? ⟨r, 15, none⟩ = some (.slice pA pn pc) := V0.cell 15
  have b12 : W1.cell? ⟨r + 1, 12, none⟩ = some (.slice rA' rn rc') := V1.cell 12
  have b13 : W1.cell? ⟨r + 1, 13, none⟩ = some (.slice dA' dn dc') := V1.cell 13
  have b14 : W1.cell? ⟨r + 1, 14, none⟩ = some (.slice eA' en ec') := V1.cell 14
  have b15 : W1.cell? ⟨r + 1, 15, none⟩ = some (.slice pA' pn' pc') := V1.cell 15
  have HV := Lib.hid (And.intro V0 V1)
  have CP := Lib.hid (sameInts_yes pA pn pc pA' pn' pc' H H' past W1 HX.out.past HY.out.past)
  have HB := Lib.hid hb
  have HW := Lib.hid hW1
  have HSL : Hid (r < W1.heap.size ∧ r + 1 < W1.heap.size) := Lib.hid ⟨V0.lt, V1.lt⟩
  have rcap := HX.out.rows.cap
  have rmax := HX.out.rows.max
  have dcap := HX.out.dirty.cap
  have dmax := HX.out.dirty.max
  have ecap := HX.out.deeds.cap
  have emax := HX.out.deeds.max
  unfold maxLen at rmax dmax emax
  have E1 := Lib.hid e1
  have E3 := Lib.hid e3
  clear hx hy hb hW1 V0 V1 e1 e3
  go_enter Try.func45, Try.ntmps45
  go_upto_region 1 with fail
  (try rw [hrr])
  rw [← HW.out]
  clear HW hrr
  go_wp2_with fail
  refine CP.out.mono ?_
  rintro e w2 ⟨rfl, m0, rfl⟩
  clear a15 b15
  have HCell : Hid (∀ W, Below W1.heap.size W1 W → (W.cell? ⟨r, 12, none⟩ = some (.slice rA rn rc) ∧ W.cell? ⟨r + 1, 12, none⟩ = some (.slice rA' rn rc')) ∧ (W.cell? ⟨r, 13, none⟩ = some (.slice dA dn dc) ∧ W.cell? ⟨r + 1, 13, none⟩ = some (.slice dA' dn dc')) ∧ (W.cell? ⟨r, 14, none⟩ = some (.slice eA en ec) ∧ W.cell? ⟨r + 1, 14, none⟩ = some (.slice eA' en ec'))) :=
    Lib.hid (fun W hb => ⟨⟨(hb.cell (p := ⟨r, 12, none⟩) HSL.out.1).trans a12, (hb.cell (p := ⟨r + 1, 12, none⟩) HSL.out.2).trans b12⟩, ⟨(hb.cell (p := ⟨r, 13, none⟩) HSL.out.1).trans a13, (hb.cell (p := ⟨r + 1, 13, none⟩) HSL.out.2).trans b13⟩, ⟨(hb.cell (p := ⟨r, 14, none⟩) HSL.out.1).trans a14, (hb.cell (p := ⟨r + 1, 14, none⟩) HSL.out.2).trans b14⟩⟩)
  have B0 : Hid (Below W1.heap.size W1 (W1.drewN m0)) := Lib.hid (below_drewN (Below.refl _ _) m0)
  clear a12 a13 a14 b12 b13 b14 CP
  obtain ⟨⟨p12, q12⟩, ⟨p13, q13⟩, ⟨p14, q14⟩⟩ := HCell.out _ B0.out
  go_wp2_with fail
  clear p12 q12 p13 q13 p14 q14
  go_loopw [5] (fun q wr => ∃ k : Nat, k ≤ rn ∧ q = .int .i64 k ∧ Below W1.heap.size W1 wr) (fun q _ => rn - (intOf q).toNat)
  case atStart => exact ⟨0, Nat.zero_le _, rfl, B0.out⟩
  case round =>
    clear B0
    obtain ⟨k, hk, rfl, hbw⟩ := hrel
    obtain ⟨⟨p12, q12⟩, ⟨p13, q13⟩, ⟨p14, q14⟩⟩ := HCell.out wr hbw
    have HBW := Lib.hid hbw
    clear hbw
    by_cases hlt : k < rn
    · obtain ⟨g, off, hA, hs, hr⟩ := HX.out.rows.at_ (show 0 < rn by omega)
      obtain rfl : rA = _ := hA
      obtain ⟨g', off', hA', hs', hr'⟩ := HY.out.rows.at_ (show 0 < rn by omega)
      obtain rfl : rA' = _ := hA'
      obtain ⟨z, hz⟩ : ∃ z, rows.getD k default = z := ⟨_, rfl⟩
      obtain ⟨z', hz'⟩ : ∃ z, rows'.getD k default = z := ⟨_, rfl⟩
      have hr2 : W1.rangeAt g (off + k * 8) (elR.cells z) := by rw [← hz]; exact hr k hlt
      have hr3 : W1.rangeAt g' (off' + k * 8) (elR.cells z') := by rw [← hz']; exact hr' k hlt
      have hzz : z.row = z'.row := by rw [← hz, ← hz']; exact map_getD (f := Xw.row) rfl E1.out k
      have hzi : XwIn H W1 z := by rw [← hz]; exact HX.out.rows.get (i := k) hlt
      have hzi' : XwIn H' W1 z' := by rw [← hz']; exact HY.out.rows.get (i := k) hlt
      have KS : Hid (∀ W, Below W1.heap.size W1 W → W.cell? ⟨r, 12, none⟩ = some (.slice (some ⟨g, off, none⟩) rn rc) ∧ W.cell? ⟨r + 1, 12, none⟩ = some (.slice (some ⟨g', off', none⟩) rn rc') ∧ W.rangeAt g (off + k * 8) (elR.cells z) ∧ W.rangeAt g' (off' + k * 8) (elR.cells z')) := Lib.hid (fun W hb => ⟨(HCell.out W hb).1.1, (HCell.out W hb).1.2, below_range hr2 hs.1 hb, below_range hr3 hs'.1 hb⟩)
      have CR := Lib.hid (fun W (hb : Below W1.heap.size W1 W) => sameRow_yes z z' H H' W (elR.calm H W1 W z hzi (Calm.of_below hb)) (elR.calm H' W1 W z' hzi' (Calm.of_below hb)) hzz)
      clear hr hr' hr2 hr3 hs hs' hz hz' hzz hzi hzi' p13 q13 p14 q14
      go_wp2_with fail
      have hbd : Below W1.heap.size W1 wr.drew := HBW.out.drew
      have HBD := Lib.hid hbd
      have hS0 := KS.out wr.drew hbd
      clear hbd
      refine wp_region_noPanic ?_
      refine upto_start (fun W => W.cell? ⟨r, 12, none⟩ = some (.slice (some ⟨g, off, none⟩) rn rc) ∧ W.cell? ⟨r + 1, 12, none⟩ = some (.slice (some ⟨g', off', none⟩) rn rc') ∧ W.rangeAt g (off + k * 8) (elR.cells z) ∧ W.rangeAt g' (off' + k * 8) (elR.cells z')) 11 (by kernel_rfl) ?_
      change Upto _ _ _ _ _ 12 _ _ _
      refine Upto.take (i := 0) (v := ?_) rfl (by kernel_rfl) (fun _ _ _ h => h) rfl (fun w' hS => ?_) hS0 ?_
      rotate_left
      · (try dsimp only at hS); go_split_ands; go_simp; (try with_reducible rfl)
      simp only [Act.put, List.setIfInBounds_toArray, List.set_cons_zero, List.set_cons_succ]
      refine Upto.take (i := 1) (v := ?_) rfl (by kernel_rfl) (fun _ _ _ h => h) rfl (fun w' hS => ?_) hS0 ?_
      rotate_left
      · (try dsimp only at hS); go_split_ands; go_simp; (try with_reducible rfl)
      simp only [Act.put, List.setIfInBounds_toArray, List.set_cons_zero, List.set_cons_succ]
      refine Upto.take (i := 2) (v := ?_) rfl (by kernel_rfl) (fun _ _ _ h => h) rfl (fun w' hS => ?_) hS0 ?_
      rotate_left
      · (try dsimp only at hS); go_split_ands; go_simp; (try with_reducible rfl)
      simp only [Act.put, List.setIfInBounds_toArray, List.set_cons_zero, List.set_cons_succ]
      refine Upto.take (i := 3) (v := ?_) rfl (by kernel_rfl) (fun _ _ _ h => h) rfl (fun w' hS => ?_) hS0 ?_
      rotate_left
      · (try dsimp only at hS); go_split_ands; go_simp; (try with_reducible rfl)
      simp only [Act.put, List.setIfInBounds_toArray, List.set_cons_zero, List.set_cons_succ]
      refine Upto.take (i := 4) rfl (by kernel_rfl) (fun _ _ _ h => h) rfl (fun w' hS => exec_load rfl (by rfl) hS.2.2.1 Try.underlying51 rfl (by rw [elR.len z]; exact inf_row8)) hS0 ?_
      simp only [Act.put, List.setIfInBounds_toArray, List.set_cons_zero, List.set_cons_succ]
      refine Upto.take (i := 5) (v := ?_) rfl (by kernel_rfl) (fun _ _ _ h => h) rfl (fun w' hS => ?_) hS0 ?_
      rotate_left
      · (try dsimp only at hS); go_split_ands; go_simp; (try with_reducible rfl)
      simp only [Act.put, List.setIfInBounds_toArray, List.set_cons_zero, List.set_cons_succ]
      refine Upto.take (i := 6) (v := ?_) rfl (by kernel_rfl) (fun _ _ _ h => h) rfl (fun w' hS => ?_) hS0 ?_
      rotate_left
      · (try dsimp only at hS); go_split_ands; go_simp; (try with_reducible rfl)
      simp only [Act.put, List.setIfInBounds_toArray, List.set_cons_zero, List.set_cons_succ]
      refine Upto.take (i := 7) (v := ?_) rfl (by kernel_rfl) (fun _ _ _ h => h) rfl (fun w' hS => ?_) hS0 ?_
      rotate_left
      · (try dsimp only at hS); go_split_ands; go_simp; (try with_reducible rfl)
      simp only [Act.put, List.setIfInBounds_toArray, List.set_cons_zero, List.set_cons_succ]
      refine Upto.take (i := 8) (v := ?_) rfl (by kernel_rfl) (fun _ _ _ h => h) rfl (fun w' hS => ?_) hS0 ?_
      rotate_left
      · (try dsimp only at hS); go_split_ands; go_simp; (try with_reducible rfl)
      simp only [Act.put, List.setIfInBounds_toArray, List.set_cons_zero, List.set_cons_succ]
      refine Upto.take (i := 9) rfl (by kernel_rfl) (fun _ _ _ h => h) rfl (fun w' hS => exec_load rfl (by rfl) hS.2.2.2 Try.underlying51 rfl (by rw [elR.len z']; exact inf_row8)) hS0 ?_
      simp only [Act.put, List.setIfInBounds_toArray, List.set_cons_zero, List.set_cons_succ]
      refine Upto.law (i := 10) rfl (by kernel_rfl) rfl (fun K hK => ?_)
      refine wp_enter (f := 65) (args := #[.agg (elR.cells z).toArray, .agg (elR.cells z').toArray]) (by go_simp) (CR.out wr.drew HBD.out) ?_
      rintro e W3 ⟨rfl, hb3⟩
      have hb4 : Below W1.heap.size W1 W3 := HBD.out.trans (hb3.mono HBD.out.size)
      refine ⟨_, rfl, hK _ _ (KS.out W3 hb4) ?_⟩
      have HB4 := Lib.hid hb4
      clear hK hS0 hb3 hb4 KS CR HBD HBW
      simp only [Act.put, List.setIfInBounds_toArray, List.set_cons_zero, List.set_cons_succ]
      refine Upto.tail rfl (by kernel_rfl) ?_
      simp only [List.drop_succ_cons, List.drop_zero]
      go_wp2_with fail
      refine NoPanic.normal ?_
      go_wp2_with fail
      go_roundw
      case rel => exact ⟨k + 1, by omega, by go_num, HB4.out⟩
      case measure => simp [intOf]; omega
    · obtain hkk : k = rn := by omega
      clear rcap rmax
      go_wp2_with fail
      go_loopw [6] (fun q wr2 => ∃ k : Nat, k ≤ dn ∧ q = .int .i64 k ∧ Below W1.heap.size W1 wr2) (fun q _ => dn - (intOf q).toNat)
      case atStart => exact ⟨0, Nat.zero_le _, rfl, HBW.out⟩
      case round =>
        clear HBW hlt hk hkk p12 q12 p13 q13 p14 q14
        obtain ⟨k2, hk, rfl, hbw⟩ := hrel
        obtain ⟨⟨p12, q12⟩, ⟨p13, q13⟩, ⟨p14, q14⟩⟩ := HCell.out _ hbw
        have HBW := Lib.hid hbw
        clear hbw
        by_cases hlt : k2 < dn
        · obtain ⟨g, off, hA, hs, hr⟩ := HX.out.dirty.at_ (show 0 < dn by omega)
          obtain rfl : dA = _ := hA
          obtain ⟨g', off', hA', hs', hr'⟩ := HY.out.dirty.at_ (show 0 < dn by omega)
          obtain rfl : dA' = _ := hA'
          obtain ⟨z, hz⟩ : ∃ z, dirty.getD k2 default = z := ⟨_, rfl⟩
          have hr2 : W1.rangeAt g (off + k2 * 2) [.int .i64 z.page, .int .i64 z.lsn] := by rw [← hz]; exact hr k2 hlt
          have hr3 : W1.rangeAt g' (off' + k2 * 2) [.int .i64 z.page, .int .i64 z.lsn] := by rw [← hz]; exact hr' k2 hlt
          have KS : Hid (∀ W, Below W1.heap.size W1 W → W.cell? ⟨r, 13, none⟩ = some (.slice (some ⟨g, off, none⟩) dn dc) ∧ W.cell? ⟨r + 1, 13, none⟩ = some (.slice (some ⟨g', off', none⟩) dn dc') ∧ W.rangeAt g (off + k2 * 2) [.int .i64 z.page, .int .i64 z.lsn] ∧ W.rangeAt g' (off' + k2 * 2) [.int .i64 z.page, .int .i64 z.lsn]) := Lib.hid (fun W hb => ⟨(HCell.out W hb).2.1.1, (HCell.out W hb).2.1.2, below_range hr2 hs.1 hb, below_range hr3 hs'.1 hb⟩)
          clear hr hr' hr2 hr3 hs hs' hz p12 q12 p14 q14
          go_wp2_with fail
          have hbd := HBW.out.drew
          have HBD := Lib.hid hbd
          have hS0 := KS.out _ hbd
          clear hbd
          refine wp_region_noPanic ?_
          refine upto_start (fun W => W.cell? ⟨r, 13, none⟩ = some (.slice (some ⟨g, off, none⟩) dn dc) ∧ W.cell? ⟨r + 1, 13, none⟩ = some (.slice (some ⟨g', off', none⟩) dn dc') ∧ W.rangeAt g (off + k2 * 2) [.int .i64 z.page, .int .i64 z.lsn] ∧ W.rangeAt g' (off' + k2 * 2) [.int .i64 z.page, .int .i64 z.lsn]) 10 (by kernel_rfl) ?_
          change Upto _ _ _ _ _ 11 _ _ _
          refine Upto.take (i := 0) (v := ?_) rfl (by kernel_rfl) (fun _ _ _ h => h) rfl (fun w' hS => ?_) hS0 ?_
          rotate_left
          · (try dsimp only at hS); go_split_ands; go_simp; (try with_reducible rfl)
          simp only [Act.put, List.setIfInBounds_toArray, List.set_cons_zero, List.set_cons_succ]
          refine Upto.take (i := 1) (v := ?_) rfl (by kernel_rfl) (fun _ _ _ h => h) rfl (fun w' hS => ?_) hS0 ?_
          rotate_left
          · (try dsimp only at hS); go_split_ands; go_simp; (try with_reducible rfl)
          simp only [Act.put, List.setIfInBounds_toArray, List.set_cons_zero, List.set_cons_succ]
          refine Upto.take (i := 2) (v := ?_) rfl (by kernel_rfl) (fun _ _ _ h => h) rfl (fun w' hS => ?_) hS0 ?_
          rotate_left
          · (try dsimp only at hS); go_split_ands; go_simp; (try with_reducible rfl)
          simp only [Act.put, List.setIfInBounds_toArray, List.set_cons_zero, List.set_cons_succ]
          refine Upto.take (i := 3) (v := ?_) rfl (by kernel_rfl) (fun _ _ _ h => h) rfl (fun w' hS => ?_) hS0 ?_
          rotate_left
          · (try dsimp only at hS); go_split_ands; go_simp; (try with_reducible rfl)
          simp only [Act.put, List.setIfInBounds_toArray, List.set_cons_zero, List.set_cons_succ]
          refine Upto.take (i := 4) rfl (by kernel_rfl) (fun _ _ _ h => h) rfl (fun w' hS => exec_load rfl (by rfl) hS.2.2.1 Try.underlying89 rfl inf_dirty2) hS0 ?_
          simp only [Act.put, List.setIfInBounds_toArray, List.set_cons_zero, List.set_cons_succ]
          refine Upto.take (i := 5) (v := ?_) rfl (by kernel_rfl) (fun _ _ _ h => h) rfl (fun w' hS => ?_) hS0 ?_
          rotate_left
          · (try dsimp only at hS); go_split_ands; go_simp; (try with_reducible rfl)
          simp only [Act.put, List.setIfInBounds_toArray, List.set_cons_zero, List.set_cons_succ]
          refine Upto.take (i := 6) (v := ?_) rfl (by kernel_rfl) (fun _ _ _ h => h) rfl (fun w' hS => ?_) hS0 ?_
          rotate_left
          · (try dsimp only at hS); go_split_ands; go_simp; (try with_reducible rfl)
          simp only [Act.put, List.setIfInBounds_toArray, List.set_cons_zero, List.set_cons_succ]
          refine Upto.take (i := 7) (v := ?_) rfl (by kernel_rfl) (fun _ _ _ h => h) rfl (fun w' hS => ?_) hS0 ?_
          rotate_left
          · (try dsimp only at hS); go_split_ands; go_simp; (try with_reducible rfl)
          simp only [Act.put, List.setIfInBounds_toArray, List.set_cons_zero, List.set_cons_succ]
          refine Upto.take (i := 8) (v := ?_) rfl (by kernel_rfl) (fun _ _ _ h => h) rfl (fun w' hS => ?_) hS0 ?_
          rotate_left
          · (try dsimp only at hS); go_split_ands; go_simp; (try with_reducible rfl)
          simp only [Act.put, List.setIfInBounds_toArray, List.set_cons_zero, List.set_cons_succ]
          refine Upto.take (i := 9) rfl (by kernel_rfl) (fun _ _ _ h => h) rfl (fun w' hS => exec_load rfl (by rfl) hS.2.2.2 Try.underlying89 rfl inf_dirty2) hS0 ?_
          simp only [Act.put, List.setIfInBounds_toArray, List.set_cons_zero, List.set_cons_succ]
          refine Upto.tail rfl (by kernel_rfl) ?_
          simp only [List.drop_succ_cons, List.drop_zero]
          go_wp2_with fail
          refine NoPanic.normal ?_
          go_wp2_with fail
          go_roundw
          case rel => exact ⟨k2 + 1, by omega, by go_num, HBD.out⟩
          case measure => simp [intOf]; omega
        · obtain hkk : k2 = dn := by omega
          clear dcap dmax
          go_wp2_with fail
          go_loopw [7] (fun q wr2 => ∃ k : Nat, k ≤ en ∧ q = .int .i64 k ∧ Below W1.heap.size W1 wr2) (fun q _ => en - (intOf q).toNat)
          case atStart => exact ⟨0, Nat.zero_le _, rfl, HBW.out⟩
          case round =>
            clear HBW hlt hk hkk p12 q12 p13 q13 p14 q14
            obtain ⟨k3, hk, rfl, hbw⟩ := hrel
            obtain ⟨⟨p12, q12⟩, ⟨p13, q13⟩, ⟨p14, q14⟩⟩ := HCell.out _ hbw
            have HBW := Lib.hid hbw
            clear hbw
            by_cases hlt : k3 < en
            · obtain ⟨g, off, hA, hs, hr⟩ := HX.out.deeds.at_ (show 0 < en by omega)
              obtain rfl : eA = _ := hA
              obtain ⟨g', off', hA', hs', hr'⟩ := HY.out.deeds.at_ (show 0 < en by omega)
              obtain rfl : eA' = _ := hA'
              obtain ⟨z, hz⟩ : ∃ z, deeds.getD k3 default = z := ⟨_, rfl⟩
              obtain ⟨z', hz'⟩ : ∃ z, deeds'.getD k3 default = z := ⟨_, rfl⟩
              have hzz : z.deed = z'.deed := by rw [← hz, ← hz']; exact map_getD (f := Xd.deed) rfl E3.out k3
              have htx : z'.tx = z.tx := (congrArg Dd.tx hzz).symm
              have hmem : z'.mem = z.mem := (congrArg Dd.mem hzz).symm
              have hr2 : W1.rangeAt g (off + k3 * 2) [.int .i64 z.tx, .slice z.mA z.mn z.mc] := by rw [← hz]; exact hr k3 hlt
              have hr3 : W1.rangeAt g' (off' + k3 * 2) [.int .i64 z.tx, .slice z'.mA z'.mn z'.mc] := by rw [← htx, ← hz']; exact hr' k3 hlt
              have hzi : XdIn H W1 z := by rw [← hz]; exact HX.out.deeds.get (i := k3) hlt
              have hzi' : XdIn H' W1 z' := by rw [← hz']; exact HY.out.deeds.get (i := k3) hlt
              have KS : Hid (∀ W, Below W1.heap.size W1 W → W.cell? ⟨r, 14, none⟩ = some (.slice (some ⟨g, off, none⟩) en ec) ∧ W.cell? ⟨r + 1, 14, none⟩ = some (.slice (some ⟨g', off', none⟩) en ec') ∧ (W.cell? ⟨g, off + k3 * 2, none⟩ = some (.int .i64 z.tx) ∧ W.cell? ⟨g, off + k3 * 2 + 1, none⟩ = some (.slice z.mA z.mn z.mc)) ∧ W.cell? ⟨g', off' + k3 * 2, none⟩ = some (.int .i64 z.tx) ∧ W.cell? ⟨g', off' + k3 * 2 + 1, none⟩ = some (.slice z'.mA z'.mn z'.mc)) :=
                Lib.hid (fun W hb => ⟨(HCell.out W hb).2.2.1, (HCell.out W hb).2.2.2, ⟨below_range hr2 hs.1 hb 0 _ rfl, below_range hr2 hs.1 hb 1 _ rfl⟩, below_range hr3 hs'.1 hb 0 _ rfl, below_range hr3 hs'.1 hb 1 _ rfl⟩)
              have CI := Lib.hid (fun W (hb : Below W1.heap.size W1 W) => sameInts_yes z.mA z.mn z.mc z'.mA z'.mn z'.mc H H' z.mem W (hzi.mem.calm (Calm.of_below hb)) (by rw [← hmem]; exact hzi'.mem.calm (Calm.of_below hb)))
              clear hr hr' hr2 hr3 hs hs' hz hz' hzz htx hmem hzi hzi' p12 q12 p13 q13
              go_wp2_with fail
              have hbd := HBW.out.drew
              have HBD := Lib.hid hbd
              have hS0 := KS.out _ hbd
              clear hbd
              refine wp_region_noPanic ?_
              refine upto_start (fun W => W.cell? ⟨r, 14, none⟩ = some (.slice (some ⟨g, off, none⟩) en ec) ∧ W.cell? ⟨r + 1, 14, none⟩ = some (.slice (some ⟨g', off', none⟩) en ec') ∧ (W.cell? ⟨g, off + k3 * 2, none⟩ = some (.int .i64 z.tx) ∧ W.cell? ⟨g, off + k3 * 2 + 1, none⟩ = some (.slice z.mA z.mn z.mc)) ∧ W.cell? ⟨g', off' + k3 * 2, none⟩ = some (.int .i64 z.tx) ∧ W.cell? ⟨g', off' + k3 * 2 + 1, none⟩ = some (.slice z'.mA z'.mn z'.mc)) 27 (by kernel_rfl) ?_
              change Upto _ _ _ _ _ 29 _ _ _
              refine Upto.take (i := 0) (v := ?_) rfl (by kernel_rfl) (fun _ _ _ h => h) rfl (fun w' hS => ?_) hS0 ?_
              rotate_left
              · (try dsimp only at hS); go_split_ands; go_simp; (try with_reducible rfl)
              simp only [Act.put, List.setIfInBounds_toArray, List.set_cons_zero, List.set_cons_succ]
              refine Upto.take (i := 1) (v := ?_) rfl (by kernel_rfl) (fun _ _ _ h => h) rfl (fun w' hS => ?_) hS0 ?_
              rotate_left
              · (try dsimp only at hS); go_split_ands; go_simp; (try with_reducible rfl)
              simp only [Act.put, List.setIfInBounds_toArray, List.set_cons_zero, List.set_cons_succ]
              refine Upto.take (i := 2) (v := ?_) rfl (by kernel_rfl) (fun _ _ _ h => h) rfl (fun w' hS => ?_) hS0 ?_
              rotate_left
              · (try dsimp only at hS); go_split_ands; go_simp; (try with_reducible rfl)
              simp only [Act.put, List.setIfInBounds_toArray, List.set_cons_zero, List.set_cons_succ]
              refine Upto.take (i := 3) (v := ?_) rfl (by kernel_rfl) (fun _ _ _ h => h) rfl (fun w' hS => ?_) hS0 ?_
              rotate_left
              · (try dsimp only at hS); go_split_ands; go_simp; (try with_reducible rfl)
              simp only [Act.put, List.setIfInBounds_toArray, List.set_cons_zero, List.set_cons_succ]
              refine Upto.take (i := 4) (v := ?_) rfl (by kernel_rfl) (fun _ _ _ h => h) rfl (fun w' hS => ?_) hS0 ?_
              rotate_left
              · (try dsimp only at hS); go_split_ands; go_simp; (try with_reducible rfl)
              simp only [Act.put, List.setIfInBounds_toArray, List.set_cons_zero, List.set_cons_succ]
              refine Upto.take (i := 5) (v := ?_) rfl (by kernel_rfl) (fun _ _ _ h => h) rfl (fun w' hS => ?_) hS0 ?_
              rotate_left
              · (try dsimp only at hS); go_split_ands; go_simp; (try with_reducible rfl)
              simp only [Act.put, List.setIfInBounds_toArray, List.set_cons_zero, List.set_cons_succ]
              refine Upto.take (i := 6) (v := ?_) rfl (by kernel_rfl) (fun _ _ _ h => h) rfl (fun w' hS => ?_) hS0 ?_
              rotate_left
              · (try dsimp only at hS); go_split_ands; go_simp; (try with_reducible rfl)
              simp only [Act.put, List.setIfInBounds_toArray, List.set_cons_zero, List.set_cons_succ]
              refine Upto.take (i := 7) (v := ?_) rfl (by kernel_rfl) (fun _ _ _ h => h) rfl (fun w' hS => ?_) hS0 ?_
              rotate_left
              · (try dsimp only at hS); go_split_ands; go_simp; (try with_reducible rfl)
              simp only [Act.put, List.setIfInBounds_toArray, List.set_cons_zero, List.set_cons_succ]
              refine Upto.take (i := 8) (v := ?_) rfl (by kernel_rfl) (fun _ _ _ h => h) rfl (fun w' hS => ?_) hS0 ?_
              rotate_left
              · (try dsimp only at hS); go_split_ands; go_simp; (try with_reducible rfl)
              simp only [Act.put, List.setIfInBounds_toArray, List.set_cons_zero, List.set_cons_succ]
              refine Upto.take (i := 9) (v := ?_) rfl (by kernel_rfl) (fun _ _ _ h => h) rfl (fun w' hS => ?_) hS0 ?_
              rotate_left
              · (try dsimp only at hS); go_split_ands; go_simp; (try with_reducible rfl)
              simp only [Act.put, List.setIfInBounds_toArray, List.set_cons_zero, List.set_cons_succ]
              refine Upto.take (i := 10) (v := ?_) rfl (by kernel_rfl) (fun _ _ _ h => h) rfl (fun w' hS => ?_) hS0 ?_
              rotate_left
              · (try dsimp only at hS); go_split_ands; go_simp; (try with_reducible rfl)
              simp only [Act.put, List.setIfInBounds_toArray, List.set_cons_zero, List.set_cons_succ]
              refine Upto.take (i := 11) (v := ?_) rfl (by kernel_rfl) (fun _ _ _ h => h) rfl (fun w' hS => ?_) hS0 ?_
              rotate_left
              · (try dsimp only at hS); go_split_ands; go_simp; (try with_reducible rfl)
              simp only [Act.put, List.setIfInBounds_toArray, List.set_cons_zero, List.set_cons_succ]
              refine Upto.take (i := 12) (v := ?_) rfl (by kernel_rfl) (fun _ _ _ h => h) rfl (fun w' hS => ?_) hS0 ?_
              rotate_left
              · (try dsimp only at hS); go_split_ands; go_simp; (try with_reducible rfl)
              simp only [Act.put, List.setIfInBounds_toArray, List.set_cons_zero, List.set_cons_succ]
              refine Upto.take (i := 13) (v := ?_) rfl (by kernel_rfl) (fun _ _ _ h => h) rfl (fun w' hS => ?_) hS0 ?_
              rotate_left
              · (try dsimp only at hS); go_split_ands; go_simp; (try with_reducible rfl)
              simp only [Act.put, List.setIfInBounds_toArray, List.set_cons_zero, List.set_cons_succ]
              refine Upto.takeG (i := 14) (v := ?_) rfl (by kernel_rfl) (fun _ _ _ h => h) rfl (fun w' hS => ?_) hS0 ?_
              rotate_left
              · (try dsimp only at hS); go_split_ands; go_simp; (try with_reducible rfl)
              simp only [Act.put, List.setIfInBounds_toArray, List.set_cons_zero, List.set_cons_succ]
              refine Upto.takeG (i := 15) (v := ?_) rfl (by kernel_rfl) (fun _ _ _ h => h) rfl (fun w' hS => ?_) hS0 ?_
              rotate_left
              · (try dsimp only at hS); go_split_ands; go_simp; (try with_reducible rfl)
              simp only [Act.put, List.setIfInBounds_toArray, List.set_cons_zero, List.set_cons_succ]
              refine Upto.takeG (i := 16) (v := ?_) rfl (by kernel_rfl) (fun _ _ _ h => h) rfl (fun w' hS => ?_) hS0 ?_
              rotate_left
              · (try dsimp only at hS); go_split_ands; go_simp; (try with_reducible rfl)
              simp only [Act.put, List.setIfInBounds_toArray, List.set_cons_zero, List.set_cons_succ]
              refine Upto.takeG (i := 17) (v := ?_) rfl (by kernel_rfl) (fun _ _ _ h => h) rfl (fun w' hS => ?_) hS0 ?_
              rotate_left
              · (try dsimp only at hS); go_split_ands; go_simp; (try with_reducible rfl)
              simp only [Act.put, List.setIfInBounds_toArray, List.set_cons_zero, List.set_cons_succ]
              refine Upto.takeG (i := 18) (v := ?_) rfl (by kernel_rfl) (fun _ _ _ h => h) rfl (fun w' hS => ?_) hS0 ?_
              rotate_left
              · (try dsimp only at hS); go_split_ands; go_simp; (try with_reducible rfl)
              simp only [Act.put, List.setIfInBounds_toArray, List.set_cons_zero, List.set_cons_succ]
              refine Upto.takeG (i := 19) (v := ?_) rfl (by kernel_rfl) (fun _ _ _ h => h) rfl (fun w' hS => ?_) hS0 ?_
              rotate_left
              · (try dsimp only at hS); go_split_ands; go_simp; (try with_reducible rfl)
              simp only [Act.put, List.setIfInBounds_toArray, List.set_cons_zero, List.set_cons_succ]
              refine Upto.takeG (i := 20) (v := ?_) rfl (by kernel_rfl) (fun _ _ _ h => h) rfl (fun w' hS => ?_) hS0 ?_
              rotate_left
              · (try dsimp only at hS); go_split_ands; go_simp; (try with_reducible rfl)
              simp only [Act.put, List.setIfInBounds_toArray, List.set_cons_zero, List.set_cons_succ]
              refine Upto.takeG (i := 21) (v := ?_) rfl (by kernel_rfl) (fun _ _ _ h => h) rfl (fun w' hS => ?_) hS0 ?_
              rotate_left
              · (try dsimp only at hS); go_split_ands; go_simp; (try with_reducible rfl)
              simp only [Act.put, List.setIfInBounds_toArray, List.set_cons_zero, List.set_cons_succ]
              refine Upto.takeG (i := 22) (v := ?_) rfl (by kernel_rfl) (fun _ _ _ h => h) rfl (fun w' hS => ?_) hS0 ?_
              rotate_left
              · (try dsimp only at hS); go_split_ands; go_simp; (try with_reducible rfl)
              simp only [Act.put, List.setIfInBounds_toArray, List.set_cons_zero, List.set_cons_succ]
              refine Upto.takeG (i := 23) (v := ?_) rfl (by kernel_rfl) (fun _ _ _ h => h) rfl (fun w' hS => ?_) hS0 ?_
              rotate_left
              · (try dsimp only at hS); go_split_ands; go_simp; (try with_reducible rfl)
              simp only [Act.put, List.setIfInBounds_toArray, List.set_cons_zero, List.set_cons_succ]
              refine Upto.takeG (i := 24) (v := ?_) rfl (by kernel_rfl) (fun _ _ _ h => h) rfl (fun w' hS => ?_) hS0 ?_
              rotate_left
              · (try dsimp only at hS); go_split_ands; go_simp; (try with_reducible rfl)
              simp only [Act.put, List.setIfInBounds_toArray, List.set_cons_zero, List.set_cons_succ]
              refine Upto.takeG (i := 25) (v := ?_) rfl (by kernel_rfl) (fun _ _ _ h => h) rfl (fun w' hS => ?_) hS0 ?_
              rotate_left
              · (try dsimp only at hS); go_split_ands; go_simp; (try with_reducible rfl)
              simp only [Act.put, List.setIfInBounds_toArray, List.set_cons_zero, List.set_cons_succ]
              refine Upto.lawG (i := 26) rfl (by kernel_rfl) rfl (fun K hK => ?_)
              refine wp_enter (f := 43) (args := #[.slice z.mA z.mn z.mc, .slice z'.mA z'.mn z'.mc]) (by go_simp) (CI.out _ HBD.out) ?_
              rintro e W3 ⟨rfl, m3, hw3⟩
              have hb4 : Below W1.heap.size W1 W3 := by rw [hw3]; exact below_drewN HBD.out m3
              refine ⟨_, rfl, hK _ _ (KS.out W3 hb4) ?_⟩
              have HB4 := Lib.hid hb4
              clear hK hS0 hw3 hb4 KS CI HBD HBW
              simp only [Act.put, List.setIfInBounds_toArray, List.set_cons_zero, List.set_cons_succ]
              refine Upto.tail rfl (by kernel_rfl) ?_
              simp only [List.drop_succ_cons, List.drop_zero]
              go_wp2_with fail
              refine NoPanic.normal ?_
              go_wp2_with fail
              go_roundw
              case rel => exact ⟨k3 + 1, by omega, by go_num, HB4.out⟩
              case measure => simp [intOf]; omega
            · obtain hkk : k3 = en := by omega
              have R := Lib.hid (HB.out.trans (HBW.out.mono HB.out.size))
              go_wp2_with fail
              go_ret
              exact ⟨rfl, R.out⟩
end Go.Proofs.Ytfldcddbmikfiaa

/- trothref07.Same says yes of records that read as the same. -/
namespace Go.Proofs.Ytfldcddbmikfiaa
open Go.RowKit
set_option maxRecDepth 100000 in
set_option maxHeartbeats 16000000 in
theorem same7_yes (x y : Xr) (H H' : Nat) (w : World) (hx : XrIn H w x) (hy : XrIn H' w y) (e : x.read = y.read) :
    Calls Try.prog 16 #[x.val, y.val] w (fun e w' => e = .returned (.bool true) ∧ Below w.heap.size w w') := by
  have e1 := congrArg Rc.rows e
  have e2 := congrArg Rc.dirty e
  have e3 := congrArg Rc.deeds e
  have e4 := congrArg Rc.past e
  obtain ⟨X, hX⟩ : ∃ X, X = x := ⟨_, rfl⟩
  obtain ⟨Y, hY⟩ : ∃ Y, Y = y := ⟨_, rfl⟩
  have CS : ∀ W, Below w.heap.size w W → Calls Try.prog 45 #[X.val, Y.val] W (fun e w' => e = .returned (.bool true) ∧ Below W.heap.size W w') := fun W hb => by
    subst hX hY
    exact sameLists_yes _ _ H H' W (hx.calm (Calm.of_below hb)) (hy.calm (Calm.of_below hb)) e1 e2 e3 e4
  obtain ⟨kind, tx, prev, next, key, ⟨oh, od⟩, ⟨nh, nd⟩, co, mA, mn, mc, mem, kA, kn, kc, lks, rA, rn, rc, rows, dA, dn, dc, dirty, eA, en, ec, deeds, pA, pn, pc, past⟩ := x
  obtain ⟨kind', tx', prev', next', key', ⟨oh', od'⟩, ⟨nh', nd'⟩, co', mA', mn', mc', mem', kA', kn', kc', lks', rA', rn', rc', rows', dA', dn', dc', dirty', eA', en', ec', deeds', pA', pn', pc', past'⟩ := y
  obtain rfl : kind = kind' := congrArg Rc.kind e
  obtain rfl : tx = tx' := congrArg Rc.tx e
  obtain rfl : prev = prev' := congrArg Rc.prev e
  obtain rfl : next = next' := congrArg Rc.next e
  obtain rfl : key = key' := congrArg Rc.key e
  obtain rfl : oh = oh' := congrArg (fun r : Rc => r.old.has) e
  obtain rfl : od = od' := congrArg (fun r : Rc => r.old.data) e
  obtain rfl : nh = nh' := congrArg (fun r : Rc => r.new.has) e
  obtain rfl : nd = nd' := congrArg (fun r : Rc => r.new.data) e
  obtain rfl : co = co' := congrArg Rc.co e
  obtain rfl : mem = mem' := congrArg Rc.mem e
  obtain rfl : lks = lks' := congrArg Rc.lks e
  clear e e1 e2 e3 e4
  rw [hX, hY] at CS
  clear hX hY
  unfold Xr.val at CS ⊢
  simp only at CS ⊢
  obtain ⟨C, hC⟩ : ∃ C : Array Value, C = #[.int .i64 kind, .int .i64 tx, .int .i64 prev, .int .i64 next, .string key, .bool oh, .string od, .bool nh, .string nd, .int .i64 co, .slice mA mn mc, .slice kA kn kc, .slice rA rn rc, .slice dA dn dc, .slice eA en ec, .slice pA pn pc] := ⟨_, rfl⟩
  obtain ⟨D, hD⟩ : ∃ D : Array Value, D = #[.int .i64 kind, .int .i64 tx, .int .i64 prev, .int .i64 next, .string key, .bool oh, .string od, .bool nh, .string nd, .int .i64 co, .slice mA' mn' mc', .slice kA' kn' kc', .slice rA' rn' rc', .slice dA' dn' dc', .slice eA' en' ec', .slice pA' pn' pc'] := ⟨_, rfl⟩
  rw [← hC, ← hD] at CS
  obtain ⟨r, hrr⟩ : ∃ r, w.heap.size = r := ⟨_, rfl⟩
  obtain ⟨W1, hW1⟩ : ∃ W1, W1 = (w.alloc (.cells #[.int .i64 kind, .int .i64 tx, .int .i64 prev, .int .i64 next, .string key, .bool oh, .string od, .bool nh, .string nd, .int .i64 co, .slice mA mn mc, .slice kA kn kc, .slice rA rn rc, .slice dA dn dc, .slice eA en ec, .slice pA pn pc] 30)).alloc (.cells #[.int .i64 kind, .int .i64 tx, .int .i64 prev, .int .i64 next, .string key, .bool oh, .string od, .bool nh, .string nd, .int .i64 co, .slice mA' mn' mc', .slice kA' kn' kc', .slice rA' rn' rc', .slice dA' dn' dc', .slice eA' en' ec', .slice pA' pn' pc'] 30) := ⟨_, rfl⟩
  have hb : Below w.heap.size w W1 := by rw [hW1]; exact ((Below.refl _ _).alloc (Nat.le_refl _) _).alloc (by simp) _
  have V0 : Bk W1 r 30 C := by rw [hW1, hC, ← hrr]; exact (Bk.new w _ _).bel ((Below.refl _ _).alloc (Nat.le_refl _) _) (by simp)
  have V1 : Bk W1 (r + 1) 30 D := by
    rw [hW1, hD, ← hrr]
    have := Bk.new (w.alloc (.cells #[.int .i64 kind, .int .i64 tx, .int .i64 prev, .int .i64 next, .string key, .bool oh, .string od, .bool nh, .string nd, .int .i64 co, .slice mA mn mc, .slice kA kn kc, .slice rA rn rc, .slice dA dn dc, .slice eA en ec, .slice pA pn pc] 30)) 30 #[.int .i64 kind, .int .i64 tx, .int .i64 prev, .int .i64 next, .string key, .bool oh, .string od, .bool nh, .string nd, .int .i64 co, .slice mA' mn' mc', .slice kA' kn' kc', .slice rA' rn' rc', .slice dA' dn' dc', .slice eA' en' ec', .slice pA' pn' pc']
    rw [World.size_alloc] at this
    exact this
  have a0 : W1.cell? ⟨r, 0, none⟩ = some (.int .i64 kind) := by rw [V0.cell 0, hC]; rfl
  have a1 : W1.cell? ⟨r, 1, none⟩ = some (.int .i64 tx) := by rw [V0.cell 1, hC]; rfl
  have a2 : W1.cell? ⟨r, 2, none⟩ = some (.int .i64 prev) := by rw [V0.cell 2, hC]; rfl
  have a3 : W1.cell? ⟨r, 3, none⟩ = some (.int .i64 next) := by rw [V0.cell 3, hC]; rfl
  have a4 : W1.cell? ⟨r, 4, none⟩ = some (.string key) := by rw [V0.cell 4, hC]; rfl
  have a5 : W1.cell? ⟨r, 5, none⟩ = some (.bool oh) := by rw [V0.cell 5, hC]; rfl
  have a6 : W1.cell? ⟨r, 6, none⟩ = some (.string od) := by rw [V0.cell 6, hC]; rfl
  have a7 : W1.cell? ⟨r, 7, none⟩ = some (.bool nh) := by rw [V0.cell 7, hC]; rfl
  have a8 : W1.cell? ⟨r, 8, none⟩ = some (.string nd) := by rw [V0.cell 8, hC]; rfl
  have a9 : W1.cell? ⟨r, 9, none⟩ = some (.int .i64 co) := by rw [V0.cell 9, hC]; rfl
  have a10 : W1.cell? ⟨r, 10, none⟩ = some (.slice mA mn mc) := by rw [V0.cell 10, hC]; rfl
  have a11 : W1.cell? ⟨r, 11, none⟩ = some (.slice kA kn kc) := by rw [V0.cell 11, hC]; rfl
  have b0 : W1.cell? ⟨r + 1, 0, none⟩ = some (.int .i64 kind) := by rw [V1.cell 0, hD]; rfl
  have b1 : W1.cell? ⟨r + 1, 1, none⟩ = some (.int .i64 tx) := by rw [V1.cell 1, hD]; rfl
  have b2 : W1.cell? ⟨r + 1, 2, none⟩ = some (.int .i64 prev) := by rw [V1.cell 2, hD]; rfl
  have b3 : W1.cell? ⟨r + 1, 3, none⟩ = some (.int .i64 next) := by rw [V1.cell 3, hD]; rfl
  have b4 : W1.cell? ⟨r + 1, 4, none⟩ = some (.string key) := by rw [V1.cell 4, hD]; rfl
  have b5 : W1.cell? ⟨r + 1, 5, none⟩ = some (.bool oh) := by rw [V1.cell 5, hD]; rfl
  have b6 : W1.cell? ⟨r + 1, 6, none⟩ = some (.string od) := by rw [V1.cell 6, hD]; rfl
  have b7 : W1.cell? ⟨r + 1, 7, none⟩ = some (.bool nh) := by rw [V1.cell 7, hD]; rfl
  have b8 : W1.cell? ⟨r + 1, 8, none⟩ = some (.string nd) := by rw [V1.cell 8, hD]; rfl
  have b9 : W1.cell? ⟨r + 1, 9, none⟩ = some (.int .i64 co) := by rw [V1.cell 9, hD]; rfl
  have b10 : W1.cell? ⟨r + 1, 10, none⟩ = some (.slice mA' mn' mc') := by rw [V1.cell 10, hD]; rfl
  have b11 : W1.cell? ⟨r + 1, 11, none⟩ = some (.slice kA' kn' kc') := by rw [V1.cell 11, hD]; rfl
  have CI := Lib.hid (sameInts_yes mA mn mc mA' mn' mc' H H' mem W1 (hx.mem.calm (Calm.of_below hb)) (hy.mem.calm (Calm.of_below hb)))
  have CL := Lib.hid (fun m => sameLocks_yes kA kn kc kA' kn' kc' H H' lks (W1.drewN m) ((hx.lks.calm (Calm.of_below hb)).calm (calm_drewN H W1 m)) ((hy.lks.calm (Calm.of_below hb)).calm (calm_drewN H' W1 m)))
  have HCS : Hid (C.size = 16 ∧ D.size = 16) := Lib.hid ⟨by rw [hC]; rfl, by rw [hD]; rfl⟩
  have CSS := Lib.hid CS
  have HV := Lib.hid (And.intro V0 V1)
  have HB := Lib.hid hb
  have HW := Lib.hid hW1
  clear hx hy hb hW1 V0 V1 CS hC hD
  go_enter Try.func16, Try.ntmps16
  go_upto_region 1 with fail
  (try rw [hrr])
  rw [← HW.out]
  clear HW hrr
  go_wp2_with fail
  refine CI.out.mono ?_
  rintro e w2 ⟨rfl, m, rfl⟩
  go_wp2_with fail
  refine (CL.out m).mono ?_
  rintro e w3 ⟨rfl, m2, rfl⟩
  have HBM : Hid (Below w.heap.size w (W1.drewN (m + m2))) := Lib.hid (below_drewN HB.out _)
  have CT := Lib.hid (CSS.out (W1.drewN (m + m2)) HBM.out)
  have V0 : Hid (Bk (W1.drewN (m + m2)) r 30 C) := Lib.hid HV.out.1
  have V1 : Hid (Bk (W1.drewN (m + m2)) (r + 1) 30 D) := Lib.hid HV.out.2
  go_wp2_with (first
    | (refine wpList_load_row_g rfl 30 _ rfl r rfl 30 _ (0, 0) _ V0.out Try.underlying30 rfl (by rw [HCS.out.1]; exact inf_rec) ?_)
    | (refine wpList_load_row_g rfl 30 _ rfl (r + 1) rfl 30 _ (0, 0) _ V1.out Try.underlying30 rfl (by rw [HCS.out.2]; exact inf_rec) ?_))
  refine CT.out.mono ?_
  rintro e w4 ⟨rfl, hb4⟩
  have R := Lib.hid (HBM.out.trans (hb4.mono HBM.out.size))
  clear hb4
  go_wp2_with fail
  go_ret
  exact ⟨rfl, R.out⟩
end Go.Proofs.Ytfldcddbmikfiaa
