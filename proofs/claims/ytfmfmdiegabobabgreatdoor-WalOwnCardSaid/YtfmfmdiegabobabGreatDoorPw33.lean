/- What it says: contracts and plain mathematics that the laws' walks use, 33 of 33: each part's own remark says what; no condition. -/
import Derived.Test.YtfmfmdiegabobabGreatDoorPw1
import Derived.Test.YtfmfmdiegabobabGreatDoorPw2
import Derived.Test.YtfmfmdiegabobabGreatDoorPw5
import Derived.Test.YtfmfmdiegabobabGreatDoorPw6
import Derived.Test.YtfmfmdiegabobabGreatDoorPw13
import Derived.Test.YtfmfmdiegabobabGreatDoorPw31
import Derived.Test.YtfmfmdiegabobabGreatDoorRows
import Derived.ProofKit
import Derived.OpenShut
import Derived.ShutString
import Derived.ChangeOld
import Derived.SizedLaws
import Derived.Lib.LaidTab
import Derived.LaidMore
import Derived.Stop.Joined
import Derived.Deep.Slices
import Derived.Lib.SmallJoins
import Derived.ChangeArms

set_option linter.unusedSimpArgs false
set_option linter.unusedVariables false
set_option linter.deprecated false
set_option linter.unusedSectionVars false
set_option linter.all false
set_option maxRecDepth 100000
set_option maxHeartbeats 16000000
namespace Go.Proofs.YtfmfmdiegabobabGreatDoor
theorem q1Pw33 {α : Type} (l : List α) (i : Nat) (x : α) : l.toArray.setIfInBounds i x = (l.set i x).toArray := by simp
theorem q2Pw33 {α : Type} (a : α) (l : List α) (x : α) : (a :: l).set 0 x = x :: l := rfl
theorem q3Pw33 {α : Type} (a : α) (l : List α) (i : Nat) (x : α) : (a :: l).set (i + 1) x = a :: l.set i x := rfl

/- trothref07.sameLists says yes of records whose lists read as the same. -/
section
open Go.RowKit
theorem inf_row8 : (Tryz.prog.info? 49).map (·.size) = some 8 := by kernel_rfl
theorem inf_dirty2 : (Tryz.prog.info? 105).map (·.size) = some 2 := by kernel_rfl
theorem map_getD {α β : Type} [Inhabited α] [Inhabited β] {f : α → β} (hd : f default = default) {l m : List α} (h : l.map f = m.map f) (i : Nat) : f (l.getD i default) = f (m.getD i default) := by
 have e : ∀ q : List α, (q.map f).getD i default = f (q.getD i default) := fun q => by
  rw [List.getD_eq_getElem?_getD, List.getElem?_map, List.getD_eq_getElem?_getD]
  cases q[i]? <;> simp [hd]
 rw [← e, ← e, h]
theorem below_range {w w' : World} {g o : Nat} {cs : List Value} (h : w.rangeAt g o cs) (hg : g < w.heap.size) (hb : Below w.heap.size w w') : w'.rangeAt g o cs := rangeAt_heap h (hb.block g hg)
theorem sameLists_yes (x y : Xr) (H H' : Nat) (w : World) (hx : XrIn H w x) (hy : XrIn H' w y) (e1 : x.rows.map Xw.row = y.rows.map Xw.row) (e2 : x.dirty = y.dirty) (e3 : x.deeds.map Xd.deed = y.deeds.map Xd.deed) (e4 : x.past = y.past) :
  Calls Tryz.prog 32 #[x.val, y.val] w (fun e w' => e = .returned (.bool true) ∧ Below w.heap.size w w') := by
 have n1 : x.rn = y.rn := by rw [← hx.rows.len, ← hy.rows.len]; have := congrArg List.length e1; simpa using this
 have n2 : x.dn = y.dn := by rw [← hx.dirty.len, ← hy.dirty.len, e2]
 have n3 : x.en = y.en := by rw [← hx.deeds.len, ← hy.deeds.len]; have := congrArg List.length e3; simpa using this
 obtain ⟨kind, tx, prev, next, key, ⟨oh, od⟩, ⟨nh, nd⟩, co, mA, mn, mc, mem, kA, kn, kc, lks, rA, rn, rc, rows, dA, dn, dc, dirty, eA, en, ec, deeds, pA, pn, pc, past⟩ := x
 obtain ⟨kind', tx', prev', next', key', ⟨oh', od'⟩, ⟨nh', nd'⟩, co', mA', mn', mc', mem', kA', kn', kc', lks', rA', rn', rc', rows', dA', dn', dc', dirty', eA', en', ec', deeds', pA', pn', pc', past'⟩ := y
 simp only at n1 n2 n3 e1 e2 e3 e4
 subst n1 n2 n3 e2 e4
 unfold Xr.val
 simp only
 obtain ⟨r, hrr⟩ : ∃ r, w.heap.size = r := ⟨_, rfl⟩
 obtain ⟨W1, hW1⟩ : ∃ W1, W1 = (w.alloc (.cells #[.int .i64 kind, .int .i64 tx, .int .i64 prev, .int .i64 next, .string key, .bool oh, .string od, .bool nh, .string nd, .int .i64 co, .slice mA mn mc, .slice kA kn kc, .slice rA rn rc, .slice dA dn dc, .slice eA en ec, .slice pA pn pc] 30)).alloc (.cells #[.int .i64 kind', .int .i64 tx', .int .i64 prev', .int .i64 next', .string key', .bool oh', .string od', .bool nh', .string nd', .int .i64 co', .slice mA' mn' mc', .slice kA' kn' kc', .slice rA' rn rc', .slice dA' dn dc', .slice eA' en ec', .slice pA' pn' pc'] 30) := ⟨_, rfl⟩
 have hb : Below w.heap.size w W1 := by rw [hW1]; exact ((Below.refl _ _).alloc (Nat.le_refl _) _).alloc (by simp) _
 have V0 : Bk W1 r 30 #[.int .i64 kind, .int .i64 tx, .int .i64 prev, .int .i64 next, .string key, .bool oh, .string od, .bool nh, .string nd, .int .i64 co, .slice mA mn mc, .slice kA kn kc, .slice rA rn rc, .slice dA dn dc, .slice eA en ec, .slice pA pn pc] := by rw [hW1, ← hrr]; exact (Bk.new w _ _).bel ((Below.refl _ _).alloc (Nat.le_refl _) _) (by simp)
 have V1 : Bk W1 (r + 1) 30 #[.int .i64 kind', .int .i64 tx', .int .i64 prev', .int .i64 next', .string key', .bool oh', .string od', .bool nh', .string nd', .int .i64 co', .slice mA' mn' mc', .slice kA' kn' kc', .slice rA' rn rc', .slice dA' dn dc', .slice eA' en ec', .slice pA' pn' pc'] := by
  rw [hW1, ← hrr]
  have := Bk.new (w.alloc (.cells #[.int .i64 kind, .int .i64 tx, .int .i64 prev, .int .i64 next, .string key, .bool oh, .string od, .bool nh, .string nd, .int .i64 co, .slice mA mn mc, .slice kA kn kc, .slice rA rn rc, .slice dA dn dc, .slice eA en ec, .slice pA pn pc] 30)) 30 #[.int .i64 kind', .int .i64 tx', .int .i64 prev', .int .i64 next', .string key', .bool oh', .string od', .bool nh', .string nd', .int .i64 co', .slice mA' mn' mc', .slice kA' kn' kc', .slice rA' rn rc', .slice dA' dn dc', .slice eA' en ec', .slice pA' pn' pc']
  rw [World.size_alloc] at this
  exact this
 have HX := Lib.hid (hx.calm (Calm.of_below hb))
 have HY := Lib.hid (hy.calm (Calm.of_below hb))
 have a12 : W1.cell? ⟨r, 12, none⟩ = some (.slice rA rn rc) := V0.cell 12
 have a13 : W1.cell? ⟨r, 13, none⟩ = some (.slice dA dn dc) := V0.cell 13
 have a14 : W1.cell? ⟨r, 14, none⟩ = some (.slice eA en ec) := V0.cell 14
 have a15 : W1.cell? ⟨r, 15, none⟩ = some (.slice pA pn pc) := V0.cell 15
 have b12 : W1.cell? ⟨r + 1, 12, none⟩ = some (.slice rA' rn rc') := V1.cell 12
 have b13 : W1.cell? ⟨r + 1, 13, none⟩ = some (.slice dA' dn dc') := V1.cell 13
 have b14 : W1.cell? ⟨r + 1, 14, none⟩ = some (.slice eA' en ec') := V1.cell 14
 have b15 : W1.cell? ⟨r + 1, 15, none⟩ = some (.slice pA' pn' pc') := V1.cell 15
 have HV := Lib.hid (And.intro V0 V1)
 have CP := Lib.hid (sameInts_yes pA pn pc pA' pn' pc' H H' past W1 HX.out.past HY.out.past)
 have HB := Lib.hid hb
 have HW := Lib.hid hW1
 have HSL : Hid (r < W1.heap.size ∧ r + 1 < W1.heap.size) := Lib.hid ⟨V0.lt, V1.lt⟩
 have rcap := HX.out.rows.cap
 have rmax := HX.out.rows.max
 have dcap := HX.out.dirty.cap
 have dmax := HX.out.dirty.max
 have ecap := HX.out.deeds.cap
 have emax := HX.out.deeds.max
 unfold maxLen at rmax dmax emax
 have E1 := Lib.hid e1
 have E3 := Lib.hid e3
 clear hx hy hb hW1 V0 V1 e1 e3
 go_enter Tryz.func32, Tryz.ntmps32
 go_upto_region 1 with fail
 (try rw [hrr])
 rw [← HW.out]
 clear HW hrr
 go_wp2_with fail
 refine CP.out.mono ?_
 rintro e w2 ⟨rfl, m0, rfl⟩
 clear a15 b15
 have HCell : Hid (∀ W, Below W1.heap.size W1 W → (W.cell? ⟨r, 12, none⟩ = some (.slice rA rn rc) ∧ W.cell? ⟨r + 1, 12, none⟩ = some (.slice rA' rn rc')) ∧ (W.cell? ⟨r, 13, none⟩ = some (.slice dA dn dc) ∧ W.cell? ⟨r + 1, 13, none⟩ = some (.slice dA' dn dc')) ∧ (W.cell? ⟨r, 14, none⟩ = some (.slice eA en ec) ∧ W.cell? ⟨r + 1, 14, none⟩ = some (.slice eA' en ec'))) :=
  Lib.hid (fun W hb => ⟨⟨(hb.cell (p := ⟨r, 12, none⟩) HSL.out.1).trans a12, (hb.cell (p := ⟨r + 1, 12, none⟩) HSL.out.2).trans b12⟩, ⟨(hb.cell (p := ⟨r, 13, none⟩) HSL.out.1).trans a13, (hb.cell (p := ⟨r + 1, 13, none⟩) HSL.out.2).trans b13⟩, ⟨(hb.cell (p := ⟨r, 14, none⟩) HSL.out.1).trans a14, (hb.cell (p := ⟨r + 1, 14, none⟩) HSL.out.2).trans b14⟩⟩)
 have B0 : Hid (Below W1.heap.size W1 (W1.drewN m0)) := Lib.hid (below_drewN (Below.refl _ _) m0)
 clear a12 a13 a14 b12 b13 b14 CP
 obtain ⟨⟨p12, q12⟩, ⟨p13, q13⟩, ⟨p14, q14⟩⟩ := HCell.out _ B0.out
 go_wp2_with fail
 clear p12 q12 p13 q13 p14 q14
 go_loopw [5] (fun q wr => ∃ k : Nat, k ≤ rn ∧ q = .int .i64 k ∧ Below W1.heap.size W1 wr) (fun q _ => rn - (intOf q).toNat)
 case atStart => exact ⟨0, Nat.zero_le _, rfl, B0.out⟩
 case round =>
  clear B0
  obtain ⟨k, hk, rfl, hbw⟩ := hrel
  obtain ⟨⟨p12, q12⟩, ⟨p13, q13⟩, ⟨p14, q14⟩⟩ := HCell.out wr hbw
  have HBW := Lib.hid hbw
  clear hbw
  by_cases hlt : k < rn
  ·obtain ⟨g, off, hA, hs, hr⟩ := HX.out.rows.at_ (show 0 < rn by omega)
   obtain rfl : rA = _ := hA
   obtain ⟨g', off', hA', hs', hr'⟩ := HY.out.rows.at_ (show 0 < rn by omega)
   obtain rfl : rA' = _ := hA'
   obtain ⟨z, hz⟩ : ∃ z, rows.getD k default = z := ⟨_, rfl⟩
   obtain ⟨z', hz'⟩ : ∃ z, rows'.getD k default = z := ⟨_, rfl⟩
   have hr2 : W1.rangeAt g (off + k * 8) (elR.cells z) := by rw [← hz]; exact hr k hlt
   have hr3 : W1.rangeAt g' (off' + k * 8) (elR.cells z') := by rw [← hz']; exact hr' k hlt
   have hzz : z.row = z'.row := by rw [← hz, ← hz']; exact map_getD (f := Xw.row) rfl E1.out k
   have hzi : XwIn H W1 z := by rw [← hz]; exact HX.out.rows.get (i := k) hlt
   have hzi' : XwIn H' W1 z' := by rw [← hz']; exact HY.out.rows.get (i := k) hlt
   have KS : Hid (∀ W, Below W1.heap.size W1 W → W.cell? ⟨r, 12, none⟩ = some (.slice (some ⟨g, off, none⟩) rn rc) ∧ W.cell? ⟨r + 1, 12, none⟩ = some (.slice (some ⟨g', off', none⟩) rn rc') ∧ W.rangeAt g (off + k * 8) (elR.cells z) ∧ W.rangeAt g' (off' + k * 8) (elR.cells z')) := Lib.hid (fun W hb => ⟨(HCell.out W hb).1.1, (HCell.out W hb).1.2, below_range hr2 hs.1 hb, below_range hr3 hs'.1 hb⟩)
   have CR := Lib.hid (fun W (hb : Below W1.heap.size W1 W) => sameRow_yes z z' H H' W (elR.calm H W1 W z hzi (Calm.of_below hb)) (elR.calm H' W1 W z' hzi' (Calm.of_below hb)) hzz)
   clear hr hr' hr2 hr3 hs hs' hz hz' hzz hzi hzi' p13 q13 p14 q14
   go_wp2_with fail
   have hbd : Below W1.heap.size W1 wr.drew := HBW.out.drew
   have HBD := Lib.hid hbd
   have hS0 := KS.out wr.drew hbd
   clear hbd
   refine wp_region_noPanic ?_
   refine upto_start (fun W => W.cell? ⟨r, 12, none⟩ = some (.slice (some ⟨g, off, none⟩) rn rc) ∧ W.cell? ⟨r + 1, 12, none⟩ = some (.slice (some ⟨g', off', none⟩) rn rc') ∧ W.rangeAt g (off + k * 8) (elR.cells z) ∧ W.rangeAt g' (off' + k * 8) (elR.cells z')) 11 (by kernel_rfl) ?_
   change Upto _ _ _ _ _ 12 _ _ _
   refine Upto.tk 0 ?_ rfl (fun w' hS => ?_) hS0 ?_
   rotate_left
   ·(try dsimp only at hS); go_split_ands; go_simp; (try with_reducible rfl)
   simp only [Act.put, q1Pw33, q2Pw33, q3Pw33]
   refine Upto.tk 1 ?_ rfl (fun w' hS => ?_) hS0 ?_
   rotate_left
   ·(try dsimp only at hS); go_split_ands; go_simp; (try with_reducible rfl)
   simp only [Act.put, q1Pw33, q2Pw33, q3Pw33]
   refine Upto.tk 2 ?_ rfl (fun w' hS => ?_) hS0 ?_
   rotate_left
   ·(try dsimp only at hS); go_split_ands; go_simp; (try with_reducible rfl)
   simp only [Act.put, q1Pw33, q2Pw33, q3Pw33]
   refine Upto.tk 3 ?_ rfl (fun w' hS => ?_) hS0 ?_
   rotate_left
   ·(try dsimp only at hS); go_split_ands; go_simp; (try with_reducible rfl)
   simp only [Act.put, q1Pw33, q2Pw33, q3Pw33]
   refine Upto.take (i := 4) rfl (by kernel_rfl) (fun _ _ _ h => h) rfl (fun w' hS => exec_load rfl (by rfl) hS.2.2.1 Tryz.underlying49 rfl (by rw [elR.len z]; exact inf_row8)) hS0 ?_
   simp only [Act.put, q1Pw33, q2Pw33, q3Pw33]
   refine Upto.tk 5 ?_ rfl (fun w' hS => ?_) hS0 ?_
   rotate_left
   ·(try dsimp only at hS); go_split_ands; go_simp; (try with_reducible rfl)
   simp only [Act.put, q1Pw33, q2Pw33, q3Pw33]
   refine Upto.tk 6 ?_ rfl (fun w' hS => ?_) hS0 ?_
   rotate_left
   ·(try dsimp only at hS); go_split_ands; go_simp; (try with_reducible rfl)
   simp only [Act.put, q1Pw33, q2Pw33, q3Pw33]
   refine Upto.tk 7 ?_ rfl (fun w' hS => ?_) hS0 ?_
   rotate_left
   ·(try dsimp only at hS); go_split_ands; go_simp; (try with_reducible rfl)
   simp only [Act.put, q1Pw33, q2Pw33, q3Pw33]
   refine Upto.tk 8 ?_ rfl (fun w' hS => ?_) hS0 ?_
   rotate_left
   ·(try dsimp only at hS); go_split_ands; go_simp; (try with_reducible rfl)
   simp only [Act.put, q1Pw33, q2Pw33, q3Pw33]
   refine Upto.take (i := 9) rfl (by kernel_rfl) (fun _ _ _ h => h) rfl (fun w' hS => exec_load rfl (by rfl) hS.2.2.2 Tryz.underlying49 rfl (by rw [elR.len z']; exact inf_row8)) hS0 ?_
   simp only [Act.put, q1Pw33, q2Pw33, q3Pw33]
   refine Upto.law (i := 10) rfl (by kernel_rfl) rfl (fun K hK => ?_)
   refine wp_enter (f := 54) (args := #[.agg (elR.cells z).toArray, .agg (elR.cells z').toArray]) (by go_simp) (CR.out wr.drew HBD.out) ?_
   rintro e W3 ⟨rfl, hb3⟩
   have hb4 : Below W1.heap.size W1 W3 := HBD.out.trans (hb3.mono HBD.out.size)
   refine ⟨_, rfl, hK _ _ (KS.out W3 hb4) ?_⟩
   have HB4 := Lib.hid hb4
   clear hK hS0 hb3 hb4 KS CR HBD HBW
   simp only [Act.put, q1Pw33, q2Pw33, q3Pw33]
   refine Upto.tail rfl (by kernel_rfl) ?_
   simp only [List.drop_succ_cons, List.drop_zero]
   go_wp2_with fail
   refine NoPanic.normal ?_
   go_wp2_with fail
   go_roundw
   case rel => exact ⟨k + 1, by omega, by go_num, HB4.out⟩
   case measure => simp [intOf]; omega
  ·obtain hkk : k = rn := by omega
   clear rcap rmax
   go_wp2_with fail
   go_loopw [6] (fun q wr2 => ∃ k : Nat, k ≤ dn ∧ q = .int .i64 k ∧ Below W1.heap.size W1 wr2) (fun q _ => dn - (intOf q).toNat)
   case atStart => exact ⟨0, Nat.zero_le _, rfl, HBW.out⟩
   case round =>
    clear HBW hlt hk hkk p12 q12 p13 q13 p14 q14
    obtain ⟨k2, hk, rfl, hbw⟩ := hrel
    obtain ⟨⟨p12, q12⟩, ⟨p13, q13⟩, ⟨p14, q14⟩⟩ := HCell.out _ hbw
    have HBW := Lib.hid hbw
    clear hbw
    by_cases hlt : k2 < dn
    ·obtain ⟨g, off, hA, hs, hr⟩ := HX.out.dirty.at_ (show 0 < dn by omega)
     obtain rfl : dA = _ := hA
     obtain ⟨g', off', hA', hs', hr'⟩ := HY.out.dirty.at_ (show 0 < dn by omega)
     obtain rfl : dA' = _ := hA'
     obtain ⟨z, hz⟩ : ∃ z, dirty.getD k2 default = z := ⟨_, rfl⟩
     have hr2 : W1.rangeAt g (off + k2 * 2) [.int .i64 z.page, .int .i64 z.lsn] := by rw [← hz]; exact hr k2 hlt
     have hr3 : W1.rangeAt g' (off' + k2 * 2) [.int .i64 z.page, .int .i64 z.lsn] := by rw [← hz]; exact hr' k2 hlt
     have KS : Hid (∀ W, Below W1.heap.size W1 W → W.cell? ⟨r, 13, none⟩ = some (.slice (some ⟨g, off, none⟩) dn dc) ∧ W.cell? ⟨r + 1, 13, none⟩ = some (.slice (some ⟨g', off', none⟩) dn dc') ∧ W.rangeAt g (off + k2 * 2) [.int .i64 z.page, .int .i64 z.lsn] ∧ W.rangeAt g' (off' + k2 * 2) [.int .i64 z.page, .int .i64 z.lsn]) := Lib.hid (fun W hb => ⟨(HCell.out W hb).2.1.1, (HCell.out W hb).2.1.2, below_range hr2 hs.1 hb, below_range hr3 hs'.1 hb⟩)
     clear hr hr' hr2 hr3 hs hs' hz p12 q12 p14 q14
     go_wp2_with fail
     have hbd := HBW.out.drew
     have HBD := Lib.hid hbd
     have hS0 := KS.out _ hbd
     clear hbd
     refine wp_region_noPanic ?_
     refine upto_start (fun W => W.cell? ⟨r, 13, none⟩ = some (.slice (some ⟨g, off, none⟩) dn dc) ∧ W.cell? ⟨r + 1, 13, none⟩ = some (.slice (some ⟨g', off', none⟩) dn dc') ∧ W.rangeAt g (off + k2 * 2) [.int .i64 z.page, .int .i64 z.lsn] ∧ W.rangeAt g' (off' + k2 * 2) [.int .i64 z.page, .int .i64 z.lsn]) 10 (by kernel_rfl) ?_
     change Upto _ _ _ _ _ 11 _ _ _
     refine Upto.tk 0 ?_ rfl (fun w' hS => ?_) hS0 ?_
     rotate_left
     ·(try dsimp only at hS); go_split_ands; go_simp; (try with_reducible rfl)
     simp only [Act.put, q1Pw33, q2Pw33, q3Pw33]
     refine Upto.tk 1 ?_ rfl (fun w' hS => ?_) hS0 ?_
     rotate_left
     ·(try dsimp only at hS); go_split_ands; go_simp; (try with_reducible rfl)
     simp only [Act.put, q1Pw33, q2Pw33, q3Pw33]
     refine Upto.tk 2 ?_ rfl (fun w' hS => ?_) hS0 ?_
     rotate_left
     ·(try dsimp only at hS); go_split_ands; go_simp; (try with_reducible rfl)
     simp only [Act.put, q1Pw33, q2Pw33, q3Pw33]
     refine Upto.tk 3 ?_ rfl (fun w' hS => ?_) hS0 ?_
     rotate_left
     ·(try dsimp only at hS); go_split_ands; go_simp; (try with_reducible rfl)
     simp only [Act.put, q1Pw33, q2Pw33, q3Pw33]
     refine Upto.take (i := 4) rfl (by kernel_rfl) (fun _ _ _ h => h) rfl (fun w' hS => exec_load rfl (by rfl) hS.2.2.1 Tryz.underlying105 rfl inf_dirty2) hS0 ?_
     simp only [Act.put, q1Pw33, q2Pw33, q3Pw33]
     refine Upto.tk 5 ?_ rfl (fun w' hS => ?_) hS0 ?_
     rotate_left
     ·(try dsimp only at hS); go_split_ands; go_simp; (try with_reducible rfl)
     simp only [Act.put, q1Pw33, q2Pw33, q3Pw33]
     refine Upto.tk 6 ?_ rfl (fun w' hS => ?_) hS0 ?_
     rotate_left
     ·(try dsimp only at hS); go_split_ands; go_simp; (try with_reducible rfl)
     simp only [Act.put, q1Pw33, q2Pw33, q3Pw33]
     refine Upto.tk 7 ?_ rfl (fun w' hS => ?_) hS0 ?_
     rotate_left
     ·(try dsimp only at hS); go_split_ands; go_simp; (try with_reducible rfl)
     simp only [Act.put, q1Pw33, q2Pw33, q3Pw33]
     refine Upto.tk 8 ?_ rfl (fun w' hS => ?_) hS0 ?_
     rotate_left
     ·(try dsimp only at hS); go_split_ands; go_simp; (try with_reducible rfl)
     simp only [Act.put, q1Pw33, q2Pw33, q3Pw33]
     refine Upto.take (i := 9) rfl (by kernel_rfl) (fun _ _ _ h => h) rfl (fun w' hS => exec_load rfl (by rfl) hS.2.2.2 Tryz.underlying105 rfl inf_dirty2) hS0 ?_
     simp only [Act.put, q1Pw33, q2Pw33, q3Pw33]
     refine Upto.tail rfl (by kernel_rfl) ?_
     simp only [List.drop_succ_cons, List.drop_zero]
     go_wp2_with fail
     refine NoPanic.normal ?_
     go_wp2_with fail
     go_roundw
     case rel => exact ⟨k2 + 1, by omega, by go_num, HBD.out⟩
     case measure => simp [intOf]; omega
    ·obtain hkk : k2 = dn := by omega
     clear dcap dmax
     go_wp2_with fail
     go_loopw [7] (fun q wr2 => ∃ k : Nat, k ≤ en ∧ q = .int .i64 k ∧ Below W1.heap.size W1 wr2) (fun q _ => en - (intOf q).toNat)
     case atStart => exact ⟨0, Nat.zero_le _, rfl, HBW.out⟩
     case round =>
      clear HBW hlt hk hkk p12 q12 p13 q13 p14 q14
      obtain ⟨k3, hk, rfl, hbw⟩ := hrel
      obtain ⟨⟨p12, q12⟩, ⟨p13, q13⟩, ⟨p14, q14⟩⟩ := HCell.out _ hbw
      have HBW := Lib.hid hbw
      clear hbw
      by_cases hlt : k3 < en
      ·obtain ⟨g, off, hA, hs, hr⟩ := HX.out.deeds.at_ (show 0 < en by omega)
       obtain rfl : eA = _ := hA
       obtain ⟨g', off', hA', hs', hr'⟩ := HY.out.deeds.at_ (show 0 < en by omega)
       obtain rfl : eA' = _ := hA'
       obtain ⟨z, hz⟩ : ∃ z, deeds.getD k3 default = z := ⟨_, rfl⟩
       obtain ⟨z', hz'⟩ : ∃ z, deeds'.getD k3 default = z := ⟨_, rfl⟩
       have hzz : z.deed = z'.deed := by rw [← hz, ← hz']; exact map_getD (f := Xd.deed) rfl E3.out k3
       have htx : z'.tx = z.tx := (congrArg Dd.tx hzz).symm
       have hmem : z'.mem = z.mem := (congrArg Dd.mem hzz).symm
       have hr2 : W1.rangeAt g (off + k3 * 2) [.int .i64 z.tx, .slice z.mA z.mn z.mc] := by rw [← hz]; exact hr k3 hlt
       have hr3 : W1.rangeAt g' (off' + k3 * 2) [.int .i64 z.tx, .slice z'.mA z'.mn z'.mc] := by rw [← htx, ← hz']; exact hr' k3 hlt
       have hzi : XdIn H W1 z := by rw [← hz]; exact HX.out.deeds.get (i := k3) hlt
       have hzi' : XdIn H' W1 z' := by rw [← hz']; exact HY.out.deeds.get (i := k3) hlt
       have KS : Hid (∀ W, Below W1.heap.size W1 W → W.cell? ⟨r, 14, none⟩ = some (.slice (some ⟨g, off, none⟩) en ec) ∧ W.cell? ⟨r + 1, 14, none⟩ = some (.slice (some ⟨g', off', none⟩) en ec') ∧ (W.cell? ⟨g, off + k3 * 2, none⟩ = some (.int .i64 z.tx) ∧ W.cell? ⟨g, off + k3 * 2 + 1, none⟩ = some (.slice z.mA z.mn z.mc)) ∧ W.cell? ⟨g', off' + k3 * 2, none⟩ = some (.int .i64 z.tx) ∧ W.cell? ⟨g', off' + k3 * 2 + 1, none⟩ = some (.slice z'.mA z'.mn z'.mc)) :=
        Lib.hid (fun W hb => ⟨(HCell.out W hb).2.2.1, (HCell.out W hb).2.2.2, ⟨below_range hr2 hs.1 hb 0 _ rfl, below_range hr2 hs.1 hb 1 _ rfl⟩, below_range hr3 hs'.1 hb 0 _ rfl, below_range hr3 hs'.1 hb 1 _ rfl⟩)
       have CI := Lib.hid (fun W (hb : Below W1.heap.size W1 W) => sameInts_yes z.mA z.mn z.mc z'.mA z'.mn z'.mc H H' z.mem W (hzi.mem.calm (Calm.of_below hb)) (by rw [← hmem]; exact hzi'.mem.calm (Calm.of_below hb)))
       clear hr hr' hr2 hr3 hs hs' hz hz' hzz htx hmem hzi hzi' p12 q12 p13 q13
       go_wp2_with fail
       have hbd := HBW.out.drew
       have HBD := Lib.hid hbd
       have hS0 := KS.out _ hbd
       clear hbd
       refine wp_region_noPanic ?_
       refine upto_start (fun W => W.cell? ⟨r, 14, none⟩ = some (.slice (some ⟨g, off, none⟩) en ec) ∧ W.cell? ⟨r + 1, 14, none⟩ = some (.slice (some ⟨g', off', none⟩) en ec') ∧ (W.cell? ⟨g, off + k3 * 2, none⟩ = some (.int .i64 z.tx) ∧ W.cell? ⟨g, off + k3 * 2 + 1, none⟩ = some (.slice z.mA z.mn z.mc)) ∧ W.cell? ⟨g', off' + k3 * 2, none⟩ = some (.int .i64 z.tx) ∧ W.cell? ⟨g', off' + k3 * 2 + 1, none⟩ = some (.slice z'.mA z'.mn z'.mc)) 27 (by kernel_rfl) ?_
       change Upto _ _ _ _ _ 29 _ _ _
       refine Upto.tk 0 ?_ rfl (fun w' hS => ?_) hS0 ?_
       rotate_left
       ·(try dsimp only at hS); go_split_ands; go_simp; (try with_reducible rfl)
       simp only [Act.put, q1Pw33, q2Pw33, q3Pw33]
       refine Upto.tk 1 ?_ rfl (fun w' hS => ?_) hS0 ?_
       rotate_left
       ·(try dsimp only at hS); go_split_ands; go_simp; (try with_reducible rfl)
       simp only [Act.put, q1Pw33, q2Pw33, q3Pw33]
       refine Upto.tk 2 ?_ rfl (fun w' hS => ?_) hS0 ?_
       rotate_left
       ·(try dsimp only at hS); go_split_ands; go_simp; (try with_reducible rfl)
       simp only [Act.put, q1Pw33, q2Pw33, q3Pw33]
       refine Upto.tk 3 ?_ rfl (fun w' hS => ?_) hS0 ?_
       rotate_left
       ·(try dsimp only at hS); go_split_ands; go_simp; (try with_reducible rfl)
       simp only [Act.put, q1Pw33, q2Pw33, q3Pw33]
       refine Upto.tk 4 ?_ rfl (fun w' hS => ?_) hS0 ?_
       rotate_left
       ·(try dsimp only at hS); go_split_ands; go_simp; (try with_reducible rfl)
       simp only [Act.put, q1Pw33, q2Pw33, q3Pw33]
       refine Upto.tk 5 ?_ rfl (fun w' hS => ?_) hS0 ?_
       rotate_left
       ·(try dsimp only at hS); go_split_ands; go_simp; (try with_reducible rfl)
       simp only [Act.put, q1Pw33, q2Pw33, q3Pw33]
       refine Upto.tk 6 ?_ rfl (fun w' hS => ?_) hS0 ?_
       rotate_left
       ·(try dsimp only at hS); go_split_ands; go_simp; (try with_reducible rfl)
       simp only [Act.put, q1Pw33, q2Pw33, q3Pw33]
       refine Upto.tk 7 ?_ rfl (fun w' hS => ?_) hS0 ?_
       rotate_left
       ·(try dsimp only at hS); go_split_ands; go_simp; (try with_reducible rfl)
       simp only [Act.put, q1Pw33, q2Pw33, q3Pw33]
       refine Upto.tk 8 ?_ rfl (fun w' hS => ?_) hS0 ?_
       rotate_left
       ·(try dsimp only at hS); go_split_ands; go_simp; (try with_reducible rfl)
       simp only [Act.put, q1Pw33, q2Pw33, q3Pw33]
       refine Upto.tk 9 ?_ rfl (fun w' hS => ?_) hS0 ?_
       rotate_left
       ·(try dsimp only at hS); go_split_ands; go_simp; (try with_reducible rfl)
       simp only [Act.put, q1Pw33, q2Pw33, q3Pw33]
       refine Upto.tk 10 ?_ rfl (fun w' hS => ?_) hS0 ?_
       rotate_left
       ·(try dsimp only at hS); go_split_ands; go_simp; (try with_reducible rfl)
       simp only [Act.put, q1Pw33, q2Pw33, q3Pw33]
       refine Upto.tk 11 ?_ rfl (fun w' hS => ?_) hS0 ?_
       rotate_left
       ·(try dsimp only at hS); go_split_ands; go_simp; (try with_reducible rfl)
       simp only [Act.put, q1Pw33, q2Pw33, q3Pw33]
       refine Upto.tk 12 ?_ rfl (fun w' hS => ?_) hS0 ?_
       rotate_left
       ·(try dsimp only at hS); go_split_ands; go_simp; (try with_reducible rfl)
       simp only [Act.put, q1Pw33, q2Pw33, q3Pw33]
       refine Upto.tk 13 ?_ rfl (fun w' hS => ?_) hS0 ?_
       rotate_left
       ·(try dsimp only at hS); go_split_ands; go_simp; (try with_reducible rfl)
       simp only [Act.put, q1Pw33, q2Pw33, q3Pw33]
       refine Upto.takeG (i := 14) (v := ?_) rfl (by kernel_rfl) (fun _ _ _ h => h) rfl (fun w' hS => ?_) hS0 ?_
       rotate_left
       ·(try dsimp only at hS); go_split_ands; go_simp; (try with_reducible rfl)
       simp only [Act.put, q1Pw33, q2Pw33, q3Pw33]
       refine Upto.takeG (i := 15) (v := ?_) rfl (by kernel_rfl) (fun _ _ _ h => h) rfl (fun w' hS => ?_) hS0 ?_
       rotate_left
       ·(try dsimp only at hS); go_split_ands; go_simp; (try with_reducible rfl)
       simp only [Act.put, q1Pw33, q2Pw33, q3Pw33]
       refine Upto.takeG (i := 16) (v := ?_) rfl (by kernel_rfl) (fun _ _ _ h => h) rfl (fun w' hS => ?_) hS0 ?_
       rotate_left
       ·(try dsimp only at hS); go_split_ands; go_simp; (try with_reducible rfl)
       simp only [Act.put, q1Pw33, q2Pw33, q3Pw33]
       refine Upto.takeG (i := 17) (v := ?_) rfl (by kernel_rfl) (fun _ _ _ h => h) rfl (fun w' hS => ?_) hS0 ?_
       rotate_left
       ·(try dsimp only at hS); go_split_ands; go_simp; (try with_reducible rfl)
       simp only [Act.put, q1Pw33, q2Pw33, q3Pw33]
       refine Upto.takeG (i := 18) (v := ?_) rfl (by kernel_rfl) (fun _ _ _ h => h) rfl (fun w' hS => ?_) hS0 ?_
       rotate_left
       ·(try dsimp only at hS); go_split_ands; go_simp; (try with_reducible rfl)
       simp only [Act.put, q1Pw33, q2Pw33, q3Pw33]
       refine Upto.takeG (i := 19) (v := ?_) rfl (by kernel_rfl) (fun _ _ _ h => h) rfl (fun w' hS => ?_) hS0 ?_
       rotate_left
       ·(try dsimp only at hS); go_split_ands; go_simp; (try with_reducible rfl)
       simp only [Act.put, q1Pw33, q2Pw33, q3Pw33]
       refine Upto.takeG (i := 20) (v := ?_) rfl (by kernel_rfl) (fun _ _ _ h => h) rfl (fun w' hS => ?_) hS0 ?_
       rotate_left
       ·(try dsimp only at hS); go_split_ands; go_simp; (try with_reducible rfl)
       simp only [Act.put, q1Pw33, q2Pw33, q3Pw33]
       refine Upto.takeG (i := 21) (v := ?_) rfl (by kernel_rfl) (fun _ _ _ h => h) rfl (fun w' hS => ?_) hS0 ?_
       rotate_left
       ·(try dsimp only at hS); go_split_ands; go_simp; (try with_reducible rfl)
       simp only [Act.put, q1Pw33, q2Pw33, q3Pw33]
       refine Upto.takeG (i := 22) (v := ?_) rfl (by kernel_rfl) (fun _ _ _ h => h) rfl (fun w' hS => ?_) hS0 ?_
       rotate_left
       ·(try dsimp only at hS); go_split_ands; go_simp; (try with_reducible rfl)
       simp only [Act.put, q1Pw33, q2Pw33, q3Pw33]
       refine Upto.takeG (i := 23) (v := ?_) rfl (by kernel_rfl) (fun _ _ _ h => h) rfl (fun w' hS => ?_) hS0 ?_
       rotate_left
       ·(try dsimp only at hS); go_split_ands; go_simp; (try with_reducible rfl)
       simp only [Act.put, q1Pw33, q2Pw33, q3Pw33]
       refine Upto.takeG (i := 24) (v := ?_) rfl (by kernel_rfl) (fun _ _ _ h => h) rfl (fun w' hS => ?_) hS0 ?_
       rotate_left
       ·(try dsimp only at hS); go_split_ands; go_simp; (try with_reducible rfl)
       simp only [Act.put, q1Pw33, q2Pw33, q3Pw33]
       refine Upto.takeG (i := 25) (v := ?_) rfl (by kernel_rfl) (fun _ _ _ h => h) rfl (fun w' hS => ?_) hS0 ?_
       rotate_left
       ·(try dsimp only at hS); go_split_ands; go_simp; (try with_reducible rfl)
       simp only [Act.put, q1Pw33, q2Pw33, q3Pw33]
       refine Upto.lawG (i := 26) rfl (by kernel_rfl) rfl (fun K hK => ?_)
       refine wp_enter (f := 30) (args := #[.slice z.mA z.mn z.mc, .slice z'.mA z'.mn z'.mc]) (by go_simp) (CI.out _ HBD.out) ?_
       rintro e W3 ⟨rfl, m3, hw3⟩
       have hb4 : Below W1.heap.size W1 W3 := by rw [hw3]; exact below_drewN HBD.out m3
       refine ⟨_, rfl, hK _ _ (KS.out W3 hb4) ?_⟩
       have HB4 := Lib.hid hb4
       clear hK hS0 hw3 hb4 KS CI HBD HBW
       simp only [Act.put, q1Pw33, q2Pw33, q3Pw33]
       refine Upto.tail rfl (by kernel_rfl) ?_
       simp only [List.drop_succ_cons, List.drop_zero]
       go_wp2_with fail
       refine NoPanic.normal ?_
       go_wp2_with fail
       go_roundw
       case rel => exact ⟨k3 + 1, by omega, by go_num, HB4.out⟩
       case measure => simp [intOf]; omega
      ·obtain hkk : k3 = en := by omega
       have R := Lib.hid (HB.out.trans (HBW.out.mono HB.out.size))
       go_wp2_with fail
       go_ret
       exact ⟨rfl, R.out⟩
end

/- trothref07.Same says yes of records that read as the same. -/
section
open Go.RowKit
theorem same7_yes (x y : Xr) (H H' : Nat) (w : World) (hx : XrIn H w x) (hy : XrIn H' w y) (e : x.read = y.read) :
  Calls Tryz.prog 12 #[x.val, y.val] w (fun e w' => e = .returned (.bool true) ∧ Below w.heap.size w w') := by
 have e1 := congrArg Rc.rows e
 have e2 := congrArg Rc.dirty e
 have e3 := congrArg Rc.deeds e
 have e4 := congrArg Rc.past e
 obtain ⟨X, hX⟩ : ∃ X, X = x := ⟨_, rfl⟩
 obtain ⟨Y, hY⟩ : ∃ Y, Y = y := ⟨_, rfl⟩
 have CS : ∀ W, Below w.heap.size w W → Calls Tryz.prog 32 #[X.val, Y.val] W (fun e w' => e = .returned (.bool true) ∧ Below W.heap.size W w') := fun W hb => by
  subst hX hY
  exact sameLists_yes _ _ H H' W (hx.calm (Calm.of_below hb)) (hy.calm (Calm.of_below hb)) e1 e2 e3 e4
 obtain ⟨kind, tx, prev, next, key, ⟨oh, od⟩, ⟨nh, nd⟩, co, mA, mn, mc, mem, kA, kn, kc, lks, rA, rn, rc, rows, dA, dn, dc, dirty, eA, en, ec, deeds, pA, pn, pc, past⟩ := x
 obtain ⟨kind', tx', prev', next', key', ⟨oh', od'⟩, ⟨nh', nd'⟩, co', mA', mn', mc', mem', kA', kn', kc', lks', rA', rn', rc', rows', dA', dn', dc', dirty', eA', en', ec', deeds', pA', pn', pc', past'⟩ := y
 obtain rfl : kind = kind' := congrArg Rc.kind e
 obtain rfl : tx = tx' := congrArg Rc.tx e
 obtain rfl : prev = prev' := congrArg Rc.prev e
 obtain rfl : next = next' := congrArg Rc.next e
 obtain rfl : key = key' := congrArg Rc.key e
 obtain rfl : oh = oh' := congrArg (fun r : Rc => r.old.has) e
 obtain rfl : od = od' := congrArg (fun r : Rc => r.old.data) e
 obtain rfl : nh = nh' := congrArg (fun r : Rc => r.new.has) e
 obtain rfl : nd = nd' := congrArg (fun r : Rc => r.new.data) e
 obtain rfl : co = co' := congrArg Rc.co e
 obtain rfl : mem = mem' := congrArg Rc.mem e
 obtain rfl : lks = lks' := congrArg Rc.lks e
 clear e e1 e2 e3 e4
 rw [hX, hY] at CS
 clear hX hY
 unfold Xr.val at CS ⊢
 simp only at CS ⊢
 obtain ⟨C, hC⟩ : ∃ C : Array Value, C = #[.int .i64 kind, .int .i64 tx, .int .i64 prev, .int .i64 next, .string key, .bool oh, .string od, .bool nh, .string nd, .int .i64 co, .slice mA mn mc, .slice kA kn kc, .slice rA rn rc, .slice dA dn dc, .slice eA en ec, .slice pA pn pc] := ⟨_, rfl⟩
 obtain ⟨D, hD⟩ : ∃ D : Array Value, D = #[.int .i64 kind, .int .i64 tx, .int .i64 prev, .int .i64 next, .string key, .bool oh, .string od, .bool nh, .string nd, .int .i64 co, .slice mA' mn' mc', .slice kA' kn' kc', .slice rA' rn' rc', .slice dA' dn' dc', .slice eA' en' ec', .slice pA' pn' pc'] := ⟨_, rfl⟩
 rw [← hC, ← hD] at CS
 obtain ⟨r, hrr⟩ : ∃ r, w.heap.size = r := ⟨_, rfl⟩
 obtain ⟨W1, hW1⟩ : ∃ W1, W1 = (w.alloc (.cells #[.int .i64 kind, .int .i64 tx, .int .i64 prev, .int .i64 next, .string key, .bool oh, .string od, .bool nh, .string nd, .int .i64 co, .slice mA mn mc, .slice kA kn kc, .slice rA rn rc, .slice dA dn dc, .slice eA en ec, .slice pA pn pc] 30)).alloc (.cells #[.int .i64 kind, .int .i64 tx, .int .i64 prev, .int .i64 next, .string key, .bool oh, .string od, .bool nh, .string nd, .int .i64 co, .slice mA' mn' mc', .slice kA' kn' kc', .slice rA' rn' rc', .slice dA' dn' dc', .slice eA' en' ec', .slice pA' pn' pc'] 30) := ⟨_, rfl⟩
 have hb : Below w.heap.size w W1 := by rw [hW1]; exact ((Below.refl _ _).alloc (Nat.le_refl _) _).alloc (by simp) _
 have V0 : Bk W1 r 30 C := by rw [hW1, hC, ← hrr]; exact (Bk.new w _ _).bel ((Below.refl _ _).alloc (Nat.le_refl _) _) (by simp)
 have V1 : Bk W1 (r + 1) 30 D := by
  rw [hW1, hD, ← hrr]
  have := Bk.new (w.alloc (.cells #[.int .i64 kind, .int .i64 tx, .int .i64 prev, .int .i64 next, .string key, .bool oh, .string od, .bool nh, .string nd, .int .i64 co, .slice mA mn mc, .slice kA kn kc, .slice rA rn rc, .slice dA dn dc, .slice eA en ec, .slice pA pn pc] 30)) 30 #[.int .i64 kind, .int .i64 tx, .int .i64 prev, .int .i64 next, .string key, .bool oh, .string od, .bool nh, .string nd, .int .i64 co, .slice mA' mn' mc', .slice kA' kn' kc', .slice rA' rn' rc', .slice dA' dn' dc', .slice eA' en' ec', .slice pA' pn' pc']
  rw [World.size_alloc] at this
  exact this
 have a0 : W1.cell? ⟨r, 0, none⟩ = some (.int .i64 kind) := by rw [V0.cell 0, hC]; rfl
 have a1 : W1.cell? ⟨r, 1, none⟩ = some (.int .i64 tx) := by rw [V0.cell 1, hC]; rfl
 have a2 : W1.cell? ⟨r, 2, none⟩ = some (.int .i64 prev) := by rw [V0.cell 2, hC]; rfl
 have a3 : W1.cell? ⟨r, 3, none⟩ = some (.int .i64 next) := by rw [V0.cell 3, hC]; rfl
 have a4 : W1.cell? ⟨r, 4, none⟩ = some (.string key) := by rw [V0.cell 4, hC]; rfl
 have a5 : W1.cell? ⟨r, 5, none⟩ = some (.bool oh) := by rw [V0.cell 5, hC]; rfl
 have a6 : W1.cell? ⟨r, 6, none⟩ = some (.string od) := by rw [V0.cell 6, hC]; rfl
 have a7 : W1.cell? ⟨r, 7, none⟩ = some (.bool nh) := by rw [V0.cell 7, hC]; rfl
 have a8 : W1.cell? ⟨r, 8, none⟩ = some (.string nd) := by rw [V0.cell 8, hC]; rfl
 have a9 : W1.cell? ⟨r, 9, none⟩ = some (.int .i64 co) := by rw [V0.cell 9, hC]; rfl
 have a10 : W1.cell? ⟨r, 10, none⟩ = some (.slice mA mn mc) := by rw [V0.cell 10, hC]; rfl
 have a11 : W1.cell? ⟨r, 11, none⟩ = some (.slice kA kn kc) := by rw [V0.cell 11, hC]; rfl
 have b0 : W1.cell? ⟨r + 1, 0, none⟩ = some (.int .i64 kind) := by rw [V1.cell 0, hD]; rfl
 have b1 : W1.cell? ⟨r + 1, 1, none⟩ = some (.int .i64 tx) := by rw [V1.cell 1, hD]; rfl
 have b2 : W1.cell? ⟨r + 1, 2, none⟩ = some (.int .i64 prev) := by rw [V1.cell 2, hD]; rfl
 have b3 : W1.cell? ⟨r + 1, 3, none⟩ = some (.int .i64 next) := by rw [V1.cell 3, hD]; rfl
 have b4 : W1.cell? ⟨r + 1, 4, none⟩ = some (.string key) := by rw [V1.cell 4, hD]; rfl
 have b5 : W1.cell? ⟨r + 1, 5, none⟩ = some (.bool oh) := by rw [V1.cell 5, hD]; rfl
 have b6 : W1.cell? ⟨r + 1, 6, none⟩ = some (.string od) := by rw [V1.cell 6, hD]; rfl
 have b7 : W1.cell? ⟨r + 1, 7, none⟩ = some (.bool nh) := by rw [V1.cell 7, hD]; rfl
 have b8 : W1.cell? ⟨r + 1, 8, none⟩ = some (.string nd) := by rw [V1.cell 8, hD]; rfl
 have b9 : W1.cell? ⟨r + 1, 9, none⟩ = some (.int .i64 co) := by rw [V1.cell 9, hD]; rfl
 have b10 : W1.cell? ⟨r + 1, 10, none⟩ = some (.slice mA' mn' mc') := by rw [V1.cell 10, hD]; rfl
 have b11 : W1.cell? ⟨r + 1, 11, none⟩ = some (.slice kA' kn' kc') := by rw [V1.cell 11, hD]; rfl
 have CI := Lib.hid (sameInts_yes mA mn mc mA' mn' mc' H H' mem W1 (hx.mem.calm (Calm.of_below hb)) (hy.mem.calm (Calm.of_below hb)))
 have CL := Lib.hid (fun m => sameLocks_yes kA kn kc kA' kn' kc' H H' lks (W1.drewN m) ((hx.lks.calm (Calm.of_below hb)).calm (calm_drewN H W1 m)) ((hy.lks.calm (Calm.of_below hb)).calm (calm_drewN H' W1 m)))
 have HCS : Hid (C.size = 16 ∧ D.size = 16) := Lib.hid ⟨by rw [hC]; rfl, by rw [hD]; rfl⟩
 have CSS := Lib.hid CS
 have HV := Lib.hid (And.intro V0 V1)
 have HB := Lib.hid hb
 have HW := Lib.hid hW1
 clear hx hy hb hW1 V0 V1 CS hC hD
 go_enter Tryz.func12, Tryz.ntmps12
 go_upto_region 1 with fail
 (try rw [hrr])
 rw [← HW.out]
 clear HW hrr
 go_wp2_with fail
 refine CI.out.mono ?_
 rintro e w2 ⟨rfl, m, rfl⟩
 go_wp2_with fail
 refine (CL.out m).mono ?_
 rintro e w3 ⟨rfl, m2, rfl⟩
 have HBM : Hid (Below w.heap.size w (W1.drewN (m + m2))) := Lib.hid (below_drewN HB.out _)
 have CT := Lib.hid (CSS.out (W1.drewN (m + m2)) HBM.out)
 have V0 : Hid (Bk (W1.drewN (m + m2)) r 30 C) := Lib.hid HV.out.1
 have V1 : Hid (Bk (W1.drewN (m + m2)) (r + 1) 30 D) := Lib.hid HV.out.2
 go_wp2_with (first
  | (refine wpList_load_row_g rfl 30 _ rfl r rfl 30 _ (0, 0) _ V0.out Tryz.underlying30 rfl (by rw [HCS.out.1]; exact inf_rec) ?_)
  | (refine wpList_load_row_g rfl 30 _ rfl (r + 1) rfl 30 _ (0, 0) _ V1.out Tryz.underlying30 rfl (by rw [HCS.out.2]; exact inf_rec) ?_))
 refine CT.out.mono ?_
 rintro e w4 ⟨rfl, hb4⟩
 have R := Lib.hid (HBM.out.trans (hb4.mono HBM.out.size))
 clear hb4
 go_wp2_with fail
 go_ret
 exact ⟨rfl, R.out⟩
end

/- what a row's step wants of arguments that are numbers or slices of bytes: how they read, and how long they are. No condition. -/
section
open Go.ChangeShapes Go.WideShapes Go.ChangeAt Go.RowKit
theorem own_knob : ownKnob Tryz.prog.godebug = none := by kernel_rfl
theorem laidOut : laidOutB Tryz.prog = true := by kernel_rfl
section
variable {H : Type} {enc : TypeId × Value → H} {W : World}
end
end

/- where the listed variable reads as the program's text lays it, its cells are the table's. -/
section
open Go.RowKit
theorem tab_global : Tryz.prog.globalNamed "troth/crc.byNibble" = some 0 := by kernel_rfl
theorem tab_type : (Tryz.prog.globals[0]?).map (·.type) = some 214 := by kernel_rfl
def tabZs : List Int := [0, 498536548, 997073096, 651767980, 1994146192, 1802195444, 1303535960, 1342533948, 3988292384, 4027552580, 3604390888, 3412177804, 2607071920, 2262029012, 2685067896, 3183342108]
theorem tab_zs (i : Nat) (h : i < 16) : tabZs.getD i 0 = (nib i : Int) := by
 have : i = 0 ∨ i = 1 ∨ i = 2 ∨ i = 3 ∨ i = 4 ∨ i = 5 ∨ i = 6 ∨ i = 7 ∨ i = 8 ∨ i = 9 ∨ i = 10 ∨ i = 11 ∨ i = 12 ∨ i = 13 ∨ i = 14 ∨ i = 15 := by omega
 rcases this with h | h | h | h | h | h | h | h | h | h | h | h | h | h | h | h <;> subst h <;> rfl
theorem tab_of_laid {W : World} (h : laidMetH Tryz.prog [("troth/crc.byNibble", Rows.laid_troth_crc_byNibble)] W) : Tab W := by
 rw [MakeChecks.laidMetH_plain _ _ _ (by kernel_rfl)] at h
 have h' : laidMet Tryz.prog (("troth/crc.byNibble", Lib.tabData .u32 tabZs) :: []) W := h
 have ht := Lib.tabIs_of_head (n := 16) tab_global tab_type Tryz.underlying214 Tryz.underlying195 (by kernel_rfl) (by kernel_rfl) h'
 intro i hi
 have := ht.cell tab_global i hi
 rw [tab_zs i hi] at this
 exact this
end

/- a log record as it comes in: what it reads as. -/
section
open Go.RowKit Go.ChangeShapes Go.WideShapes Go.ChangeAt
theorem lst_of {α : Type} (d : α) (P : Nat → α → Prop) : ∀ n : Nat, (∀ i, i < n → ∃ x, P i x) → ∃ l : List α, l.length = n ∧ ∀ i, i < n → P i (l.getD i d)
 | 0, _ => ⟨[], rfl, fun i hi => absurd hi (by omega)⟩
 | n + 1, h => by
  obtain ⟨l, hl, hp⟩ := lst_of d P n (fun i hi => h i (by omega))
  obtain ⟨x, hx⟩ := h n (by omega)
  refine ⟨l ++ [x], by simp [hl], fun i hi => ?_⟩
  by_cases he : i < n
  ·have := hp i he
   have e : (l ++ [x]).getD i d = l.getD i d := by simp [List.getD, List.getElem?_append_left (show i < l.length by omega)]
   rwa [e]
  ·obtain rfl : i = n := by omega
   have : (l ++ [x]).getD l.length d = x := by simp
   rw [hl] at this
   rw [this]
   exact hx
section
variable {H : Type} {enc : TypeId × Value → H} {W : World}
theorem open_sl {α : Type} [Inhabited α] (E : El α) {sl : TypeId} (ht : Tryz.prog.underlying sl = some (.slice E.ty)) (hc : Tryz.prog.cellsOf E.ty = E.size)
  (each : ∀ k cs x, cs.length = E.size → DataW.trod enc Tryz.prog W 0 (fun _ => true) true k E.ty cs = some x → ∃ a, E.inn W.heap.size W a ∧ cs = E.cells a)
  {k : Nat} {v : Value} {x : DataW H × List MemPlace} (hf : DataW.trod enc Tryz.prog W 0 (fun _ => true) true k sl [v] = some x) : ∃ A n c l, v = .slice A n c ∧ Sl E W.heap.size W A n c l := by
 rcases Go.Deep.open_slice ht hf with ⟨hcs, _⟩ | ⟨a, n, c, m, k, D, Pl, hcs, _, hl, hm, hmm, _, hx⟩
 ·obtain rfl : v = .slice none 0 0 := by simpa using hcs
  exact ⟨none, 0, 0, [], rfl, Sl.nil E _ W⟩
 ·obtain rfl : v = .slice (some a) n c := by simpa using hcs
  have hmc : m = c := by simpa using hmm
  subst hmc
  have ex : ∀ i, i < n → ∃ y : α, E.inn W.heap.size W y ∧ ∀ j v, (E.cells y)[j]? = some v → W.cell? ((a.add (i * E.size)).add j) = some v := by
   intro i hi
   obtain ⟨cs', hcc, ht'⟩ := hx i (by omega)
   rw [hc] at hcc
   obtain ⟨_, hcl, hat⟩ := World.cells?_some hcc
   obtain ⟨y, hy, rfl⟩ := each _ _ _ hcl ht'
   refine ⟨y, hy, fun j v hv => ?_⟩
   have hj : j < E.size := by rw [← E.len y]; exact (List.getElem?_eq_some_iff.1 hv).1
   rw [hat j hj]
   exact hv
  obtain ⟨ys, hlen, hys⟩ := lst_of (default : α) _ n ex
  refine ⟨some a, n, m, ys, rfl, hlen, hl, hm, (fun h => nomatch h), fun y hy => ?_, fun hn => ?_⟩
  ·obtain ⟨i, hi, rfl⟩ := List.getElem_of_mem hy
   have := (hys i (by omega)).1
   rwa [List.getD_eq_getElem?_getD, List.getElem?_eq_getElem hi] at this
  ·obtain ⟨g, off, spot⟩ := a
   have hpos : ∀ i, i < n → ∃ v, (E.cells (ys.getD i default))[0]? = some v := fun i _ => ⟨_, List.getElem?_eq_getElem (by rw [E.len]; exact E.pos)⟩
   have hspot : spot = none := by
    obtain ⟨v, hv⟩ := hpos 0 hn
    have := (hys 0 hn).2 0 _ hv
    have h2 := World.cell?_spot this
    simpa [Addr.add] using h2
   subst hspot
   have hadd : ∀ i j : Nat, ((⟨g, off, none⟩ : Addr).add i).add j = ⟨g, off + i + j, none⟩ := by
    intro i j
    by_cases hi : i = 0 <;> by_cases hj : j = 0 <;> simp [Addr.add, hi, hj]
   have hgl : g < W.heap.size := by
    obtain ⟨v, hv⟩ := hpos 0 hn
    have := (hys 0 hn).2 0 _ hv
    rw [hadd] at this
    exact World.block_lt_of_cell? W _ this
   refine ⟨g, off, rfl, ⟨hgl, .inl trivial, .inl hgl⟩, fun i hi j v hv => ?_⟩
   have := (hys i hi).2 j v hv
   rwa [hadd] at this
theorem co_int : Tryz.prog.cellsOf 3 = 1 := by kernel_rfl
theorem co_str : Tryz.prog.cellsOf 9 = 1 := by kernel_rfl
theorem co_bool : Tryz.prog.cellsOf 4 = 1 := by kernel_rfl
theorem co_val : Tryz.prog.cellsOf 23 = 2 := by kernel_rfl
theorem co_lock : Tryz.prog.cellsOf 47 = 2 := by kernel_rfl
theorem co_row : Tryz.prog.cellsOf 49 = 8 := by kernel_rfl
theorem co_dirty : Tryz.prog.cellsOf 105 = 2 := by kernel_rfl
theorem co_deed : Tryz.prog.cellsOf 51 = 2 := by kernel_rfl
theorem co_rec : Tryz.prog.cellsOf 30 = 16 := by kernel_rfl
theorem co_ints : Tryz.prog.cellsOf 24 = 1 := by kernel_rfl
theorem co_locks : Tryz.prog.cellsOf 25 = 1 := by kernel_rfl
theorem co_rows : Tryz.prog.cellsOf 26 = 1 := by kernel_rfl
theorem co_dirties : Tryz.prog.cellsOf 27 = 1 := by kernel_rfl
theorem co_deeds : Tryz.prog.cellsOf 28 = 1 := by kernel_rfl
abbrev Trd (enc : TypeId × Value → H) (W : World) (k : Nat) (t : TypeId) (cs : List Value) (x : DataW H × List MemPlace) : Prop := DataW.trod enc Tryz.prog W 0 (fun _ => true) true k t cs = some x
theorem op_int {k : Nat} {v : Value} {x : DataW H × List MemPlace} (h : Trd enc W k 3 [v] x) : ∃ z, v = .int .i64 z ∧ i64 z := by
 obtain ⟨z, e, _, w⟩ := DataW.trod_int Tryz.underlying3 h
 simp at e
 exact ⟨z, e, wf_i64 w⟩
theorem op_str {k : Nat} {v : Value} {x : DataW H × List MemPlace} (h : Trd enc W k 9 [v] x) : ∃ s : ByteArray, v = .string s := by
 obtain ⟨s, e, _⟩ := DataW.trod_string Tryz.underlying9 h
 simp at e
 exact ⟨s, e⟩
theorem op_bool {k : Nat} {v : Value} {x : DataW H × List MemPlace} (h : Trd enc W k 4 [v] x) : ∃ b, v = .bool b := by
 obtain ⟨b, e, _⟩ := DataW.trod_bool Tryz.underlying4 h
 simp at e
 exact ⟨b, e⟩
theorem op_ints {k : Nat} {v : Value} {x : DataW H × List MemPlace} (h : Trd enc W k 24 [v] x) : ∃ A n c l, v = .slice A n c ∧ Sl elI W.heap.size W A n c l :=
 open_sl elI Tryz.underlying24 co_int (fun k cs x hl h => by
  match cs, hl with
  | [v], _ =>
   obtain ⟨z, rfl, hz⟩ := op_int h
   exact ⟨z, hz, rfl⟩) h
theorem op_locks {k : Nat} {v : Value} {x : DataW H × List MemPlace} (h : Trd enc W k 25 [v] x) : ∃ A n c l, v = .slice A n c ∧ Sl elL W.heap.size W A n c l :=
 open_sl elL Tryz.underlying25 co_lock (fun k cs x hl h => by
  match cs, hl with
  | [v0, v1], _ =>
   obtain ⟨xs, k', _, _, _, hxl, hfld⟩ := DataW.trod_struct Tryz.underlying47 h
   match xs, hxl with
   | [x0, x1], _ =>
    have f0 : Trd enc W k' 9 (List.take (Tryz.prog.cellsOf 9) [v0, v1]) x0 := hfld 0 _ rfl
    have f1 : Trd enc W k' 4 (List.take (Tryz.prog.cellsOf 4) [v1]) x1 := hfld 1 _ rfl
    rw [co_str] at f0
    rw [co_bool] at f1
    obtain ⟨s, rfl⟩ := op_str f0
    obtain ⟨b, rfl⟩ := op_bool f1
    exact ⟨⟨s, b⟩, Nat.zero_le _, rfl⟩) h
theorem op_dirty {k : Nat} {v : Value} {x : DataW H × List MemPlace} (h : Trd enc W k 27 [v] x) : ∃ A n c l, v = .slice A n c ∧ Sl elD W.heap.size W A n c l :=
 open_sl elD Tryz.underlying27 co_dirty (fun k cs x hl h => by
  match cs, hl with
  | [v0, v1], _ =>
   obtain ⟨xs, k', _, _, _, hxl, hfld⟩ := DataW.trod_struct Tryz.underlying105 h
   match xs, hxl with
   | [x0, x1], _ =>
    have f0 : Trd enc W k' 3 (List.take (Tryz.prog.cellsOf 3) [v0, v1]) x0 := hfld 0 _ rfl
    have f1 : Trd enc W k' 3 (List.take (Tryz.prog.cellsOf 3) [v1]) x1 := hfld 1 _ rfl
    rw [co_int] at f0 f1
    obtain ⟨a, rfl, ha⟩ := op_int f0
    obtain ⟨b, rfl, hb⟩ := op_int f1
    exact ⟨⟨a, b⟩, ⟨ha, hb⟩, rfl⟩) h
theorem op_deeds {k : Nat} {v : Value} {x : DataW H × List MemPlace} (h : Trd enc W k 28 [v] x) : ∃ A n c l, v = .slice A n c ∧ Sl elE W.heap.size W A n c l :=
 open_sl elE Tryz.underlying28 co_deed (fun k cs x hl h => by
  match cs, hl with
  | [v0, v1], _ =>
   obtain ⟨xs, k', _, _, _, hxl, hfld⟩ := DataW.trod_struct Tryz.underlying51 h
   match xs, hxl with
   | [x0, x1], _ =>
    have f0 : Trd enc W k' 3 (List.take (Tryz.prog.cellsOf 3) [v0, v1]) x0 := hfld 0 _ rfl
    have f1 : Trd enc W k' 24 (List.take (Tryz.prog.cellsOf 24) [v1]) x1 := hfld 1 _ rfl
    rw [co_int] at f0
    rw [co_ints] at f1
    obtain ⟨a, rfl, ha⟩ := op_int f0
    obtain ⟨A, n, c, l, rfl, hb⟩ := op_ints f1
    exact ⟨⟨a, A, n, c, l⟩, ⟨ha, hb⟩, rfl⟩) h
theorem op_rows {k : Nat} {v : Value} {x : DataW H × List MemPlace} (h : Trd enc W k 26 [v] x) : ∃ A n c l, v = .slice A n c ∧ Sl elR W.heap.size W A n c l :=
 open_sl elR Tryz.underlying26 co_row (fun k cs x hl h => by
  match cs, hl with
  | [v0, v1, v2, v3, v4, v5, v6, v7], _ =>
   obtain ⟨xs, k', _, _, _, hxl, hfld⟩ := DataW.trod_struct Tryz.underlying49 h
   match xs, hxl with
   | [x0, x1, x2, x3, x4, x5, x6, x7], _ =>
    have f0 : Trd enc W k' 3 (List.take (Tryz.prog.cellsOf 3) [v0, v1, v2, v3, v4, v5, v6, v7]) x0 := hfld 0 _ rfl
    have f1 : Trd enc W k' 3 (List.take (Tryz.prog.cellsOf 3) [v1, v2, v3, v4, v5, v6, v7]) x1 := hfld 1 _ rfl
    have f2 : Trd enc W k' 3 (List.take (Tryz.prog.cellsOf 3) [v2, v3, v4, v5, v6, v7]) x2 := hfld 2 _ rfl
    have f3 : Trd enc W k' 3 (List.take (Tryz.prog.cellsOf 3) [v3, v4, v5, v6, v7]) x3 := hfld 3 _ rfl
    have f4 : Trd enc W k' 3 (List.take (Tryz.prog.cellsOf 3) [v4, v5, v6, v7]) x4 := hfld 4 _ rfl
    have f5 : Trd enc W k' 3 (List.take (Tryz.prog.cellsOf 3) [v5, v6, v7]) x5 := hfld 5 _ rfl
    have f6 : Trd enc W k' 24 (List.take (Tryz.prog.cellsOf 24) [v6, v7]) x6 := hfld 6 _ rfl
    have f7 : Trd enc W k' 25 (List.take (Tryz.prog.cellsOf 25) [v7]) x7 := hfld 7 _ rfl
    rw [co_int] at f0 f1 f2 f3 f4 f5
    rw [co_ints] at f6
    rw [co_locks] at f7
    obtain ⟨z0, rfl, h0⟩ := op_int f0
    obtain ⟨z1, rfl, h1⟩ := op_int f1
    obtain ⟨z2, rfl, h2⟩ := op_int f2
    obtain ⟨z3, rfl, h3⟩ := op_int f3
    obtain ⟨z4, rfl, h4⟩ := op_int f4
    obtain ⟨z5, rfl, h5⟩ := op_int f5
    obtain ⟨A, n, c, l, rfl, h6⟩ := op_ints f6
    obtain ⟨B, m, d, l', rfl, h7⟩ := op_locks f7
    exact ⟨⟨z0, z1, z2, z3, z4, z5, A, n, c, l, B, m, d, l'⟩, ⟨h0, h1, h2, h3, h4, h5, h6, h7⟩, rfl⟩) h
theorem op_val {k : Nat} {v0 v1 : Value} {x : DataW H × List MemPlace} (h : Trd enc W k 23 [v0, v1] x) : ∃ v : Vl, v0 = .bool v.has ∧ v1 = .string v.data := by
 obtain ⟨xs, k', _, _, _, hxl, hfld⟩ := DataW.trod_struct Tryz.underlying23 h
 match xs, hxl with
 | [x0, x1], _ =>
  have f0 : Trd enc W k' 4 (List.take (Tryz.prog.cellsOf 4) [v0, v1]) x0 := hfld 0 _ rfl
  have f1 : Trd enc W k' 9 (List.take (Tryz.prog.cellsOf 9) [v1]) x1 := hfld 1 _ rfl
  rw [co_bool] at f0
  rw [co_str] at f1
  obtain ⟨b, rfl⟩ := op_bool f0
  obtain ⟨s, rfl⟩ := op_str f1
  exact ⟨⟨b, s⟩, rfl, rfl⟩
theorem open_rec16 {k : Nat} {v0 v1 v2 v3 v4 v5 v6 v7 v8 v9 v10 v11 v12 v13 v14 v15 : Value} {x : DataW H × List MemPlace} (h : Trd enc W k 30 [v0, v1, v2, v3, v4, v5, v6, v7, v8, v9, v10, v11, v12, v13, v14, v15] x) :
  ∃ r : Xr, .agg #[v0, v1, v2, v3, v4, v5, v6, v7, v8, v9, v10, v11, v12, v13, v14, v15] = r.val ∧ XrIn W.heap.size W r := by
 obtain ⟨xs, k', _, _, _, hxl, hfld⟩ := DataW.trod_struct Tryz.underlying30 h
 match xs, hxl with
 | [x0, x1, x2, x3, x4, x5, x6, x7, x8, x9, x10, x11, x12, x13], _ =>
  have f0 : Trd enc W k' 3 (List.take (Tryz.prog.cellsOf 3) [v0, v1, v2, v3, v4, v5, v6, v7, v8, v9, v10, v11, v12, v13, v14, v15]) x0 := hfld 0 _ rfl
  have f1 : Trd enc W k' 3 (List.take (Tryz.prog.cellsOf 3) [v1, v2, v3, v4, v5, v6, v7, v8, v9, v10, v11, v12, v13, v14, v15]) x1 := hfld 1 _ rfl
  have f2 : Trd enc W k' 3 (List.take (Tryz.prog.cellsOf 3) [v2, v3, v4, v5, v6, v7, v8, v9, v10, v11, v12, v13, v14, v15]) x2 := hfld 2 _ rfl
  have f3 : Trd enc W k' 3 (List.take (Tryz.prog.cellsOf 3) [v3, v4, v5, v6, v7, v8, v9, v10, v11, v12, v13, v14, v15]) x3 := hfld 3 _ rfl
  have f4 : Trd enc W k' 9 (List.take (Tryz.prog.cellsOf 9) [v4, v5, v6, v7, v8, v9, v10, v11, v12, v13, v14, v15]) x4 := hfld 4 _ rfl
  have f5 : Trd enc W k' 23 (List.take (Tryz.prog.cellsOf 23) [v5, v6, v7, v8, v9, v10, v11, v12, v13, v14, v15]) x5 := hfld 5 _ rfl
  have f6 : Trd enc W k' 23 (List.take (Tryz.prog.cellsOf 23) [v7, v8, v9, v10, v11, v12, v13, v14, v15]) x6 := hfld 6 _ rfl
  have f7 : Trd enc W k' 3 (List.take (Tryz.prog.cellsOf 3) [v9, v10, v11, v12, v13, v14, v15]) x7 := hfld 7 _ rfl
  have f8 : Trd enc W k' 24 (List.take (Tryz.prog.cellsOf 24) [v10, v11, v12, v13, v14, v15]) x8 := hfld 8 _ rfl
  have f9 : Trd enc W k' 25 (List.take (Tryz.prog.cellsOf 25) [v11, v12, v13, v14, v15]) x9 := hfld 9 _ rfl
  have f10 : Trd enc W k' 26 (List.take (Tryz.prog.cellsOf 26) [v12, v13, v14, v15]) x10 := hfld 10 _ rfl
  have f11 : Trd enc W k' 27 (List.take (Tryz.prog.cellsOf 27) [v13, v14, v15]) x11 := hfld 11 _ rfl
  have f12 : Trd enc W k' 28 (List.take (Tryz.prog.cellsOf 28) [v14, v15]) x12 := hfld 12 _ rfl
  have f13 : Trd enc W k' 24 (List.take (Tryz.prog.cellsOf 24) [v15]) x13 := hfld 13 _ rfl
  rw [co_int] at f0 f1 f2 f3 f7
  rw [co_str] at f4
  rw [co_val] at f5 f6
  rw [co_ints] at f8 f13
  rw [co_locks] at f9
  rw [co_rows] at f10
  rw [co_dirties] at f11
  rw [co_deeds] at f12
  obtain ⟨z0, rfl, h0⟩ := op_int f0
  obtain ⟨z1, rfl, h1⟩ := op_int f1
  obtain ⟨z2, rfl, h2⟩ := op_int f2
  obtain ⟨z3, rfl, h3⟩ := op_int f3
  obtain ⟨s, rfl⟩ := op_str f4
  obtain ⟨a, rfl, rfl⟩ := op_val f5
  obtain ⟨b, rfl, rfl⟩ := op_val f6
  obtain ⟨z7, rfl, h7⟩ := op_int f7
  obtain ⟨A1, n1, c1, l1, rfl, h8⟩ := op_ints f8
  obtain ⟨A2, n2, c2, l2, rfl, h9⟩ := op_locks f9
  obtain ⟨A3, n3, c3, l3, rfl, h10⟩ := op_rows f10
  obtain ⟨A4, n4, c4, l4, rfl, h11⟩ := op_dirty f11
  obtain ⟨A5, n5, c5, l5, rfl, h12⟩ := op_deeds f12
  obtain ⟨A6, n6, c6, l6, rfl, h13⟩ := op_ints f13
  exact ⟨⟨z0, z1, z2, z3, s, a, b, z7, A1, n1, c1, l1, A2, n2, c2, l2, A3, n3, c3, l3, A4, n4, c4, l4, A5, n5, c5, l5, A6, n6, c6, l6⟩, rfl, h0, h1, h2, h3, Nat.zero_le _, Nat.zero_le _, Nat.zero_le _, h7, h8, h9, h10, h11, h12, h13⟩
theorem open_rec {r : Reach} {b0 : Nat} {v : Value} {d : DataW H} {p : List MemPlace} (hv : Value.okWide Tryz.prog W r b0 30 v) (h : DataW.Trod enc Tryz.prog W 0 (fun _ => true) true 30 v d p) :
  ∃ x : Xr, v = x.val ∧ XrIn W.heap.size W x := by
 obtain ⟨cs, rfl, hsz⟩ := okWide_struct Tryz.underlying30 hv
 rw [co_rec] at hsz
 obtain ⟨fuel, hf⟩ := h
 obtain ⟨l⟩ := cs
 match l, hsz with
 | [v0, v1, v2, v3, v4, v5, v6, v7, v8, v9, v10, v11, v12, v13, v14, v15], _ => exact open_rec16 hf
end
end
end Go.Proofs.YtfmfmdiegabobabGreatDoor
