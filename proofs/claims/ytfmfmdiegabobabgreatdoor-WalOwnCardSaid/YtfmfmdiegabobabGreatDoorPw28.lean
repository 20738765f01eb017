/- What it says: contracts and plain mathematics that the laws' walks use, 28 of 33: each part's own remark says what; no condition. -/
import Derived.Test.YtfmfmdiegabobabGreatDoorPw6
import Derived.Test.YtfmfmdiegabobabGreatDoorPw26
import Derived.Test.YtfmfmdiegabobabGreatDoorPw27
import Derived.Deep.RegionHeld3
import Derived.RegionTactic
import Derived.BigRegion

set_option linter.unusedSimpArgs false
set_option linter.unusedVariables false
set_option linter.deprecated false
set_option linter.unusedSectionVars false
set_option linter.all false
set_option maxRecDepth 100000
set_option maxHeartbeats 16000000
namespace Go.Proofs.YtfmfmdiegabobabGreatDoor
theorem q1Pw28 {α : Type} (l : List α) (i : Nat) (x : α) : l.toArray.setIfInBounds i x = (l.set i x).toArray := by simp
theorem q2Pw28 {α : Type} (a : α) (l : List α) (x : α) : (a :: l).set 0 x = x :: l := rfl
theorem q3Pw28 {α : Type} (a : α) (l : List α) (i : Nat) (x : α) : (a :: l).set (i + 1) x = a :: l.set i x := rfl

/- a log's write puts sheets into their sectors, and synchronizes. -/
section
open Go.RowKit
theorem Lg.note_no {L : Lg} {e : Int} (h : e = 0) : L.note e = L := by subst h; exact L.note_zero
section
variable {B : Nat} {R : Res} {w : World} {b d : Nat} {L : Lg} {s : St}
theorem wgWrite_any (A : Option Addr) (n c : Nat) (l : List Sh) (h : Has B ((lgR b d L).star ((dsk d s).star ((shsR A n c l).star R))) w) (hB : B ≤ w.heap.size) (hn : n ≤ 1000) (hst : ∀ x ∈ l, storP x) (hcn : 1 ≤ L.count ∧ L.count ≤ 100000)
  (hlim : s.pend.length + n < 999999) (hlim2 : s.syncs < 999999) :
  Calls Tryz.prog 29 #[.pointer (some ⟨b, 0, none⟩), .slice A n c] w (RetHas (.int .i64 (wrAll L.count s l).2) B ((lgR b d (L.note (wrAll L.count s l).2)).star ((dsk d (wrAll L.count s l).1).star ((shsR A n c l).star R))) w) := by
 have H0 := Lib.hid h
 have HBB := Lib.hid hB
 have HST := Lib.hid hst
 have HLEN : Hid (l.length = n) := Lib.hid (by obtain ⟨F, hF⟩ := h.snd.snd.fst.ex; exact hF.1.len)
 have hcap : c ≤ 9223372036854775807 := by
  obtain ⟨F, hF⟩ := h.snd.snd.fst.ex
  have := hF.1.flt.max
  unfold maxLen at this
  exact this
 clear h hB hst
 go_enter Tryz.func29, Tryz.ntmps29
 go_wp2_with fail
 go_loopw [12] (fun q wr => ∃ (k : Nat) (s1 : St), k ≤ n ∧ q = .int .i64 k ∧ wrAll L.count s l = wrAll L.count s1 (l.drop k) ∧ s1.pend.length ≤ s.pend.length + k ∧ s1.syncs = s.syncs ∧ Has B ((lgR b d L).star ((dsk d s1).star ((shsR A n c l).star R))) wr ∧ Below B w wr) (fun q _ => n - (intOf q).toNat)
 case atStart => exact ⟨0, s, Nat.zero_le _, rfl, rfl, by omega, rfl, H0.out, Below.refl _ _⟩
 case round =>
  obtain ⟨k, s1, hk, rfl, hwr, hpe, hsy, hh, hbw⟩ := hrel
  have HH := Lib.hid hh
  have HWR := Lib.hid hwr
  have HBW := Lib.hid hbw
  have hBw : B ≤ wr.heap.size := Nat.le_trans HBB.out hbw.size
  clear H0 hwr hbw hh
  by_cases hlt : k < n
  ·obtain ⟨F0, hF0⟩ := HH.out.snd.snd.fst.ex
   obtain ⟨g, off, hA, hc⟩ := hF0.1.flt.at_get sh0 Sh.cells Sh.cells_len HLEN.out (by omega)
   subst hA
   have hj : k < l.length := by rw [HLEN.out]; exact hlt
   have hmem : l.getD k sh0 ∈ l := by
    have e : l.getD k sh0 = l[k] := by simp [List.getD, List.getElem?_eq_getElem hj]
    rw [e]
    exact List.getElem_mem hj
   have hxin := hF0.1.inn _ hmem
   have hxst := HST.out _ hmem
   have hdr := drop_getD_cons l sh0 k hj
   have hci := hc k hlt
   obtain ⟨x, hx⟩ : ∃ x, l.getD k sh0 = x := ⟨_, rfl⟩
   rw [hx] at hci hxin hxst hdr
   have HDR := Lib.hid hdr
   have hpos := hxst.2.1
   have hsmp : sml x.pos := by unfold sml; omega
   have hsec : secOf x.pos L.count = 2 + x.pos % L.count := rfl
   have hsec2 : 0 ≤ x.pos % L.count ∧ x.pos % L.count < L.count := ⟨Int.emod_nonneg _ (by omega), Int.emod_lt_of_pos _ (by omega)⟩
   have hsecR : -9223372036854775808 ≤ secOf x.pos L.count ∧ secOf x.pos L.count ≤ 9223372036854775807 := by rw [hsec]; omega
   obtain ⟨sc, hsc⟩ : ∃ sc, secOf x.pos L.count = sc := ⟨_, rfl⟩
   have CSEC := Lib.hid (fun w' => wgSector_any x.pos L.count w' hsmp hcn)
   rw [hsc] at CSEC hsecR
   have hstep : wrAll L.count s1 (l.drop k) = if putE s1 sc (encS x) ≠ 0 then (putS s1 sc (encS x), putE s1 sc (encS x)) else wrAll L.count (putS s1 sc (encS x)) (l.drop (k + 1)) := by rw [hdr, wrAll, hsc]
   have hpp := putS_pend s1 sc (encS x)
   obtain ⟨xi, xp, xf, xd⟩ := x
   have HCI : Hid (wr.rangeAt g (off + k * 4) [.int .i64 xi, .int .i64 xp, .int .i64 xf, .string xd]) := Lib.hid hci
   obtain ⟨q0, hq0⟩ : ∃ q, wr.heap.size = q := ⟨_, rfl⟩
   obtain ⟨W3, hW3⟩ : ∃ W3, W3 = wr.alloc (.cells #[.int .i64 xi, .int .i64 xp, .int .i64 xf, .string xd] 93) := ⟨_, rfl⟩
   have HW3 := Lib.hid hW3
   have b3 : Below wr.heap.size wr W3 := by rw [hW3]; exact (Below.refl _ _).alloc (Nat.le_refl _) _
   have h3 : Has B ((blkR q0 93 #[.int .i64 xi, .int .i64 xp, .int .i64 xf, .string xd]).star ((lgR b d L).star ((dsk d s1).star ((shsR (some ⟨g, off, none⟩) n c l).star R)))) W3 := by rw [hW3, ← hq0]; exact blkR_new _ _ HH.out hBw
   have V3 : Hid (Bk W3 q0 93 #[.int .i64 xi, .int .i64 xp, .int .i64 xf, .string xd]) := Lib.hid (by rw [hW3, ← hq0]; exact Bk.new wr _ _)
   have B3 : Hid (Below wr.heap.size wr W3) := Lib.hid b3
   have CE := Lib.hid (shEnc_any ⟨xi, xp, xf, xd⟩ W3 hxin (by have := hxst.2.2.1; omega))
   have H3 := Lib.hid h3
   have HX : Hid (storP ⟨xi, xp, xf, xd⟩) := Lib.hid hxst
   have HQ := Lib.hid hq0
   have hsize := HX.out.2.2.1
   obtain ⟨pl, hpl⟩ : ∃ pl, encS ⟨xi, xp, xf, xd⟩ = pl := ⟨_, rfl⟩
   unfold RetEnc at CE
   rw [hpl] at CE hstep hpp
   clear hci hc hx hxin hxst hdr hmem hj hW3 b3 h3 hF0 hsc hpos hsmp hsec hsec2 hq0
   go_upto_region 4 with (first
    | (refine wpList_load_mid rfl 93 _ rfl g (off + k * 4) rfl [.int .i64 xi, .int .i64 xp, .int .i64 xf, .string xd] _ HCI.out Tryz.underlying93 rfl (by kernel_rfl) ?_; simp only [Act.put])
    | (refine wpList_store_new rfl (W := wr) rfl (c := #[.int .i64 0, .int .i64 0, .int .i64 0, .string ⟨#[]⟩]) (c' := #[.int .i64 xi, .int .i64 xp, .int .i64 xf, .string xd]) rfl (by first | rfl | (rw [HQ.out]; rfl)) rfl (by kernel_rfl) rfl (by simp [Value.oneCell']) ?_; simp only [Act.put]))
   (try rw [HQ.out])
   rw [← HW3.out]
   clear HW3 HCI
   go_wp2_with (refine wpList_load_row rfl 93 _ rfl q0 rfl 93 _ (0, 0) _ V3.out Tryz.underlying93 rfl (by kernel_rfl) ?_; simp only [Act.put])
   refine CE.out.mono ?_
   intro e w4 hq4
   rcases hq4 with ⟨_, Ap, np, cp, rfl, hby, b4⟩ | ⟨hno, _⟩
   rotate_left
   ·exact absurd HX.out hno
   have h4 := H3.out.below b4
   have hB4 : B ≤ w4.heap.size := Nat.le_trans (Nat.le_trans hBw B3.out.size) b4.size
   have Y4 := Lib.hid hby
   have H4 := Lib.hid h4
   have B4 : Hid (Below wr.heap.size wr w4 ∧ B ≤ w4.heap.size) := Lib.hid ⟨B3.out.trans (b4.mono B3.out.size), hB4⟩
   have SS : Hid (∀ (s' : St) (L' : Lg) W, L'.count = L.count → Has B ((blkR q0 93 #[.int .i64 xi, .int .i64 xp, .int .i64 xf, .string xd]).star ((lgR b d L').star ((dsk d s').star ((shsR (some ⟨g, off, none⟩) n c l).star R)))) W → W.cell? ⟨b, 0, none⟩ = some (.pointer (some ⟨d, 0, none⟩)) ∧ W.cell? ⟨b, 1, none⟩ = some (.int .i64 L.count) ∧ W.cell? ⟨q0, 1, none⟩ = some (.int .i64 xp)) := Lib.hid (fun s' L' W hL' hW => by
    obtain ⟨F, A, n, c, xs, Q, p, q, vs, G, ha⟩ := lgR_at hW.snd
    obtain ⟨F2, hF2⟩ := hW.fst.ex
    exact ⟨ha.bk.cell 0, by rw [← hL']; exact ha.bk.cell 1, hF2.1.cell 1⟩)
   clear hby b4 h4 CE V3 H3
   go_wp2_with fail
   go_upto_region 7 with fail
   have hS0 := SS.out _ _ w4.drew rfl (H4.out.below (Below.refl _ _).drew)
   have CP := Lib.hid (fun W (hW : Below w4.heap.size w4 W) => stPut_any (w := W) (H4.out.below hW).third (Nat.le_trans hB4 hW.size) Ap np cp pl (Y4.out.below hW) sc hsecR (by omega))
   refine wp_region_noPanic ?_
   refine upto_start (fun w' => w'.cell? ⟨b, 0, none⟩ = some (.pointer (some ⟨d, 0, none⟩)) ∧ w'.cell? ⟨b, 1, none⟩ = some (.int .i64 L.count) ∧ w'.cell? ⟨q0, 1, none⟩ = some (.int .i64 xp)) 14 (by kernel_rfl) ?_
   change Upto _ _ _ _ _ 16 _ _ _
   refine Upto.tk 0 ?_ rfl (fun w' hS => ?_) hS0 ?_
   rotate_left
   ·(try dsimp only at hS); go_split_ands; go_simp; (try with_reducible rfl)
   simp only [Act.put, q1Pw28, q2Pw28, q3Pw28]
   refine Upto.tk 1 ?_ rfl (fun w' hS => ?_) hS0 ?_
   rotate_left
   ·(try dsimp only at hS); go_split_ands; go_simp; (try with_reducible rfl)
   simp only [Act.put, q1Pw28, q2Pw28, q3Pw28]
   refine Upto.tk 2 ?_ rfl (fun w' hS => ?_) hS0 ?_
   rotate_left
   ·(try dsimp only at hS); go_split_ands; go_simp; (try with_reducible rfl)
   simp only [Act.put, q1Pw28, q2Pw28, q3Pw28]
   refine Upto.tk 3 ?_ rfl (fun w' hS => ?_) hS0 ?_
   rotate_left
   ·(try dsimp only at hS); go_split_ands; go_simp; (try with_reducible rfl)
   simp only [Act.put, q1Pw28, q2Pw28, q3Pw28]
   refine Upto.tk 4 ?_ rfl (fun w' hS => ?_) hS0 ?_
   rotate_left
   ·(try dsimp only at hS); go_split_ands; go_simp; (try with_reducible rfl)
   simp only [Act.put, q1Pw28, q2Pw28, q3Pw28]
   refine Upto.tk 5 ?_ rfl (fun w' hS => ?_) hS0 ?_
   rotate_left
   ·(try dsimp only at hS); go_split_ands; go_simp; (try with_reducible rfl)
   simp only [Act.put, q1Pw28, q2Pw28, q3Pw28]
   refine Upto.tk 6 ?_ rfl (fun w' hS => ?_) hS0 ?_
   rotate_left
   ·(try dsimp only at hS); go_split_ands; go_simp; (try with_reducible rfl)
   simp only [Act.put, q1Pw28, q2Pw28, q3Pw28]
   refine Upto.tk 7 ?_ rfl (fun w' hS => ?_) hS0 ?_
   rotate_left
   ·(try dsimp only at hS); go_split_ands; go_simp; (try with_reducible rfl)
   simp only [Act.put, q1Pw28, q2Pw28, q3Pw28]
   refine Upto.tk 8 ?_ rfl (fun w' hS => ?_) hS0 ?_
   rotate_left
   ·(try dsimp only at hS); go_split_ands; go_simp; (try with_reducible rfl)
   simp only [Act.put, q1Pw28, q2Pw28, q3Pw28]
   refine Upto.tk 9 ?_ rfl (fun w' hS => ?_) hS0 ?_
   rotate_left
   ·(try dsimp only at hS); go_split_ands; go_simp; (try with_reducible rfl)
   simp only [Act.put, q1Pw28, q2Pw28, q3Pw28]
   refine Upto.tk 10 ?_ rfl (fun w' hS => ?_) hS0 ?_
   rotate_left
   ·(try dsimp only at hS); go_split_ands; go_simp; (try with_reducible rfl)
   simp only [Act.put, q1Pw28, q2Pw28, q3Pw28]
   refine Upto.tk 12 ?_ rfl (fun w' hS => ?_) hS0 ?_
   rotate_left
   ·(try dsimp only at hS); go_split_ands; go_simp; (try with_reducible rfl)
   simp only [Act.put, q1Pw28, q2Pw28, q3Pw28]
   refine Upto.law (i := 11) rfl (by kernel_rfl) rfl (fun K hK => ?_)
   refine wp_enter (f := 52) (args := #[.int .i64 xp, .int .i64 L.count]) (by go_simp; (try with_reducible rfl)) (CSEC.out _) ?_
   intro e w5 hq5
   obtain ⟨rfl, b5⟩ := quiet_ret hq5
   have B5 : Hid (Below w4.heap.size w4 w5) := Lib.hid ((Below.refl _ _).drew.trans b5)
   have hS1 := SS.out _ _ w5 rfl (H4.out.below B5.out)
   refine ⟨_, rfl, hK _ _ hS1 ?_⟩
   have CP5 := Lib.hid (CP.out w5 B5.out)
   clear hK b5 hq5 hS0 CSEC CP
   simp only [Act.put, q1Pw28, q2Pw28, q3Pw28]
   refine Upto.law (i := 13) rfl (by kernel_rfl) rfl (fun K hK => ?_)
   refine wp_enter (f := 51) (args := #[.pointer (some ⟨d, 0, none⟩), .int .i64 sc, .slice Ap np cp]) (by go_simp; (try with_reducible rfl)) (CP5.out) ?_
   rintro e w6 ⟨rfl, h6, b6⟩
   have h6' := h6.unthird
   have hS2 := SS.out _ _ w6 rfl h6'
   have hB6 : B ≤ w6.heap.size := Nat.le_trans (Nat.le_trans hB4 B5.out.size) b6.size
   have B6 : Hid (Below B w w6) := Lib.hid ((HBW.out.trans ((B4.out.1.mono hBw).trans (B5.out.mono B4.out.2))).trans b6)
   have CN := Lib.hid (wgNote_any h6'.swap hB6 (putE s1 sc pl))
   refine ⟨_, rfl, hK _ _ hS2 ?_⟩
   obtain ⟨pe, hpe2⟩ : ∃ e, putE s1 sc pl = e := ⟨_, rfl⟩
   obtain ⟨ps, hps2⟩ : ∃ e, putS s1 sc pl = e := ⟨_, rfl⟩
   rw [hpe2, hps2] at hstep
   rw [hps2] at hpp
   rw [hpe2, hps2] at CN
   rw [hpe2]
   have HSTEP := Lib.hid hstep
   clear hK hS1 hS2 h6 h6' b6 CP5 SS hstep
   simp only [Act.put, q1Pw28, q2Pw28, q3Pw28]
   refine Upto.tail rfl (by kernel_rfl) ?_
   simp only [List.drop_succ_cons, List.drop_zero]
   go_wp2_with fail
   refine CN.out.mono ?_
   rintro e w7 ⟨rfl, h7, b7⟩
   go_wp2_with fail
   refine NoPanic.normal ?_
   have H7 := Lib.hid h7.swap.snd
   have B7 : Hid (Below B w w7) := Lib.hid (B6.out.trans b7)
   clear h7 b7 CN
   by_cases hz : pe = 0
   ·have NX : Hid (∃ (k' : Nat) (s2 : St), k' ≤ n ∧ ((k : Int) + 1 = (k' : Int)) ∧ wrAll L.count s l = wrAll L.count s2 (l.drop k') ∧ s2.pend.length ≤ s.pend.length + k' ∧ s2.syncs = s.syncs ∧ Has B ((lgR b d L).star ((dsk d s2).star ((shsR (some ⟨g, off, none⟩) n c l).star R))) w7 ∧ Below B w w7) := Lib.hid ⟨k + 1, ps, by omega, by omega, by rw [HWR.out, HSTEP.out, if_neg (by omega)], by omega, by omega, by
     have := H7.out
     rw [Lg.note_no hz] at this
     exact this, B7.out⟩
    have hz' : (pe != 0) = false := by simpa using hz
    clear hz H7 B7 HSTEP
    go_wp2_with fail
    go_roundw
    case rel =>
     obtain ⟨k', s2, n1, n2, n3⟩ := NX.out
     exact ⟨k', s2, n1, by rw [← n2], n3⟩
    case measure => simp [intOf]; omega
   ·have R9 : Hid (RetHas (.int .i64 (wrAll L.count s l).2) B ((lgR b d (L.note (wrAll L.count s l).2)).star ((dsk d (wrAll L.count s l).1).star ((shsR (some ⟨g, off, none⟩) n c l).star R))) w (.returned (.int .i64 pe)) w7) := Lib.hid (by
     have e : wrAll L.count s l = (ps, pe) := by rw [HWR.out, HSTEP.out, if_pos hz]
     rw [e]
     exact ⟨rfl, H7.out, B7.out⟩)
    have hz' : (pe != 0) = true := by simpa using hz
    clear hz H7 B7 HSTEP
    go_wp2_with fail
    go_ret
    exact R9.out
  ·obtain rfl : k = n := by omega
   have e : wrAll L.count s l = (s1.sync, s1.sErr) := by rw [HWR.out, List.drop_eq_nil_of_le (by rw [HLEN.out]; exact Nat.le_refl _)]; rfl
   have HE := Lib.hid e
   obtain ⟨F, A2, n2, c2, xs, Q, p, q, vs, G, ha⟩ := lgR_at HH.out
   have y0 : wr.cell? ⟨b, 0, none⟩ = some (.pointer (some ⟨d, 0, none⟩)) := ha.bk.cell 0
   have CY := Lib.hid (hasD_sync HH.out.swap hBw (by omega))
   obtain ⟨se, hse⟩ : ∃ e, s1.sErr = e := ⟨_, rfl⟩
   obtain ⟨ss, hss⟩ : ∃ e, s1.sync = e := ⟨_, rfl⟩
   rw [hse, hss] at CY HE
   clear ha e hse hss
   go_wp2_with fail
   refine CY.out.mono ?_
   rintro e w6 ⟨rfl, h6, b6⟩
   have hB6 : B ≤ w6.heap.size := Nat.le_trans hBw b6.size
   have CN := Lib.hid (wgNote_any h6.swap hB6 se)
   have B6 : Hid (Below B w w6) := Lib.hid (HBW.out.trans b6)
   clear h6 b6 CY
   go_wp2_with fail
   refine CN.out.mono ?_
   rintro e w7 ⟨rfl, h7, b7⟩
   have R9 : Hid (RetHas (.int .i64 (wrAll L.count s l).2) B ((lgR b d (L.note (wrAll L.count s l).2)).star ((dsk d (wrAll L.count s l).1).star ((shsR A k c l).star R))) w (.returned (.int .i64 se)) w7) := Lib.hid (by
    rw [HE.out]
    exact ⟨rfl, h7, B6.out.trans b7⟩)
   clear h7 b7 CN
   go_wp2_with fail
   go_ret
   exact R9.out
end
end

/- a log's Force: what it answers, and what becomes of the log and of its disk. -/
section
open Go.RowKit
theorem lay_stor {inc pos : Int} {ls : List (List Int)} (h : layErr inc pos ls = 0) (hb : ∀ b ∈ ls, isB b) : ∀ x ∈ layShs inc pos ls, storP x := by
 intro x hx
 unfold layErr at h
 split at h
 ·cases h
 ·rename_i h1
  split at h
  ·cases h
  ·split at h
   ·cases h
   ·rename_i h3
    have hi : isSeqB inc = true := by simpa using fun q => h1 (.inl q)
    have hp : isSeqB pos = true := by simpa using fun q => h1 (.inr q)
    unfold isSeqB at hi hp
    have hi := of_decide_eq_true hi
    have hp := of_decide_eq_true hp
    unfold layShs at hx
    obtain ⟨j, hj, rfl⟩ := List.mem_map.1 hx
    have hj := List.mem_range.1 hj
    have hr : isB (partL (allL ls) j) := ((allL_isB hb).drop _).take _
    have hs : (strOfNums (partL (allL ls) j)).size = min 242 ((allL ls).length - 242 * j) := by
     have := nums_len (strOfNums (partL (allL ls) j))
     rw [nums_str _ hr, partL_size] at this
     exact this.symm
    refine ⟨hi, ⟨by show 0 ≤ pos + (j : Int); omega, by show pos + (j : Int) ≤ 1099511627775; omega⟩, by show (strOfNums (partL (allL ls) j)).size ≤ 242; rw [hs]; omega, ?_⟩
    show (0 ≤ fstIn (bgns ls) j ∧ fstIn (bgns ls) j ≤ ((strOfNums (partL (allL ls) j)).size : Int)) ∨ fstIn (bgns ls) j = 255
    rw [hs]
    unfold fstIn
    split
    ·rename_i b hf
     left
     have hm := List.mem_of_find?_eq_some hf
     have hq := List.find?_some hf
     have hq : b / 242 = j := by simpa using hq
     unfold bgns at hm
     obtain ⟨k, hk, rfl⟩ := List.mem_map.1 hm
     have hk := List.mem_range.1 hk
     have h5 := bgn_lt (bs := ls) hk
     have h6 := bgn_le (bs := ls) (k + 1)
     omega
    ·right; rfl
theorem allL_pos {ls : List (List Int)} (h : ls ≠ []) : 0 < (allL ls).length := by
 cases ls with
 | nil => exact absurd rfl h
 | cons b r => rw [allL_cons, List.length_append]; have := sealL_pos b; omega
theorem Res.swapI {A D R : Res} {w : World} {F : Nat → Prop} (h : (A.star (D.star R)).is w F) : (D.star (A.star R)).is w F := by
 obtain ⟨FA, FX, a, ⟨FD, FR, e, r, dj, s1, s2, lt2⟩, dj2, s3, s4, lt⟩ := h
 refine ⟨FD, fun k => FA k ∨ FR k, e, ⟨FA, FR, a, r, fun k f g => dj2 k f (s2 k g), fun _ f => .inl f, fun _ f => .inr f, ?_⟩, ?_, fun k f => s4 k (s1 k f), ?_, lt⟩
 ·rintro k (f | f)
  ·exact lt k (s3 k f)
  ·exact lt2 k (s2 k f)
 ·rintro k f (g | g)
  ·exact dj2 k g (s1 k f)
  ·exact dj k f g
 ·rintro k (f | f)
  ·exact s3 k f
  ·exact s4 k (s2 k f)
theorem Has.in3 {B : Nat} {A C D R : Res} {w : World} (h : Has B (A.star (C.star (D.star R))) w) : Has B (C.star (D.star (A.star R))) w := h.swap.map2 (fun _ => Res.swapI)
theorem Has.out3 {B : Nat} {A C D R : Res} {w : World} (h : Has B (C.star (D.star (A.star R))) w) : Has B (C.star (D.star R)) w := (h.map2 (fun _ => Res.swapI)).swap.snd
def Lg.layE (L : Lg) : Int := layErr L.m.inc L.next L.wait
def Lg.layS (L : Lg) : List Sh := layRes L.m.inc L.next L.wait
def Lg.wrote (L : Lg) (k : Nat) : Lg := { L with next := L.next + (k : Int), wait := [], size := 0, forces := L.forces + 1 }
def Lg.fcE (L : Lg) (s : St) : Int := if L.down = true then 40 else if L.wait = [] then 0 else if L.layE ≠ 0 then L.layE else (wrAll L.count s L.layS).2
def Lg.fcL (L : Lg) (s : St) : Lg := if L.down = true then L else if L.wait = [] then L else if L.layE ≠ 0 then L else if (wrAll L.count s L.layS).2 ≠ 0 then L.note (wrAll L.count s L.layS).2 else L.wrote L.layS.length
def Lg.fcS (L : Lg) (s : St) : St := if L.down = true then s else if L.wait = [] then s else if L.layE ≠ 0 then s else (wrAll L.count s L.layS).1
section
variable {w w' : World} {F G : Nat → Prop} {b d n c p q : Nat} {L L' : Lg} {A Q : Option Addr} {xs : List (Xr × Int)} {vs : List (Option Addr × Nat × Nat)}
theorem LgAt.forced (h : LgAt w F b d L A n c xs Q p q vs G) (N f : Int) : Turn (lgR b d { L with next := N, wait := [], size := 0, forces := f }) F w ((((w.setCell ⟨b, 8, none⟩ (.int .i64 N)).setCell ⟨b, 9, none⟩ (.slice none 0 0)).setCell ⟨b, 10, none⟩ (.int .i64 0)).setCell ⟨b, 11, none⟩ (.int .i64 f)) := by
 have t : Fr F w ((((w.setCell ⟨b, 8, none⟩ (.int .i64 N)).setCell ⟨b, 9, none⟩ (.slice none 0 0)).setCell ⟨b, 10, none⟩ (.int .i64 0)).setCell ⟨b, 11, none⟩ (.int .i64 f)) :=
  (((Fr.setCell (a := ⟨b, 8, none⟩) (Fr.refl F w) h.fb _).setCell (a := ⟨b, 9, none⟩) h.fb _).setCell (a := ⟨b, 10, none⟩) h.fb _).setCell (a := ⟨b, 11, none⟩) h.fb _
 exact ((h.done (L' := { L with next := N, wait := [], size := 0, forces := f }) ((((h.bk.setc 8 _).setc 9 _).setc 10 _).setc 11 _) (by simp [World.setCell]) (fun k hk => by
  rw [Below.heap_setCell _ _ _ _ hk, Below.heap_setCell _ _ _ _ hk, Below.heap_setCell _ _ _ _ hk, Below.heap_setCell _ _ _ _ hk]) rfl rfl).grown t).turn t
theorem LgAt.bods (h : LgAt w F b d L A n c xs Q p q vs G) : Bods w Q p q L.wait vs := ⟨Flt.of_own h.wait, h.wlen, h.llen, fun i hi => (h.weach i hi).1.byt⟩
end
section
variable {B : Nat} {R : Res} {w : World} {b d : Nat} {L : Lg} {s : St}
theorem wgForce_any (h : Has B ((lgR b d L).star ((dsk d s).star R)) w) (hB : B ≤ w.heap.size) (hf : L.Fit) (hT : Tab w) (hcn : 1 ≤ L.count ∧ L.count ≤ 100000) (hsz : (allL L.wait).length ≤ 240000) (hlim : s.pend.length ≤ 900000) (hlim2 : s.syncs < 999999) :
  Calls Tryz.prog 11 #[.pointer (some ⟨b, 0, none⟩)] w (RetHas (.int .i64 (L.fcE s)) B ((lgR b d (L.fcL s)).star ((dsk d (L.fcS s)).star R)) w) := by
 obtain ⟨F, A, n, c, xs, Q, p, q, vs, G, ha⟩ := lgR_at h
 have HA := Lib.hid ha
 have H0 := Lib.hid h
 have HBB := Lib.hid hB
 have HF := Lib.hid hf
 have T0 := Lib.hid hT
 have CS := Lib.hid (wgState_any ha.bk)
 have hllen := ha.llen
 by_cases hd : L.down = true
 ·have R9 : Hid (∀ w', Below w.heap.size w w' → RetHas (.int .i64 (L.fcE s)) B ((lgR b d (L.fcL s)).star ((dsk d (L.fcS s)).star R)) w (.returned (.int .i64 40)) w') := Lib.hid (fun w' hb => by
   have e1 : L.fcE s = 40 := if_pos hd
   have e2 : L.fcL s = L := if_pos hd
   have e3 : L.fcS s = s := if_pos hd
   rw [e1, e2, e3]
   exact ⟨rfl, H0.out.below hb, hb.mono HBB.out⟩)
  rw [Lg.st_down hd] at CS
  clear h ha hf hT hB hd
  go_enter Tryz.func11, Tryz.ntmps11
  go_wp2_with fail
  refine CS.out.mono ?_
  intro e w2 hq2
  obtain ⟨rfl, b2⟩ := quiet_ret hq2
  have RR := Lib.hid (R9.out w2 b2)
  clear hq2 b2 R9
  go_wp2_with fail
  go_ret
  exact RR.out
 ·rw [Lg.st_up hd] at CS
  by_cases hw0 : p = 0
  ·have hnil : L.wait = [] := List.eq_nil_of_length_eq_zero (by rw [hllen]; exact hw0)
   subst hw0
   have R9 : Hid (∀ w', Below w.heap.size w w' → RetHas (.int .i64 (L.fcE s)) B ((lgR b d (L.fcL s)).star ((dsk d (L.fcS s)).star R)) w (.returned (.int .i64 0)) w') := Lib.hid (fun w' hb => by
    have e1 : L.fcE s = 0 := by unfold Lg.fcE; rw [if_neg hd, if_pos hnil]
    have e2 : L.fcL s = L := by unfold Lg.fcL; rw [if_neg hd, if_pos hnil]
    have e3 : L.fcS s = s := by unfold Lg.fcS; rw [if_neg hd, if_pos hnil]
    rw [e1, e2, e3]
    exact ⟨rfl, H0.out.below hb, hb.mono HBB.out⟩)
   clear h ha hf hT hB hd hnil
   go_enter Tryz.func11, Tryz.ntmps11
   go_wp2_with fail
   refine CS.out.mono ?_
   intro e w2 hq2
   obtain ⟨rfl, b2⟩ := quiet_ret hq2
   have y9 : w2.cell? ⟨b, 9, none⟩ = some (.slice Q 0 q) := (HA.out.keep b2.size (fun k f => b2.block k (HA.out.lt k f))).bk.cell 9
   have RR := Lib.hid (R9.out w2 b2)
   clear hq2 b2 R9
   go_wp2_with fail
   go_ret
   exact RR.out
  ·have hnil : L.wait ≠ [] := fun e => hw0 (by rw [← hllen, e]; rfl)
   have hp1000 : p ≤ 1000 := by have := hf.wait; omega
   have hinc := hf.inc
   have hnx := hf.next
   have hfo := hf.forces
   unfold sml at hinc hnx hfo
   have hw0' : ((p : Int) == 0) = false := by simp; omega
   have E1 : Hid (L.fcE s = (if L.layE ≠ 0 then L.layE else (wrAll L.count s L.layS).2) ∧ L.fcL s = (if L.layE ≠ 0 then L else if (wrAll L.count s L.layS).2 ≠ 0 then L.note (wrAll L.count s L.layS).2 else L.wrote L.layS.length) ∧ L.fcS s = if L.layE ≠ 0 then s else (wrAll L.count s L.layS).1) :=
    Lib.hid ⟨by unfold Lg.fcE; rw [if_neg hd, if_neg hnil], by unfold Lg.fcL; rw [if_neg hd, if_neg hnil], by unfold Lg.fcS; rw [if_neg hd, if_neg hnil]⟩
   have HNIL := Lib.hid hnil
   have HSZ := Lib.hid hsz
   clear h ha hf hT hB hd hnil hsz
   go_enter Tryz.func11, Tryz.ntmps11
   go_wp2_with fail
   refine CS.out.mono ?_
   intro e w2 hq2
   obtain ⟨rfl, b2⟩ := quiet_ret hq2
   have A2 := Lib.hid (HA.out.keep b2.size (fun k f => b2.block k (HA.out.lt k f)))
   have B2 := Lib.hid b2
   have y9 : w2.cell? ⟨b, 9, none⟩ = some (.slice Q p q) := A2.out.bk.cell 9
   have CL := Lib.hid (lay_new L.m.inc L.next Q p q L.wait vs w2.drew ((A2.out.bods).below (Below.refl _ _).drew) hp1000 (by unfold i64R; omega) (by unfold i64R; omega) ((T0.out.ret b2).ret (Below.refl _ _).drew))
   have hS0 : w2.drew.cell? ⟨b, 3, none⟩ = some (.int .i64 L.m.inc) ∧ w2.drew.cell? ⟨b, 8, none⟩ = some (.int .i64 L.next) ∧ w2.drew.cell? ⟨b, 9, none⟩ = some (.slice Q p q) := ⟨A2.out.bk.cell 3, A2.out.bk.cell 8, A2.out.bk.cell 9⟩
   have e1 : layErr L.m.inc L.next L.wait = L.layE := rfl
   have e2 : layRes L.m.inc L.next L.wait = L.layS := rfl
   rw [e1, e2] at CL
   clear hq2 b2 CS e1 e2
   go_upto_region 6 with fail
   clear y9
   refine wp_region_noPanic ?_
   refine upto_start (fun w' => w'.cell? ⟨b, 3, none⟩ = some (.int .i64 L.m.inc) ∧ w'.cell? ⟨b, 8, none⟩ = some (.int .i64 L.next) ∧ w'.cell? ⟨b, 9, none⟩ = some (.slice Q p q)) 18 (by kernel_rfl) ?_
   change Upto _ _ _ _ _ 19 _ _ _
   refine Upto.tk 0 ?_ rfl (fun w' hS => ?_) hS0 ?_
   rotate_left
   ·(try dsimp only at hS); go_split_ands; go_simp; (try with_reducible rfl)
   simp only [Act.put, q1Pw28, q2Pw28, q3Pw28]
   refine Upto.tk 1 ?_ rfl (fun w' hS => ?_) hS0 ?_
   rotate_left
   ·(try dsimp only at hS); go_split_ands; go_simp; (try with_reducible rfl)
   simp only [Act.put, q1Pw28, q2Pw28, q3Pw28]
   refine Upto.tk 2 ?_ rfl (fun w' hS => ?_) hS0 ?_
   rotate_left
   ·(try dsimp only at hS); go_split_ands; go_simp; (try with_reducible rfl)
   simp only [Act.put, q1Pw28, q2Pw28, q3Pw28]
   refine Upto.tk 3 ?_ rfl (fun w' hS => ?_) hS0 ?_
   rotate_left
   ·(try dsimp only at hS); go_split_ands; go_simp; (try with_reducible rfl)
   simp only [Act.put, q1Pw28, q2Pw28, q3Pw28]
   refine Upto.tk 4 ?_ rfl (fun w' hS => ?_) hS0 ?_
   rotate_left
   ·(try dsimp only at hS); go_split_ands; go_simp; (try with_reducible rfl)
   simp only [Act.put, q1Pw28, q2Pw28, q3Pw28]
   refine Upto.tk 5 ?_ rfl (fun w' hS => ?_) hS0 ?_
   rotate_left
   ·(try dsimp only at hS); go_split_ands; go_simp; (try with_reducible rfl)
   simp only [Act.put, q1Pw28, q2Pw28, q3Pw28]
   refine Upto.tk 6 ?_ rfl (fun w' hS => ?_) hS0 ?_
   rotate_left
   ·(try dsimp only at hS); go_split_ands; go_simp; (try with_reducible rfl)
   simp only [Act.put, q1Pw28, q2Pw28, q3Pw28]
   refine Upto.tk 7 ?_ rfl (fun w' hS => ?_) hS0 ?_
   rotate_left
   ·(try dsimp only at hS); go_split_ands; go_simp; (try with_reducible rfl)
   simp only [Act.put, q1Pw28, q2Pw28, q3Pw28]
   refine Upto.tk 8 ?_ rfl (fun w' hS => ?_) hS0 ?_
   rotate_left
   ·(try dsimp only at hS); go_split_ands; go_simp; (try with_reducible rfl)
   simp only [Act.put, q1Pw28, q2Pw28, q3Pw28]
   refine Upto.tk 9 ?_ rfl (fun w' hS => ?_) hS0 ?_
   rotate_left
   ·(try dsimp only at hS); go_split_ands; go_simp; (try with_reducible rfl)
   simp only [Act.put, q1Pw28, q2Pw28, q3Pw28]
   refine Upto.tk 10 ?_ rfl (fun w' hS => ?_) hS0 ?_
   rotate_left
   ·(try dsimp only at hS); go_split_ands; go_simp; (try with_reducible rfl)
   simp only [Act.put, q1Pw28, q2Pw28, q3Pw28]
   refine Upto.tk 11 ?_ rfl (fun w' hS => ?_) hS0 ?_
   rotate_left
   ·(try dsimp only at hS); go_split_ands; go_simp; (try with_reducible rfl)
   simp only [Act.put, q1Pw28, q2Pw28, q3Pw28]
   refine Upto.tk 12 ?_ rfl (fun w' hS => ?_) hS0 ?_
   rotate_left
   ·(try dsimp only at hS); go_split_ands; go_simp; (try with_reducible rfl)
   simp only [Act.put, q1Pw28, q2Pw28, q3Pw28]
   refine Upto.law (i := 13) rfl (by kernel_rfl) rfl (fun K hK => ?_)
   refine wp_enter (f := 28) (args := #[.int .i64 L.m.inc, .int .i64 L.next, .slice Q p q]) (by go_simp; (try with_reducible rfl)) (CL.out) ?_
   rintro e w3 ⟨X, m, k, rfl, hs, b3, hfr⟩
   have A3 := A2.out.keep (Nat.le_trans (Below.refl w2.heap.size w2).drew.size b3.size) (fun k f => ((Below.refl w2.heap.size w2).drew.trans b3).block k (A2.out.lt k f))
   have hS1 : w3.cell? ⟨b, 3, none⟩ = some (.int .i64 L.m.inc) ∧ w3.cell? ⟨b, 8, none⟩ = some (.int .i64 L.next) ∧ w3.cell? ⟨b, 9, none⟩ = some (.slice Q p q) := ⟨A3.bk.cell 3, A3.bk.cell 8, A3.bk.cell 9⟩
   refine ⟨_, rfl, hK _ _ hS1 ?_⟩
   clear hK A3 hS0
   simp only [Act.put, q1Pw28, q2Pw28, q3Pw28]
   refine Upto.tk 14 ?_ rfl (fun w' hS => ?_) hS1 ?_
   rotate_left
   ·(try dsimp only at hS); go_split_ands; go_simp; (try with_reducible rfl)
   simp only [Act.put, q1Pw28, q2Pw28, q3Pw28]
   refine Upto.tk 15 ?_ rfl (fun w' hS => ?_) hS1 ?_
   rotate_left
   ·(try dsimp only at hS); go_split_ands; go_simp; (try with_reducible rfl)
   simp only [Act.put, q1Pw28, q2Pw28, q3Pw28]
   refine Upto.tk 16 ?_ rfl (fun w' hS => ?_) hS1 ?_
   rotate_left
   ·(try dsimp only at hS); go_split_ands; go_simp; (try with_reducible rfl)
   simp only [Act.put, q1Pw28, q2Pw28, q3Pw28]
   refine Upto.tk 17 ?_ rfl (fun w' hS => ?_) hS1 ?_
   rotate_left
   ·(try dsimp only at hS); go_split_ands; go_simp; (try with_reducible rfl)
   simp only [Act.put, q1Pw28, q2Pw28, q3Pw28]
   refine Upto.tail rfl (by kernel_rfl) ?_
   simp only [List.drop_succ_cons, List.drop_zero]
   go_wp2_with fail
   refine NoPanic.normal ?_
   have B3 : Hid (Below w.heap.size w w3) := Lib.hid ((B2.out.trans ((Below.refl _ _).drew.mono B2.out.size)).trans (b3.mono B2.out.size))
   by_cases hle : L.layE = 0
   rotate_left
   ·have R9 : Hid (RetHas (.int .i64 (L.fcE s)) B ((lgR b d (L.fcL s)).star ((dsk d (L.fcS s)).star R)) w (.returned (.int .i64 L.layE)) w3) := Lib.hid (by
     rw [E1.out.1, E1.out.2.1, E1.out.2.2, if_pos hle, if_pos hle, if_pos hle]
     exact ⟨rfl, H0.out.below B3.out, B3.out.mono HBB.out⟩)
    have hle' : (L.layE != 0) = true := by simpa using hle
    clear hs b3 hfr hle hS1 CL
    go_wp2_with fail
    go_ret
    exact R9.out
   ·have hl : L.layS = layShs L.m.inc L.next L.wait := if_pos hle
    have hm : m = shN (allL L.wait).length := by rw [← hs.len, hl, layShs_len]
    have hap := allL_pos HNIL.out
    have hm1 : 0 < m ∧ m ≤ 1000 := by have := HSZ.out; rw [hm]; unfold shN; omega
    have hst : ∀ x ∈ L.layS, storP x := by rw [hl]; exact lay_stor hle HA.out.bods.isB
    have hB3 : B ≤ w3.heap.size := Nat.le_trans HBB.out B3.out.size
    have h3 := (shsR_new (H0.out.below B2.out) (Nat.le_trans HBB.out B2.out.size) ((Below.refl _ _).drew.trans b3) hs hm1.1 hfr).in3
    have CW := Lib.hid (wgWrite_any X m k L.layS h3 hB3 hm1.2 hst hcn (by omega) hlim2)
    have HM : Hid (L.layS.length = m) := Lib.hid hs.len
    have hle3 : ¬ (L.layE ≠ 0) := fun q => q hle
    simp only [if_neg hle3] at E1
    clear hle3
    obtain ⟨r, hr⟩ : ∃ r, wrAll L.count s L.layS = r := ⟨_, rfl⟩
    rw [hr] at CW E1
    rw [hle]
    clear hs b3 hfr hle hS1 CL hl hm hap hst h3 hr
    go_wp2_with fail
    refine CW.out.mono ?_
    rintro e w4 ⟨rfl, h4, b4⟩
    have h4' := h4.out3
    have hB4 : B ≤ w4.heap.size := Nat.le_trans hB3 b4.size
    have B4 : Hid (Below B w w4) := Lib.hid ((B3.out.mono HBB.out).trans b4)
    by_cases hz : r.2 = 0
    rotate_left
    ·have R9 : Hid (RetHas (.int .i64 (L.fcE s)) B ((lgR b d (L.fcL s)).star ((dsk d (L.fcS s)).star R)) w (.returned (.int .i64 r.2)) w4) := Lib.hid (by
      rw [E1.out.1, E1.out.2.1, E1.out.2.2, if_pos hz]
      exact ⟨rfl, h4', B4.out⟩)
     have hz' : (r.2 != 0) = true := by simpa using hz
     clear h4 h4' b4 CW hz
     go_wp2_with fail
     go_ret
     exact R9.out
    ·rw [Lg.note_no hz] at h4'
     obtain ⟨F4, A4, n4, c4, xs4, Q4, p4, q4, vs4, G4, ha4, ht4⟩ := lgR_open h4' hB4
     have y8 : w4.cell? ⟨b, 8, none⟩ = some (.int .i64 L.next) := ha4.bk.cell 8
     have f8 : w4.frozen? ⟨b, 8, none⟩ = false := ha4.bk.frz 8
     have y9 : w4.cell? ⟨b, 9, none⟩ = some (.slice Q4 p4 q4) := ha4.bk.cell 9
     have f9 : w4.frozen? ⟨b, 9, none⟩ = false := ha4.bk.frz 9
     have y10 : w4.cell? ⟨b, 10, none⟩ = some (.int .i64 L.size) := ha4.bk.cell 10
     have f10 : w4.frozen? ⟨b, 10, none⟩ = false := ha4.bk.frz 10
     have y11 : w4.cell? ⟨b, 11, none⟩ = some (.int .i64 L.forces) := ha4.bk.cell 11
     have f11 : w4.frozen? ⟨b, 11, none⟩ = false := ha4.bk.frz 11
     have t := ht4 _ _ (ha4.forced (L.next + (m : Int)) (L.forces + 1))
     have R9 : Hid (RetHas (.int .i64 (L.fcE s)) B ((lgR b d (L.fcL s)).star ((dsk d (L.fcS s)).star R)) w (.returned (.int .i64 0)) ((((w4.setCell ⟨b, 8, none⟩ (.int .i64 (L.next + (m : Int)))).setCell ⟨b, 9, none⟩ (.slice none 0 0)).setCell ⟨b, 10, none⟩ (.int .i64 0)).setCell ⟨b, 11, none⟩ (.int .i64 (L.forces + 1)))) := Lib.hid (by
      rw [E1.out.1, E1.out.2.1, E1.out.2.2, if_neg (by omega), hz, HM.out]
      exact ⟨rfl, t.1, B4.out.trans t.2⟩)
     have hz' : (r.2 != 0) = false := by simpa using hz
     clear h4 h4' b4 CW hz ha4 ht4 t
     go_wp2_with fail
     go_ret
     exact R9.out
end
end

/- a log's Get: a record in new memory, or the error. -/
section
open Go.RowKit
def Lg.gtE (L : Lg) (z : Int) : Int := if L.down = true then 40 else if z < L.m.lsn ∨ L.last < z then 91 else 0
noncomputable def Lg.gtR (L : Lg) (z : Int) : Rc := if L.gtE z = 0 then (L.recs.getD (z - L.m.lsn).toNat (rc0 0, 0)).1 else rc0 0
def RetGet (r : Rc) (k : Int) (w : World) (e : Ending) (w' : World) : Prop :=
 ∃ x : Xr, e = .returned (.tuple #[x.val, .int .i64 k]) ∧ XrIn w'.heap.size w' x ∧ (∀ k, x.owns k → w.heap.size ≤ k ∧ k < w'.heap.size) ∧ x.read = r ∧ Below w.heap.size w w' ∧ x.Wrt w'
theorem xr0_owns (k : Nat) : ¬ xr0.owns k := by
 rintro (q | q | q | q | q | q | ⟨r, hr, _⟩ | ⟨r, hr, _⟩)
 ·exact absurd q.1 (Nat.lt_irrefl 0)
 ·exact absurd q.1 (Nat.lt_irrefl 0)
 ·exact absurd q.1 (Nat.lt_irrefl 0)
 ·exact absurd q.1 (Nat.lt_irrefl 0)
 ·exact absurd q.1 (Nat.lt_irrefl 0)
 ·exact absurd q.1 (Nat.lt_irrefl 0)
 ·cases hr
 ·cases hr
theorem xr0_wrt (w : World) : xr0.Wrt w := ⟨fun h => absurd h (Nat.lt_irrefl 0), fun h => absurd h (Nat.lt_irrefl 0), fun h => absurd h (Nat.lt_irrefl 0), fun h => absurd h (Nat.lt_irrefl 0)⟩
theorem getZ {w v : World} {r : Nat} {k : Int} (hb : Below w.heap.size w v) (hr : w.heap.size ≤ r) : RetGet (rc0 0) k w (.returned (.tuple #[xr0.val, .int .i64 k])) (v.setRow r xr0.cells) :=
 ⟨xr0, rfl, xr0_in _ _, fun k q => absurd q (xr0_owns k), xr0_read, below_setRow hb hr _, xr0_wrt _⟩
section
variable {b d : Nat} {L : Lg} {w : World}
theorem LgAt.rec_at {F G : Nat → Prop} {n c p q : Nat} {A Q : Option Addr} {xs : List (Xr × Int)} {vs : List (Option Addr × Nat × Nat)} (h : LgAt w F b d L A n c xs Q p q vs G) (hn : 0 < n) :
  ∃ g off, A = some ⟨g, off, none⟩ ∧ ∀ i, i < n → w.rangeAt g (off + i * 17) ((xs.getD i (xr0, 0)).1.cells.toList) ∧ XrIn w.heap.size w (xs.getD i (xr0, 0)).1 ∧ L.recs.getD i (rc0 0, 0) = rcR (xs.getD i (xr0, 0)) ∧ w.cell? ⟨g, off + i * 17 + 16, none⟩ = some (.int .i64 (xs.getD i (xr0, 0)).2) ∧ (L.recs.getD i (rc0 0, 0)) ∈ L.recs := by
 obtain ⟨g, off, e, hc⟩ := (Flt.of_own h.recs).at_get (xr0, 0) rcC rcC_len h.len hn
 refine ⟨g, off, e, fun i hi => ?_⟩
 have hl : i < xs.length := by rw [h.len]; exact hi
 have hm : xs.getD i (xr0, 0) ∈ xs := by
  have e : xs.getD i (xr0, 0) = xs[i] := by simp [List.getD, List.getElem?_eq_getElem hl]
  rw [e]
  exact List.getElem_mem hl
 have hr : L.recs.getD i (rc0 0, 0) = rcR (xs.getD i (xr0, 0)) := by rw [← h.read]; simp [List.getD, List.getElem?_eq_getElem hl]
 refine ⟨fun j v hv => hc i hi j v ?_, (h.each _ hm).1, hr, hc i hi 16 _ rfl, by rw [hr, ← h.read]; exact List.mem_map.2 ⟨_, hm, rfl⟩⟩
 unfold rcC
 rw [List.getElem?_append_left (List.getElem?_eq_some_iff.1 hv).1]
 exact hv
theorem wgGet_any (h : ∃ F A n c xs Q p q vs G, LgAt w F b d L A n c xs Q p q vs G) (hf : L.Fit) (hok : ∀ r ∈ L.recs, encE r.1 = 0) (z : Int) (hz : -9223372036854775808 ≤ z ∧ z ≤ 9223372036854775807) :
  Calls Tryz.prog 10 #[.pointer (some ⟨b, 0, none⟩), .int .i64 z] w (RetGet (L.gtR z) (L.gtE z) w) := by
 obtain ⟨F, A, n, c, xs, Q, p, q, vs, G, ha⟩ := h
 obtain ⟨r, hrr⟩ : ∃ r, w.heap.size = r := ⟨_, rfl⟩
 obtain ⟨W1, hW1⟩ : ∃ W1, W1 = w.alloc (.cells xr0.cells 30) := ⟨_, rfl⟩
 have hb1 : Below w.heap.size w W1 := by rw [hW1]; exact (Below.refl _ _).alloc (Nat.le_refl _) _
 have HV : Hid (Bk W1 r 30 xr0.cells) := Lib.hid (by rw [hW1, ← hrr]; exact Bk.new w _ _)
 have HA := Lib.hid (ha.keep hb1.size (fun k f => hb1.block k (ha.lt k f)))
 have CS := Lib.hid (wgState_any HA.out.bk)
 have HB := Lib.hid hb1
 have HRR := Lib.hid hrr
 have HOK := Lib.hid hok
 have HW := Lib.hid (show W1 = w.alloc (.cells #[.int .i64 0, .int .i64 0, .int .i64 0, .int .i64 0, .string ⟨#[]⟩, .bool false, .string ⟨#[]⟩, .bool false, .string ⟨#[]⟩, .int .i64 0, .slice none 0 0, .slice none 0 0, .slice none 0 0, .slice none 0 0, .slice none 0 0, .slice none 0 0] 30) from hW1)
 have hnl : L.recs.length = n := by rw [← ha.read, List.length_map]; exact ha.len
 by_cases hd : L.down = true
 ·rw [Lg.st_down hd] at CS
  have e1 : L.gtE z = 40 := if_pos hd
  have e2 : L.gtR z = rc0 0 := if_neg (by rw [e1]; decide)
  rw [e1, e2]
  clear ha hf hok hW1 hb1 hd e1 e2 hnl
  go_enter Tryz.func10, Tryz.ntmps10
  go_upto_region 1 with fail
  (try rw [hrr])
  rw [← HW.out]
  clear HW hrr
  go_wp2_with fail
  refine CS.out.mono ?_
  intro e w2 hq2
  obtain ⟨rfl, b2⟩ := quiet_ret hq2
  have V2 := Lib.hid (HV.out.later b2)
  have RB := Lib.hid (V2.out.rowp xr0.cells)
  have R := Lib.hid (getZ (w := w) (v := w2) (r := r) (k := 40) (HB.out.trans (b2.mono HB.out.size)) (by rw [HRR.out]; exact Nat.le_refl r))
  clear hq2 b2 CS
  go_wp2_with (refine wpList_store_row rfl 30 _ _ rfl r xr0.cells rfl rfl 30 _ V2.out inf_rec rfl (Xr.cells_one xr0) ?_; simp only [Act.put])
  (try simp only [Exit.inBlock, Exit.then])
  refine bodyPost_ret (results_cellT rfl _ _ r 30 _ _ rfl RB.out Tryz.underlying30 rfl inf_rec) rfl ?_
  exact R.out
 ·rw [Lg.st_up hd] at CS
  have hfl := hf.lsn
  have hfr := hf.recs
  unfold sml at hfl
  have e0 : L.last = L.m.lsn + (n : Int) - 1 := by unfold Lg.last; rw [hnl]
  have CL := Lib.hid (fun w2 (hb : Below W1.heap.size W1 w2) => wgLast_any (w := w2) (HA.out.keep hb.size (fun k f => hb.block k (HA.out.lt k f))).bk hf hnl)
  have HGE : Hid (L.gtE z = if z < L.m.lsn ∨ L.last < z then 91 else 0) := Lib.hid (if_neg hd)
  have HLST := Lib.hid e0
  obtain ⟨la, hla⟩ : ∃ la, L.last = la := ⟨_, rfl⟩
  rw [hla] at CL HGE HLST
  clear ha hf hok hW1 hb1 hd e0 hla
  by_cases h1 : z < L.m.lsn
  ·have e1 : L.gtE z = 91 := by rw [HGE.out, if_pos (.inl h1)]
   have e2 : L.gtR z = rc0 0 := if_neg (by rw [e1]; decide)
   rw [e1, e2]
   have h1' : decide (z < L.m.lsn) = true := decide_eq_true h1
   clear e1 e2 hnl
   go_enter Tryz.func10, Tryz.ntmps10
   go_upto_region 1 with fail
   (try rw [hrr])
   rw [← HW.out]
   clear HW hrr
   go_wp2_with fail
   refine CS.out.mono ?_
   intro e w2 hq2
   obtain ⟨rfl, b2⟩ := quiet_ret hq2
   have V2 := Lib.hid (HV.out.later b2)
   have RB := Lib.hid (V2.out.rowp xr0.cells)
   have R := Lib.hid (getZ (w := w) (v := w2) (r := r) (k := 91) (HB.out.trans (b2.mono HB.out.size)) (by rw [HRR.out]; exact Nat.le_refl r))
   have y5 : w2.cell? ⟨b, 5, none⟩ = some (.int .i64 L.m.lsn) := (HA.out.keep b2.size (fun k f => b2.block k (HA.out.lt k f))).bk.cell 5
   clear hq2 b2 CS
   go_wp2_with (refine wpList_store_row rfl 30 _ _ rfl r xr0.cells rfl rfl 30 _ V2.out inf_rec rfl (Xr.cells_one xr0) ?_; simp only [Act.put])
   (try simp only [Exit.inBlock, Exit.then])
   refine bodyPost_ret (results_cellT rfl _ _ r 30 _ _ rfl RB.out Tryz.underlying30 rfl inf_rec) rfl ?_
   exact R.out
  ·have h1' : decide (z < L.m.lsn) = false := decide_eq_false h1
   by_cases h2 : la < z
   ·have e1 : L.gtE z = 91 := by rw [HGE.out, if_pos (.inr h2)]
    have e2 : L.gtR z = rc0 0 := if_neg (by rw [e1]; decide)
    rw [e1, e2]
    clear e1 e2 hnl
    go_enter Tryz.func10, Tryz.ntmps10
    go_upto_region 1 with fail
    (try rw [hrr])
    rw [← HW.out]
    clear HW hrr
    go_wp2_with fail
    refine CS.out.mono ?_
    intro e w2 hq2
    obtain ⟨rfl, b2⟩ := quiet_ret hq2
    have B2 := Lib.hid b2
    have CL2 := Lib.hid (CL.out w2 b2)
    have y5 : w2.cell? ⟨b, 5, none⟩ = some (.int .i64 L.m.lsn) := (HA.out.keep b2.size (fun k f => b2.block k (HA.out.lt k f))).bk.cell 5
    clear hq2 b2 CS CL
    go_wp2_with fail
    refine CL2.out.mono ?_
    intro e w3 hq3
    obtain ⟨rfl, b3⟩ := quiet_ret hq3
    have V3 := Lib.hid ((HV.out.later B2.out).later b3)
    have RB := Lib.hid (V3.out.rowp xr0.cells)
    have R := Lib.hid (getZ (w := w) (v := w3) (r := r) (k := 91) ((HB.out.trans (B2.out.mono HB.out.size)).trans (b3.mono (Nat.le_trans HB.out.size B2.out.size))) (by rw [HRR.out]; exact Nat.le_refl r))
    clear hq3 b3 CL2 y5
    go_wp2_with (refine wpList_store_row rfl 30 _ _ rfl r xr0.cells rfl rfl 30 _ V3.out inf_rec rfl (Xr.cells_one xr0) ?_; simp only [Act.put])
    (try simp only [Exit.inBlock, Exit.then])
    refine bodyPost_ret (results_cellT rfl _ _ r 30 _ _ rfl RB.out Tryz.underlying30 rfl inf_rec) rfl ?_
    exact R.out
   ·have e1 : L.gtE z = 0 := by rw [HGE.out, if_neg (by omega)]
    obtain ⟨i, hi⟩ : ∃ i : Nat, z = L.m.lsn + (i : Int) := ⟨(z - L.m.lsn).toNat, by omega⟩
    have hin : i < n := by have := HLST.out; omega
    have e2 : L.gtR z = (L.recs.getD i (rc0 0, 0)).1 := by
     have : (z - L.m.lsn).toNat = i := by omega
     unfold Lg.gtR
     rw [if_pos e1, this]
    rw [e1, e2]
    obtain ⟨rx, hrx⟩ : ∃ rx, L.recs.getD i (rc0 0, 0) = rx := ⟨_, rfl⟩
    rw [hrx]
    have HRX := Lib.hid hrx
    subst hi
    clear e1 e2 hrx
    go_enter Tryz.func10, Tryz.ntmps10
    go_upto_region 1 with fail
    (try rw [hrr])
    rw [← HW.out]
    clear HW hrr
    go_wp2_with fail
    refine CS.out.mono ?_
    intro e w2 hq2
    obtain ⟨rfl, b2⟩ := quiet_ret hq2
    have B2 := Lib.hid b2
    have CL2 := Lib.hid (CL.out w2 b2)
    have A2 := HA.out.keep b2.size (fun k f => b2.block k (HA.out.lt k f))
    have y5 : w2.cell? ⟨b, 5, none⟩ = some (.int .i64 L.m.lsn) := A2.bk.cell 5
    clear hq2 b2 CS CL A2
    go_wp2_with fail
    refine CL2.out.mono ?_
    intro e w3 hq3
    obtain ⟨rfl, b3⟩ := quiet_ret hq3
    have B3 : Hid (Below W1.heap.size W1 w3) := Lib.hid (B2.out.trans (b3.mono B2.out.size))
    have A3 := HA.out.keep B3.out.size (fun k f => B3.out.block k (HA.out.lt k f))
    obtain ⟨g, off, hA, hrec⟩ := A3.rec_at (by omega)
    obtain ⟨k1, k2, k3, _, k5⟩ := hrec i hin
    rw [HRX.out] at k3 k5
    have hen := HOK.out _ k5
    have hncap := (Flt.of_own A3.recs).cap
    have hnmax := (Flt.of_own A3.recs).max
    unfold maxLen at hnmax
    subst hA
    obtain ⟨x, hx⟩ : ∃ x, xs.getD i (xr0, 0) = x := ⟨_, rfl⟩
    rw [hx] at k1 k2 k3
    rw [k3] at hen
    have CC := Lib.hid (wgCopyOf_any x.1 w3.drew ((k2.calm (Calm.of_below (Below.refl _ _).drew)).up (Below.refl w3.heap.size w3).drew.size) hen)
    have y5' : w3.cell? ⟨b, 5, none⟩ = some (.int .i64 L.m.lsn) := A3.bk.cell 5
    have y7' : w3.cell? ⟨b, 7, none⟩ = some (.slice (some ⟨g, off, none⟩) n c) := A3.bk.cell 7
    have HXR : Hid (x.1.read = rx.1) := Lib.hid (by rw [k3]; rfl)
    obtain ⟨C, hC⟩ : ∃ C, C = x.1.cells := ⟨_, rfl⟩
    rw [Xr.val_eq, ← hC] at CC
    rw [← hC] at k1
    have HCS : Hid (C.size = 16) := Lib.hid (by rw [hC]; rfl)
    have hS0 : w3.drew.cell? ⟨b, 5, none⟩ = some (.int .i64 L.m.lsn) ∧ w3.drew.cell? ⟨b, 7, none⟩ = some (.slice (some ⟨g, off, none⟩) n c) ∧ w3.drew.rangeAt g (off + i * 17) C.toList := ⟨y5', y7', k1⟩
    have V3 := Lib.hid (HV.out.later B3.out)
    have hu := Tryz.underlying30
    clear hq3 b3 CL2 y5 y5' y7' k1 k2 k3 k5 hen hrec hx hC A3
    go_upto_region 6 with fail
    refine wp_region_noPanic ?_
    refine upto_start (fun w' => w'.cell? ⟨b, 5, none⟩ = some (.int .i64 L.m.lsn) ∧ w'.cell? ⟨b, 7, none⟩ = some (.slice (some ⟨g, off, none⟩) n c) ∧ w'.rangeAt g (off + i * 17) C.toList) 14 (by kernel_rfl) ?_
    change Upto _ _ _ _ _ 17 _ _ _
    refine Upto.tk 0 ?_ rfl (fun w' hS => ?_) hS0 ?_
    rotate_left
    ·(try dsimp only at hS); go_split_ands; go_simp; (try with_reducible rfl)
    simp only [Act.put, q1Pw28, q2Pw28, q3Pw28]
    refine Upto.tk 1 ?_ rfl (fun w' hS => ?_) hS0 ?_
    rotate_left
    ·(try dsimp only at hS); go_split_ands; go_simp; (try with_reducible rfl)
    simp only [Act.put, q1Pw28, q2Pw28, q3Pw28]
    refine Upto.tk 2 ?_ rfl (fun w' hS => ?_) hS0 ?_
    rotate_left
    ·(try dsimp only at hS); go_split_ands; go_simp; (try with_reducible rfl)
    simp only [Act.put, q1Pw28, q2Pw28, q3Pw28]
    refine Upto.tk 3 ?_ rfl (fun w' hS => ?_) hS0 ?_
    rotate_left
    ·(try dsimp only at hS); go_split_ands; go_simp; (try with_reducible rfl)
    simp only [Act.put, q1Pw28, q2Pw28, q3Pw28]
    refine Upto.tk 4 ?_ rfl (fun w' hS => ?_) hS0 ?_
    rotate_left
    ·(try dsimp only at hS); go_split_ands; go_simp; (try with_reducible rfl)
    simp only [Act.put, q1Pw28, q2Pw28, q3Pw28]
    refine Upto.tk 5 ?_ rfl (fun w' hS => ?_) hS0 ?_
    rotate_left
    ·(try dsimp only at hS); go_split_ands; go_simp; (try with_reducible rfl)
    simp only [Act.put, q1Pw28, q2Pw28, q3Pw28]
    refine Upto.tk 6 ?_ rfl (fun w' hS => ?_) hS0 ?_
    rotate_left
    ·(try dsimp only at hS); go_split_ands; go_simp; (try with_reducible rfl)
    simp only [Act.put, q1Pw28, q2Pw28, q3Pw28]
    refine Upto.tk 7 ?_ rfl (fun w' hS => ?_) hS0 ?_
    rotate_left
    ·(try dsimp only at hS); go_split_ands; go_simp; (try with_reducible rfl)
    simp only [Act.put, q1Pw28, q2Pw28, q3Pw28]
    refine Upto.tk 8 ?_ rfl (fun w' hS => ?_) hS0 ?_
    rotate_left
    ·(try dsimp only at hS); go_split_ands; go_simp; (try with_reducible rfl)
    simp only [Act.put, q1Pw28, q2Pw28, q3Pw28]
    refine Upto.tk 9 ?_ rfl (fun w' hS => ?_) hS0 ?_
    rotate_left
    ·(try dsimp only at hS); go_split_ands; go_simp; (try with_reducible rfl)
    simp only [Act.put, q1Pw28, q2Pw28, q3Pw28]
    refine Upto.take (i := 10) (v := .int .i64 (i : Int)) rfl (by kernel_rfl) (fun _ _ _ h => h) rfl (fun w' hS => by go_simp; rw [IntWalk.i64_in _ (by omega)]; omega) hS0 ?_
    simp only [Act.put, q1Pw28, q2Pw28, q3Pw28]
    refine Upto.take (i := 11) (v := .pointer (some ⟨g, off + i * 17, none⟩)) rfl (by kernel_rfl) (fun _ _ _ h => h) rfl (fun w' hS => by go_simp) hS0 ?_
    simp only [Act.put, q1Pw28, q2Pw28, q3Pw28]
    refine Upto.tk 12 ?_ rfl (fun w' hS => ?_) hS0 ?_
    rotate_left
    ·(try dsimp only at hS); go_split_ands; go_simp; (try with_reducible rfl)
    simp only [Act.put, q1Pw28, q2Pw28, q3Pw28]
    refine Upto.take (i := 13) rfl (by kernel_rfl) (fun _ _ _ h => h) rfl (fun w' hS => exec_load rfl (by rfl) hS.2.2 hu rfl (by rw [Array.length_toList, HCS.out]; exact inf_rec)) hS0 ?_
    simp only [Act.put, q1Pw28, q2Pw28, q3Pw28]
    refine Upto.tail rfl (by kernel_rfl) ?_
    simp only [List.drop_succ_cons, List.drop_zero]
    go_wp2_with fail
    refine CC.out.mono ?_
    rintro e w4 ⟨x2, rfl, hx2, hn2, hr2, b4, hwt⟩
    have B4 : Hid (Below W1.heap.size W1 w4) := Lib.hid (B3.out.trans (((Below.refl _ _).drew.trans b4).mono B3.out.size))
    obtain ⟨C2, hC2⟩ : ∃ C2, C2 = x2.cells := ⟨_, rfl⟩
    have HC2 : Hid (C2.all (·.oneCell') = true ∧ C2.size = 16) := Lib.hid (by rw [hC2]; exact ⟨Xr.cells_one x2, rfl⟩)
    have V4 := Lib.hid (HV.out.later B4.out)
    have V5 : Hid (Bk (w4.setRow r C2) r 30 C2) := Lib.hid (V4.out.rowp C2)
    have R : Hid (RetGet rx.1 0 w (.returned (.tuple #[.agg C2, .int .i64 0])) (w4.setRow r C2)) := Lib.hid (by
     have h0 := HV.out.lt
     have h1 := HB.out.size
     have h3 := B3.out.size
     have h4 := (Below.refl w3.heap.size w3).drew.size
     have q := rcd_put (w := w) (r := r) (C := C2) ((HB.out.trans (B4.out.mono HB.out.size))) ⟨by rw [HRR.out]; exact Nat.le_refl r, V4.out.lt⟩ hx2 (fun k hk => ⟨by have := hn2 k hk; omega, by have := hn2 k hk; omega, by have := hn2 k hk; omega⟩)
     exact ⟨x2, by rw [hC2, Xr.val_eq], q.1, q.2.1, by rw [hr2]; exact HXR.out, q.2.2, rcd_wrt hwt (fun k hk => by have := hn2 k hk; omega)⟩)
    rw [Xr.val_eq, ← hC2]
    clear hx2 hn2 hr2 b4 hwt hC2 CC hS0
    go_wp2_with (refine wpList_store_row rfl 30 _ _ rfl r C2 rfl rfl 30 _ V4.out (by rw [HC2.out.2]; exact inf_rec) (by rw [HC2.out.2]; rfl) HC2.out.1 ?_; simp only [Act.put])
    refine NoPanic.normal ?_
    go_wp2_with fail
    (try simp only [Exit.inBlock, Exit.then])
    refine bodyPost_ret (results_cellT rfl _ _ r 30 C2 _ rfl V5.out Tryz.underlying30 rfl (by rw [HC2.out.2]; exact inf_rec)) rfl ?_
    exact R.out
end
end

/- sheet.Decode: the sheet of a payload, or the error. -/
section
open Go.RowKit
end
end Go.Proofs.YtfmfmdiegabobabGreatDoor
