/- What it says: contracts and plain mathematics that the laws' walks use, 30 of 33: each part's own remark says what; no condition. -/
import Derived.Test.YtfmfmdiegabobabGreatDoorPw1
import Derived.Test.YtfmfmdiegabobabGreatDoorPw2
import Derived.Test.YtfmfmdiegabobabGreatDoorPw29
import Derived.RegionTactic
import Derived.BigRegion
import Derived.IntWalk

set_option linter.unusedSimpArgs false
set_option linter.unusedVariables false
set_option linter.deprecated false
set_option linter.unusedSectionVars false
set_option linter.all false
set_option maxRecDepth 100000
set_option maxHeartbeats 16000000
namespace Go.Proofs.YtfmfmdiegabobabGreatDoor
theorem q1Pw30 {α : Type} (l : List α) (i : Nat) (x : α) : l.toArray.setIfInBounds i x = (l.set i x).toArray := by simp
theorem q2Pw30 {α : Type} (a : α) (l : List α) (x : α) : (a :: l).set 0 x = x :: l := rfl
theorem q3Pw30 {α : Type} (a : α) (l : List α) (i : Nat) (x : α) : (a :: l).set (i + 1) x = a :: l.set i x := rfl

/- sheetsOn and recordsIn where the ring's first sector isn't right. -/
section
open Go.RowKit
theorem wgSheetIn_bad (A : Option Addr) (n c : Nat) (l : List Int) (w : World) (h : Byt w A n c l) (he : openE l ≠ 0) : Calls Tryz.prog 63 #[.slice A n c] w (Ret (.tuple #[.agg #[.int .i64 0, .int .i64 0, .int .i64 0, .string ⟨#[]⟩], .bool false]) w) := by
 obtain ⟨r, hrr⟩ : ∃ r, w.heap.size = r := ⟨_, rfl⟩
 obtain ⟨W1, hW1⟩ : ∃ W1, W1 = w.alloc (.cells #[.int .i64 0, .int .i64 0, .int .i64 0, .string ⟨#[]⟩] 93) := ⟨_, rfl⟩
 have hb1 : Below w.heap.size w W1 := by rw [hW1]; exact (Below.refl _ _).alloc (Nat.le_refl _) _
 have HV : Hid (Bk W1 r 93 #[.int .i64 0, .int .i64 0, .int .i64 0, .string ⟨#[]⟩]) := Lib.hid (by rw [hW1, ← hrr]; exact Bk.new w _ _)
 have CO := Lib.hid (stOpen_any A n c l W1 (h.below hb1))
 have HB := Lib.hid hb1
 have HRR := Lib.hid hrr
 have HW := Lib.hid hW1
 obtain ⟨oe, hoe⟩ : ∃ e, openE l = e := ⟨_, rfl⟩
 unfold RetByt2 at CO
 rw [hoe] at CO he
 have he' : (oe != 0) = true := by simpa using he
 clear h hW1 hb1 hoe he
 go_enter Tryz.func63, Tryz.ntmps63
 go_upto_region 1 with fail
 (try rw [hrr])
 rw [← HW.out]
 clear HW hrr
 go_wp2_with fail
 refine CO.out.mono ?_
 rintro e w2 ⟨A2, n2, c2, rfl, _, b2⟩
 have V2 := Lib.hid (HV.out.later b2)
 have RB := Lib.hid (V2.out.rowp #[.int .i64 0, .int .i64 0, .int .i64 0, .string ⟨#[]⟩])
 have R : Hid (Ret (.tuple #[.agg #[.int .i64 0, .int .i64 0, .int .i64 0, .string ⟨#[]⟩], .bool false]) w (.returned (.tuple #[.agg #[.int .i64 0, .int .i64 0, .int .i64 0, .string ⟨#[]⟩], .bool false])) (w2.setRow r #[.int .i64 0, .int .i64 0, .int .i64 0, .string ⟨#[]⟩])) := Lib.hid ⟨rfl, below_setRow (HB.out.trans (b2.mono HB.out.size)) (by rw [HRR.out]; exact Nat.le_refl r) _⟩
 clear b2 CO
 go_wp2_with (refine wpList_store_row rfl 93 _ _ rfl r #[.int .i64 0, .int .i64 0, .int .i64 0, .string ⟨#[]⟩] rfl rfl 93 _ V2.out (by kernel_rfl) rfl (by simp [Value.oneCell']) ?_; simp only [Act.put])
 (try simp only [Exit.inBlock, Exit.then])
 refine bodyPost_ret (results_cellT rfl _ _ r 93 _ _ rfl RB.out Tryz.underlying93 rfl (by kernel_rfl)) rfl ?_
 exact R.out
section
variable {B : Nat} {R : Res} {w : World} {d : Nat} {s : St}
theorem wgRead1_bad (h : Has B ((dsk d s).star R) w) {qd qc qi qm qs : Nat} (hqd : w.cell? ⟨qd, 0, none⟩ = some (.pointer (some ⟨d, 0, none⟩))) {count : Int} (hqc : w.cell? ⟨qc, 0, none⟩ = some (.int .i64 count)) (pos : Int) (hp : sml pos) (hc : 1 ≤ count ∧ count ≤ 100000)
  (hrd : s.rErr (secOf pos count) = 0) (hno : openE (s.rBytes (secOf pos count)) ≠ 0) :
  Calls Tryz.prog 62 #[.int .i64 pos, .pointer (some ⟨qd, 0, none⟩), .pointer (some ⟨qc, 0, none⟩), .pointer (some ⟨qi, 0, none⟩), .pointer (some ⟨qm, 0, none⟩), .pointer (some ⟨qs, 0, none⟩)] w (Ret (.tuple #[.bool false, .int .i64 0]) w) := by
 have CSEC := Lib.hid (fun w' => wgSector_any pos count w' hp hc)
 have CRD := Lib.hid (fun w' (hb : Below w.heap.size w w') => hasD_read (h.below hb) (secOf pos count))
 rw [hrd] at CRD
 obtain ⟨sc, hsc⟩ : ∃ sc, secOf pos count = sc := ⟨_, rfl⟩
 rw [hsc] at CSEC CRD hno
 obtain ⟨l, hl⟩ : ∃ l, s.rBytes sc = l := ⟨_, rfl⟩
 rw [hl] at CRD hno
 have HNO := Lib.hid hno
 have KC : Hid (∀ w', Below w.heap.size w w' → w'.cell? ⟨qd, 0, none⟩ = some (.pointer (some ⟨d, 0, none⟩)) ∧ w'.cell? ⟨qc, 0, none⟩ = some (.int .i64 count)) := Lib.hid (fun w' hb => ⟨(hb.cell (World.block_lt_of_cell? w _ hqd)).trans hqd, (hb.cell (World.block_lt_of_cell? w _ hqc)).trans hqc⟩)
 have hS0 := KC.out w.drew (Below.refl _ _).drew
 clear h hrd hno hsc hl hqd hqc
 go_enter Tryz.func62, Tryz.ntmps62
 go_upto_region 1 with fail
 refine wp_region_noPanic ?_
 refine upto_start (fun w' => w'.cell? ⟨qd, 0, none⟩ = some (.pointer (some ⟨d, 0, none⟩)) ∧ w'.cell? ⟨qc, 0, none⟩ = some (.int .i64 count)) 9 (by kernel_rfl) ?_
 change Upto _ _ _ _ _ 10 _ _ _
 refine Upto.tk 0 ?_ rfl (fun w' hS => ?_) hS0 ?_
 rotate_left
 ·(try dsimp only at hS); go_split_ands; go_simp; (try with_reducible rfl)
 simp only [Act.put, q1Pw30, q2Pw30, q3Pw30]
 refine Upto.tk 1 ?_ rfl (fun w' hS => ?_) hS0 ?_
 rotate_left
 ·(try dsimp only at hS); go_split_ands; go_simp; (try with_reducible rfl)
 simp only [Act.put, q1Pw30, q2Pw30, q3Pw30]
 refine Upto.tk 2 ?_ rfl (fun w' hS => ?_) hS0 ?_
 rotate_left
 ·(try dsimp only at hS); go_split_ands; go_simp; (try with_reducible rfl)
 simp only [Act.put, q1Pw30, q2Pw30, q3Pw30]
 refine Upto.law (i := 3) rfl (by kernel_rfl) rfl (fun K hK => ?_)
 refine wp_enter (f := 52) (args := #[.int .i64 pos, .int .i64 count]) (by go_simp; (try with_reducible rfl)) (CSEC.out _) ?_
 intro e w1 hq
 obtain ⟨rfl, b1⟩ := quiet_ret hq
 have B1 : Hid (Below w.heap.size w w1) := Lib.hid ((Below.refl _ _).drew.trans b1)
 have hS1 := KC.out w1 B1.out
 refine ⟨_, rfl, hK _ _ hS1 ?_⟩
 clear hK hS0 b1 hq CSEC
 simp only [Act.put, q1Pw30, q2Pw30, q3Pw30]
 refine Upto.law (i := 4) rfl (by kernel_rfl) rfl (fun K hK => ?_)
 refine wp_enter (f := 60) (args := #[.pointer (some ⟨d, 0, none⟩), .int .i64 sc]) (by go_simp; (try with_reducible rfl)) (CRD.out w1 B1.out) ?_
 rintro e w2 ⟨A2, n2, c2, rfl, hby, _, b2⟩
 have B2 : Hid (Below w.heap.size w w2) := Lib.hid (B1.out.trans (b2.mono B1.out.size))
 have hS0 := KC.out w2 B2.out
 have CI := Lib.hid (wgSheetIn_bad A2 n2 c2 l w2 hby HNO.out)
 refine ⟨_, rfl, hK _ _ hS0 ?_⟩
 clear hK hS1 b2 hby CRD
 simp only [Act.put, q1Pw30, q2Pw30, q3Pw30]
 refine Upto.tk 5 ?_ rfl (fun w' hS => ?_) hS0 ?_
 rotate_left
 ·(try dsimp only at hS); go_split_ands; go_simp; (try with_reducible rfl)
 simp only [Act.put, q1Pw30, q2Pw30, q3Pw30]
 refine Upto.tk 6 ?_ rfl (fun w' hS => ?_) hS0 ?_
 rotate_left
 ·(try dsimp only at hS); go_split_ands; go_simp; (try with_reducible rfl)
 simp only [Act.put, q1Pw30, q2Pw30, q3Pw30]
 refine Upto.tk 7 ?_ rfl (fun w' hS => ?_) hS0 ?_
 rotate_left
 ·(try dsimp only at hS); go_split_ands; go_simp; (try with_reducible rfl)
 simp only [Act.put, q1Pw30, q2Pw30, q3Pw30]
 refine Upto.tk 8 ?_ rfl (fun w' hS => ?_) hS0 ?_
 rotate_left
 ·(try dsimp only at hS); go_split_ands; go_simp; (try with_reducible rfl)
 simp only [Act.put, q1Pw30, q2Pw30, q3Pw30]
 refine Upto.tail rfl (by kernel_rfl) ?_
 simp only [List.drop_succ_cons, List.drop_zero]
 go_wp2_with fail
 refine NoPanic.normal ?_
 go_wp2_with fail
 refine CI.out.mono ?_
 rintro e w3 ⟨rfl, b3⟩
 have R9 : Hid (∀ c, Ret (.tuple #[.bool false, .int .i64 0]) w (.returned (.tuple #[.bool false, .int .i64 0])) (w3.alloc (.cells c 93))) := Lib.hid (fun c => ⟨rfl, by
  have b := B2.out.trans (b3.mono B2.out.size)
  exact b.alloc b.size _⟩)
 clear b3 CI hS0
 go_upto_region 5 with (refine wpList_store_new rfl (W := w3) rfl (c := #[.int .i64 0, .int .i64 0, .int .i64 0, .string ⟨#[]⟩]) (c' := #[.int .i64 0, .int .i64 0, .int .i64 0, .string ⟨#[]⟩]) rfl (by rfl) rfl (by kernel_rfl) rfl (by simp [Value.oneCell']) ?_; simp only [Act.put])
 go_wp2_with fail
 go_ret2
 exact R9.out _
theorem wgSheetsOn_bad (h : Has B ((dsk d s).star R) w) (m : Ms) (hm : sml m.first) (count : Int) (hc : 1 ≤ count ∧ count ≤ 100000) (hrd : s.rErr (secOf m.first count) = 0) (hno : openE (s.rBytes (secOf m.first count)) ≠ 0) :
  Calls Tryz.prog 41 #[.pointer (some ⟨d, 0, none⟩), .int .i64 count, msV m] w (Ret (.tuple #[.slice none 0 0, .int .i64 0]) w) := by
 obtain ⟨q, hq⟩ : ∃ q, w.heap.size = q := ⟨_, rfl⟩
 obtain ⟨W1, hW1⟩ : ∃ W1, W1 = ((w.alloc (.cells #[.pointer (some ⟨d, 0, none⟩)] 33)).alloc (.cells #[.int .i64 count] 3)).alloc (.cells (msC m) 63) := ⟨_, rfl⟩
 obtain ⟨W2, hW2⟩ : ∃ W2, W2 = (W1.alloc (.cells #[.slice none 0 0] 73)).alloc (.cells #[.int .i64 0] 3) := ⟨_, rfl⟩
 have b1 : Below w.heap.size w W1 := by
  rw [hW1]
  have b : Below w.heap.size w (w.alloc (.cells #[.pointer (some ⟨d, 0, none⟩)] 33)) := (Below.refl _ _).alloc (Nat.le_refl _) _
  exact (b.alloc b.size _).alloc (b.alloc b.size _).size _
 have b2 : Below W1.heap.size W1 W2 := by
  rw [hW2]
  have b : Below W1.heap.size W1 (W1.alloc (.cells #[.slice none 0 0] 73)) := (Below.refl _ _).alloc (Nat.le_refl _) _
  exact b.alloc b.size _
 have s1 : W1.heap.size = q + 3 := by rw [hW1]; simp [hq]
 have Vd : Bk W1 q 33 #[.pointer (some ⟨d, 0, none⟩)] := by
  rw [hW1, ← hq]
  exact ((Bk.new w _ _).later ((Below.refl _ _).alloc (Nat.le_refl _) _)).later ((Below.refl _ _).alloc (Nat.le_refl _) _)
 have Vc : Bk W1 (q + 1) 3 #[.int .i64 count] := by
  have e : q + 1 = (w.alloc (.cells #[.pointer (some ⟨d, 0, none⟩)] 33)).heap.size := by simp [hq]
  rw [hW1, e]
  exact (Bk.new _ _ _).later ((Below.refl _ _).alloc (Nat.le_refl _) _)
 have Vm : Bk W1 (q + 2) 63 (msC m) := by
  have e : q + 2 = ((w.alloc (.cells #[.pointer (some ⟨d, 0, none⟩)] 33)).alloc (.cells #[.int .i64 count] 3)).heap.size := by simp [hq]
  rw [hW1, e]
  exact Bk.new _ _ _
 have Vs : Bk W2 (q + 3) 73 #[.slice none 0 0] := by
  rw [hW2, ← s1]
  exact (Bk.new _ _ _).later ((Below.refl _ _).alloc (Nat.le_refl _) _)
 have b12 := b1.trans (b2.mono b1.size)
 have CR := Lib.hid (wgRead1_bad (qi := q + 3 + 1) (qm := q + 1 + 1) (qs := q + 3) (h.below b12) ((Vd.later b2).cell 0) ((Vc.later b2).cell 0) m.first hm hc hrd hno)
 have VC := Lib.hid ((Vc.later b2).cell 0)
 have VM := Lib.hid (show W2.cell? ⟨q + 2, 2, none⟩ = some (.int .i64 m.first) from (Vm.later b2).cell 2)
 have VS := Lib.hid (Vs.cell 0)
 have HB := Lib.hid b12
 have HW1 := Lib.hid hW1
 have HW2 := Lib.hid hW2
 have hq3 : q < W2.heap.size ∧ q + 3 < W2.heap.size := ⟨(Vd.later b2).lt, Vs.lt⟩
 have VSF := Lib.hid (fun w' (hb : Below W2.heap.size W2 w') => (hb.cell (p := ⟨q + 3, 0, none⟩) hq3.2).trans (Vs.cell 0))
 have emv : msV m = .agg (msC m) := rfl
 rw [emv]
 unfold sml at hm
 clear h hno hrd hW1 hW2 b1 b2 b12 Vd Vc Vm Vs emv
 go_enter Tryz.func41, Tryz.ntmps41
 go_upto_region 1 with fail
 (try simp only [World.size_alloc, hq])
 rw [← HW1.out]
 clear HW1
 go_upto_region 3 with fail
 (try simp only [World.size_alloc, s1])
 rw [← HW2.out]
 clear HW2
 have y1 := VC.out
 have y2 := VM.out
 go_wp2_with fail
 refine wp_loop_rounds 1 ?_
 rw [rounds_succ]
 go_wp2_with fail
 refine CR.out.mono ?_
 rintro e w3 ⟨rfl, b3⟩
 have y3 : w3.cell? ⟨q + 3, 0, none⟩ = some (.slice none 0 0) := VSF.out w3 b3
 have R9 : Hid (Ret (.tuple #[.slice none 0 0, .int .i64 0]) w (.returned (.tuple #[.slice none 0 0, .int .i64 0])) w3) := Lib.hid ⟨rfl, HB.out.trans (b3.mono HB.out.size)⟩
 clear b3 CR VSF y1 y2
 go_wp2_with fail
 go_ret2
 exact R9.out
end
theorem wgRecordsIn_none (first : Int) (w : World) (hT : Tab w) : Calls Tryz.prog 42 #[.slice none 0 0, .int .i64 first] w (Ret (.slice none 0 0) w) := by
 have CF := Lib.hid (find_any none 0 0 [] w (Shs.nil w) (by omega) (fun x hx => by cases hx) hT)
 clear hT
 go_enter Tryz.func42, Tryz.ntmps42
 go_wp2_with fail
 refine CF.out.mono ?_
 rintro e w1 ⟨A, n, c, rfl, _, hn, _, b1⟩
 have hn0 : n = 0 := by rw [← hn]; rfl
 subst hn0
 have R9 : Hid (Ret (.slice none 0 0) w (.returned (.slice none 0 0)) w1) := Lib.hid ⟨rfl, b1⟩
 clear hn b1 CF
 go_wp2_with fail
 refine wp_loop_rounds 1 ?_
 rw [rounds_succ]
 go_wp2_with fail
 go_ret
 exact R9.out
def opL0 (count : Int) (m : Ms) : Lg := ⟨count, ms0, [], m.first, [], 0, 0, false⟩
def opM (m : Ms) : Ms := ⟨m.gen + 1, m.inc + 1, m.first, m.lsn, m.chk⟩
section
variable {B : Nat} {R : Res} {w : World} {d : Nat} {s : St}
theorem lgR_new (h : Has B R w) (hB : B ≤ w.heap.size) (L : Lg) (hr : L.recs = []) (hw : L.wait = []) : Has B ((lgR w.heap.size d L).star R) (w.alloc (.cells (lgC d L (.slice none 0 0) (.slice none 0 0)) 67)) :=
 h.new hB ((Below.refl _ _).alloc (Nat.le_refl _) _) ⟨none, 0, 0, [], none, 0, 0, [], fun _ => False, ⟨Bk.new w _ _, World.ownsRow_nil _ _ _ _, by rw [hr]; rfl, rfl, fun x hx => (by cases hx), World.ownsRow_nil _ _ _ _, rfl, by rw [hw]; rfl, fun i hi => absurd hi (by omega), fun _ f => f.elim, ⟨Nat.le_refl _, (Bk.new w 67 (lgC d L (.slice none 0 0) (.slice none 0 0))).lt⟩, (fun k e => by cases e), (fun k e => by cases e), id, (fun k e => by cases e), (fun k e => by cases e), fun k f => f.2⟩⟩
theorem blkR_setc {g i : Nat} {t : TypeId} {cs : Array Value} {S : Res} {w : World} {u : Value} {cs' : Array Value} (h : Has B ((blkR g t cs).star S) w) (hB : B ≤ w.heap.size) (e : cs.setIfInBounds i u = cs') : Has B ((blkR g t cs').star S) (w.setCell ⟨g, i, none⟩ u) ∧ Below B w (w.setCell ⟨g, i, none⟩ u) := by
 obtain ⟨F, ⟨hb, hg, hl⟩, ht⟩ := h.turn1 hB
 refine ht (blkR g t cs') (w.setCell ⟨g, i, none⟩ u) ⟨⟨cells_bk hb e, .inl hg, fun k f => ?_⟩, Fr.setCell (a := ⟨g, i, none⟩) (Fr.refl F w) hg u⟩
 have e : (w.setCell ⟨g, i, none⟩ u).heap.size = w.heap.size := by simp [World.setCell]
 rw [e]
 rcases f with f | f
 ·exact hl k f
 ·have := f.2
  rw [e] at this
  exact this
theorem built_log (d : Nat) (z n : Int) : Tryz.prog.built 67 [(0, .pointer (some ⟨d, 0, none⟩)), (1, .int .i64 z), (3, .slice none 0 0), (4, .int .i64 n)] =
  some #[.pointer (some ⟨d, 0, none⟩), .int .i64 z, .int .i64 0, .int .i64 0, .int .i64 0, .int .i64 0, .int .i64 0, .slice none 0 0, .int .i64 n, .slice none 0 0, .int .i64 0, .int .i64 0, .bool false] := by kernel_rfl
def RetOp (d : Nat) (L : Lg) (s : St) (B : Nat) (R : Res) (w : World) (e : Ending) (w' : World) : Prop := ∃ b, e = .returned (.tuple #[.pointer (some ⟨b, 0, none⟩), .int .i64 0]) ∧ Has B ((lgR b d L).star ((dsk d s).star R)) w' ∧ Below B w w'
theorem wgOpen_none (h : Has B ((dsk d s).star R) w) (hB : B ≤ w.heap.size) (hT : Tab w) (z : Int) (hc : cntB z = true) (hr : ringB s z = true) (m : Ms) (hm : loadR0 s.rBytes s.rErr = m) (he : loadE0 s.rBytes s.rErr = 0) (hmf : sml m.gen ∧ sml m.inc ∧ sml m.first ∧ sml m.lsn ∧ sml m.chk)
  (hrd : s.rErr (secOf m.first z) = 0) (hno : openE (s.rBytes (secOf m.first z)) ≠ 0) (hlim : s.pend.length < 999999) (hlim2 : s.syncs < 999999) (hsv : saveE s (opM m) = 0) :
  Calls Tryz.prog 19 #[.pointer (some ⟨d, 0, none⟩), .int .i64 z] w (RetOp d { opL0 z m with m := opM m } (saveS s (opM m)) B R w) := by
 have hz : 8 ≤ z ∧ z ≤ 1024 := by unfold cntB at hc; exact of_decide_eq_true hc
 have H0 := Lib.hid h
 have HBB := Lib.hid hB
 have T0 := Lib.hid hT
 have CC := Lib.hid (wgIsCount_any z w)
 have CR := Lib.hid (fun w1 (hb : Below w.heap.size w w1) => wgHasRing_any (h.below hb) z (by omega))
 have CL := Lib.hid (fun w1 (hb : Below w.heap.size w w1) => load_any (h.below hb))
 have CS := Lib.hid (fun w1 (hb : Below w.heap.size w w1) => wgSheetsOn_bad (h.below hb) m hmf.2.2.1 z (by omega) hrd hno)
 have CN := Lib.hid (fun w1 (hb : Below w.heap.size w w1) => wgRecordsIn_none m.first w1 (hT.ret hb))
 rw [hc] at CC
 rw [hr] at CR
 rw [hm, he] at CL
 obtain ⟨hg, hi, hf, hl, hk⟩ := hmf
 unfold sml at hg hi hf hl hk
 have emv : msV m = .agg (msC m) := rfl
 rw [emv] at CL CS
 have HSV := Lib.hid hsv
 clear h hB hT hc hr hm he hrd hno emv hsv
 go_enter Tryz.func19, Tryz.ntmps19
 go_wp2_with fail
 refine CC.out.mono ?_
 intro e w1 hq
 obtain ⟨rfl, b1⟩ := quiet_ret hq
 have B1 := Lib.hid b1
 have C1 := Lib.hid (CR.out w1 b1)
 clear hq b1 CR CC
 go_wp2_with fail
 refine C1.out.mono ?_
 rintro e w2 ⟨rfl, b2⟩
 have B2 : Hid (Below w.heap.size w w2) := Lib.hid (B1.out.trans (b2.mono B1.out.size))
 have C2 := Lib.hid (CL.out w2 B2.out)
 clear b2 C1 CL
 go_wp2_with fail
 refine C2.out.mono ?_
 rintro e w3 ⟨rfl, b3⟩
 have B3 : Hid (Below w.heap.size w w3) := Lib.hid (B2.out.trans (b3.mono B2.out.size))
 obtain ⟨qm, hqm⟩ : ∃ q, w3.heap.size = q := ⟨_, rfl⟩
 obtain ⟨W4, hW4⟩ : ∃ W4, W4 = w3.alloc (.cells (msC m) 63) := ⟨_, rfl⟩
 have b4 : Below w3.heap.size w3 W4 := by rw [hW4]; exact (Below.refl _ _).alloc (Nat.le_refl _) _
 have B4 : Hid (Below w.heap.size w W4) := Lib.hid (B3.out.trans (b4.mono B3.out.size))
 have H4 : Hid (Has B ((blkR qm 63 (msC m)).star ((dsk d s).star R)) W4) := Lib.hid (by rw [hW4, ← hqm]; exact blkR_new _ _ (H0.out.below B3.out) (Nat.le_trans HBB.out B3.out.size))
 have V4 : Hid (Bk W4 qm 63 (msC m)) := Lib.hid (by rw [hW4, ← hqm]; exact Bk.new w3 _ _)
 have C4 := Lib.hid (CS.out W4 B4.out)
 have HW4 := Lib.hid hW4
 have HQM := Lib.hid hqm
 have hm1 : (msC m).all (·.oneCell') = true := by simp [msC, Value.oneCell']
 clear b3 C2 hW4 hqm b4 CS
 go_upto_region 6 with (refine wpList_store_new rfl (W := w3) rfl (c := #[.int .i64 0, .int .i64 0, .int .i64 0, .int .i64 0, .int .i64 0]) (c' := msC m) rfl (by first | rfl | (rw [HQM.out]; rfl)) rfl (by kernel_rfl) rfl hm1 ?_; simp only [Act.put])
 (try rw [HQM.out])
 rw [← HW4.out]
 clear HW4
 go_wp2_with (refine wpList_load_row rfl 63 _ rfl qm rfl 63 (msC m) (0, 0) _ V4.out Tryz.underlying63 rfl ms_info ?_; simp only [Act.put])
 refine C4.out.mono ?_
 rintro e w5 ⟨rfl, b5⟩
 have B5 : Hid (Below w.heap.size w w5) := Lib.hid (B4.out.trans (b5.mono B4.out.size))
 have V5 := Lib.hid (V4.out.later b5)
 have H5 := Lib.hid (H4.out.below b5)
 have y5 : w5.cell? ⟨qm, 2, none⟩ = some (.int .i64 m.first) := V5.out.cell 2
 clear b5 C4 V4
 have C5 := Lib.hid (CN.out w5.drew (B5.out.trans ((Below.refl _ _).drew.mono B5.out.size)))
 have hS0 : w5.drew.cell? ⟨qm, 2, none⟩ = some (.int .i64 m.first) := y5
 clear CN H4
 go_upto_region 11 with fail
 clear y5
 refine wp_region_noPanic ?_
 refine upto_start (fun w' => w'.cell? ⟨qm, 2, none⟩ = some (.int .i64 m.first)) 12 (by kernel_rfl) ?_
 change Upto _ _ _ _ _ 14 _ _ _
 refine Upto.tk 0 ?_ rfl (fun w' hS => ?_) hS0 ?_
 rotate_left
 ·(try dsimp only at hS); go_split_ands; go_simp; (try with_reducible rfl)
 simp only [Act.put, q1Pw30, q2Pw30, q3Pw30]
 refine Upto.tk 1 ?_ rfl (fun w' hS => ?_) hS0 ?_
 rotate_left
 ·(try dsimp only at hS); go_split_ands; go_simp; (try with_reducible rfl)
 simp only [Act.put, q1Pw30, q2Pw30, q3Pw30]
 refine Upto.tk 2 ?_ rfl (fun w' hS => ?_) hS0 ?_
 rotate_left
 ·(try dsimp only at hS); go_split_ands; go_simp; (try with_reducible rfl)
 simp only [Act.put, q1Pw30, q2Pw30, q3Pw30]
 refine Upto.tk 3 ?_ rfl (fun w' hS => ?_) hS0 ?_
 rotate_left
 ·(try dsimp only at hS); go_split_ands; go_simp; (try with_reducible rfl)
 simp only [Act.put, q1Pw30, q2Pw30, q3Pw30]
 refine Upto.tk 4 ?_ rfl (fun w' hS => ?_) hS0 ?_
 rotate_left
 ·(try dsimp only at hS); go_split_ands; go_simp; (try with_reducible rfl)
 simp only [Act.put, q1Pw30, q2Pw30, q3Pw30]
 refine Upto.tk 6 ?_ rfl (fun w' hS => ?_) hS0 ?_
 rotate_left
 ·(try dsimp only at hS); go_split_ands; go_simp; (try with_reducible rfl)
 simp only [Act.put, q1Pw30, q2Pw30, q3Pw30]
 refine Upto.tk 7 ?_ rfl (fun w' hS => ?_) hS0 ?_
 rotate_left
 ·(try dsimp only at hS); go_split_ands; go_simp; (try with_reducible rfl)
 simp only [Act.put, q1Pw30, q2Pw30, q3Pw30]
 refine Upto.tk 8 ?_ rfl (fun w' hS => ?_) hS0 ?_
 rotate_left
 ·(try dsimp only at hS); go_split_ands; go_simp; (try with_reducible rfl)
 simp only [Act.put, q1Pw30, q2Pw30, q3Pw30]
 refine Upto.tk 9 ?_ rfl (fun w' hS => ?_) hS0 ?_
 rotate_left
 ·(try dsimp only at hS); go_split_ands; go_simp; (try with_reducible rfl)
 simp only [Act.put, q1Pw30, q2Pw30, q3Pw30]
 refine Upto.take (i := 10) (v := .int .i64 m.first) rfl (by kernel_rfl) (fun _ _ _ h => h) rfl (fun w' hS => by go_simp; exact IntWalk.i64_in _ (by omega)) hS0 ?_
 simp only [Act.put, q1Pw30, q2Pw30, q3Pw30]
 refine Upto.law (i := 5) rfl (by kernel_rfl) rfl (fun K hK => ?_)
 refine wp_enter (f := 42) (args := #[.slice none 0 0, .int .i64 m.first]) (by go_simp; (try with_reducible rfl)) (C5.out) ?_
 rintro e w6 ⟨rfl, b6⟩
 have b56 : Below w5.heap.size w5 w6 := (Below.refl _ _).drew.trans b6
 have H6 := Lib.hid (H5.out.below b56)
 have B6 : Hid (Below w.heap.size w w6) := Lib.hid (B5.out.trans (b56.mono B5.out.size))
 have hS1 : w6.cell? ⟨qm, 2, none⟩ = some (.int .i64 m.first) := (V5.out.later b56).cell 2
 refine ⟨_, rfl, hK _ _ hS1 ?_⟩
 clear hK hS0 b6 b56 C5 H5
 simp only [Act.put, q1Pw30, q2Pw30, q3Pw30]
 refine Upto.take (i := 11) rfl (by kernel_rfl) (fun _ _ _ h => h) rfl (fun w' hS => exec_build rfl [(0, .pointer (some ⟨d, 0, none⟩)), (1, .int .i64 z), (3, .slice none 0 0), (4, .int .i64 m.first)] (by rfl) (built_log d z m.first)) hS1 ?_
 simp only [Act.put, q1Pw30, q2Pw30, q3Pw30]
 refine Upto.tail rfl (by kernel_rfl) ?_
 simp only [List.drop_succ_cons, List.drop_zero]
 obtain ⟨bl, hbl⟩ : ∃ bl, w6.heap.size = bl := ⟨_, rfl⟩
 obtain ⟨W7, hW7⟩ : ∃ W7, W7 = w6.alloc (.cells #[.pointer (some ⟨d, 0, none⟩), .int .i64 z, .int .i64 0, .int .i64 0, .int .i64 0, .int .i64 0, .int .i64 0, .slice none 0 0, .int .i64 m.first, .slice none 0 0, .int .i64 0, .int .i64 0, .bool false] 67) := ⟨_, rfl⟩
 have hB6 : B ≤ w6.heap.size := Nat.le_trans HBB.out B6.out.size
 have h7 : Has B ((lgR bl d (opL0 z m)).star ((blkR qm 63 (msC m)).star ((dsk d s).star R))) W7 := by rw [hW7, ← hbl]; exact lgR_new (L := opL0 z m) (d := d) H6.out hB6 rfl rfl
 have b7 : Below w6.heap.size w6 W7 := by rw [hW7]; exact (Below.refl _ _).alloc (Nat.le_refl _) _
 have B7 : Hid (Below B w W7 ∧ B ≤ W7.heap.size) := Lib.hid ⟨(B6.out.mono HBB.out).trans (b7.mono hB6), Nat.le_trans hB6 b7.size⟩
 have t8 := blkR_setc (i := 0) (u := .int .i64 (m.gen + 1)) (cs' := #[.int .i64 (m.gen + 1), .int .i64 m.inc, .int .i64 m.first, .int .i64 m.lsn, .int .i64 m.chk]) h7.swap B7.out.2 rfl
 obtain ⟨w8, hw8⟩ : ∃ w8, w8 = W7.setCell ⟨qm, 0, none⟩ (.int .i64 (m.gen + 1)) := ⟨_, rfl⟩
 rw [← hw8] at t8
 have hB8 : B ≤ w8.heap.size := Nat.le_trans B7.out.2 t8.2.size
 have t9 := blkR_setc (i := 1) (u := .int .i64 (m.inc + 1)) (cs' := msC (opM m)) t8.1 hB8 rfl
 obtain ⟨w9, hw9⟩ : ∃ w9, w9 = w8.setCell ⟨qm, 1, none⟩ (.int .i64 (m.inc + 1)) := ⟨_, rfl⟩
 rw [← hw9] at t9
 have hB9 : B ≤ w9.heap.size := Nat.le_trans hB8 t9.2.size
 have V7 : Bk W7 qm 63 (msC m) := by obtain ⟨F, hF⟩ := h7.swap.fst.ex; exact hF.1
 have V8 : Bk w8 qm 63 #[.int .i64 (m.gen + 1), .int .i64 m.inc, .int .i64 m.first, .int .i64 m.lsn, .int .i64 m.chk] := by obtain ⟨F, hF⟩ := t8.1.fst.ex; exact hF.1
 have V9 : Hid (Bk w9 qm 63 (msC (opM m))) := Lib.hid (by obtain ⟨F, hF⟩ := t9.1.fst.ex; exact hF.1)
 have z0 : W7.cell? ⟨qm, 0, none⟩ = some (.int .i64 m.gen) := V7.cell 0
 have f0 : W7.frozen? ⟨qm, 0, none⟩ = false := V7.frz 0
 have z1 : w8.cell? ⟨qm, 1, none⟩ = some (.int .i64 m.inc) := V8.cell 1
 have f1 : w8.frozen? ⟨qm, 1, none⟩ = false := V8.frz 1
 have CV := Lib.hid (wgSave_any t9.1.in3 hB9 (opM m) (fun k => by
  match k with
  | 0 => show _ ≤ m.gen + 1 ∧ m.gen + 1 ≤ _; omega
  | 1 => show _ ≤ m.inc + 1 ∧ m.inc + 1 ≤ _; omega
  | 2 => show _ ≤ m.first ∧ m.first ≤ _; omega
  | 3 => show _ ≤ m.lsn ∧ m.lsn ≤ _; omega
  | _ + 4 => show _ ≤ m.chk ∧ m.chk ≤ _; omega) hlim (by have := (putS_pend s ((opM m).gen % 2) (bodyM (opM m))).2; omega))
 rw [HSV.out] at CV
 have emv : msV (opM m) = .agg (msC (opM m)) := rfl
 have es : (opL0 z m).saved 0 (opM m) = { opL0 z m with m := opM m } := if_pos rfl
 rw [emv, es] at CV
 have B9 : Hid (Below B w w9) := Lib.hid ((B7.out.1.trans t8.2).trans t9.2)
 have HW7 := Lib.hid hW7
 have HW8 := Lib.hid hw8
 have HW9 := Lib.hid hw9
 obtain ⟨C9, hC9⟩ : ∃ C, msC (opM m) = C := ⟨_, rfl⟩
 have HC9 : Hid (C9.size = 5) := Lib.hid (by rw [← hC9]; rfl)
 rw [hC9] at V9 CV
 clear hS1 h7 b7 t8 t9 V7 V8 hW7 hw8 hw9 emv es hC9 H6 V5 H0 T0 B6 hm1
 go_wp2_with fail
 refine NoPanic.normal ?_
 (try rw [hbl])
 rw [← HW7.out]
 clear HW7
 go_upto_region 13 with fail
 rw [← HW8.out]
 clear HW8 z0 f0
 go_upto_region 14 with fail
 rw [← HW9.out]
 clear HW9 z1 f1
 go_wp2_with (refine wpList_load_row rfl 63 _ rfl qm rfl 63 C9 (0, 0) _ V9.out Tryz.underlying63 rfl (by rw [HC9.out]; exact ms_info) ?_; simp only [Act.put])
 refine CV.out.mono ?_
 rintro e w10 ⟨rfl, h10, b10⟩
 have R9 : Hid (RetOp d { opL0 z m with m := opM m } (saveS s (opM m)) B R w (.returned (.tuple #[.pointer (some ⟨bl, 0, none⟩), .int .i64 0])) w10) := Lib.hid ⟨bl, rfl, h10.out3, B9.out.trans b10⟩
 clear h10 b10 CV
 go_wp2_with fail
 go_ret2
 exact R9.out
end
end

/- a plain disk on which the power stays: what Put, sheets' writing, Sync and Save make of it; a log's master on a new disk. No program is named. -/
section
open Go.RowKit
structure Up (s : St) : Prop where
 left : s.left = -1
 gone : s.gone = false
section
variable {s : St}
theorem Up.can (h : Up s) : s.can = true := by unfold St.can; rw [h.left, h.gone]; rfl
theorem Up.step (h : Up s) : s.step = s := by
 unfold St.step
 rw [if_neg (by rw [h.gone]; simp), if_neg (by rw [h.left]; omega), if_neg (by rw [h.left]; omega)]
theorem Up.rd (h : Up s) {n : Int} (hn : 0 ≤ n ∧ n < (s.num : Int)) : s.rErr n = 0 := by
 unfold St.rErr
 rw [if_neg (by omega), if_neg (by rw [h.gone]; simp)]
theorem Up.put (h : Up s) {n : Int} (hn : 0 ≤ n ∧ n < (s.num : Int)) {p : List Int} (hl : p.length ≤ 254) (hr : ∀ x ∈ p, 0 ≤ x ∧ x < 256) :
  putE s n p = 0 ∧ putS s n p = { s with pend := s.pend ++ [(n.toNat, wrapL (nextOf (s.rBytes n)) p)] } := by
 have e0 := h.rd hn
 have hw : (wrapL (nextOf (s.rBytes n)) p).length = 256 := (wrapL_sec (by have := nextOf_rng (s.rBytes n); omega) hr hl).1
 refine ⟨?_, ?_⟩
 ·unfold putE
  rw [if_neg (by omega), if_neg (by rw [e0]; simp)]
  unfold St.wErr
  rw [if_neg (by omega), if_neg (by rw [hw]; simp), if_pos h.can]
 ·unfold putS
  rw [if_neg (by omega), if_neg (by rw [e0]; simp)]
  unfold St.write
  rw [if_neg (by omega), if_neg (by rw [hw]; simp), if_pos h.can]
  unfold St.wrote
  rw [h.step]
theorem Up.sync (h : Up s) : s.sErr = 0 ∧ s.sync = { s with syn := s.now, pend := [], syncs := s.syncs + 1 } := by
 refine ⟨by unfold St.sErr; rw [if_pos h.can], ?_⟩
 unfold St.sync
 rw [if_pos h.can]
 unfold St.synced
 rw [h.step]
theorem Up.save (h : Up s) {m : Ms} (hm : m.ok) (hN : 2 ≤ s.num) : saveE s m = 0 ∧ Up (saveS s m) ∧ (saveS s m).num = s.num ∧ (saveS s m).pend = [] ∧ (saveS s m).syncs = s.syncs + 1 := by
 have hl : (bodyM m).length ≤ 254 := by have := bodyM_len hm.fits; omega
 obtain ⟨p1, p2⟩ := h.put (n := m.gen % 2) (by omega) hl (bodyM_rng m)
 have hu : Up (putS s (m.gen % 2) (bodyM m)) := by rw [p2]; exact ⟨h.left, h.gone⟩
 obtain ⟨q1, q2⟩ := hu.sync
 have e1 : saveE s m = 0 := by unfold saveE; rw [if_neg (by simpa using hm), if_neg (by rw [p1]; simp), q1]
 have e2 : saveS s m = { putS s (m.gen % 2) (bodyM m) with syn := (putS s (m.gen % 2) (bodyM m)).now, pend := [], syncs := (putS s (m.gen % 2) (bodyM m)).syncs + 1 } := by unfold saveS; rw [if_neg (by simpa using hm), if_neg (by rw [p1]; simp), q2]
 rw [e2, p2]
 exact ⟨e1, ⟨h.left, h.gone⟩, rfl, rfl, rfl⟩
theorem wrAll_up : ∀ (l : List Sh) (s : St) (c : Int), Up s → 1 ≤ c → c + 2 ≤ (s.num : Int) → (∀ x ∈ l, storP x) → (wrAll c s l).2 = 0 ∧ Up (wrAll c s l).1 ∧ (wrAll c s l).1.num = s.num ∧ (wrAll c s l).1.pend = [] ∧ (wrAll c s l).1.syncs = s.syncs + 1
 | [], s, c, h, _, _, _ => by
  obtain ⟨q1, q2⟩ := h.sync
  unfold wrAll
  simp only
  rw [q1, q2]
  exact ⟨rfl, ⟨h.left, h.gone⟩, rfl, rfl, rfl⟩
 | x :: r, s, c, h, h1, h2, hx => by
  have hst := hx x (by simp)
  have hr : ∀ y ∈ encS x, 0 ≤ y ∧ y < 256 := encS_rng hst
  have hl : (encS x).length ≤ 254 := by rw [encS_len]; have := hst.2.2.1; omega
  have hm : 0 ≤ x.pos % c ∧ x.pos % c < c := ⟨Int.emod_nonneg _ (by omega), Int.emod_lt_of_pos _ (by omega)⟩
  obtain ⟨p1, p2⟩ := h.put (n := secOf x.pos c) (by unfold secOf; omega) hl hr
  have hu : Up (putS s (secOf x.pos c) (encS x)) := by rw [p2]; exact ⟨h.left, h.gone⟩
  have ih := wrAll_up r (putS s (secOf x.pos c) (encS x)) c hu h1 (by rw [p2]; exact h2) (fun y hy => hx y (by simp [hy]))
  unfold wrAll
  rw [if_neg (by rw [p1]; simp)]
  refine ⟨ih.1, ih.2.1, ?_, ih.2.2.2.1, ?_⟩
  ·rw [ih.2.2.1, p2]
  ·rw [ih.2.2.2.2, p2]
end
theorem new_up (n : Nat) : Up (St.new n) := ⟨rfl, rfl⟩
theorem fmt_load {N : Nat} (hN : 2 ≤ N) : loadR0 (saveS (St.new N) msF).rBytes (saveS (St.new N) msF).rErr = msF ∧ loadE0 (saveS (St.new N) msF).rBytes (saveS (St.new N) msF).rErr = 0 ∧ (∀ n : Int, 2 ≤ n → n < (N : Int) → (saveS (St.new N) msF).rErr n = 0 ∧ openE ((saveS (St.new N) msF).rBytes n) ≠ 0) := by
 obtain ⟨s1, hs1⟩ : ∃ s1, s1 = saveS (St.new N) msF := ⟨_, rfl⟩
 obtain ⟨e1, hu, hnum, hp, _⟩ := (new_up N).save msF_ok hN
 have hl : (bodyM msF).length ≤ 254 := by have := bodyM_len msF_ok.fits; omega
 obtain ⟨p1, p2⟩ := (new_up N).put (n := msF.gen % 2) (by show 0 ≤ (1 : Int) % 2 ∧ (1 : Int) % 2 < (N : Int); omega) hl (bodyM_rng msF)
 have hu2 : Up (putS (St.new N) (msF.gen % 2) (bodyM msF)) := by rw [p2]; exact ⟨rfl, rfl⟩
 obtain ⟨q1, q2⟩ := hu2.sync
 have e2 : saveS (St.new N) msF = { putS (St.new N) (msF.gen % 2) (bodyM msF) with syn := (putS (St.new N) (msF.gen % 2) (bodyM msF)).now, pend := [], syncs := (putS (St.new N) (msF.gen % 2) (bodyM msF)).syncs + 1 } := by
  unfold saveS; rw [if_neg (by simpa using msF_ok), if_neg (by rw [p1]; simp), q2]
 rw [← hs1] at hu hnum hp e2 ⊢
 obtain ⟨X, hX⟩ : ∃ X, X = wrapL (nextOf ((St.new N).rBytes (msF.gen % 2))) (bodyM msF) := ⟨_, rfl⟩
 have hsyn : s1.syn = upd (fun _ => zeros) (secN msF) X := by
  rw [e2, p2, ← hX]
  rfl
 have hrec : recM (msF.gen % 2) X = msF := by rw [hX]; exact recM_wrap msF_ok (nextOf_rng _)
 have hL : Lst s1.syn msF := by rw [hsyn]; exact Lst.first msF_ok (fun _ => rfl) hrec
 obtain ⟨l1, l2⟩ := hL.load
 have hrd : ∀ n : Int, 0 ≤ n → n < (N : Int) → s1.rErr n = 0 ∧ s1.rBytes n = s1.syn n.toNat := fun n h0 h1 => by
  have e := hu.rd (n := n) ⟨h0, by rw [hnum]; exact h1⟩
  refine ⟨e, ?_⟩
  unfold St.rBytes
  rw [if_pos e, now_nothing hp]
 have h0 := hrd 0 (by omega) (by omega)
 have h1 := hrd 1 (by omega) (by omega)
 refine ⟨?_, ?_, fun n hn hn2 => ?_⟩
 ·unfold loadR0
  rw [if_neg (by rw [h0.1]; simp), if_neg (by rw [h1.1]; simp), h0.2, h1.2]
  exact l1
 ·unfold loadE0
  rw [if_neg (by rw [h0.1]; simp), if_neg (by rw [h1.1]; simp), h0.2, h1.2]
  exact l2
 ·have hq := hrd n (by omega) hn2
  refine ⟨hq.1, ?_⟩
  rw [hq.2, hsyn, upd_ne _ _ (by show n.toNat ≠ 1; omega)]
  rw [openE_torn zeros_sec.1 (fun q => by
   have : zeros.getD 0 0 = 0 := rfl
   have := q.2.1
   omega)]
  decide
end

/- the statements' one and made: a small record, and an empty log on a new disk. -/
section
open Go.RowKit
def xOne (tx : Int) : Xr := ⟨6, tx, 0, 0, ⟨#[]⟩, ⟨false, ⟨#[]⟩⟩, ⟨false, ⟨#[]⟩⟩, 0, none, 0, 0, [], none, 0, 0, [], none, 0, 0, [], none, 0, 0, [], none, 0, 0, [], none, 0, 0, []⟩
theorem xOne_in (tx : Int) (H : Nat) (w : World) (h : i64 tx) : XrIn H w (xOne tx) :=
 ⟨i64_of _ rfl, h, i64_of _ rfl, i64_of _ rfl, Nat.zero_le _, Nat.zero_le _, Nat.zero_le _, i64_of _ rfl, Sl.nil _ _ _, Sl.nil _ _ _, Sl.nil _ _ _, Sl.nil _ _ _, Sl.nil _ _ _, Sl.nil _ _ _⟩
theorem num_oneE (n : Nat) (h : n < 128) : numL (n : Int) = [(n : Int)] := by
 rw [numL_nat]
 unfold shortL
 rw [show n / 128 = 0 by omega, hiD_zero]
 simp; omega
theorem xOne_rc (tx : Nat) (h : tx < 128) : rcL (xOne tx).read = [6, (tx : Int), 0] := by
 show numL ((6 : Nat) : Int) ++ (numL ((tx : Nat) : Int) ++ numL ((0 : Nat) : Int)) = _
 rw [num_oneE 6 (by omega), num_oneE tx h, num_oneE 0 (by omega)]
 rfl
theorem xOne_ok (tx : Nat) (h : 1 ≤ tx ∧ tx < 128) : (xOne tx).read.ok := (ok_iff _).1 ⟨⟨by show (1 : Int) ≤ 6; decide, by show (6 : Int) ≤ 10; decide⟩, by
 show (spE 6).ok (xOne tx).read
 exact ⟨⟨by show (1 : Int) ≤ (tx : Int); omega, by show (tx : Int) ≤ 1099511627776; omega⟩, ⟨by show (0 : Int) ≤ 0; decide, by show (0 : Int) ≤ 1099511627776; decide⟩⟩, rfl⟩
theorem xOne_encE (tx : Nat) (h : 1 ≤ tx ∧ tx < 128) : encE (xOne tx).read = 0 := encE_ok (xOne_ok tx h) (by rw [xOne_rc tx h.2]; show ¬ 4096 < 3; decide)
theorem xOne_seal (tx : Nat) (h : tx < 128) : (sealL (rcL (xOne tx).read)).length = 8 := by
 rw [xOne_rc tx h, sealL_len]
 unfold textL
 rw [List.length_append]
 have := num_oneE 3 (by omega)
 rw [numL_nat] at this
 show (shortL 3).length + 3 + 4 = 8
 rw [this]
 rfl
theorem one_any (tx : Int) (w : World) : Calls Tryz.prog 16 #[.int .i64 tx] w (Ret (xOne tx).val w) := by
 obtain ⟨r, hrr⟩ : ∃ r, w.heap.size = r := ⟨_, rfl⟩
 obtain ⟨W1, hW1⟩ : ∃ W1, W1 = w.alloc (.cells xr0.cells 30) := ⟨_, rfl⟩
 have hb1 : Below w.heap.size w W1 := by rw [hW1]; exact (Below.refl _ _).alloc (Nat.le_refl _) _
 have HV : Hid (Bk W1 r 30 xr0.cells) := Lib.hid (by rw [hW1, ← hrr]; exact Bk.new w _ _)
 have HW := Lib.hid (show W1 = w.alloc (.cells #[.int .i64 0, .int .i64 0, .int .i64 0, .int .i64 0, .string ⟨#[]⟩, .bool false, .string ⟨#[]⟩, .bool false, .string ⟨#[]⟩, .int .i64 0, .slice none 0 0, .slice none 0 0, .slice none 0 0, .slice none 0 0, .slice none 0 0, .slice none 0 0] 30) from hW1)
 have RB := Lib.hid (HV.out.rowp (xOne tx).cells)
 have R : Hid (Ret (xOne tx).val w (.returned (.agg (xOne tx).cells)) (W1.setRow r (xOne tx).cells)) := Lib.hid ⟨by rw [Xr.val_eq], below_setRow hb1 (by rw [hrr]; exact Nat.le_refl r) _⟩
 clear hW1 hb1
 go_enter Tryz.func16, Tryz.ntmps16
 go_upto_region 1 with fail
 (try rw [hrr])
 rw [← HW.out]
 clear HW hrr
 go_wp2_with (refine wpList_store_row rfl 30 _ _ rfl r (xOne tx).cells rfl (by rfl) 30 _ HV.out inf_rec rfl (Xr.cells_one _) ?_; simp only [Act.put])
 (try simp only [Exit.inBlock, Exit.then])
 refine bodyPost_ret (results_cell_row rfl _ _ r 30 (xOne tx).cells (0, 0) _ rfl RB.out Tryz.underlying30 rfl inf_rec) rfl ?_
 exact R.out
def lgMade (z : Int) : Lg := { opL0 z msF with m := opM msF }
structure Made (z : Int) (s : St) : Prop where
 up : Up s
 num : (s.num : Int) = 2 + z
 pend : s.pend = []
 syncs : s.syncs = 2
def RetMade (z : Int) (B : Nat) (R : Res) (w : World) (e : Ending) (w' : World) : Prop :=
 ∃ d b s, e = .returned (.tuple #[.pointer (some ⟨d, 0, none⟩), .pointer (some ⟨b, 0, none⟩)]) ∧ Made z s ∧ Has B ((lgR b d (lgMade z)).star ((dsk d s).star R)) w' ∧ Below B w w'
theorem opM_ok : (opM msF).ok := ⟨⟨by decide, by decide⟩, ⟨by decide, by decide⟩, ⟨by decide, by decide⟩, ⟨by decide, by decide⟩, ⟨by decide, by decide⟩⟩
theorem made_any {B : Nat} {R : Res} {w : World} (h : Has B R w) (hB : B ≤ w.heap.size) (hg : 0 < B) (hT : Tab w) (z : Int) (hz : 8 ≤ z ∧ z ≤ 1000) : Calls Tryz.prog 6 #[.int .i64 z] w (RetMade z B R w) := by
 obtain ⟨N, hN⟩ : ∃ N : Nat, (N : Int) = 2 + z := ⟨(2 + z).toNat, by omega⟩
 have CN := Lib.hid (hasD_new h hB N (by omega))
 have hzm : max z 0 = z := by omega
 rw [hN] at CN
 obtain ⟨a1, a2, a3, a4, a5⟩ := (new_up N).save msF_ok (by show 2 ≤ N; omega)
 obtain ⟨l1, l2, l3⟩ := fmt_load (N := N) (by omega)
 have hc : cntB z = true := by unfold cntB; exact decide_eq_true (by omega)
 have hr : ∀ s : St, s.num = N → ringB s z = true := fun s hs => by unfold ringB; rw [hs]; exact decide_eq_true (by omega)
 have ef : fmtE (St.new N) z = 0 := by unfold fmtE; rw [hc, hr _ rfl]; exact a1
 have es : fmtS (St.new N) z = saveS (St.new N) msF := by unfold fmtS; rw [hc, hr _ rfl]; rfl
 have hsec : secOf msF.first z = 2 := by show 2 + (0 : Int) % z = 2; rw [Int.zero_emod]; rfl
 obtain ⟨b1, b2, b3, b4, b5⟩ := a2.save opM_ok (by rw [a3]; show 2 ≤ N; omega)
 have CF := Lib.hid (fun (w1 : World) (d : Nat) (h1 : Has B ((dsk d (St.new N)).star R) w1) (hB1 : B ≤ w1.heap.size) => wgFormat_any h1 hB1 z (by show 0 < 999999; omega) (by show 0 < 999999; omega))
 rw [ef, es] at CF
 have CO := Lib.hid (fun (w1 : World) (d : Nat) (h1 : Has B ((dsk d (saveS (St.new N) msF)).star R) w1) (hB1 : B ≤ w1.heap.size) (hT1 : Tab w1) => wgOpen_none h1 hB1 hT1 z hc (hr _ a3) msF l1 l2 (by unfold sml; decide) (by rw [hsec]; exact (l3 2 (by omega) (by omega)).1) (by rw [hsec]; exact (l3 2 (by omega) (by omega)).2) (by rw [a4]; show 0 < 999999; omega) (by rw [a5]; show 1 < 999999; omega) b1)
 have HM : Hid (Made z (saveS (saveS (St.new N) msF) (opM msF))) := Lib.hid ⟨b2, by rw [b3, a3]; exact hN, b4, by rw [b5, a5]; rfl⟩
 have HT := Lib.hid hT
 have HBB := Lib.hid hB
 obtain ⟨s1, hs1⟩ : ∃ s1, saveS (St.new N) msF = s1 := ⟨_, rfl⟩
 rw [hs1] at CF CO HM
 obtain ⟨s2, hs2⟩ : ∃ s2, saveS s1 (opM msF) = s2 := ⟨_, rfl⟩
 rw [hs2] at CO HM
 clear h hT hB a1 a2 a3 a4 a5 l1 l2 l3 hc hr ef es hsec b1 b2 b3 b4 b5 hs1 hs2
 go_enter Tryz.func6, Tryz.ntmps6
 go_wp2_with fail
 refine CN.out.mono ?_
 rintro e w1 ⟨d, rfl, h1, b1⟩
 have hB1 : B ≤ w1.heap.size := Nat.le_trans HBB.out b1.size
 have T1 := HT.out.ret b1
 have B1 : Hid (Below B w w1) := Lib.hid (b1.mono HBB.out)
 have CF1 := Lib.hid (CF.out w1 d h1 hB1)
 have HT1 := Lib.hid T1
 clear h1 b1 T1 CN CF
 go_wp2_with fail
 refine CF1.out.mono ?_
 rintro e w2 ⟨rfl, h2, b2⟩
 have hB2 : B ≤ w2.heap.size := Nat.le_trans hB1 b2.size
 have CO2 := Lib.hid (CO.out w2 d h2 hB2 (HT1.out.below b2 hg))
 have B2 : Hid (Below B w w2) := Lib.hid (B1.out.trans b2)
 clear h2 b2 CF1 CO
 go_wp2_with fail
 refine CO2.out.mono ?_
 rintro e w3 ⟨b, rfl, h3, b3⟩
 have R9 : Hid (RetMade z B R w (.returned (.tuple #[.pointer (some ⟨d, 0, none⟩), .pointer (some ⟨b, 0, none⟩)])) w3) := Lib.hid ⟨d, b, s2, rfl, HM.out, h3, B2.out.trans b3⟩
 clear h3 b3 CO2
 go_wp2_with fail
 go_ret2
 exact R9.out
end

/- plain mathematics of logs of small records, each forced. No program is named. -/
section
open Go.RowKit
def rcsN (f : Nat → Nat) (k : Nat) : List (Rc × Int) := (List.range k).map (fun i => ((xOne (f i)).read, (i : Int)))
def lgN (z : Int) (f : Nat → Nat) (k : Nat) : Lg := ⟨z, opM msF, rcsN f k, k, [], 0, k, false⟩
def lgW (z : Int) (f : Nat → Nat) (k : Nat) : Lg := ⟨z, opM msF, rcsN f (k + 1), k, [rcL (xOne (f k)).read], 8, k, false⟩
theorem lgMade_eq (z : Int) (f : Nat → Nat) : lgMade z = lgN z f 0 := rfl
theorem rcsN_len (f : Nat → Nat) (k : Nat) : (rcsN f k).length = k := by simp [rcsN]
theorem rcsN_next (f : Nat → Nat) (k : Nat) : rcsN f (k + 1) = rcsN f k ++ [((xOne (f k)).read, (k : Int))] := by simp [rcsN, List.range_succ]
theorem rcsN_get (f : Nat → Nat) (k i : Nat) (h : i < k) (d : Rc × Int) : (rcsN f k).getD i d = ((xOne (f i)).read, (i : Int)) := by
 unfold rcsN
 simp [List.getD, h]
def fOk (f : Nat → Nat) : Prop := ∀ i, 1 ≤ f i ∧ f i < 128
theorem rcsN_enc {f : Nat → Nat} (hf : fOk f) (k : Nat) : ∀ r ∈ rcsN f k, encE r.1 = 0 := fun r hr => by
 obtain ⟨i, hi, rfl⟩ := List.mem_map.1 hr
 exact xOne_encE (f i) (hf i)
theorem smM : sml (opM msF).gen ∧ sml (opM msF).inc ∧ sml (opM msF).first ∧ sml (opM msF).lsn ∧ sml (opM msF).chk := by unfold sml; decide
section
variable {z : Int} {f : Nat → Nat} {k : Nat}
theorem lgN_fit (hz : 8 ≤ z ∧ z ≤ 1000) (hk : k ≤ 1000) : (lgN z f k).Fit :=
 ⟨⟨by show 0 ≤ z; omega, by show z ≤ _; omega⟩, smM.1, smM.2.1, smM.2.2.1, smM.2.2.2.1, smM.2.2.2.2, ⟨by show (0 : Int) ≤ (k : Int); omega, by show (k : Int) ≤ _; omega⟩, ⟨by show (0 : Int) ≤ 0; omega, by show (0 : Int) ≤ _; omega⟩, ⟨by show (0 : Int) ≤ (k : Int); omega, by show (k : Int) ≤ _; omega⟩, by show (0 : Int) ≤ _; omega, by show (rcsN f k).length ≤ _; rw [rcsN_len]; omega, by show 0 ≤ 1000; omega⟩
theorem lgW_fit (hz : 8 ≤ z ∧ z ≤ 1000) (hk : k ≤ 1000) : (lgW z f k).Fit :=
 ⟨⟨by show 0 ≤ z; omega, by show z ≤ _; omega⟩, smM.1, smM.2.1, smM.2.2.1, smM.2.2.2.1, smM.2.2.2.2, ⟨by show (0 : Int) ≤ (k : Int); omega, by show (k : Int) ≤ _; omega⟩, ⟨by show (0 : Int) ≤ 8; omega, by show (8 : Int) ≤ _; omega⟩, ⟨by show (0 : Int) ≤ (k : Int); omega, by show (k : Int) ≤ _; omega⟩, by show (8 : Int) ≤ _; omega, by show (rcsN f (k + 1)).length ≤ _; rw [rcsN_len]; omega, by show 1 ≤ 1000; omega⟩
theorem lgN_last : (lgN z f k).last = k := by show (1 : Int) + ((rcsN f k).length : Int) - 1 = k; rw [rcsN_len]; omega
theorem lgN_used : (lgN z f k).used = k := by
 show ((k : Int) - 0) + shI 0 = k
 have : shI 0 = 0 := by decide
 rw [this]; omega
theorem lgN_apL (hf : fOk f) : (lgN z f k).apL (xOne (f k)).read = lgW z f k := by
 unfold Lg.apL lgW lgN
 simp only [Lg.mk.injEq, true_and]
 refine ⟨?_, by simp, ?_, trivial⟩
 ·rw [rcsN_next]
  simp
 ·rw [xOne_seal (f k) (hf k).2]
  rfl
theorem lgN_ap (hf : fOk f) (sp : Int) : (lgN z f k).apE (xOne (f k)).read sp = if z - max sp 0 < (k : Int) + 1 then 90 else 0 := by
 unfold Lg.apE
 rw [if_neg (show ¬ (lgN z f k).down = true from fun q => by cases q), if_neg (by rw [xOne_encE (f k) (hf k)]; simp), xOne_seal (f k) (hf k).2]
 show (if z - max sp 0 < ((k : Int) - 0) + shI (0 + (8 : Nat)) then (90 : Int) else 0) = _
 have : shI (0 + ((8 : Nat) : Int)) = 1 := by decide
 rw [this]
 have e : (k : Int) - 0 + 1 = (k : Int) + 1 := by omega
 rw [e]
theorem lgN_app (hf : fOk f) {sp : Int} (h : (k : Int) + 1 ≤ z - max sp 0) : (lgN z f k).apE (xOne (f k)).read sp = 0 ∧ (lgN z f k).app (xOne (f k)).read sp = lgW z f k ∧ (lgN z f k).apN (xOne (f k)).read sp = (k : Int) + 1 := by
 have e : (lgN z f k).apE (xOne (f k)).read sp = 0 := by rw [lgN_ap hf, if_neg (by omega)]
 refine ⟨e, ?_, ?_⟩
 ·unfold Lg.app; rw [if_pos e, lgN_apL hf]
 ·unfold Lg.apN; rw [if_pos e, lgN_last]
theorem lgW_lay (hf : fOk f) (hk : k ≤ 1000) : (lgW z f k).layE = 0 ∧ (lgW z f k).layS.length = 1 ∧ (∀ x ∈ (lgW z f k).layS, storP x) ∧ (allL (lgW z f k).wait).length = 8 := by
 have ha : (allL [rcL (xOne (f k)).read]).length = 8 := by
  have : allL [rcL (xOne (f k)).read] = sealL (rcL (xOne (f k)).read) := by simp [allL]
  rw [this, xOne_seal (f k) (hf k).2]
 have e : (lgW z f k).layE = 0 := by
  show layErr 1 (k : Int) [rcL (xOne (f k)).read] = 0
  unfold layErr
  rw [if_neg, if_neg, if_neg]
  ·rw [ha]
   have : shN 8 = 1 := by decide
   rw [this]; omega
  ·rintro ⟨b, hb, q⟩
   simp at hb
   subst hb
   have := (encE_zero (xOne_encE (f k) (hf k))).2
   omega
  ·rintro (q | q)
   ·cases q
   ·unfold isSeqB at q
    have := of_decide_eq_false q
    omega
 have e2 : (lgW z f k).layS = layShs 1 (k : Int) [rcL (xOne (f k)).read] := if_pos e
 refine ⟨e, by rw [e2, layShs_len, ha]; decide, ?_, ha⟩
 rw [e2]
 refine lay_stor e (fun b hb => ?_)
 simp at hb
 subst hb
 rw [xOne_rc (f k) (hf k).2]
 intro x hx
 have := (hf k).2
 simp at hx
 omega
theorem lgW_fc (hf : fOk f) (hk : k ≤ 1000) (hz : 8 ≤ z) {s : St} (h : Up s) (hn : (s.num : Int) = 2 + z) : (lgW z f k).fcE s = 0 ∧ (lgW z f k).fcL s = lgN z f (k + 1) ∧ Up ((lgW z f k).fcS s) ∧ ((lgW z f k).fcS s).num = s.num ∧ ((lgW z f k).fcS s).pend = [] ∧ ((lgW z f k).fcS s).syncs = s.syncs + 1 := by
 obtain ⟨l1, l2, l3, _⟩ := lgW_lay (z := z) hf hk
 obtain ⟨w1, w2, w3, w4, w5⟩ := wrAll_up (lgW z f k).layS s z h (by omega) (by omega) l3
 have hd : ¬ (lgW z f k).down = true := fun q => by cases q
 have hw : ¬ (lgW z f k).wait = [] := fun q => by cases q
 have hl : ¬ (lgW z f k).layE ≠ 0 := fun q => q l1
 have hc : (lgW z f k).count = z := rfl
 refine ⟨?_, ?_, ?_⟩
 ·unfold Lg.fcE
  rw [if_neg hd, if_neg hw, if_neg hl, hc, w1]
 ·unfold Lg.fcL
  rw [if_neg hd, if_neg hw, if_neg hl, hc, if_neg (by rw [w1]; simp), l2]
  unfold Lg.wrote lgN lgW
  simp only [Lg.mk.injEq, true_and]
  exact ⟨by omega, by omega, trivial⟩
 ·have e : (lgW z f k).fcS s = (wrAll z s (lgW z f k).layS).1 := by
   unfold Lg.fcS
   rw [if_neg hd, if_neg hw, if_neg hl, hc]
  rw [e]
  exact ⟨w2, w3, w4, w5⟩
theorem lgN_get (i : Nat) (hi : i < k) : (lgN z f k).gtE ((i : Int) + 1) = 0 ∧ (lgN z f k).gtR ((i : Int) + 1) = (xOne (f i)).read := by
 have e : (lgN z f k).gtE ((i : Int) + 1) = 0 := by
  unfold Lg.gtE
  rw [if_neg (show ¬ (lgN z f k).down = true from fun q => by cases q), if_neg]
  rw [lgN_last]
  show ¬ ((i : Int) + 1 < 1 ∨ (k : Int) < (i : Int) + 1)
  omega
 refine ⟨e, ?_⟩
 unfold Lg.gtR
 rw [if_pos e]
 have : ((i : Int) + 1 - (lgN z f k).m.lsn).toNat = i := by show ((i : Int) + 1 - 1).toNat = i; omega
 rw [this]
 show ((rcsN f k).getD i _).1 = _
 rw [rcsN_get f k i hi]
end
end

/- Append, Force and the numbers of a log of small records. -/
section
open Go.RowKit
structure Dk (z : Int) (n : Nat) (s : St) : Prop where
 up : Up s
 num : (s.num : Int) = 2 + z
 pend : s.pend = []
 syncs : s.syncs ≤ n
theorem Made.dk {z : Int} {s : St} (h : Made z s) : Dk z 2 s := ⟨h.up, h.num, h.pend, by rw [h.syncs]; exact Nat.le_refl _⟩
section
variable {B : Nat} {R : Res} {w : World} {b d : Nat} {z : Int} {f : Nat → Nat} {k : Nat} {s : St}
theorem lgN_append (h : Has B ((lgR b d (lgN z f k)).star R) w) (hB : B ≤ w.heap.size) (hT : Tab w) (hf : fOk f) (hz : 8 ≤ z ∧ z ≤ 1000) (hk : k ≤ 900) (sp : Int) (hsp : -9223372036854775808 ≤ sp ∧ sp ≤ 9223372036854775807) (hr : (k : Int) + 1 ≤ z - max sp 0) :
  Calls Tryz.prog 8 #[.pointer (some ⟨b, 0, none⟩), (xOne (f k)).val, .int .i64 sp] w (RetHas (.tuple #[.int .i64 ((k : Int) + 1), .int .i64 0]) B ((lgR b d (lgW z f k)).star R) w) := by
 have C := wgAppend_any h hB (lgN_fit hz (by omega)) hT (xOne (f k)) (fun _ => by rw [lgN_apL hf]; exact lgW_fit hz (by omega)) (xOne_in _ _ _ (by have := hf k; unfold i64; omega)) sp hsp
 obtain ⟨e1, e2, e3⟩ := lgN_app (z := z) hf (k := k) (sp := sp) hr
 rw [e1, e2, e3] at C
 exact C
def RetFc (L : Lg) (z : Int) (n b d B : Nat) (R : Res) (w : World) (e : Ending) (w' : World) : Prop := ∃ s', e = .returned (.int .i64 0) ∧ Dk z n s' ∧ Has B ((lgR b d L).star ((dsk d s').star R)) w' ∧ Below B w w'
theorem lgW_force {n : Nat} (h : Has B ((lgR b d (lgW z f k)).star ((dsk d s).star R)) w) (hB : B ≤ w.heap.size) (hT : Tab w) (hf : fOk f) (hz : 8 ≤ z ∧ z ≤ 1000) (hk : k ≤ 900) (hs : Dk z n s) (hn : n ≤ 90000) :
  Calls Tryz.prog 11 #[.pointer (some ⟨b, 0, none⟩)] w (RetFc (lgN z f (k + 1)) z (n + 1) b d B R w) := by
 obtain ⟨_, _, _, l4⟩ := lgW_lay (z := z) (f := f) (k := k) hf (by omega)
 have C := wgForce_any h hB (lgW_fit hz (by omega)) hT (by show 1 ≤ z ∧ z ≤ 100000; omega) (by rw [l4]; omega) (by rw [hs.pend]; show 0 ≤ 900000; omega) (by have := hs.syncs; omega)
 obtain ⟨e1, e2, e3, e4, e5, e6⟩ := lgW_fc (f := f) (k := k) hf (by omega) hz.1 hs.up hs.num
 rw [e1, e2] at C
 refine C.mono ?_
 rintro e w' ⟨he, hh, hb⟩
 exact ⟨_, he, ⟨e3, by rw [e4]; exact hs.num, e5, by rw [e6]; have := hs.syncs; omega⟩, hh, hb⟩
theorem lgN_nums (h : Has B ((lgR b d (lgN z f k)).star R) w) (hz : 8 ≤ z ∧ z ≤ 1000) (hk : k ≤ 900) :
  Calls Tryz.prog 13 #[.pointer (some ⟨b, 0, none⟩)] w (Ret (.int .i64 1) w) ∧ Calls Tryz.prog 14 #[.pointer (some ⟨b, 0, none⟩)] w (Ret (.int .i64 (k : Int)) w) ∧ Calls Tryz.prog 15 #[.pointer (some ⟨b, 0, none⟩)] w (Ret (.int .i64 (k : Int)) w) := by
 obtain ⟨F, A, n, c, xs, Q, p, q, vs, G, ha⟩ := lgR_at h
 have hn : (lgN z f k).recs.length = n := by rw [← ha.read, List.length_map]; exact ha.len
 have c1 := wgGetFirst_any ha.bk
 have c2 := wgGetLast_any ha.bk (lgN_fit hz (by omega)) hn
 have c3 := wgGetUsed_any ha.bk (lgN_fit hz (by omega))
 rw [lgN_last] at c2
 rw [lgN_used] at c3
 exact ⟨c1, c2, c3⟩
theorem lgN_Get (h : Has B ((lgR b d (lgN z f k)).star R) w) (hf : fOk f) (hz : 8 ≤ z ∧ z ≤ 1000) (hk : k ≤ 900) (i : Nat) (hi : i < k) :
  Calls Tryz.prog 10 #[.pointer (some ⟨b, 0, none⟩), .int .i64 ((i : Int) + 1)] w (RetGet (xOne (f i)).read 0 w) := by
 have C := wgGet_any (lgR_at h) (lgN_fit hz (by omega)) (rcsN_enc hf k) ((i : Int) + 1) (by omega)
 obtain ⟨e1, e2⟩ := lgN_get (z := z) (f := f) (k := k) i hi
 rw [e1, e2] at C
 exact C
end
def f3 : Nat → Nat := fun _ => 3
theorem f3_ok : fOk f3 := fun _ => ⟨by show 1 ≤ 3; omega, by show 3 < 128; omega⟩
theorem awake9_any {B : Nat} {R : Res} {w : World} (h : Has B R w) (hB : B ≤ w.heap.size) (hg : 0 < B) (hT : Tab w) : Calls Tryz.prog 5 #[] w (RetHas (.bool true) B R w) := by
 have CM := Lib.hid (made_any h hB hg hT 8 (by omega))
 have HT := Lib.hid hT
 have HBB := Lib.hid hB
 clear h hT hB
 go_enter Tryz.func5, Tryz.ntmps5
 go_wp2_with fail
 refine CM.out.mono ?_
 rintro e w1 ⟨d, b, s, rfl, hm, h1, b1⟩
 have hB1 : B ≤ w1.heap.size := Nat.le_trans HBB.out b1.size
 have T1 := Lib.hid (HT.out.below b1 hg)
 rw [lgMade_eq 8 f3] at h1
 have B1 := Lib.hid b1
 have H1 := Lib.hid h1
 have D1 := Lib.hid hm.dk
 have N1 := Lib.hid (lgN_nums h1 (by omega) (by omega))
 clear h1 b1 hm CM
 go_wp2_with fail
 refine N1.out.1.mono ?_
 rintro e w2 ⟨rfl, b2⟩
 have B2 := Lib.hid b2
 have N2 := Lib.hid (lgN_nums (H1.out.below b2) (by omega) (by omega))
 clear b2 N1
 go_wp2_with fail
 refine N2.out.2.1.mono ?_
 rintro e w3 ⟨rfl, b3⟩
 have B3 : Hid (Below w1.heap.size w1 w3) := Lib.hid (B2.out.trans (b3.mono B2.out.size))
 have N3 := Lib.hid (lgN_nums (H1.out.below B3.out) (by omega) (by omega))
 clear b3 N2
 go_wp2_with fail
 refine N3.out.2.2.mono ?_
 rintro e w4 ⟨rfl, b4⟩
 have B4 : Hid (Below w1.heap.size w1 w4) := Lib.hid (B3.out.trans (b4.mono B3.out.size))
 have CO := Lib.hid (one_any 3 w4)
 clear b4 N3
 go_wp2_with fail
 refine CO.out.mono ?_
 rintro e w5 ⟨rfl, b5⟩
 have B5 : Hid (Below w1.heap.size w1 w5) := Lib.hid (B4.out.trans (b5.mono B4.out.size))
 have hB5 : B ≤ w5.heap.size := Nat.le_trans hB1 B5.out.size
 have CA := Lib.hid (lgN_append (H1.out.below B5.out) hB5 (T1.out.ret B5.out) f3_ok (by omega) (by omega) 0 (by omega) (by show (0 : Int) + 1 ≤ 8 - max 0 0; omega))
 have B5w : Hid (Below B w w5) := Lib.hid (B1.out.trans (B5.out.mono hB1))
 have ex : (xOne ((f3 0 : Nat) : Int)).val = (xOne 3).val := rfl
 rw [ex] at CA
 clear b5 CO ex
 go_wp2_with fail
 refine CA.out.mono ?_
 rintro e w6 ⟨rfl, h6, b6⟩
 have hB6 : B ≤ w6.heap.size := Nat.le_trans hB5 b6.size
 have B6 : Hid (Below B w w6) := Lib.hid (B5w.out.trans b6)
 have T6 := Lib.hid (HT.out.below B6.out hg)
 have CF := Lib.hid (lgW_force h6 hB6 T6.out f3_ok (by omega) (by omega) D1.out (by omega))
 clear h6 b6 CA
 go_wp2_with fail
 refine CF.out.mono ?_
 rintro e w7 ⟨s7, rfl, d7, h7, b7⟩
 have hB7 : B ≤ w7.heap.size := Nat.le_trans hB6 b7.size
 have B7 : Hid (Below B w w7) := Lib.hid (B6.out.trans b7)
 have CG : Hid (Calls Tryz.prog 10 #[.pointer (some ⟨b, 0, none⟩), .int .i64 1] w7 (RetGet (xOne (f3 0)).read 0 w7)) := Lib.hid (lgN_Get h7 f3_ok (by omega) (by omega) 0 (by omega))
 have H7 := Lib.hid h7
 clear h7 b7 CF d7
 go_wp2_with fail
 refine CG.out.mono ?_
 rintro e w8 ⟨x, rfl, _, _, hrd, b8, _⟩
 have htx : x.tx = 3 := congrArg Rc.tx hrd
 obtain ⟨C, hC⟩ : ∃ C, C = x.cells := ⟨_, rfl⟩
 have HC1 : Hid (C.all (·.oneCell') = true ∧ C.size = 16) := Lib.hid (by rw [hC]; exact ⟨Xr.cells_one x, rfl⟩)
 obtain ⟨q, hq⟩ : ∃ q, w8.heap.size = q := ⟨_, rfl⟩
 obtain ⟨W9, hW9⟩ : ∃ W9, W9 = w8.alloc (.cells C 30) := ⟨_, rfl⟩
 have b9 : Below w8.heap.size w8 W9 := by rw [hW9]; exact (Below.refl _ _).alloc (Nat.le_refl _) _
 have y1 : W9.cell? ⟨q, 1, none⟩ = some (.int .i64 3) := by
  have e := (Bk.new w8 30 C).cell 1
  rw [hW9, ← hq, e, hC]
  show some (Value.int .i64 x.tx) = _
  rw [htx]
 have N9 := Lib.hid (lgN_nums ((H7.out.below b8).below b9) (by omega) (by omega))
 have B9 : Hid (Below B w W9 ∧ Has B R W9) := Lib.hid ⟨(B7.out.trans (b8.mono hB7)).trans (b9.mono (Nat.le_trans hB7 b8.size)), ((H7.out.below b8).below b9).snd.snd⟩
 have hB9 : B ≤ W9.heap.size := Nat.le_trans (Nat.le_trans hB7 b8.size) b9.size
 have HQ := Lib.hid hq
 have HW9 := Lib.hid hW9
 rw [Xr.val_eq, ← hC]
 clear b8 hrd hC b9 hq hW9 CG htx
 go_upto_region 7 with (refine wpList_store_new rfl (W := w8) rfl (c := xr0.cells) (c' := C) rfl (by first | rfl | (rw [HQ.out]; rfl)) rfl (by rw [HC1.out.2]; exact inf_rec) (by rw [HC1.out.2]; rfl) HC1.out.1 ?_; simp only [Act.put])
 (try rw [HQ.out])
 rw [← HW9.out]
 clear HW9
 go_wp2_with fail
 refine N9.out.2.2.mono ?_
 rintro e w10 ⟨rfl, b10⟩
 have R9 : Hid (RetHas (.bool true) B R w (.returned (.bool true)) w10) := Lib.hid ⟨rfl, B9.out.2.below b10, B9.out.1.trans (b10.mono hB9)⟩
 clear b10 N9
 go_wp2_with fail
 go_ret
 exact R9.out
end

/- what a row of bytes reads as while its bits are turned, one behind the other. No program's function is named; no condition. -/
section
open Go.RowKit
end
end Go.Proofs.YtfmfmdiegabobabGreatDoor
