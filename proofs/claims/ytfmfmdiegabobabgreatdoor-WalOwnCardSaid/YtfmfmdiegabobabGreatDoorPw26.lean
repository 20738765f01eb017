/- What it says: contracts and plain mathematics that the laws' walks use, 26 of 33: each part's own remark says what; no condition. -/
import Derived.Test.YtfmfmdiegabobabGreatDoorPw1
import Derived.Test.YtfmfmdiegabobabGreatDoorPw6
import Derived.Test.YtfmfmdiegabobabGreatDoorPw13
import Derived.Test.YtfmfmdiegabobabGreatDoorPw14
import Derived.Test.YtfmfmdiegabobabGreatDoorPw23
import Derived.Test.YtfmfmdiegabobabGreatDoorPw25
import Derived.Lib.AppendZerosOnto
import Derived.Laws.Build
import Derived.Laws.MakeOwn
import Derived.Deep.QuietTactic
import Derived.BigQuiet
import Derived.LoopTactic
import Derived.Deep.CutBlock

set_option linter.unusedSimpArgs false
set_option linter.unusedVariables false
set_option linter.deprecated false
set_option linter.unusedSectionVars false
set_option linter.all false
set_option maxRecDepth 100000
set_option maxHeartbeats 16000000
namespace Go.Proofs.YtfmfmdiegabobabGreatDoor
theorem q1Pw26 {α : Type} (l : List α) (i : Nat) (x : α) : l.toArray.setIfInBounds i x = (l.set i x).toArray := by simp
theorem q2Pw26 {α : Type} (a : α) (l : List α) (x : α) : (a :: l).set 0 x = x :: l := rfl
theorem q3Pw26 {α : Type} (a : α) (l : List α) (i : Nat) (x : α) : (a :: l).set (i + 1) x = a :: l.set i x := rfl

/- master.Save at a disk among other things: what it answers, what becomes of the disk; at no disk. -/
section
open Go.RowKit
def saveE (s : St) (m : Ms) : Int := if ¬ m.ok then 1 else if putE s (m.gen % 2) (bodyM m) ≠ 0 then putE s (m.gen % 2) (bodyM m) else (putS s (m.gen % 2) (bodyM m)).sErr
def saveS (s : St) (m : Ms) : St := if ¬ m.ok then s else if putE s (m.gen % 2) (bodyM m) ≠ 0 then putS s (m.gen % 2) (bodyM m) else (putS s (m.gen % 2) (bodyM m)).sync
theorem Bk.rangeC {w : World} {g : Nat} {t : TypeId} {cs : Array Value} (h : Bk w g t cs) : w.rangeAt g 0 cs.toList := fun j v hv => by
 have := h.cell (0 + j)
 rw [this, Nat.zero_add, ← Array.getElem?_toList]
 exact hv
theorem save_any {B : Nat} {R : Res} {w : World} {b : Nat} {s : St} (h : Has B ((dsk b s).star R) w) (hB : B ≤ w.heap.size) (m : Ms) (hm : m.fits) (hlim : s.pend.length < 999999) (hlim2 : (putS s (m.gen % 2) (bodyM m)).syncs < 999999) :
  Calls Tryz.prog 39 #[.pointer (some ⟨b, 0, none⟩), msV m] w (RetHas (.int .i64 (saveE s m)) B ((dsk b (saveS s m)).star R) w) := by
 obtain ⟨W0, hW0⟩ : ∃ W0, W0 = w.alloc (.cells #[.int .i64 m.gen, .int .i64 m.inc, .int .i64 m.first, .int .i64 m.lsn, .int .i64 m.chk] 63) := ⟨_, rfl⟩
 have HK0 : Hid (Bk W0 w.heap.size 63 (msC m)) := Lib.hid (by rw [hW0]; exact Bk.new w _ _)
 have HB0 : Hid (Below w.heap.size w W0) := Lib.hid (by rw [hW0]; exact (Below.refl _ _).alloc (Nat.le_refl _) _)
 have HD0 : Hid (Has B ((dsk b s).star R) W0) := Lib.hid (h.below HB0.out)
 have CV : Hid (∀ w, Calls Tryz.prog 56 #[.agg #[.int .i64 m.gen, .int .i64 m.inc, .int .i64 m.first, .int .i64 m.lsn, .int .i64 m.chk]] w (Ret (.bool (decide m.ok)) w)) := Lib.hid (fun w => isValid_any m w)
 have HW0 := Lib.hid hW0
 have HM := Lib.hid hm
 by_cases hok : m.ok
 ·by_cases hp : putE s (m.gen % 2) (bodyM m) = 0
  ·have E : Hid (saveE s m = (putS s (m.gen % 2) (bodyM m)).sErr ∧ saveS s m = (putS s (m.gen % 2) (bodyM m)).sync) := Lib.hid ⟨by unfold saveE; rw [if_neg (by simpa using hok), if_neg (by omega)], by unfold saveS; rw [if_neg (by simpa using hok), if_neg (by omega)]⟩
   rw [E.out.1, E.out.2, show msV m = .agg #[.int .i64 m.gen, .int .i64 m.inc, .int .i64 m.first, .int .i64 m.lsn, .int .i64 m.chk] from rfl]
   rw [decide_eq_true hok] at CV
   have HOK := Lib.hid hok
   clear h hm hW0 E hok
   go_enter Tryz.func39, Tryz.ntmps39
   go_wp2_with fail
   (try rw [← HW0.out])
   refine (CV.out _).mono ?_
   rintro e W1 ⟨rfl, b1⟩
   have HB1 : Hid (Below W0.heap.size W0 W1) := Lib.hid b1
   have HK1 := Lib.hid (HK0.out.later HB1.out)
   have HD1 := Lib.hid (HD0.out.below HB1.out)
   have HS1 : Hid (w.heap.size < W1.heap.size) := Lib.hid HK1.out.lt
   clear b1 CV
   go_wp2_with fail
   have hu := Tryz.underlying63
   have hsz : (Tryz.prog.info? 63).map (·.size) = some (msC m).toList.length := by kernel_rfl
   have KS : Hid (∀ W, Below W1.heap.size W1 W → W.heap[w.heap.size]? = some (.cells (msC m) 63 (0, 0))) := Lib.hid (fun W hb => HK1.out.later hb)
   have hS0 := KS.out W1.drew (Below.refl _ _).drew
   refine wp_region_noPanic ?_
   refine upto_start (fun w' => w'.heap[w.heap.size]? = some (.cells (msC m) 63 (0, 0))) 5 (by kernel_rfl) ?_
   change Upto _ _ _ _ _ 7 _ _ _
   refine Upto.take (i := 0) (v := .pointer (some ⟨b, 0, none⟩)) rfl (by kernel_rfl) (fun _ _ _ h => h) rfl (fun w' hS => by go_simp; (try with_reducible rfl)) hS0 ?_
   simp only [Act.put, q1Pw26, q2Pw26, q3Pw26]
   refine Upto.take (i := 1) (v := .agg (msC m)) rfl (by kernel_rfl) (fun _ _ _ h => h) rfl (fun w' hS => exec_load rfl (by rfl) (Bk.rangeC hS) hu rfl hsz) hS0 ?_
   simp only [Act.put, q1Pw26, q2Pw26, q3Pw26]
   refine Upto.take (i := 3) (v := .agg (msC m)) rfl (by kernel_rfl) (fun _ _ _ h => h) rfl (fun w' hS => exec_load rfl (by rfl) (Bk.rangeC hS) hu rfl hsz) hS0 ?_
   simp only [Act.put, q1Pw26, q2Pw26, q3Pw26]
   have CS : Hid (∀ w, Calls Tryz.prog 57 #[.agg (msC m)] w (Ret (.int .i64 (m.gen % 2)) w)) := Lib.hid (fun w => sectorOf_any m w (by have := HOK.out.gen; omega))
   have CE : Hid (∀ w, Calls Tryz.prog 58 #[.agg (msC m)] w (RetOwn (bodyM m) w)) := Lib.hid (fun w => encode_any m HM.out w)
   have CP : Hid (∀ W A n c, Below W1.heap.size W1 W → Byt W A n c (bodyM m) → Calls Tryz.prog 51 #[.pointer (some ⟨b, 0, none⟩), .int .i64 (m.gen % 2), .slice A n c] W (fun e w' => e = .returned (.int .i64 (putE s (m.gen % 2) (bodyM m))) ∧ Has B ((dsk b (putS s (m.gen % 2) (bodyM m))).star R) w' ∧ Below B w w' ∧ w.heap.size ≤ w'.heap.size)) := Lib.hid (fun W A n c hb hy => by
    have hw : Below w.heap.size w W := HB0.out.trans ((HB1.out.trans (hb.mono HB1.out.size)).mono HB0.out.size)
    exact (stPut_any (HD1.out.below hb) (Nat.le_trans hB hw.size) A n c (bodyM m) hy (m.gen % 2) (by omega) hlim).mono fun e w' ⟨h1, h2, h3⟩ => ⟨h1, h2, (hw.mono hB).trans h3, Nat.le_trans hw.size h3.size⟩)
   have CY : Hid (∀ w', Has B ((dsk b (putS s (m.gen % 2) (bodyM m))).star R) w' → w.heap.size ≤ w'.heap.size → Calls Tryz.prog 53 #[.pointer (some ⟨b, 0, none⟩)] w' (RetHas (.int .i64 (putS s (m.gen % 2) (bodyM m)).sErr) B ((dsk b (putS s (m.gen % 2) (bodyM m)).sync).star R) w')) := Lib.hid (fun w' h' hs => hasD_sync h' (Nat.le_trans hB hs) hlim2)
   obtain ⟨z, hz⟩ : ∃ z, m.gen % 2 = z := ⟨_, rfl⟩
   rw [hz] at CS CP CY hp ⊢
   obtain ⟨ps, hps⟩ : ∃ ps, putS s z (bodyM m) = ps := ⟨_, rfl⟩
   rw [hp, hps] at CP
   rw [hps] at CY ⊢
   have HZ := Lib.hid hz
   have HPS := Lib.hid hps
   clear hz hp hps hlim hlim2 HD0 HD1 HW0 HOK HM
   refine Upto.law (i := 2) rfl (by kernel_rfl) rfl (fun K hK => ?_)
   refine wp_enter (f := 57) (args := #[.agg (msC m)]) (by go_simp; (try with_reducible rfl)) (CS.out _) ?_
   rintro e W2 ⟨rfl, hbs⟩
   have W2B : Hid (Below W1.heap.size W1 W2) := Lib.hid (by
    have q := (Below.refl W1.heap.size W1).drew
    exact q.trans (hbs.mono q.size))
   clear hbs
   refine ⟨_, rfl, hK _ _ (KS.out _ W2B.out) ?_⟩
   clear hK
   simp only [Act.put, q1Pw26, q2Pw26, q3Pw26]
   refine Upto.law (i := 4) rfl (by kernel_rfl) rfl (fun K hK => ?_)
   refine wp_enter (f := 58) (args := #[.agg (msC m)]) (by go_simp; (try with_reducible rfl)) (CE.out _) ?_
   rintro e W3 ⟨A, n, c, rfl, ho, hr, hbs⟩
   have W3B : Hid (Below W1.heap.size W1 W3) := Lib.hid (by
    have q := W2B.out
    exact q.trans (hbs.mono q.size))
   have HY := Lib.hid (Byt.of_own ho hr)
   clear ho hr hbs
   refine ⟨_, rfl, hK _ _ (KS.out _ W3B.out) ?_⟩
   clear hK
   simp only [Act.put, q1Pw26, q2Pw26, q3Pw26]
   have CP1 := Lib.hid (CP.out W3 A n c W3B.out HY.out)
   clear CP HY W2B W3B KS CS CE HB0 HK0 HB1 HK1 HS1 hS0
   refine Upto.tail rfl (by kernel_rfl) ?_
   simp only [List.drop_succ_cons, List.drop_zero]
   go_wp2_with fail
   refine CP1.out.mono ?_
   rintro e W4 ⟨rfl, h4, b4, s4⟩
   have H4 := Lib.hid h4
   have B4 := Lib.hid b4
   have CY1 := Lib.hid (CY.out W4 h4 s4)
   clear h4 b4 s4 CP1 CY
   go_wp2_with fail
   refine NoPanic.normal ?_
   go_wp2_with fail
   refine CY1.out.mono ?_
   rintro e W5 ⟨rfl, h5, b5⟩
   have R5 := Lib.hid (And.intro h5 (B4.out.trans b5))
   clear h5 b5 CY1
   go_wp2_with fail
   go_ret
   rw [HZ.out, HPS.out]
   exact ⟨rfl, R5.out.1, R5.out.2⟩
  ·have E : Hid (saveE s m = putE s (m.gen % 2) (bodyM m) ∧ saveS s m = putS s (m.gen % 2) (bodyM m)) := Lib.hid ⟨by unfold saveE; rw [if_neg (by simpa using hok), if_pos hp], by unfold saveS; rw [if_neg (by simpa using hok), if_pos hp]⟩
   rw [E.out.1, E.out.2, show msV m = .agg #[.int .i64 m.gen, .int .i64 m.inc, .int .i64 m.first, .int .i64 m.lsn, .int .i64 m.chk] from rfl]
   rw [decide_eq_true hok] at CV
   have HOK := Lib.hid hok
   clear h hm hW0 E hok
   go_enter Tryz.func39, Tryz.ntmps39
   go_wp2_with fail
   (try rw [← HW0.out])
   refine (CV.out _).mono ?_
   rintro e W1 ⟨rfl, b1⟩
   have HB1 : Hid (Below W0.heap.size W0 W1) := Lib.hid b1
   have HK1 := Lib.hid (HK0.out.later HB1.out)
   have HD1 := Lib.hid (HD0.out.below HB1.out)
   have HS1 : Hid (w.heap.size < W1.heap.size) := Lib.hid HK1.out.lt
   clear b1 CV
   go_wp2_with fail
   have hu := Tryz.underlying63
   have hsz : (Tryz.prog.info? 63).map (·.size) = some (msC m).toList.length := by kernel_rfl
   have KS : Hid (∀ W, Below W1.heap.size W1 W → W.heap[w.heap.size]? = some (.cells (msC m) 63 (0, 0))) := Lib.hid (fun W hb => HK1.out.later hb)
   have hS0 := KS.out W1.drew (Below.refl _ _).drew
   refine wp_region_noPanic ?_
   refine upto_start (fun w' => w'.heap[w.heap.size]? = some (.cells (msC m) 63 (0, 0))) 5 (by kernel_rfl) ?_
   change Upto _ _ _ _ _ 7 _ _ _
   refine Upto.take (i := 0) (v := .pointer (some ⟨b, 0, none⟩)) rfl (by kernel_rfl) (fun _ _ _ h => h) rfl (fun w' hS => by go_simp; (try with_reducible rfl)) hS0 ?_
   simp only [Act.put, q1Pw26, q2Pw26, q3Pw26]
   refine Upto.take (i := 1) (v := .agg (msC m)) rfl (by kernel_rfl) (fun _ _ _ h => h) rfl (fun w' hS => exec_load rfl (by rfl) (Bk.rangeC hS) hu rfl hsz) hS0 ?_
   simp only [Act.put, q1Pw26, q2Pw26, q3Pw26]
   refine Upto.take (i := 3) (v := .agg (msC m)) rfl (by kernel_rfl) (fun _ _ _ h => h) rfl (fun w' hS => exec_load rfl (by rfl) (Bk.rangeC hS) hu rfl hsz) hS0 ?_
   simp only [Act.put, q1Pw26, q2Pw26, q3Pw26]
   have CS : Hid (∀ w, Calls Tryz.prog 57 #[.agg (msC m)] w (Ret (.int .i64 (m.gen % 2)) w)) := Lib.hid (fun w => sectorOf_any m w (by have := HOK.out.gen; omega))
   have CE : Hid (∀ w, Calls Tryz.prog 58 #[.agg (msC m)] w (RetOwn (bodyM m) w)) := Lib.hid (fun w => encode_any m HM.out w)
   have CP : Hid (∀ W A n c, Below W1.heap.size W1 W → Byt W A n c (bodyM m) → Calls Tryz.prog 51 #[.pointer (some ⟨b, 0, none⟩), .int .i64 (m.gen % 2), .slice A n c] W (fun e w' => e = .returned (.int .i64 (putE s (m.gen % 2) (bodyM m))) ∧ Has B ((dsk b (putS s (m.gen % 2) (bodyM m))).star R) w' ∧ Below B w w' ∧ w.heap.size ≤ w'.heap.size)) := Lib.hid (fun W A n c hb hy => by
    have hw : Below w.heap.size w W := HB0.out.trans ((HB1.out.trans (hb.mono HB1.out.size)).mono HB0.out.size)
    exact (stPut_any (HD1.out.below hb) (Nat.le_trans hB hw.size) A n c (bodyM m) hy (m.gen % 2) (by omega) hlim).mono fun e w' ⟨h1, h2, h3⟩ => ⟨h1, h2, (hw.mono hB).trans h3, Nat.le_trans hw.size h3.size⟩)
   have CY : Hid (∀ w', Has B ((dsk b (putS s (m.gen % 2) (bodyM m))).star R) w' → w.heap.size ≤ w'.heap.size → Calls Tryz.prog 53 #[.pointer (some ⟨b, 0, none⟩)] w' (RetHas (.int .i64 (putS s (m.gen % 2) (bodyM m)).sErr) B ((dsk b (putS s (m.gen % 2) (bodyM m)).sync).star R) w')) := Lib.hid (fun w' h' hs => hasD_sync h' (Nat.le_trans hB hs) hlim2)
   obtain ⟨z, hz⟩ : ∃ z, m.gen % 2 = z := ⟨_, rfl⟩
   rw [hz] at CS CP CY hp ⊢
   obtain ⟨pe, hpe⟩ : ∃ pe, putE s z (bodyM m) = pe := ⟨_, rfl⟩
   obtain ⟨ps, hps⟩ : ∃ ps, putS s z (bodyM m) = ps := ⟨_, rfl⟩
   rw [hpe, hps] at CP
   rw [hps] at CY
   rw [hpe, hps]
   rw [hpe] at hp
   have hd : (pe != 0) = true := by simpa using hp
   have HZ := Lib.hid hz
   have HPS := Lib.hid hps
   have HPE := Lib.hid hpe
   clear hz hpe hps hlim hlim2 HD0 HD1 HW0 HOK HM hp
   refine Upto.law (i := 2) rfl (by kernel_rfl) rfl (fun K hK => ?_)
   refine wp_enter (f := 57) (args := #[.agg (msC m)]) (by go_simp; (try with_reducible rfl)) (CS.out _) ?_
   rintro e W2 ⟨rfl, hbs⟩
   have W2B : Hid (Below W1.heap.size W1 W2) := Lib.hid (by
    have q := (Below.refl W1.heap.size W1).drew
    exact q.trans (hbs.mono q.size))
   clear hbs
   refine ⟨_, rfl, hK _ _ (KS.out _ W2B.out) ?_⟩
   clear hK
   simp only [Act.put, q1Pw26, q2Pw26, q3Pw26]
   refine Upto.law (i := 4) rfl (by kernel_rfl) rfl (fun K hK => ?_)
   refine wp_enter (f := 58) (args := #[.agg (msC m)]) (by go_simp; (try with_reducible rfl)) (CE.out _) ?_
   rintro e W3 ⟨A, n, c, rfl, ho, hr, hbs⟩
   have W3B : Hid (Below W1.heap.size W1 W3) := Lib.hid (by
    have q := W2B.out
    exact q.trans (hbs.mono q.size))
   have HY := Lib.hid (Byt.of_own ho hr)
   clear ho hr hbs
   refine ⟨_, rfl, hK _ _ (KS.out _ W3B.out) ?_⟩
   clear hK
   simp only [Act.put, q1Pw26, q2Pw26, q3Pw26]
   have CP1 := Lib.hid (CP.out W3 A n c W3B.out HY.out)
   clear CP HY W2B W3B KS CS CE HB0 HK0 HB1 HK1 HS1 hS0
   refine Upto.tail rfl (by kernel_rfl) ?_
   simp only [List.drop_succ_cons, List.drop_zero]
   go_wp2_with fail
   refine CP1.out.mono ?_
   rintro e W4 ⟨rfl, h4, b4, s4⟩
   have H4 := Lib.hid h4
   have B4 := Lib.hid b4
   have CY1 := Lib.hid (CY.out W4 h4 s4)
   clear h4 b4 s4 CP1 CY
   go_wp2_with fail
   refine NoPanic.normal ?_
   clear CY1
   go_wp2_with fail
   go_ret
   rw [HZ.out, HPS.out, HPE.out]
   exact ⟨rfl, H4.out, B4.out⟩
 ·have E : Hid (saveE s m = 1 ∧ saveS s m = s) := Lib.hid ⟨if_pos hok, if_pos hok⟩
  rw [E.out.1, E.out.2, show msV m = .agg #[.int .i64 m.gen, .int .i64 m.inc, .int .i64 m.first, .int .i64 m.lsn, .int .i64 m.chk] from rfl]
  rw [decide_eq_false hok] at CV
  clear h hm hW0 E hok
  go_enter Tryz.func39, Tryz.ntmps39
  go_wp2_with fail
  (try rw [← HW0.out])
  refine (CV.out _).mono ?_
  rintro e W1 ⟨rfl, b1⟩
  have HB1 : Hid (Below w.heap.size w W1) := Lib.hid (HB0.out.trans (b1.mono HB0.out.size))
  have HD1 := Lib.hid (HD0.out.below b1)
  clear b1 CV
  go_wp2_with fail
  go_ret
  exact ⟨rfl, HD1.out, HB1.out.mono hB⟩
end

/- a log's note and save: what becomes of the log, and of its disk. -/
section
open Go.RowKit
def Lg.note (L : Lg) (e : Int) : Lg := { L with down := L.down || (e == 40) }
def Lg.saved (L : Lg) (e : Int) (m : Ms) : Lg := if e = 0 then { L with m := m } else L.note e
theorem Lg.note_zero (L : Lg) : L.note 0 = L := by
 unfold Lg.note
 have : (L.down || ((0 : Int) == 40)) = L.down := by cases L.down <;> rfl
 rw [this]
section
variable {w w' : World} {F G : Nat → Prop} {b d n c p q : Nat} {L L' : Lg} {A Q : Option Addr} {xs : List (Xr × Int)} {vs : List (Option Addr × Nat × Nat)}
theorem LgAt.setc (h : LgAt w F b d L A n c xs Q p q vs G) {i : Nat} {u : Value} (hc : ∀ r q, (lgC d L r q).setIfInBounds i u = lgC d L' r q) (hr : L'.recs = L.recs) (hw : L'.wait = L.wait) : LgAt (w.setCell ⟨b, i, none⟩ u) F b d L' A n c xs Q p q vs G :=
 h.cells (by have := h.bk.setc i u; rw [hc] at this; exact this) (by simp [World.setCell]) (fun k hk => Below.heap_setCell w _ u k hk) hr hw
theorem LgAt.turn (h : LgAt w' (grow F w w') b d L' A n c xs Q p q vs G) (t : Fr F w w') : Turn (lgR b d L') F w w' := ⟨⟨_, _, _, _, _, _, _, _, _, h⟩, t⟩
theorem LgAt.grown (h : LgAt w' F b d L' A n c xs Q p q vs G) (ht : Fr F w w') : LgAt w' (grow F w w') b d L' A n c xs Q p q vs G :=
 h.mono (fun _ f => .inl f) (fun k f => by
  rcases f with f | f
  ·exact h.lt k f
  ·exact f.2)
theorem LgAt.setTurn (h : LgAt w F b d L A n c xs Q p q vs G) {i : Nat} {u : Value} (hc : ∀ r q, (lgC d L r q).setIfInBounds i u = lgC d L' r q) (hr : L'.recs = L.recs) (hw : L'.wait = L.wait) : Turn (lgR b d L') F w (w.setCell ⟨b, i, none⟩ u) :=
 have t : Fr F w (w.setCell ⟨b, i, none⟩ u) := Fr.setCell (a := ⟨b, i, none⟩) (Fr.refl F w) h.fb u
 ((h.setc hc hr hw).grown t).turn t
theorem LgAt.there (h : LgAt w F b d L A n c xs Q p q vs G) (i : Nat) (hi : i < 13) : (w.cell? ⟨b, i, none⟩).isSome = true ∧ w.frozen? ⟨b, i, none⟩ = false := by
 refine ⟨?_, h.bk.frz i⟩
 rw [h.bk.cell, Array.getElem?_eq_getElem (by simpa [lgC] using hi)]
 rfl
end
section
variable {B : Nat} {R : Res} {w : World} {b d : Nat} {L : Lg} {s : St}
theorem wgNote_any (h : Has B ((lgR b d L).star R) w) (hB : B ≤ w.heap.size) (e : Int) : Calls Tryz.prog 50 #[.pointer (some ⟨b, 0, none⟩), .int .i64 e] w (RetHas (.int .i64 e) B ((lgR b d (L.note e)).star R) w) := by
 obtain ⟨F, A, n, c, xs, Q, p, q, vs, G, ha, ht⟩ := lgR_open h hB
 have y12 : w.cell? ⟨b, 12, none⟩ = some (.bool L.down) := ha.bk.cell 12
 have f12 : w.frozen? ⟨b, 12, none⟩ = false := ha.bk.frz 12
 have t := ht (L.note e) _ (ha.setTurn (i := 12) (u := .bool (L.note e).down) (fun r q => by rfl) rfl rfl)
 have HR : Hid (RetHas (.int .i64 e) B ((lgR b d (L.note e)).star R) w (.returned (.int .i64 e)) (w.setCell ⟨b, 12, none⟩ (.bool (L.note e).down))) := Lib.hid ⟨rfl, t.1, t.2⟩
 have e1 : (L.note e).down = (L.down || (e == 40)) := rfl
 rw [e1] at HR
 obtain ⟨L', hL'⟩ : ∃ L', L.note e = L' := ⟨_, rfl⟩
 rw [hL'] at HR ⊢
 clear ha ht t e1 hL' h
 cases hd : L.down with
 | true =>
  rw [hd] at HR y12
  rw [Bool.true_or] at HR
  go_enter Tryz.func50, Tryz.ntmps50
  go_wp2_with fail
  go_ret
  exact HR.out
 | false =>
  rw [hd] at HR y12
  rw [Bool.false_or] at HR
  go_enter Tryz.func50, Tryz.ntmps50
  go_wp2_with fail
  go_ret
  exact HR.out
theorem Has.third {A C D R : Res} (h : Has B (A.star (C.star (D.star R))) w) : Has B (D.star (R.star (A.star C))) w := h.sw.sw.assoc
theorem Has.unthird {A C D R : Res} (h : Has B (D.star (R.star (A.star C))) w) : Has B (A.star (C.star (D.star R))) w := h.assoc'.comm.assoc
theorem setCells_five {w : World} {g : Nat} {m : Ms} : w.setCells g 2 (msC m).toList = ((((w.setCell ⟨g, 2, none⟩ (.int .i64 m.gen)).setCell ⟨g, 3, none⟩ (.int .i64 m.inc)).setCell ⟨g, 4, none⟩ (.int .i64 m.first)).setCell ⟨g, 5, none⟩ (.int .i64 m.lsn)).setCell ⟨g, 6, none⟩ (.int .i64 m.chk) := rfl
theorem LgAt.master {F G : Nat → Prop} {n c p q : Nat} {A Q : Option Addr} {xs : List (Xr × Int)} {vs : List (Option Addr × Nat × Nat)} (h : LgAt w F b d L A n c xs Q p q vs G) (m : Ms) : Turn (lgR b d { L with m := m }) F w (w.setCells b 2 (msC m).toList) := by
 have t : Fr F w (w.setCells b 2 (msC m).toList) := by
  rw [setCells_five]
  exact ((((Fr.setCell (a := ⟨b, 2, none⟩) (Fr.refl F w) h.fb _).setCell (a := ⟨b, 3, none⟩) h.fb _).setCell (a := ⟨b, 4, none⟩) h.fb _).setCell (a := ⟨b, 5, none⟩) h.fb _).setCell (a := ⟨b, 6, none⟩) h.fb _
 have hb : Bk (w.setCells b 2 (msC m).toList) b 67 (lgC d { L with m := m } (.slice A n c) (.slice Q p q)) := by
  rw [setCells_five]
  exact ((((h.bk.setc 2 _).setc 3 _).setc 4 _).setc 5 _).setc 6 _
 have hk : ∀ k, k ≠ b → (w.setCells b 2 (msC m).toList).heap[k]? = w.heap[k]? := fun k hk => by
  rw [setCells_five, Below.heap_setCell _ _ _ _ hk, Below.heap_setCell _ _ _ _ hk, Below.heap_setCell _ _ _ _ hk, Below.heap_setCell _ _ _ _ hk, Below.heap_setCell _ _ _ _ hk]
 exact ((h.cells hb (by rw [setCells_five]; simp [World.setCell]) hk rfl rfl).grown t).turn t
theorem LgAt.thereM {F G : Nat → Prop} {n c p q : Nat} {A Q : Option Addr} {xs : List (Xr × Int)} {vs : List (Option Addr × Nat × Nat)} (h : LgAt w F b d L A n c xs Q p q vs G) : w.there b 2 5 := fun j hj => h.there (2 + j) (by omega)
theorem wgSave_any (h : Has B ((lgR b d L).star ((dsk d s).star R)) w) (hB : B ≤ w.heap.size) (m : Ms) (hm : m.fits) (hlim : s.pend.length < 999999) (hlim2 : (putS s (m.gen % 2) (bodyM m)).syncs < 999999) :
  Calls Tryz.prog 43 #[.pointer (some ⟨b, 0, none⟩), msV m] w (RetHas (.int .i64 (saveE s m)) B ((lgR b d (L.saved (saveE s m) m)).star ((dsk d (saveS s m)).star R)) w) := by
 obtain ⟨q0, hq0⟩ : ∃ q0, w.heap.size = q0 := ⟨_, rfl⟩
 obtain ⟨W1, hW1⟩ : ∃ W1, W1 = w.alloc (.cells (msC m) 63) := ⟨_, rfl⟩
 have hb1 : Below w.heap.size w W1 := by rw [hW1]; exact (Below.refl _ _).alloc (Nat.le_refl _) _
 have V1 : Hid (Bk W1 q0 63 (msC m)) := Lib.hid (by rw [hW1, ← hq0]; exact Bk.new w _ _)
 have h1 : Has B ((blkR q0 63 (msC m)).star ((lgR b d L).star ((dsk d s).star R))) W1 := by rw [hW1, ← hq0]; exact blkR_new _ _ h hB
 obtain ⟨F, A, n, c, xs, Q, p, q, vs, G, ha⟩ := lgR_at h1.snd
 have y0 : W1.cell? ⟨b, 0, none⟩ = some (.pointer (some ⟨d, 0, none⟩)) := ha.bk.cell 0
 have hS0 : W1.drew.heap[q0]? = some (.cells (msC m) 63 (0, 0)) ∧ W1.drew.cell? ⟨b, 0, none⟩ = some (.pointer (some ⟨d, 0, none⟩)) := ⟨V1.out, y0⟩
 have HB1 := Lib.hid hb1
 have HBB := Lib.hid hB
 have CS := Lib.hid (save_any (w := W1.drew) (h1.below (Below.refl W1.heap.size W1).drew).third (Nat.le_trans hB hb1.size) m hm hlim hlim2)
 have HW := Lib.hid hW1
 have hu := Tryz.underlying63
 have hsz : (Tryz.prog.info? 63).map (·.size) = some (msC m).toList.length := by kernel_rfl
 have emv : msV m = .agg (msC m) := rfl
 obtain ⟨se, hse⟩ : ∃ e, saveE s m = e := ⟨_, rfl⟩
 obtain ⟨ss, hss⟩ : ∃ e, saveS s m = e := ⟨_, rfl⟩
 rw [hse, hss] at CS ⊢
 rw [emv] at CS ⊢
 clear h hW1 hb1 h1 ha y0 hse hss emv hB hlim hlim2
 go_enter Tryz.func43, Tryz.ntmps43
 go_upto_region 1 with fail
 (try rw [hq0])
 rw [← HW.out]
 clear HW
 refine wp_region_noPanic ?_
 refine upto_start (fun w' => w'.heap[q0]? = some (.cells (msC m) 63 (0, 0)) ∧ w'.cell? ⟨b, 0, none⟩ = some (.pointer (some ⟨d, 0, none⟩))) 7 (by kernel_rfl) ?_
 change Upto _ _ _ _ _ 9 _ _ _
 refine Upto.tk 0 ?_ rfl (fun w' hS => ?_) hS0 ?_
 rotate_left
 ·(try dsimp only at hS); go_split_ands; go_simp; (try with_reducible rfl)
 simp only [Act.put, q1Pw26, q2Pw26, q3Pw26]
 refine Upto.tk 1 ?_ rfl (fun w' hS => ?_) hS0 ?_
 rotate_left
 ·(try dsimp only at hS); go_split_ands; go_simp; (try with_reducible rfl)
 simp only [Act.put, q1Pw26, q2Pw26, q3Pw26]
 refine Upto.tk 2 ?_ rfl (fun w' hS => ?_) hS0 ?_
 rotate_left
 ·(try dsimp only at hS); go_split_ands; go_simp; (try with_reducible rfl)
 simp only [Act.put, q1Pw26, q2Pw26, q3Pw26]
 refine Upto.tk 3 ?_ rfl (fun w' hS => ?_) hS0 ?_
 rotate_left
 ·(try dsimp only at hS); go_split_ands; go_simp; (try with_reducible rfl)
 simp only [Act.put, q1Pw26, q2Pw26, q3Pw26]
 refine Upto.tk 4 ?_ rfl (fun w' hS => ?_) hS0 ?_
 rotate_left
 ·(try dsimp only at hS); go_split_ands; go_simp; (try with_reducible rfl)
 simp only [Act.put, q1Pw26, q2Pw26, q3Pw26]
 refine Upto.take (i := 5) rfl (by kernel_rfl) (fun _ _ _ h => h) rfl (fun w' hS => exec_load rfl (by rfl) (Bk.rangeC hS.1) hu rfl hsz) hS0 ?_
 simp only [Act.put, q1Pw26, q2Pw26, q3Pw26]
 refine Upto.law (i := 6) rfl (by kernel_rfl) rfl (fun K hK => ?_)
 refine wp_enter (f := 39) (args := #[.pointer (some ⟨d, 0, none⟩), .agg (msC m)]) (by go_simp; (try with_reducible rfl)) CS.out ?_
 rintro e w2 ⟨rfl, h2, b2⟩
 have h2' := h2.unthird.swap
 have hs2 : B ≤ w2.heap.size := Nat.le_trans (Nat.le_trans HBB.out HB1.out.size) b2.size
 have CN := Lib.hid (wgNote_any h2' hs2 se)
 have B2 : Hid (Below B w w2 ∧ B ≤ w2.heap.size) := Lib.hid ⟨(HB1.out.mono HBB.out).trans (show Below B W1 w2 from ⟨b2.os, b2.tape, b2.output, b2.size, b2.block⟩), hs2⟩
 have S2 : w2.heap[q0]? = some (.cells (msC m) 63 (0, 0)) ∧ w2.cell? ⟨b, 0, none⟩ = some (.pointer (some ⟨d, 0, none⟩)) := by
  obtain ⟨F, A, n, c, xs, Q, p, q, vs, G, ha⟩ := lgR_at h2'
  obtain ⟨F2, hF2⟩ := h2'.swap.fst.ex
  exact ⟨hF2.1, ha.bk.cell 0⟩
 refine ⟨_, rfl, hK _ _ S2 ?_⟩
 clear hK S2
 simp only [Act.put, q1Pw26, q2Pw26, q3Pw26]
 refine Upto.tail rfl (by kernel_rfl) ?_
 simp only [List.drop_succ_cons, List.drop_zero]
 clear h2 b2 h2' hs2 CS hS0 V1
 go_wp2_with fail
 refine CN.out.mono ?_
 rintro e w3 ⟨rfl, h3, b3⟩
 go_wp2_with fail
 refine NoPanic.normal ?_
 have hs3 : B ≤ w3.heap.size := Nat.le_trans B2.out.2 b3.size
 have B3 : Hid (Below B w w3) := Lib.hid (B2.out.1.trans b3)
 by_cases hz : se = 0
 ·subst hz
  rw [Lg.note_zero] at h3
  have V3 : Hid (Bk w3 q0 63 (msC m)) := Lib.hid (by obtain ⟨F, hF⟩ := h3.swap.fst.ex; exact hF.1)
  obtain ⟨F, A, n, c, xs, Q, p, q, vs, G, ha, ht⟩ := lgR_open h3 hs3
  have t := ht _ _ (ha.master m)
  have TH := Lib.hid ha.thereM
  have R9 : Hid (RetHas (.int .i64 0) B ((lgR b d (L.saved 0 m)).star ((dsk d ss).star R)) w (.returned (.int .i64 0)) (w3.setCells b 2 (msC m).toList)) := Lib.hid (by
   have e : L.saved 0 m = { L with m := m } := if_pos rfl
   rw [e]
   exact ⟨rfl, t.1.swap.snd, B3.out.trans t.2⟩)
  have HC : Hid ((msC m).all (·.oneCell') = true) := Lib.hid (by simp [msC, Value.oneCell'])
  clear h3 b3 ha ht t CN B2 B3 hs3
  go_wp2_with (first
   | (refine wpList_load_row rfl 63 _ rfl q0 rfl 63 (msC m) (0, 0) _ V3.out hu rfl ms_info ?_; simp only [Act.put])
   | (refine wpList_store_mid rfl 63 _ _ rfl b 2 (msC m) rfl rfl TH.out ms_info HC.out ?_; simp only [Act.put]))
  go_ret
  exact R9.out
 ·have R9 : Hid (RetHas (.int .i64 se) B ((lgR b d (L.saved se m)).star ((dsk d ss).star R)) w (.returned (.int .i64 se)) w3) := Lib.hid (by
   have e : L.saved se m = L.note se := if_neg hz
   rw [e]
   exact ⟨rfl, h3.swap.snd, B3.out⟩)
  have hz' : (se != 0) = true := by simpa using hz
  clear h3 b3 CN B2 B3 hs3 hz
  go_wp2_with fail
  go_ret
  exact R9.out
end
end

/- slices.Concat of slices of bytes; sheet.isStorable, trothref08.May. -/
section
open Go.RowKit
def sumLen (ls : List (List Int)) (k : Nat) : Nat := ((ls.take k).flatMap id).length
theorem sumLen_zero (ls : List (List Int)) : sumLen ls 0 = 0 := by simp [sumLen]
theorem sumLen_next (ls : List (List Int)) (k : Nat) (h : k < ls.length) : sumLen ls (k + 1) = sumLen ls k + (ls.getD k []).length := by
 unfold sumLen
 rw [take_succ_getD ls [] k h, List.flatMap_append, List.length_append]
 simp
/-- A new row with room for n bytes. -/
theorem grow_nil (n : Nat) (w : World) (h0 : 0 < n) (hn : n ≤ 1000000) : Calls Tryz.prog 108 #[.slice none 0 0, .int .i64 n] w
  (fun e w' => ∃ cap, e = .returned (.slice (some ⟨w.heap.size, 0, none⟩) 0 cap) ∧ w'.ownsRow w.heap.size 5 1 (.slice (some ⟨w.heap.size, 0, none⟩) 0 cap) 0 [] ∧ Below w.heap.size w w') := by
 obtain ⟨i0, hi, hz0, hz1, hz2⟩ := info_parts info_u8
 have hrun := fun (ty : TypeId) => Lib.run_append_nil_zeros (P := Tryz.prog) w 59 3 ty 5 i0 (.int .u8 0) .i64 .i64 Tryz.underlying59 Tryz.underlying3 hi hz0 n h0 (by omega) (by omega) (by rw [hz2]; omega)
 have hge := grownCap_ge w n 0 5
 have hcm : grownCap w n 0 5 ≤ maxLen := grownCap_le_maxLen w n 0 5 (by unfold maxLen; omega)
 obtain ⟨cap, hcap⟩ : ∃ cap, grownCap w n 0 5 = cap := ⟨_, rfl⟩
 rw [hcap] at hrun hge hcm
 obtain ⟨W, hW⟩ : ∃ W, W = w.drew.alloc (.cells (Builtin.zeroCells (Value.int .u8 0).cells n ++ Builtin.zeroCells (Value.int .u8 0).cells (cap - n)) 5) := ⟨_, rfl⟩
 rw [← hW] at hrun
 have R : Hid (W.ownsRow w.heap.size 5 1 (.slice (some ⟨w.heap.size, 0, none⟩) 0 cap) 0 [] ∧ Below w.heap.size w W) := Lib.hid (by
  rw [hW]
  refine ⟨⟨by simp, .inr ⟨w.heap.size, cap, _, rfl, Nat.le_refl _, heap_alloc_new w.drew _, Nat.zero_le _, hcm, ?_, by simp⟩⟩, (Below.refl _ w).drew.alloc (Nat.le_refl _) _⟩
  simp only [Array.size_append, size_zeroCells, Value.cells]
  simp
  omega)
 have hn0 : (0 : Int) < (n : Int) := by omega
 have hcm' := hcm
 unfold maxLen at hcm'
 clear hW hcap hcm
 go_enter Tryz.func108, Tryz.ntmps108
 go_wp2_with (at_builtin; refine Lib.wpList_append_run _ rfl _ _ 59 3 rfl _ _ rfl rfl _ _ (hrun _) ?_)
 go_wp2_with fail
 go_ret
 exact ⟨cap, rfl, R.out.1, R.out.2⟩
theorem concat_any (A : Option Addr) (n c : Nat) (ls : List (List Int)) (vs : List (Option Addr × Nat × Nat)) (w : World) (h : Bods w A n c ls vs) (hn : n ≤ 100) (hl : ∀ b ∈ ls, b.length ≤ 1000) (h0 : 0 < sumLen ls n) :
  Calls Tryz.prog 76 #[.slice A n c] w (RetOwn (ls.flatMap id) w) := by
 obtain ⟨i0, hi, hz0, hz1, hz2⟩ := info_parts info_u8
 have hcap := h.flt.cap
 have hmax := h.flt.max
 unfold maxLen at hmax
 have HB := Lib.hid h
 have hlen := h.len
 have hbnd : ∀ k, k ≤ n → sumLen ls k ≤ 1000 * k := by
  intro k
  induction k with
  | zero => intro _; rw [sumLen_zero]; omega
  | succ k ih =>
   intro hk
   have hkl : k < ls.length := by omega
   rw [sumLen_next ls k hkl]
   have := ih (by omega)
   have e : ls.getD k [] = ls[k] := by simp [List.getD, List.getElem?_eq_getElem hkl]
   have := hl _ (List.getElem_mem hkl)
   rw [e]
   omega
 have HBD := Lib.hid hbnd
 have hnt := hbnd n (Nat.le_refl _)
 have HL := Lib.hid hl
 obtain ⟨T, hT⟩ : ∃ T, sumLen ls n = T := ⟨_, rfl⟩
 rw [hT] at h0 hnt
 have HT := Lib.hid hT
 clear h hbnd hl hT
 go_enter Tryz.func76, Tryz.ntmps76
 go_wp2_with fail
 go_loopw [3, 11] (fun y q wr => ∃ (k : Nat), k ≤ n ∧ y = .int .i64 ((sumLen ls k : Nat) : Int) ∧ q = .int .i64 k ∧ wr = w) (fun _ q _ => n - (intOf q).toNat)
 case atStart => exact ⟨0, Nat.zero_le _, by rw [sumLen_zero]; rfl, rfl, rfl⟩
 case round =>
  obtain ⟨k, hkn, rfl, rfl, rfl⟩ := hrel
  by_cases hlt : k < n
  ·obtain ⟨g, off, hA, hc⟩ := HB.out.at_ (by omega)
   subst hA
   obtain ⟨hx, hby⟩ := hc k hlt
   obtain ⟨B, m, d, hv⟩ : ∃ B m d, vs.getD k sl0 = (B, m, d) := ⟨_, _, _, rfl⟩
   rw [hv] at hx hby
   have hkl : k < ls.length := by omega
   have hnx := sumLen_next ls k hkl
   have hb1 := HBD.out (k + 1) (by omega)
   have hbm := hby.len
   simp only at hbm hx
   rw [hbm] at hnx
   obtain ⟨a, ha⟩ : ∃ a, sumLen ls k = a := ⟨_, rfl⟩
   obtain ⟨a2, ha2⟩ : ∃ a, sumLen ls (k + 1) = a := ⟨_, rfl⟩
   rw [ha, ha2] at hnx
   rw [ha2] at hb1
   rw [ha]
   have H2 := Lib.hid ha2
   clear hby hv hbm ha ha2 hc
   go_wp2_with fail
   go_roundw
   case rel => exact ⟨k + 1, by omega, by rw [H2.out, hnx]; go_num, by go_num, trivial⟩
   case measure => simp [intOf]; omega
  ·have hke : k = n := by omega
   subst hke
   rw [HT.out]
   have CG := Lib.hid (grow_nil T wr h0 (by omega))
   clear hlt
   go_wp2_with fail
   refine CG.out.mono ?_
   rintro e w1 ⟨cap, rfl, ho1, b1⟩
   have R0 : Hid (w1.ownsRow wr.heap.size 5 1 (.slice (some ⟨wr.heap.size, 0, none⟩) 0 cap) 0 (((ls.take 0).flatMap id).map (Value.int .u8)) ∧ Below wr.heap.size wr w1) := Lib.hid ⟨by simpa using ho1, b1⟩
   obtain ⟨wi, hwi⟩ : ∃ x, x = wr := ⟨_, rfl⟩
   subst hwi
   clear ho1 b1 CG
   go_wp2_with fail
   go_loopw [6, 27] (fun y q wr => ∃ (j : Nat) (A1 : Option Addr) (c1 : Nat), j ≤ k ∧ y = .slice A1 (sumLen ls j) c1 ∧ q = .int .i64 j ∧ wr.ownsRow wi.heap.size 5 1 (.slice A1 (sumLen ls j) c1) (sumLen ls j) (((ls.take j).flatMap id).map (Value.int .u8)) ∧ Below wi.heap.size wi wr) (fun _ q _ => k - (intOf q).toNat)
   case atStart => exact ⟨0, some ⟨wi.heap.size, 0, none⟩, cap, Nat.zero_le _, by rw [sumLen_zero], rfl, by rw [sumLen_zero]; exact R0.out.1, R0.out.2⟩
   case round =>
    obtain ⟨j, A1, c1, hjn, rfl, rfl, hown, hbel⟩ := hrel
    clear R0
    by_cases hlt : j < k
    ·obtain ⟨g, off, hA, hc⟩ := (HB.out.below hbel).at_ (by omega)
     subst hA
     obtain ⟨hx, hby⟩ := hc j hlt
     obtain ⟨B, m, d, hv⟩ : ∃ B m d, vs.getD j sl0 = (B, m, d) := ⟨_, _, _, rfl⟩
     rw [hv] at hx hby
     have hjl : j < ls.length := by omega
     obtain ⟨b, hb⟩ : ∃ b, ls.getD j [] = b := ⟨_, rfl⟩
     have hnx := sumLen_next ls j hjl
     have hb1 := HBD.out (j + 1) (by omega)
     rw [hb] at hby hnx
     have hbm : b.length = m := hby.len
     rw [hbm] at hnx
     obtain ⟨a, ha⟩ : ∃ a, sumLen ls j = a := ⟨_, rfl⟩
     obtain ⟨a2, ha2⟩ : ∃ a, sumLen ls (j + 1) = a := ⟨_, rfl⟩
     rw [ha, ha2] at hnx
     rw [ha2] at hb1
     rw [ha] at hown ⊢
     have H2 := Lib.hid ha2
     have HO := Lib.hid hown
     have HBE := Lib.hid hbel
     have HE : Hid ((ls.take (j + 1)).flatMap id = (ls.take j).flatMap id ++ b) := Lib.hid (by rw [take_succ_getD ls [] j hjl, List.flatMap_append, hb]; simp)
     have hbs := hbel.size
     have HBY := Lib.hid hby
     obtain ⟨acc, hacc⟩ : ∃ l, (ls.take j).flatMap id = l := ⟨_, rfl⟩
     rw [hacc] at HO HE
     clear hby hv hbm ha ha2 hc hb hown hbel hacc
     go_wp2_with (at_builtin; refine wpList_append_byt rfl _ _ 59 rfl wi.heap.size 5 i0 Tryz.underlying59 hi hz0 hz1 hz2 _ a acc rfl (by exact HO.out) B m d b rfl HBY.out (by omega) hbs ?_)
     intro A2 c2 w2 k1 k2
     have NR : Hid (w2.ownsRow wi.heap.size 5 1 (.slice A2 (a + m) c2) (a + m) (((ls.take (j + 1)).flatMap id).map (Value.int .u8)) ∧ Below wi.heap.size wi w2) := Lib.hid ⟨by rw [HE.out, List.map_append]; exact k1, HBE.out.grown k2 hbs (fun q hq => (HO.out.lt q hq).1)⟩
     clear k1 k2 HO HBE HBY
     go_wp2_with fail
     go_roundw
     case rel => exact ⟨j + 1, A2, c2, by omega, by rw [H2.out, hnx], by go_num, by rw [H2.out, hnx]; exact NR.out.1, NR.out.2⟩
     case measure => simp [intOf]; omega
    ·have hjk : j = k := by omega
     subst hjk
     have e : ls.take j = ls := List.take_of_length_le (by omega)
     rw [e] at hown
     have RR : Hid (RetOwn (ls.flatMap id) wi (.returned (.slice A1 (sumLen ls j) c1)) wr) := Lib.hid ⟨A1, _, c1, rfl, hown, fun x hx => by
      obtain ⟨b, hb, hx⟩ := List.mem_flatMap.1 hx
      exact HB.out.isB b hb x hx, hbel⟩
     clear hown hbel
     go_wp2_with fail
     go_ret
     exact RR.out
end

/- num.Wide hands back a number's big-endian bytes, or the error. -/
section
open Go.RowKit
theorem isWidth_yes (x : Int) (h1 : 1 ≤ x) (h2 : x ≤ 8) (w : World) : Calls Tryz.prog 107 #[.int .i64 x] w fun e w' => e = .returned (.bool true) ∧ w = w' := by
 go_enter Tryz.func107, Tryz.ntmps107
 go_wp2
 go_ret
 exact ⟨rfl, rfl⟩
theorem pow256 (k : Nat) : (2 : Nat) ^ (8 * k) = 256 ^ k := by rw [Nat.pow_mul]
structure WideRel (n k : Nat) (w : World) (i : Nat) (cs : Array Value) (wr : World) : Prop where
 blk : Bk wr w.heap.size 5 cs
 size : cs.size = k
 cells : ∀ j, j < i → cs[k - 1 - j]? = some (.int .u8 ((wideL k n).getD (k - 1 - j) 0))
 bel : Below w.heap.size w wr
theorem WideRel.start (n k : Nat) (w : World) : WideRel n k w 0 (noughts k) (w.alloc (.cells (noughts k) 5)) :=
 ⟨Bk.new _ _ _, noughts_size k, (fun _ h => absurd h (by omega)), (Below.refl _ _).alloc (Nat.le_refl _) _⟩
theorem WideRel.step {n k : Nat} {w : World} {i : Nat} {cs : Array Value} {wr : World} (h : WideRel n k w i cs wr) (hi : i < k) {x : Int} (hx : x = (n : Int) / 2 ^ (8 * i) % 256) :
  WideRel n k w (i + 1) (cs.setIfInBounds (k - 1 - i) (.int .u8 x)) (wr.setCell ⟨w.heap.size, k - 1 - i, none⟩ (.int .u8 x)) := by
 have e : x = (wideL k n).getD (k - 1 - i) 0 := by
  have h2 : (n : Int) / 2 ^ (8 * i) = ((n / 2 ^ (8 * i) : Nat) : Int) := by simp
  rw [wideL_at k n i hi, hx, h2, pow256]
 refine ⟨h.blk.setc _ _, by simp [h.size], fun j hj => ?_, h.bel.setCell (Nat.le_refl _) _⟩
 rw [Array.getElem?_setIfInBounds]
 by_cases hji : j = i
 ·subst hji
  rw [if_pos rfl, h.size, if_pos (by omega), e]
 ·rw [if_neg (by omega)]
  exact h.cells j (by omega)
theorem WideRel.byt {n k : Nat} {w : World} {cs : Array Value} {wr : World} (h : WideRel n k w k cs wr) (hk : k ≤ 8) : Byt wr (some ⟨w.heap.size, 0, none⟩) k k (wideL k n) :=
 Byt.of_bk h.blk 0 k k _ (wideL_len k n) (Nat.le_refl _) (by unfold maxLen; omega) (wideL_rng k n) (fun i hi => by
  have := h.cells (k - 1 - i) (by omega)
  rw [show k - 1 - (k - 1 - i) = i from by omega] at this
  rw [Nat.zero_add]; exact this)
theorem fits_yes {n k : Nat} (h : n < 256 ^ k) : ((n : Int) / 2 ^ (8 * k) != 0) = false := by
 have h1 : n / 2 ^ (8 * k) = 0 := Nat.div_eq_of_lt (by rw [pow256]; exact h)
 have h2 : (n : Int) / 2 ^ (8 * k) = ((n / 2 ^ (8 * k) : Nat) : Int) := by simp
 rw [h2, h1]; rfl
theorem numWide_yes (n k : Nat) (_hn : n < 18446744073709551616) (h1 : 1 ≤ k) (h2 : k ≤ 8) (hk : n < 256 ^ k) (w : World) :
  Calls Tryz.prog 75 #[.int .u64 n, .int .i64 k] w (RetByt2 (wideL k n) .i64 0 w) := by
 have hf := fits_yes hk
 have R0 := Lib.hid (WideRel.start n k w)
 have hm := make_bytes k (by omega)
 clear hk
 go_enter Tryz.func75, Tryz.ntmps75
 go_wp2_with (go_at_call 107; refine (isWidth_yes _ (by omega) (by omega) _).mono ?_; rintro e w1 ⟨rfl, rfl⟩)
 go_loopw [22] (fun s wr => ∃ (i : Nat) (cs : Array Value), i ≤ k ∧ s = .int .i64 i ∧ WideRel n k w i cs wr) (fun s _ => k - (intOf s).toNat)
 case atStart => exact ⟨0, _, Nat.zero_le _, rfl, R0.out⟩
 case round =>
  obtain ⟨i, cs, hik, rfl, R⟩ := hrel
  have HR := Lib.hid R
  clear R
  by_cases hlt : i < k
  ·obtain ⟨u, hc⟩ : ∃ u, wr.cell? ⟨w.heap.size, k - 1 - i, none⟩ = some u := by
    rw [HR.out.blk.cell]; exact ⟨_, Array.getElem?_eq_getElem (by rw [HR.out.size]; omega)⟩
   have hz := HR.out.blk.frz (k - 1 - i)
   have R1 := Lib.hid (fun x hx => HR.out.step hlt (x := x) hx)
   go_wp2_with fail
   have R2 := R1.out _ rfl
   clear R1
   go_roundw
   case rel => exact ⟨i + 1, _, by omega, by go_num, R2⟩
   case measure => simp [intOf]; omega
  ·have hkn : i = k := by omega
   subst hkn
   have H := Lib.hid (HR.out.byt h2)
   go_wp2_with fail
   go_ret2
   exact ⟨_, _, _, rfl, H.out, HR.out.bel⟩
end

/- trothref01.Wide hands back a number's big-endian bytes, or the error. -/
section
open Go.RowKit
end

/- num.TakeWide and trothref01.TakeWide answer the number of the first bytes, or the error, and write nothing. -/
section
open Go.RowKit
end

/- sheet.isStorable and trothref08.May tell which sheets may be; the payload of a sheet, plainly, and back. -/
section
open Go.RowKit
def storP (x : Sh) : Prop := (0 ≤ x.inc ∧ x.inc ≤ 1099511627775) ∧ (0 ≤ x.pos ∧ x.pos ≤ 1099511627775) ∧ x.data.size ≤ 242 ∧ ((0 ≤ x.first ∧ x.first ≤ (x.data.size : Int)) ∨ x.first = 255)
def mayP (x : Sh) : Prop := (0 ≤ x.inc ∧ x.inc ≤ 1099511627776) ∧ (0 ≤ x.pos ∧ x.pos ≤ 1099511627776) ∧ x.data.size ≤ 242 ∧ ((0 ≤ x.first ∧ x.first ≤ (x.data.size : Int)) ∨ x.first = 255)
instance (x : Sh) : Decidable (storP x) := inferInstanceAs (Decidable (_ ∧ _))
instance (x : Sh) : Decidable (mayP x) := inferInstanceAs (Decidable (_ ∧ _))
def encS (x : Sh) : List Int := wideL 5 x.inc.toNat ++ (wideL 5 x.pos.toNat ++ ([x.first, (x.data.size : Int)] ++ nums x.data))
theorem encS_len (x : Sh) : (encS x).length = 12 + x.data.size := by simp [encS, wideL_len, nums_len]; omega
theorem encS_rng {x : Sh} (h : storP x) : isB (encS x) := by
 obtain ⟨_, _, h3, h4⟩ := h
 refine isB.app (wideL_rng 5 _) (isB.app (wideL_rng 5 _) (isB.app (fun y hy => ?_) (nums_rng _)))
 simp at hy
 rcases hy with rfl | rfl <;> omega
theorem stor_any (x : Sh) (w : World) (hx : x.In) : Calls Tryz.prog 74 #[.agg x.cells.toArray] w (Ret (.bool (decide (storP x))) w) := by
 obtain ⟨inc, pos, first, data⟩ := x
 have HIN := Lib.hid hx
 obtain ⟨⟨i0, i1⟩, ⟨p0, p1⟩, ⟨f0, f1⟩, hd⟩ := hx
 unfold maxLen at hd
 simp only at i0 i1 p0 p1 f0 f1 hd
 show Calls _ _ #[.agg #[.int .i64 inc, .int .i64 pos, .int .i64 first, .string data]] w _
 obtain ⟨W1, hW1⟩ : ∃ W1, W1 = w.alloc (.cells #[.int .i64 inc, .int .i64 pos, .int .i64 first, .string data] 93) := ⟨_, rfl⟩
 obtain ⟨r, hr⟩ : ∃ r, w.heap.size = r := ⟨_, rfl⟩
 have b1 : Below w.heap.size w W1 := by rw [hW1]; exact (Below.refl _ _).alloc (Nat.le_refl _) _
 have v1 : Bk W1 r 93 #[.int .i64 inc, .int .i64 pos, .int .i64 first, .string data] := by rw [hW1, ← hr]; exact Bk.new _ _ _
 have a0 : W1.cell? ⟨r, 0, none⟩ = some (.int .i64 inc) := v1.cell 0
 have a1 : W1.cell? ⟨r, 1, none⟩ = some (.int .i64 pos) := v1.cell 1
 have a2 : W1.cell? ⟨r, 2, none⟩ = some (.int .i64 first) := v1.cell 2
 have a3 : W1.cell? ⟨r, 3, none⟩ = some (.string data) := v1.cell 3
 have CI := Lib.hid (isSeq_any inc W1 ⟨i0, i1⟩)
 have CP := Lib.hid (isSeq_any pos W1 ⟨p0, p1⟩)
 have CH := Lib.hid (hasFirst_any ⟨inc, pos, first, data⟩ W1 HIN.out)
 have HW := Lib.hid hW1
 have HV := Lib.hid v1
 have HB := Lib.hid b1
 have hr' := Lib.hid hr
 obtain ⟨st, hst⟩ : ∃ b, decide (storP ⟨inc, pos, first, data⟩) = b := ⟨_, rfl⟩
 have HST := Lib.hid hst
 rw [hst]
 clear hW1 v1 b1 hr hst
 cases h1 : isSeqB inc with
 | false =>
  have e : st = false := by
   rw [← HST.out]
   have := of_decide_eq_false h1
   exact decide_eq_false (fun q => this q.1)
  subst e
  rw [h1] at CI
  clear h1
  go_enter Tryz.func74, Tryz.ntmps74
  go_upto_region 1 with fail
  rw [hr'.out, ← HW.out]
  clear HW
  go_wp2_with fail
  refine CI.out.mono ?_
  rintro e w1 ⟨rfl, rfl⟩
  go_wp2_with fail
  go_ret
  exact ⟨rfl, HB.out⟩
 | true =>
  have g1 := of_decide_eq_true h1
  rw [h1] at CI
  cases h2 : isSeqB pos with
  | false =>
   have e : st = false := by
    rw [← HST.out]
    have := of_decide_eq_false h2
    exact decide_eq_false (fun q => this q.2.1)
   subst e
   rw [h2] at CP
   clear h1 h2 g1
   go_enter Tryz.func74, Tryz.ntmps74
   go_upto_region 1 with fail
   rw [hr'.out, ← HW.out]
   clear HW
   go_wp2_with fail
   refine CI.out.mono ?_
   rintro e w1 ⟨rfl, rfl⟩
   go_wp2_with fail
   refine CP.out.mono ?_
   rintro e w1 ⟨rfl, rfl⟩
   go_wp2_with fail
   go_ret
   exact ⟨rfl, HB.out⟩
  | true =>
   have g2 := of_decide_eq_true h2
   rw [h2] at CP
   by_cases h3 : (data.size : Int) ≤ 242
   ·cases h4 : hasF first data.size with
    | true =>
     have g4 := of_decide_eq_true h4
     have e : st = true := by
      rw [← HST.out]
      exact decide_eq_true ⟨g1, g2, by simp only; omega, .inl g4⟩
     subst e
     simp only at CH
     rw [h4] at CH
     clear h1 h2 g1 g2 h4 g4
     go_enter Tryz.func74, Tryz.ntmps74
     go_upto_region 1 with fail
     rw [hr'.out, ← HW.out]
     clear HW
     go_wp2_with fail
     refine CI.out.mono ?_
     rintro e w1 ⟨rfl, rfl⟩
     go_wp2_with fail
     refine CP.out.mono ?_
     rintro e w1 ⟨rfl, rfl⟩
     go_wp2_with fail
     refine CH.out.mono ?_
     rintro e w2 ⟨rfl, b2⟩
     have B2 := Lib.hid (HB.out.trans (b2.mono HB.out.size))
     clear b2
     go_wp2_with fail
     go_ret
     exact ⟨rfl, B2.out⟩
    | false =>
     have g4 := of_decide_eq_false h4
     obtain ⟨q, hq⟩ : ∃ q, (first == 255) = q := ⟨_, rfl⟩
     have e : st = q := by
      rw [← HST.out, ← hq]
      by_cases z : first = 255
      ·rw [decide_eq_true (show storP ⟨inc, pos, first, data⟩ from ⟨g1, g2, by simp only; omega, .inr z⟩)]
       simp [z]
      ·rw [decide_eq_false (fun q : storP ⟨inc, pos, first, data⟩ => by
        rcases q.2.2.2 with q | q
        ·exact g4 q
        ·exact z q)]
       simp [z]
     subst e
     simp only at CH
     rw [h4] at CH
     clear h1 h2 g1 g2 h4 g4
     go_enter Tryz.func74, Tryz.ntmps74
     go_upto_region 1 with fail
     rw [hr'.out, ← HW.out]
     clear HW
     go_wp2_with fail
     refine CI.out.mono ?_
     rintro e w1 ⟨rfl, rfl⟩
     go_wp2_with fail
     refine CP.out.mono ?_
     rintro e w1 ⟨rfl, rfl⟩
     go_wp2_with fail
     refine CH.out.mono ?_
     rintro e w2 ⟨rfl, b2⟩
     have B2 := Lib.hid (HB.out.trans (b2.mono HB.out.size))
     have a2' : w2.cell? ⟨r, 2, none⟩ = some (.int .i64 first) := (HV.out.bel b2 HV.out.lt).cell 2
     clear b2 a2
     go_wp2_with fail
     go_ret
     exact ⟨rfl, B2.out⟩
   ·have e : st = false := by
     rw [← HST.out]
     exact decide_eq_false (fun q => h3 (by have := q.2.2.1; simp only at this; omega))
    subst e
    clear h1 h2 g1 g2
    go_enter Tryz.func74, Tryz.ntmps74
    go_upto_region 1 with fail
    rw [hr'.out, ← HW.out]
    clear HW
    go_wp2_with fail
    refine CI.out.mono ?_
    rintro e w1 ⟨rfl, rfl⟩
    go_wp2_with fail
    refine CP.out.mono ?_
    rintro e w1 ⟨rfl, rfl⟩
    go_wp2_with fail
    go_ret
    exact ⟨rfl, HB.out⟩
end

/- sheet.Encode, trothref08.Encode: the payload of a sheet, or the error. -/
section
open Go.RowKit
def RetEnc (x : Sh) (w : World) (e : Ending) (w' : World) : Prop :=
 (storP x ∧ RetByt2 (encS x) .i64 0 w e w') ∨ (¬ storP x ∧ e = .returned (.tuple #[.slice none 0 0, .int .i64 1]) ∧ Below w.heap.size w w')
theorem bods4 {w : World} {A1 A2 A3 A4 : Option Addr} {n1 c1 n2 c2 n3 c3 n4 c4 : Nat} {l1 l2 l3 l4 : List Int} (h1 : Byt w A1 n1 c1 l1) (h2 : Byt w A2 n2 c2 l2) (h3 : Byt w A3 n3 c3 l3) (h4 : Byt w A4 n4 c4 l4) :
  Bods (w.alloc (.cells #[.slice A1 n1 c1, .slice A2 n2 c2, .slice A3 n3 c3, .slice A4 n4 c4] 59)) (some ⟨w.heap.size, 0, none⟩) 4 4 [l1, l2, l3, l4] [(A1, n1, c1), (A2, n2, c2), (A3, n3, c3), (A4, n4, c4)] := by
 refine ⟨⟨rfl, Nat.le_refl _, by unfold maxLen; omega, (fun e => nomatch e), fun _ => ⟨w.heap.size, 0, rfl, fun j v hv => ?_⟩⟩, rfl, rfl, fun i hi => ?_⟩
 ·have h := Bk.new w 59 #[.slice A1 n1 c1, .slice A2 n2 c2, .slice A3 n3 c3, .slice A4 n4 c4]
  rw [h.cell, Nat.zero_add]
  simpa [slV] using hv
 ·have : i = 0 ∨ i = 1 ∨ i = 2 ∨ i = 3 := by omega
  rcases this with rfl | rfl | rfl | rfl
  ·exact h1.alloc _
  ·exact h2.alloc _
  ·exact h3.alloc _
  ·exact h4.alloc _
theorem pow5 : (256 : Nat) ^ 5 = 1099511627776 := by decide
theorem shEnc_any (x : Sh) (w : World) (hx : x.In) (hd : x.data.size ≤ 1000) : Calls Tryz.prog 49 #[.agg x.cells.toArray] w (RetEnc x w) := by
 have CS0 := fun W => stor_any x W hx
 obtain ⟨inc, pos, first, data⟩ := x
 have HIN := Lib.hid hx
 obtain ⟨⟨i0, i1⟩, ⟨p0, p1⟩, ⟨f0, f1⟩, _⟩ := hx
 simp only at i0 i1 p0 p1 f0 f1 hd
 show Calls _ _ #[.agg #[.int .i64 inc, .int .i64 pos, .int .i64 first, .string data]] w _
 obtain ⟨W1, hW1⟩ : ∃ W1, W1 = w.alloc (.cells #[.int .i64 inc, .int .i64 pos, .int .i64 first, .string data] 93) := ⟨_, rfl⟩
 obtain ⟨r, hr⟩ : ∃ r, w.heap.size = r := ⟨_, rfl⟩
 have b1 : Below w.heap.size w W1 := by rw [hW1]; exact (Below.refl _ _).alloc (Nat.le_refl _) _
 have v1 : Bk W1 r 93 #[.int .i64 inc, .int .i64 pos, .int .i64 first, .string data] := by rw [hW1, ← hr]; exact Bk.new _ _ _
 have CS := CS0 W1
 have HW := Lib.hid hW1
 have HV := Lib.hid v1
 have HB := Lib.hid b1
 have hr' := Lib.hid hr
 clear hW1 v1 b1 hr CS0
 by_cases hst : storP ⟨inc, pos, first, data⟩
 ·rw [decide_eq_true hst] at CS
  have CS := Lib.hid CS
  have HST := Lib.hid hst
  obtain ⟨⟨g0, g1⟩, ⟨g2, g3⟩, g4, g5⟩ := hst
  simp only at g0 g1 g2 g3 g4 g5
  have g6 : 0 ≤ first ∧ first < 256 := by omega
  obtain ⟨I, rfl⟩ := Int.eq_ofNat_of_zero_le g0
  obtain ⟨P, rfl⟩ := Int.eq_ofNat_of_zero_le g2
  obtain ⟨F, rfl⟩ := Int.eq_ofNat_of_zero_le g6.1
  have hF : F < 256 := by omega
  clear g5 g6
  go_enter Tryz.func49, Tryz.ntmps49
  go_upto_region 1 with fail
  rw [hr'.out, ← HW.out]
  clear HW
  go_wp2_with (refine wpList_load_row rfl _ _ rfl _ rfl _ _ _ _ HV.out Tryz.underlying93 rfl (by kernel_rfl) ?_)
  refine CS.out.mono ?_
  rintro e w2 ⟨rfl, b2⟩
  have B2 := Lib.hid (HB.out.trans (b2.mono HB.out.size))
  have V2 := Lib.hid (HV.out.bel b2 HV.out.lt)
  have c0 : w2.cell? ⟨r, 0, none⟩ = some (.int .i64 (I : Int)) := V2.out.cell 0
  clear b2 CS
  go_wp2_with fail
  refine (numWide_yes I 5 (by omega) (by omega) (by omega) (by rw [pow5]; omega) w2).mono ?_
  rintro e w3 ⟨A3, n3, c3, rfl, hb3, b3⟩
  have B3 := Lib.hid (B2.out.trans (b3.mono B2.out.size))
  have V3 := Lib.hid (V2.out.bel b3 V2.out.lt)
  have H3 := Lib.hid hb3
  have c1 : w3.cell? ⟨r, 1, none⟩ = some (.int .i64 (P : Int)) := V3.out.cell 1
  clear b3 hb3 c0
  go_wp2_with fail
  refine (numWide_yes P 5 (by omega) (by omega) (by omega) (by rw [pow5]; omega) w3).mono ?_
  rintro e w4 ⟨A4, n4, c4, rfl, hb4, b4⟩
  have B4 := Lib.hid (B3.out.trans (b4.mono B3.out.size))
  have V4 := Lib.hid (V3.out.bel b4 V3.out.lt)
  have H4 := Lib.hid hb4
  have H3 := Lib.hid (H3.out.below b4)
  have c2 : w4.cell? ⟨r, 2, none⟩ = some (.int .i64 (F : Int)) := V4.out.cell 2
  have c3' : w4.cell? ⟨r, 3, none⟩ = some (.string data) := V4.out.cell 3
  have d3 : (w4.alloc (.cells #[.int .u8 (F : Int), .int .u8 (data.size : Int)] 5)).cell? ⟨r, 3, none⟩ = some (.string data) := by
   have : Below w4.heap.size w4 (w4.alloc (.cells #[.int .u8 (F : Int), .int .u8 (data.size : Int)] 5)) := (Below.refl _ _).alloc (Nat.le_refl _) _
   exact (this.cell (p := ⟨r, 3, none⟩) V4.out.lt).trans c3'
  clear b4 hb4 c1
  obtain ⟨W5, hW5⟩ : ∃ W5, W5 = Lib.bytesWorld (w4.alloc (.cells #[.int .u8 (F : Int), .int .u8 (data.size : Int)] 5)) 5 data := ⟨_, rfl⟩
  have hconv := conv_str (w4.alloc (.cells #[.int .u8 (F : Int), .int .u8 (data.size : Int)] 5)) data
  rw [← hW5] at hconv
  have bA : Below w4.heap.size w4 (w4.alloc (.cells #[.int .u8 (F : Int), .int .u8 (data.size : Int)] 5)) := (Below.refl _ _).alloc (Nat.le_refl _) _
  have bB : Below (w4.alloc (.cells #[.int .u8 (F : Int), .int .u8 (data.size : Int)] 5)).heap.size (w4.alloc (.cells #[.int .u8 (F : Int), .int .u8 (data.size : Int)] 5)) W5 := by rw [hW5]; exact bytesWorld_below _ 5 data
  have b45 : Below w4.heap.size w4 W5 := Below.then bA bB
  have Y4 : Byt W5 (some ⟨(w4.alloc (.cells #[.int .u8 (F : Int), .int .u8 (data.size : Int)] 5)).heap.size, 0, none⟩) data.size (grownCap (w4.alloc (.cells #[.int .u8 (F : Int), .int .u8 (data.size : Int)] 5)) data.size 0 5) (nums data) := by
   rw [hW5]; exact Byt.ofString _ 5 data (by unfold maxLen; omega)
  have Y3 : Byt W5 (some ⟨w4.heap.size, 0, none⟩) 2 2 [(F : Int), (data.size : Int)] := (Byt.lit w4 5 [(F : Int), (data.size : Int)] 2 rfl (by unfold maxLen; omega) (by intro y hy; simp at hy; rcases hy with rfl | rfl <;> omega)).below bB
  obtain ⟨g4, hg4⟩ : ∃ g, (w4.alloc (.cells #[.int .u8 (F : Int), .int .u8 (data.size : Int)] 5)).heap.size = g := ⟨_, rfl⟩
  obtain ⟨k4, hk4⟩ : ∃ k, grownCap (w4.alloc (.cells #[.int .u8 (F : Int), .int .u8 (data.size : Int)] 5)) data.size 0 5 = k := ⟨_, rfl⟩
  rw [hg4, hk4] at Y4 hconv
  have C6 := concat_any _ 4 4 _ _ _ (bods4 (H3.out.below b45) (H4.out.below b45) Y3 Y4) (by omega) (by
   intro b hb
   simp at hb
   rcases hb with rfl | rfl | rfl | rfl
   ·rw [wideL_len]; omega
   ·rw [wideL_len]; omega
   ·simp
   ·rw [nums_len]; exact hd) (by unfold sumLen; simp [wideL_len]; omega)
  have eC : [wideL 5 I, wideL 5 P, [(F : Int), (data.size : Int)], nums data].flatMap id = encS ⟨(I : Int), (P : Int), (F : Int), data⟩ := by
   show wideL 5 I ++ (wideL 5 P ++ ([(F : Int), (data.size : Int)] ++ (nums data ++ []))) = _
   rw [List.append_nil]
   rfl
  rw [eC] at C6
  have C6 := Lib.hid C6
  have B5 := Lib.hid (B4.out.trans ((b45.trans ((Below.refl W5.heap.size W5).alloc (Nat.le_refl _) (.cells #[.slice A3 n3 c3, .slice A4 n4 c4, .slice (some ⟨w4.heap.size, 0, none⟩) 2 2, .slice (some ⟨g4, 0, none⟩) data.size k4] 59) |>.mono b45.size)).mono B4.out.size))
  have m1 : (F : Int) % 256 = (F : Int) := by omega
  have m2 : (data.size : Int) % 256 = (data.size : Int) := by omega
  clear bA bB b45 Y4 Y3 hW5 hk4 eC H3 H4 V4 HIN
  go_wp2_with fail
  refine C6.out.mono ?_
  rintro e w6 ⟨A6, n6, c6, rfl, ho6, hr6, b6⟩
  have H6 := Lib.hid (Byt.of_own ho6 hr6)
  have B6 := Lib.hid (B5.out.trans (b6.mono B5.out.size))
  clear ho6 hr6 b6 C6
  go_wp2_with fail
  go_ret2
  exact .inl ⟨HST.out, A6, n6, c6, rfl, H6.out, B6.out⟩
 ·rw [decide_eq_false hst] at CS
  have CS := Lib.hid CS
  have HST := Lib.hid hst
  clear hst
  go_enter Tryz.func49, Tryz.ntmps49
  go_upto_region 1 with fail
  rw [hr'.out, ← HW.out]
  clear HW
  go_wp2_with (refine wpList_load_row rfl _ _ rfl _ rfl _ _ _ _ HV.out Tryz.underlying93 rfl (by kernel_rfl) ?_)
  refine CS.out.mono ?_
  rintro e w2 ⟨rfl, b2⟩
  have B2 := Lib.hid (HB.out.trans (b2.mono HB.out.size))
  clear b2
  go_wp2_with fail
  go_ret2
  exact .inr ⟨HST.out, rfl, B2.out⟩
end

/- sheets as a thing in memory; what the writing of sheets makes of a disk. -/
section
open Go.RowKit
section
variable {w w' : World} {A : Option Addr} {n c : Nat} {l : List Sh}
theorem Shs.same (h : Shs w A n c l) (hk : ∀ a, A = some a → w'.heap[a.block]? = w.heap[a.block]?) : Shs w' A n c l :=
 ⟨⟨h.flt.len, h.flt.cap, h.flt.max, h.flt.nil_, fun hn => by
  obtain ⟨g, off, e, hc⟩ := h.flt.at_ hn
  exact ⟨g, off, e, fun j v hv => (World.cell?_of_block (w := w) (w' := w') (a := ⟨g, off + j, none⟩) (hk ⟨g, off, none⟩ e)).trans (hc j v hv)⟩⟩, h.len, h.inn⟩
end
def shsR (A : Option Addr) (n c : Nat) (l : List Sh) : Res where
 is w F := Shs w A n c l ∧ (∀ a, A = some a → F a.block) ∧ ∀ k, F k → k < w.heap.size
 lt _ _ h := h.2.2
 keep w w' F := fun h hs hk => ⟨h.1.same (fun a ha => hk _ (h.2.1 a ha)), h.2.1, fun k f => Nat.lt_of_lt_of_le (h.2.2 k f) hs⟩
theorem Shs.at_lt {w : World} {A : Option Addr} {n c : Nat} {l : List Sh} (h : Shs w A n c l) (hn : 0 < n) : ∀ a, A = some a → a.block < w.heap.size := fun a ha => by
 obtain ⟨g, off, e, hc⟩ := h.flt.at_get sh0 Sh.cells Sh.cells_len h.len hn
 have := hc 0 hn 0 _ rfl
 rw [ha] at e
 injection e with e
 subst e
 exact World.block_lt_of_cell? w _ this
theorem shsR_new {B : Nat} {S : Res} {w w' : World} {A : Option Addr} {n c : Nat} {l : List Sh} (h : Has B S w) (hB : B ≤ w.heap.size) (hb : Below w.heap.size w w') (hs : Shs w' A n c l) (hn : 0 < n) (hA : ∀ a, A = some a → w.heap.size ≤ a.block) : Has B ((shsR A n c l).star S) w' :=
 h.new hB hb ⟨hs, fun a ha => ⟨hA a ha, hs.at_lt hn a ha⟩, fun k f => f.2⟩
def secOf (pos count : Int) : Int := 2 + pos % count
def wrAll (c : Int) : St → List Sh → St × Int
 | s, [] => (s.sync, s.sErr)
 | s, x :: r => if putE s (secOf x.pos c) (encS x) ≠ 0 then (putS s (secOf x.pos c) (encS x), putE s (secOf x.pos c) (encS x)) else wrAll c (putS s (secOf x.pos c) (encS x)) r
theorem putS_pend (s : St) (n : Int) (p : List Int) : (putS s n p).pend.length ≤ s.pend.length + 1 ∧ (putS s n p).syncs = s.syncs := by
 unfold putS St.write
 split
 ·exact ⟨by omega, rfl⟩
 ·split
  ·exact ⟨by omega, rfl⟩
  ·split
   ·exact ⟨by omega, rfl⟩
   ·split
    ·exact ⟨by omega, rfl⟩
    ·split
     ·exact ⟨by show (s.pend ++ [_]).length ≤ _; simp, St.step_syncs s⟩
     ·exact ⟨by rw [St.step_pend]; omega, St.step_syncs s⟩
theorem wgSector_any (pos count : Int) (w : World) (hp : sml pos) (hc : 1 ≤ count ∧ count ≤ 100000) : Calls Tryz.prog 52 #[.int .i64 pos, .int .i64 count] w (Quiet (.int .i64 (secOf pos count)) w) := by
 unfold sml at hp
 unfold secOf
 have h1 : pos.tmod count = pos % count := Int.tmod_eq_emod_of_nonneg hp.1
 have h2 : 0 ≤ pos % count ∧ pos % count < count := ⟨Int.emod_nonneg _ (by omega), Int.emod_lt_of_pos _ (by omega)⟩
 have h3 : count ≠ 0 := by omega
 go_enter Tryz.func52, Tryz.ntmps52
 go_wp2_with fail
 go_ret
 exact ⟨by go_num, 0, rfl⟩
end
end Go.Proofs.YtfmfmdiegabobabGreatDoor
