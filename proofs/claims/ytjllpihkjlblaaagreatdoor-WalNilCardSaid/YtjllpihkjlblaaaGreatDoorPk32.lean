/- What it says: contracts and plain mathematics that the laws' walks use, 32 of 32: each part's own remark says what; no condition. -/
import Derived.Test.YtjllpihkjlblaaaGreatDoorPk1
import Derived.Test.YtjllpihkjlblaaaGreatDoorPk2
import Derived.Test.YtjllpihkjlblaaaGreatDoorPk5
import Derived.Test.YtjllpihkjlblaaaGreatDoorPk6
import Derived.Test.YtjllpihkjlblaaaGreatDoorPk31
import Derived.Test.YtjllpihkjlblaaaGreatDoorRows
import Derived.ProofKit
import Derived.OpenShut
import Derived.ShutString
import Derived.ChangeOld
import Derived.SizedLaws
import Derived.Lib.LaidTab
import Derived.LaidMore
import Derived.Stop.Joined
import Derived.LoopTactic
import Derived.Deep.CutBlock
import Derived.Deep.Slices
import Derived.Lib.SmallJoins
import Derived.ChangeArms

set_option linter.unusedSimpArgs false
set_option linter.unusedVariables false
set_option linter.deprecated false
set_option linter.unusedSectionVars false
set_option linter.all false
namespace Go.Proofs.YtjllpihkjlblaaaGreatDoor

/- plain mathematics of logs of small records, each forced. No program is named. -/
section
open Go.RowKit
def rcsN (f : Nat → Nat) (k : Nat) : List (Rc × Int) := (List.range k).map (fun i => ((xOne (f i)).read, (i : Int)))
def lgN (z : Int) (f : Nat → Nat) (k : Nat) : Lg := ⟨z, opM msF, rcsN f k, k, [], 0, k, false⟩
def lgW (z : Int) (f : Nat → Nat) (k : Nat) : Lg := ⟨z, opM msF, rcsN f (k + 1), k, [rcL (xOne (f k)).read], 8, k, false⟩
theorem lgMade_eq (z : Int) (f : Nat → Nat) : lgMade z = lgN z f 0 := rfl
theorem rcsN_len (f : Nat → Nat) (k : Nat) : (rcsN f k).length = k := by simp [rcsN]
theorem rcsN_next (f : Nat → Nat) (k : Nat) : rcsN f (k + 1) = rcsN f k ++ [((xOne (f k)).read, (k : Int))] := by simp [rcsN, List.range_succ]
theorem rcsN_get (f : Nat → Nat) (k i : Nat) (h : i < k) (d : Rc × Int) : (rcsN f k).getD i d = ((xOne (f i)).read, (i : Int)) := by
  unfold rcsN
  simp [List.getD, h]
def fOk (f : Nat → Nat) : Prop := ∀ i, 1 ≤ f i ∧ f i < 128
theorem rcsN_enc {f : Nat → Nat} (hf : fOk f) (k : Nat) : ∀ r ∈ rcsN f k, encE r.1 = 0 := fun r hr => by
  obtain ⟨i, hi, rfl⟩ := List.mem_map.1 hr
  exact xOne_encE (f i) (hf i)
theorem smM : sml (opM msF).gen ∧ sml (opM msF).inc ∧ sml (opM msF).first ∧ sml (opM msF).lsn ∧ sml (opM msF).chk := by unfold sml; decide
section
variable {z : Int} {f : Nat → Nat} {k : Nat}
theorem lgN_fit (hz : 8 ≤ z ∧ z ≤ 1000) (hk : k ≤ 1000) : (lgN z f k).Fit :=
  ⟨⟨by show 0 ≤ z; omega, by show z ≤ _; omega⟩, smM.1, smM.2.1, smM.2.2.1, smM.2.2.2.1, smM.2.2.2.2, ⟨by show (0 : Int) ≤ (k : Int); omega, by show (k : Int) ≤ _; omega⟩, ⟨by show (0 : Int) ≤ 0; omega, by show (0 : Int) ≤ _; omega⟩, ⟨by show (0 : Int) ≤ (k : Int); omega, by show (k : Int) ≤ _; omega⟩, by show (0 : Int) ≤ _; omega, by show (rcsN f k).length ≤ _; rw [rcsN_len]; omega, by show 0 ≤ 1000; omega⟩
theorem lgW_fit (hz : 8 ≤ z ∧ z ≤ 1000) (hk : k ≤ 1000) : (lgW z f k).Fit :=
  ⟨⟨by show 0 ≤ z; omega, by show z ≤ _; omega⟩, smM.1, smM.2.1, smM.2.2.1, smM.2.2.2.1, smM.2.2.2.2, ⟨by show (0 : Int) ≤ (k : Int); omega, by show (k : Int) ≤ _; omega⟩, ⟨by show (0 : Int) ≤ 8; omega, by show (8 : Int) ≤ _; omega⟩, ⟨by show (0 : Int) ≤ (k : Int); omega, by show (k : Int) ≤ _; omega⟩, by show (8 : Int) ≤ _; omega, by show (rcsN f (k + 1)).length ≤ _; rw [rcsN_len]; omega, by show 1 ≤ 1000; omega⟩
theorem lgN_last : (lgN z f k).last = k := by show (1 : Int) + ((rcsN f k).length : Int) - 1 = k; rw [rcsN_len]; omega
theorem lgN_used : (lgN z f k).used = k := by
  show ((k : Int) - 0) + shI 0 = k
  have : shI 0 = 0 := by decide
  rw [this]; omega
theorem lgN_apL (hf : fOk f) : (lgN z f k).apL (xOne (f k)).read = lgW z f k := by
  unfold Lg.apL lgW lgN
  simp only [Lg.mk.injEq, true_and]
  refine ⟨?_, by simp, ?_, trivial⟩
  · rw [rcsN_next]
    simp
  · rw [xOne_seal (f k) (hf k).2]
    rfl
theorem lgN_ap (hf : fOk f) (sp : Int) : (lgN z f k).apE (xOne (f k)).read sp = if z - max sp 0 < (k : Int) + 1 then 90 else 0 := by
  unfold Lg.apE
  rw [if_neg (show ¬ (lgN z f k).down = true from fun q => by cases q), if_neg (by rw [xOne_encE (f k) (hf k)]; simp), xOne_seal (f k) (hf k).2]
  show (if z - max sp 0 < ((k : Int) - 0) + shI (0 + (8 : Nat)) then (90 : Int) else 0) = _
  have : shI (0 + ((8 : Nat) : Int)) = 1 := by decide
  rw [this]
  have e : (k : Int) - 0 + 1 = (k : Int) + 1 := by omega
  rw [e]
theorem lgN_app (hf : fOk f) {sp : Int} (h : (k : Int) + 1 ≤ z - max sp 0) : (lgN z f k).apE (xOne (f k)).read sp = 0 ∧ (lgN z f k).app (xOne (f k)).read sp = lgW z f k ∧ (lgN z f k).apN (xOne (f k)).read sp = (k : Int) + 1 := by
  have e : (lgN z f k).apE (xOne (f k)).read sp = 0 := by rw [lgN_ap hf, if_neg (by omega)]
  refine ⟨e, ?_, ?_⟩
  · unfold Lg.app; rw [if_pos e, lgN_apL hf]
  · unfold Lg.apN; rw [if_pos e, lgN_last]
theorem lgN_full (hf : fOk f) {sp : Int} (h : z - max sp 0 < (k : Int) + 1) : (lgN z f k).apE (xOne (f k)).read sp = 90 ∧ (lgN z f k).app (xOne (f k)).read sp = lgN z f k ∧ (lgN z f k).apN (xOne (f k)).read sp = 0 := by
  have e : (lgN z f k).apE (xOne (f k)).read sp = 90 := by rw [lgN_ap hf, if_pos h]
  obtain ⟨a, b⟩ := Lg.ap_no e (by decide)
  exact ⟨e, a, b⟩
theorem lgW_lay (hf : fOk f) (hk : k ≤ 1000) : (lgW z f k).layE = 0 ∧ (lgW z f k).layS.length = 1 ∧ (∀ x ∈ (lgW z f k).layS, storP x) ∧ (allL (lgW z f k).wait).length = 8 := by
  have ha : (allL [rcL (xOne (f k)).read]).length = 8 := by
    have : allL [rcL (xOne (f k)).read] = sealL (rcL (xOne (f k)).read) := by simp [allL]
    rw [this, xOne_seal (f k) (hf k).2]
  have e : (lgW z f k).layE = 0 := by
    show layErr 1 (k : Int) [rcL (xOne (f k)).read] = 0
    unfold layErr
    rw [if_neg, if_neg, if_neg]
    · rw [ha]
      have : shN 8 = 1 := by decide
      rw [this]; omega
    · rintro ⟨b, hb, q⟩
      simp at hb
      subst hb
      have := (encE_zero (xOne_encE (f k) (hf k))).2
      omega
    · rintro (q | q)
      · cases q
      · unfold isSeqB at q
        have := of_decide_eq_false q
        omega
  have e2 : (lgW z f k).layS = layShs 1 (k : Int) [rcL (xOne (f k)).read] := if_pos e
  refine ⟨e, by rw [e2, layShs_len, ha]; decide, ?_, ha⟩
  rw [e2]
  refine lay_stor e (fun b hb => ?_)
  simp at hb
  subst hb
  rw [xOne_rc (f k) (hf k).2]
  intro x hx
  have := (hf k).2
  simp at hx
  omega
theorem lgW_fc (hf : fOk f) (hk : k ≤ 1000) (hz : 8 ≤ z) {s : St} (h : Up s) (hn : (s.num : Int) = 2 + z) : (lgW z f k).fcE s = 0 ∧ (lgW z f k).fcL s = lgN z f (k + 1) ∧ Up ((lgW z f k).fcS s) ∧ ((lgW z f k).fcS s).num = s.num ∧ ((lgW z f k).fcS s).pend = [] ∧ ((lgW z f k).fcS s).syncs = s.syncs + 1 := by
  obtain ⟨l1, l2, l3, _⟩ := lgW_lay (z := z) hf hk
  obtain ⟨w1, w2, w3, w4, w5⟩ := wrAll_up (lgW z f k).layS s z h (by omega) (by omega) l3
  have hd : ¬ (lgW z f k).down = true := fun q => by cases q
  have hw : ¬ (lgW z f k).wait = [] := fun q => by cases q
  have hl : ¬ (lgW z f k).layE ≠ 0 := fun q => q l1
  have hc : (lgW z f k).count = z := rfl
  refine ⟨?_, ?_, ?_⟩
  · unfold Lg.fcE
    rw [if_neg hd, if_neg hw, if_neg hl, hc, w1]
  · unfold Lg.fcL
    rw [if_neg hd, if_neg hw, if_neg hl, hc, if_neg (by rw [w1]; simp), l2]
    unfold Lg.wrote lgN lgW
    simp only [Lg.mk.injEq, true_and]
    exact ⟨by omega, by omega, trivial⟩
  · have e : (lgW z f k).fcS s = (wrAll z s (lgW z f k).layS).1 := by
      unfold Lg.fcS
      rw [if_neg hd, if_neg hw, if_neg hl, hc]
    rw [e]
    exact ⟨w2, w3, w4, w5⟩
theorem lgN_get (i : Nat) (hi : i < k) : (lgN z f k).gtE ((i : Int) + 1) = 0 ∧ (lgN z f k).gtR ((i : Int) + 1) = (xOne (f i)).read := by
  have e : (lgN z f k).gtE ((i : Int) + 1) = 0 := by
    unfold Lg.gtE
    rw [if_neg (show ¬ (lgN z f k).down = true from fun q => by cases q), if_neg]
    rw [lgN_last]
    show ¬ ((i : Int) + 1 < 1 ∨ (k : Int) < (i : Int) + 1)
    omega
  refine ⟨e, ?_⟩
  unfold Lg.gtR
  rw [if_pos e]
  have : ((i : Int) + 1 - (lgN z f k).m.lsn).toNat = i := by show ((i : Int) + 1 - 1).toNat = i; omega
  rw [this]
  show ((rcsN f k).getD i _).1 = _
  rw [rcsN_get f k i hi]
theorem lgW_get (i : Nat) (hi : i < k + 1) : (lgW z f k).gtE ((i : Int) + 1) = 0 ∧ (lgW z f k).gtR ((i : Int) + 1) = (xOne (f i)).read := by
  have e : (lgW z f k).gtE ((i : Int) + 1) = 0 := by
    unfold Lg.gtE
    rw [if_neg (show ¬ (lgW z f k).down = true from fun q => by cases q), if_neg]
    unfold Lg.last
    show ¬ ((i : Int) + 1 < 1 ∨ (1 : Int) + ((rcsN f (k + 1)).length : Int) - 1 < (i : Int) + 1)
    rw [rcsN_len]
    omega
  refine ⟨e, ?_⟩
  unfold Lg.gtR
  rw [if_pos e]
  have : ((i : Int) + 1 - (lgW z f k).m.lsn).toNat = i := by show ((i : Int) + 1 - 1).toNat = i; omega
  rw [this]
  show ((rcsN f (k + 1)).getD i _).1 = _
  rw [rcsN_get f (k + 1) i hi]
end
end

/- Append, Force and the numbers of a log of small records. -/
section
open Go.RowKit
structure Dk (z : Int) (n : Nat) (s : St) : Prop where
  up : Up s
  num : (s.num : Int) = 2 + z
  pend : s.pend = []
  syncs : s.syncs ≤ n
theorem Made.dk {z : Int} {s : St} (h : Made z s) : Dk z 2 s := ⟨h.up, h.num, h.pend, by rw [h.syncs]; exact Nat.le_refl _⟩
section
variable {B : Nat} {R : Res} {w : World} {b d : Nat} {z : Int} {f : Nat → Nat} {k : Nat} {s : St}
theorem lgN_append (h : Has B ((lgR b d (lgN z f k)).star R) w) (hB : B ≤ w.heap.size) (hT : Tab w) (hf : fOk f) (hz : 8 ≤ z ∧ z ≤ 1000) (hk : k ≤ 900) (sp : Int) (hsp : -9223372036854775808 ≤ sp ∧ sp ≤ 9223372036854775807) (hr : (k : Int) + 1 ≤ z - max sp 0) :
    Calls Tryz.prog 29 #[.pointer (some ⟨b, 0, none⟩), (xOne (f k)).val, .int .i64 sp] w (RetHas (.tuple #[.int .i64 ((k : Int) + 1), .int .i64 0]) B ((lgR b d (lgW z f k)).star R) w) := by
  have C := wgAppend_any h hB (lgN_fit hz (by omega)) hT (xOne (f k)) (fun _ => by rw [lgN_apL hf]; exact lgW_fit hz (by omega)) (xOne_in _ _ _ (by have := hf k; unfold i64; omega)) sp hsp
  obtain ⟨e1, e2, e3⟩ := lgN_app (z := z) hf (k := k) (sp := sp) hr
  rw [e1, e2, e3] at C
  exact C
theorem lgN_append_full (h : Has B ((lgR b d (lgN z f k)).star R) w) (hB : B ≤ w.heap.size) (hT : Tab w) (hf : fOk f) (hz : 8 ≤ z ∧ z ≤ 1000) (hk : k ≤ 900) (sp : Int) (hsp : -9223372036854775808 ≤ sp ∧ sp ≤ 9223372036854775807) (hr : z - max sp 0 < (k : Int) + 1) (tx : Nat) (ht : tx = f k) :
    Calls Tryz.prog 29 #[.pointer (some ⟨b, 0, none⟩), (xOne tx).val, .int .i64 sp] w (RetHas (.tuple #[.int .i64 0, .int .i64 90]) B ((lgR b d (lgN z f k)).star R) w) := by
  subst ht
  have C := wgAppend_any h hB (lgN_fit hz (by omega)) hT (xOne (f k)) (fun _ => by rw [lgN_apL hf]; exact lgW_fit hz (by omega)) (xOne_in _ _ _ (by have := hf k; unfold i64; omega)) sp hsp
  obtain ⟨e1, e2, e3⟩ := lgN_full (z := z) hf (k := k) (sp := sp) hr
  rw [e1, e2, e3] at C
  exact C
def RetFc (L : Lg) (z : Int) (n b d B : Nat) (R : Res) (w : World) (e : Ending) (w' : World) : Prop := ∃ s', e = .returned (.int .i64 0) ∧ Dk z n s' ∧ Has B ((lgR b d L).star ((dsk d s').star R)) w' ∧ Below B w w'
theorem lgW_force {n : Nat} (h : Has B ((lgR b d (lgW z f k)).star ((dsk d s).star R)) w) (hB : B ≤ w.heap.size) (hT : Tab w) (hf : fOk f) (hz : 8 ≤ z ∧ z ≤ 1000) (hk : k ≤ 900) (hs : Dk z n s) (hn : n ≤ 90000) :
    Calls Tryz.prog 31 #[.pointer (some ⟨b, 0, none⟩)] w (RetFc (lgN z f (k + 1)) z (n + 1) b d B R w) := by
  obtain ⟨_, _, _, l4⟩ := lgW_lay (z := z) (f := f) (k := k) hf (by omega)
  have C := wgForce_any h hB (lgW_fit hz (by omega)) hT (by show 1 ≤ z ∧ z ≤ 100000; omega) (by rw [l4]; omega) (by rw [hs.pend]; show 0 ≤ 900000; omega) (by have := hs.syncs; omega)
  obtain ⟨e1, e2, e3, e4, e5, e6⟩ := lgW_fc (f := f) (k := k) hf (by omega) hz.1 hs.up hs.num
  rw [e1, e2] at C
  refine C.mono ?_
  rintro e w' ⟨he, hh, hb⟩
  exact ⟨_, he, ⟨e3, by rw [e4]; exact hs.num, e5, by rw [e6]; have := hs.syncs; omega⟩, hh, hb⟩
theorem lgN_force {n : Nat} (h : Has B ((lgR b d (lgN z f k)).star ((dsk d s).star R)) w) (hB : B ≤ w.heap.size) (hT : Tab w) (hz : 8 ≤ z ∧ z ≤ 1000) (hk : k ≤ 900) (hs : Dk z n s) (hn : n ≤ 90000) :
    Calls Tryz.prog 31 #[.pointer (some ⟨b, 0, none⟩)] w (RetFc (lgN z f k) z (n + 1) b d B R w) := by
  have C := wgForce_any h hB (lgN_fit hz (by omega)) hT (by show 1 ≤ z ∧ z ≤ 100000; omega) (by show 0 ≤ 240000; omega) (by rw [hs.pend]; show 0 ≤ 900000; omega) (by have := hs.syncs; omega)
  refine C.mono ?_
  rintro e w' ⟨he, hh, hb⟩
  exact ⟨s, he, ⟨hs.up, hs.num, hs.pend, by have := hs.syncs; omega⟩, hh, hb⟩
theorem lgN_nums (h : Has B ((lgR b d (lgN z f k)).star R) w) (hz : 8 ≤ z ∧ z ≤ 1000) (hk : k ≤ 900) :
    Calls Tryz.prog 24 #[.pointer (some ⟨b, 0, none⟩)] w (Ret (.int .i64 1) w) ∧ Calls Tryz.prog 27 #[.pointer (some ⟨b, 0, none⟩)] w (Ret (.int .i64 (k : Int)) w) ∧ Calls Tryz.prog 19 #[.pointer (some ⟨b, 0, none⟩)] w (Ret (.int .i64 (k : Int)) w) := by
  obtain ⟨F, A, n, c, xs, Q, p, q, vs, G, ha⟩ := lgR_at h
  have hn : (lgN z f k).recs.length = n := by rw [← ha.read, List.length_map]; exact ha.len
  have c1 := wgGetFirst_any ha.bk
  have c2 := wgGetLast_any ha.bk (lgN_fit hz (by omega)) hn
  have c3 := wgGetUsed_any ha.bk (lgN_fit hz (by omega))
  rw [lgN_last] at c2
  rw [lgN_used] at c3
  exact ⟨c1, c2, c3⟩
theorem lgN_Get (h : Has B ((lgR b d (lgN z f k)).star R) w) (hf : fOk f) (hz : 8 ≤ z ∧ z ≤ 1000) (hk : k ≤ 900) (i : Nat) (hi : i < k) :
    Calls Tryz.prog 36 #[.pointer (some ⟨b, 0, none⟩), .int .i64 ((i : Int) + 1)] w (RetGet (xOne (f i)).read 0 w) := by
  have C := wgGet_any (lgR_at h) (lgN_fit hz (by omega)) (rcsN_enc hf k) ((i : Int) + 1) (by omega)
  obtain ⟨e1, e2⟩ := lgN_get (z := z) (f := f) (k := k) i hi
  rw [e1, e2] at C
  exact C
theorem lgW_Get (h : Has B ((lgR b d (lgW z f k)).star R) w) (hf : fOk f) (hz : 8 ≤ z ∧ z ≤ 1000) (hk : k ≤ 900) (i : Nat) (hi : i < k + 1) :
    Calls Tryz.prog 36 #[.pointer (some ⟨b, 0, none⟩), .int .i64 ((i : Int) + 1)] w (RetGet (xOne (f i)).read 0 w) := by
  have C := wgGet_any (lgR_at h) (lgW_fit hz (by omega)) (rcsN_enc hf (k + 1)) ((i : Int) + 1) (by omega)
  obtain ⟨e1, e2⟩ := lgW_get (z := z) (f := f) (k := k) i hi
  rw [e1, e2] at C
  exact C
end
def f3 : Nat → Nat := fun _ => 3
theorem f3_ok : fOk f3 := fun _ => ⟨by show 1 ≤ 3; omega, by show 3 < 128; omega⟩
set_option maxRecDepth 100000 in
set_option maxHeartbeats 8000000 in
theorem awake9_any {B : Nat} {R : Res} {w : World} (h : Has B R w) (hB : B ≤ w.heap.size) (hg : 0 < B) (hT : Tab w) : Calls Tryz.prog 10 #[] w (RetHas (.bool true) B R w) := by
  have CM := Lib.hid (made_any h hB hg hT 8 (by omega))
  have HT := Lib.hid hT
  have HBB := Lib.hid hB
  clear h hT hB
  go_enter Tryz.func10, Tryz.ntmps10
  go_wp2_with fail
  refine CM.out.mono ?_
  rintro e w1 ⟨d, b, s, rfl, hm, h1, b1⟩
  have hB1 : B ≤ w1.heap.size := Nat.le_trans HBB.out b1.size
  have T1 := Lib.hid (HT.out.below b1 hg)
  rw [lgMade_eq 8 f3] at h1
  have B1 := Lib.hid b1
  have H1 := Lib.hid h1
  have D1 := Lib.hid hm.dk
  have N1 := Lib.hid (lgN_nums h1 (by omega) (by omega))
  clear h1 b1 hm CM
  go_wp2_with fail
  refine N1.out.1.mono ?_
  rintro e w2 ⟨rfl, b2⟩
  have B2 := Lib.hid b2
  have N2 := Lib.hid (lgN_nums (H1.out.below b2) (by omega) (by omega))
  clear b2 N1
  go_wp2_with fail
  refine N2.out.2.1.mono ?_
  rintro e w3 ⟨rfl, b3⟩
  have B3 : Hid (Below w1.heap.size w1 w3) := Lib.hid (B2.out.trans (b3.mono B2.out.size))
  have N3 := Lib.hid (lgN_nums (H1.out.below B3.out) (by omega) (by omega))
  clear b3 N2
  go_wp2_with fail
  refine N3.out.2.2.mono ?_
  rintro e w4 ⟨rfl, b4⟩
  have B4 : Hid (Below w1.heap.size w1 w4) := Lib.hid (B3.out.trans (b4.mono B3.out.size))
  have CO := Lib.hid (one_any 3 w4)
  clear b4 N3
  go_wp2_with fail
  refine CO.out.mono ?_
  rintro e w5 ⟨rfl, b5⟩
  have B5 : Hid (Below w1.heap.size w1 w5) := Lib.hid (B4.out.trans (b5.mono B4.out.size))
  have hB5 : B ≤ w5.heap.size := Nat.le_trans hB1 B5.out.size
  have CA := Lib.hid (lgN_append (H1.out.below B5.out) hB5 (T1.out.ret B5.out) f3_ok (by omega) (by omega) 0 (by omega) (by show (0 : Int) + 1 ≤ 8 - max 0 0; omega))
  have B5w : Hid (Below B w w5) := Lib.hid (B1.out.trans (B5.out.mono hB1))
  have ex : (xOne ((f3 0 : Nat) : Int)).val = (xOne 3).val := rfl
  rw [ex] at CA
  clear b5 CO ex
  go_wp2_with fail
  refine CA.out.mono ?_
  rintro e w6 ⟨rfl, h6, b6⟩
  have hB6 : B ≤ w6.heap.size := Nat.le_trans hB5 b6.size
  have B6 : Hid (Below B w w6) := Lib.hid (B5w.out.trans b6)
  have T6 := Lib.hid (HT.out.below B6.out hg)
  have CF := Lib.hid (lgW_force h6 hB6 T6.out f3_ok (by omega) (by omega) D1.out (by omega))
  clear h6 b6 CA
  go_wp2_with fail
  refine CF.out.mono ?_
  rintro e w7 ⟨s7, rfl, d7, h7, b7⟩
  have hB7 : B ≤ w7.heap.size := Nat.le_trans hB6 b7.size
  have B7 : Hid (Below B w w7) := Lib.hid (B6.out.trans b7)
  have CG : Hid (Calls Tryz.prog 36 #[.pointer (some ⟨b, 0, none⟩), .int .i64 1] w7 (RetGet (xOne (f3 0)).read 0 w7)) := Lib.hid (lgN_Get h7 f3_ok (by omega) (by omega) 0 (by omega))
  have H7 := Lib.hid h7
  clear h7 b7 CF d7
  go_wp2_with fail
  refine CG.out.mono ?_
  rintro e w8 ⟨x, rfl, _, _, hrd, b8⟩
  have htx : x.tx = 3 := congrArg Rc.tx hrd
  obtain ⟨C, hC⟩ : ∃ C, C = x.cells := ⟨_, rfl⟩
  have HC1 : Hid (C.all (·.oneCell') = true ∧ C.size = 16) := Lib.hid (by rw [hC]; exact ⟨Xr.cells_one x, rfl⟩)
  obtain ⟨q, hq⟩ : ∃ q, w8.heap.size = q := ⟨_, rfl⟩
  obtain ⟨W9, hW9⟩ : ∃ W9, W9 = w8.alloc (.cells C 39) := ⟨_, rfl⟩
  have b9 : Below w8.heap.size w8 W9 := by rw [hW9]; exact (Below.refl _ _).alloc (Nat.le_refl _) _
  have y1 : W9.cell? ⟨q, 1, none⟩ = some (.int .i64 3) := by
    have e := (Bk.new w8 39 C).cell 1
    rw [hW9, ← hq, e, hC]
    show some (Value.int .i64 x.tx) = _
    rw [htx]
  have N9 := Lib.hid (lgN_nums ((H7.out.below b8).below b9) (by omega) (by omega))
  have B9 : Hid (Below B w W9 ∧ Has B R W9) := Lib.hid ⟨(B7.out.trans (b8.mono hB7)).trans (b9.mono (Nat.le_trans hB7 b8.size)), ((H7.out.below b8).below b9).snd.snd⟩
  have hB9 : B ≤ W9.heap.size := Nat.le_trans (Nat.le_trans hB7 b8.size) b9.size
  have HQ := Lib.hid hq
  have HW9 := Lib.hid hW9
  rw [Xr.val_eq, ← hC]
  clear b8 hrd hC b9 hq hW9 CG htx
  go_upto_region 7 with (refine wpList_store_new rfl (W := w8) rfl (c := xr0.cells) (c' := C) rfl (by first | rfl | (rw [HQ.out]; rfl)) rfl (by rw [HC1.out.2]; exact inf_rec) (by rw [HC1.out.2]; rfl) HC1.out.1 ?_; simp only [Act.put])
  (try rw [HQ.out])
  rw [← HW9.out]
  clear HW9
  go_wp2_with fail
  refine N9.out.2.2.mono ?_
  rintro e w10 ⟨rfl, b10⟩
  have R9 : Hid (RetHas (.bool true) B R w (.returned (.bool true)) w10) := Lib.hid ⟨rfl, B9.out.2.below b10, B9.out.1.trans (b10.mono hB9)⟩
  clear b10 N9
  go_wp2_with fail
  go_ret
  exact R9.out
end

/- what a row's step wants of arguments that are numbers or slices of bytes: how they read, and how long they are. No condition. -/
section
open Go.ChangeShapes Go.WideShapes Go.ChangeAt Go.RowKit
theorem own_knob : ownKnob Tryz.prog.godebug = none := by kernel_rfl
theorem laidOut : laidOutB Tryz.prog = true := by kernel_rfl
theorem i64_bd {x : Int} (h : (Lit.int .i64 x).wf = true) : -9223372036854775808 ≤ x ∧ x ≤ 9223372036854775807 := by
  simp [Lit.wf, IntKind.min, IntKind.max, IntKind.signed, IntKind.bits] at h
  exact ⟨by omega, by omega⟩
section
variable {H : Type} {enc : TypeId × Value → H} {W : World}
end
end

/- where the listed variable reads as the program's text lays it, its cells are the table's. -/
section
open Go.RowKit
theorem tab_global : Tryz.prog.globalNamed "troth/crc.byNibble" = some 0 := by kernel_rfl
theorem tab_type : (Tryz.prog.globals[0]?).map (·.type) = some 263 := by kernel_rfl
def tabZs : List Int := [0, 498536548, 997073096, 651767980, 1994146192, 1802195444, 1303535960, 1342533948, 3988292384, 4027552580, 3604390888, 3412177804, 2607071920, 2262029012, 2685067896, 3183342108]
theorem tab_zs (i : Nat) (h : i < 16) : tabZs.getD i 0 = (nib i : Int) := by
  have : i = 0 ∨ i = 1 ∨ i = 2 ∨ i = 3 ∨ i = 4 ∨ i = 5 ∨ i = 6 ∨ i = 7 ∨ i = 8 ∨ i = 9 ∨ i = 10 ∨ i = 11 ∨ i = 12 ∨ i = 13 ∨ i = 14 ∨ i = 15 := by omega
  rcases this with h | h | h | h | h | h | h | h | h | h | h | h | h | h | h | h <;> subst h <;> rfl
theorem tab_of_laid {W : World} (h : laidMetH Tryz.prog [("troth/crc.byNibble", Rows.laid_troth_crc_byNibble)] W) : Tab W := by
  rw [MakeChecks.laidMetH_plain _ _ _ (by kernel_rfl)] at h
  have h' : laidMet Tryz.prog (("troth/crc.byNibble", Lib.tabData .u32 tabZs) :: []) W := h
  have ht := Lib.tabIs_of_head (n := 16) tab_global tab_type Tryz.underlying263 Tryz.underlying251 (by kernel_rfl) (by kernel_rfl) h'
  intro i hi
  have := ht.cell tab_global i hi
  rw [tab_zs i hi] at this
  exact this
end

/- trothref07.Great where no list of the record's own is too great: it looks at the lists in lists. -/
section
open Go.RowKit
def InnerOk (x : Xr) : Prop := (∀ i, i < x.rn → (x.rows.getD i default).mn ≤ 20 ∧ (x.rows.getD i default).kn ≤ 80) ∧ ∀ i, i < x.en → (x.deeds.getD i default).mn ≤ 20
set_option maxRecDepth 100000 in
set_option maxHeartbeats 8000000 in
theorem great_in (x : Xr) (H : Nat) (w : World) (hx : XrIn H w x) (h0 : ¬ (20 : Int) < (x.mn : Int)) (h1 : ¬ (80 : Int) < (x.kn : Int)) (h2 : ¬ (70 : Int) < (x.rn : Int)) (h3 : ¬ (80 : Int) < (x.dn : Int)) (h4 : ¬ (80 : Int) < (x.en : Int)) (h5 : ¬ (300 : Int) < (x.pn : Int)) (h6 : ¬ (100 : Int) < (x.key.size : Int)) (h7 : ¬ (100 : Int) < (x.old.data.size : Int)) (h8 : ¬ (100 : Int) < (x.new.data.size : Int)) :
    Calls Tryz.prog 28 #[x.val] w (fun e w' => ∃ b, e = .returned (.bool b) ∧ (b = false → InnerOk x) ∧ Below w.heap.size w w') := by
  obtain ⟨kind, tx, prev, next, key, ⟨oh, od⟩, ⟨nh, nd⟩, co, mA, mn, mc, mem, kA, kn, kc, lks, rA, rn, rc, rows, dA, dn, dc, dirty, eA, en, ec, deeds, pA, pn, pc, past⟩ := x
  simp only at h0 h1 h2 h3 h4 h5 h6 h7 h8
  unfold Xr.val
  simp only
  obtain ⟨r, hrr⟩ : ∃ r, w.heap.size = r := ⟨_, rfl⟩
  obtain ⟨W1, hW1⟩ : ∃ W1, W1 = w.alloc (.cells #[.int .i64 kind, .int .i64 tx, .int .i64 prev, .int .i64 next, .string key, .bool oh, .string od, .bool nh, .string nd, .int .i64 co, .slice mA mn mc, .slice kA kn kc, .slice rA rn rc, .slice dA dn dc, .slice eA en ec, .slice pA pn pc] 39) := ⟨_, rfl⟩
  have hb : Below w.heap.size w W1 := by rw [hW1]; exact (Below.refl _ _).alloc (Nat.le_refl _) _
  have HX := Lib.hid (hx.calm (Calm.of_below hb))
  have HV : Bk W1 r 39 #[.int .i64 kind, .int .i64 tx, .int .i64 prev, .int .i64 next, .string key, .bool oh, .string od, .bool nh, .string nd, .int .i64 co, .slice mA mn mc, .slice kA kn kc, .slice rA rn rc, .slice dA dn dc, .slice eA en ec, .slice pA pn pc] := by rw [hW1, ← hrr]; exact Bk.new w _ _
  have q4 : W1.cell? ⟨r, 4, none⟩ = some (.string key) := HV.cell 4
  have q5 : W1.cell? ⟨r, 6, none⟩ = some (.string od) := HV.cell 6
  have q6 : W1.cell? ⟨r, 8, none⟩ = some (.string nd) := HV.cell 8
  have q10 : W1.cell? ⟨r, 10, none⟩ = some (.slice mA mn mc) := HV.cell 10
  have q11 : W1.cell? ⟨r, 11, none⟩ = some (.slice kA kn kc) := HV.cell 11
  have q12 : W1.cell? ⟨r, 12, none⟩ = some (.slice rA rn rc) := HV.cell 12
  have q13 : W1.cell? ⟨r, 13, none⟩ = some (.slice dA dn dc) := HV.cell 13
  have q14 : W1.cell? ⟨r, 14, none⟩ = some (.slice eA en ec) := HV.cell 14
  have q15 : W1.cell? ⟨r, 15, none⟩ = some (.slice pA pn pc) := HV.cell 15
  have HB := Lib.hid hb
  have HW := Lib.hid hW1
  have kcap := HX.out.lks.cap
  have kmax := HX.out.lks.max
  have rcap := HX.out.rows.cap
  have rmax := HX.out.rows.max
  have ecap := HX.out.deeds.cap
  have emax := HX.out.deeds.max
  unfold maxLen at kmax rmax emax
  clear hx hb hW1 HV
  go_enter Tryz.func28, Tryz.ntmps28
  go_upto_region 1 with fail
  (try rw [hrr])
  rw [← HW.out]
  clear HW hrr
  go_wp2_with fail
  go_loopw [3] (fun q wr => ∃ k : Nat, k ≤ kn ∧ q = .int .i64 k ∧ wr = W1) (fun q _ => kn - (intOf q).toNat)
  case atStart => exact ⟨0, Nat.zero_le _, rfl, rfl⟩
  case round =>
    obtain ⟨k, hk, rfl, hwr⟩ := hrel
    obtain rfl : W1 = wr := hwr.symm
    by_cases hlt : k < kn
    · obtain ⟨g, off, hA, _, hr⟩ := HX.out.lks.at_ (show 0 < kn by omega)
      obtain rfl : kA = _ := hA
      have c0 : W1.cell? ⟨g, off + k * 2, none⟩ = some (.string (lks.getD k default).key) := hr k hlt 0 _ rfl
      obtain ⟨ky, hky⟩ : ∃ ky, (lks.getD k default).key = ky := ⟨_, rfl⟩
      rw [hky] at c0
      clear hr hky
      by_cases hg : (100 : Int) < (ky.size : Int)
      · go_wp2_with fail
        go_ret
        first | exact ⟨true, rfl, (fun h => nomatch h), HB.out⟩ | exact ⟨rfl, HB.out⟩ | exact Or.inr ⟨rfl, HB.out⟩
      · go_wp2_with fail
        go_roundw
        case rel => exact ⟨k + 1, by omega, by go_num, by first | rfl | trivial⟩
        case measure => simp [intOf]; omega
    · obtain hkk : k = kn := by omega
      clear kcap kmax
      go_wp2_with fail
      go_loopw [4] (fun q wr2 => ∃ k : Nat, k ≤ rn ∧ q = .int .i64 k ∧ wr2 = W1 ∧ Hid (∀ i, i < k → (rows.getD i default).mn ≤ 20 ∧ (rows.getD i default).kn ≤ 80)) (fun q _ => rn - (intOf q).toNat)
      case atStart => exact ⟨0, Nat.zero_le _, rfl, rfl, Lib.hid (fun i hi => absurd hi (by omega))⟩
      case round =>
        clear hkk hk hlt
        obtain ⟨k2, hk, rfl, hwr, hin⟩ := hrel
        obtain rfl : W1 = wr := hwr.symm
        by_cases hlt : k2 < rn
        · obtain ⟨g, off, hA, _, hr⟩ := HX.out.rows.at_ (show 0 < rn by omega)
          obtain rfl : rA = _ := hA
          obtain ⟨z, hz⟩ : ∃ z, rows.getD k2 default = z := ⟨_, rfl⟩
          have hr2 := hr k2 hlt
          have hr3 : W1.rangeAt g (off + k2 * 8) (Xw.cells z) := by rw [← hz]; exact hr2
          have c6 : W1.cell? ⟨g, off + k2 * 8 + 6, none⟩ = some (.slice z.mA z.mn z.mc) := hr3 6 _ rfl
          have c7 : W1.cell? ⟨g, off + k2 * 8 + 7, none⟩ = some (.slice z.kA z.kn z.kc) := hr3 7 _ rfl
          have HZ := Lib.hid hz
          clear hr hr2 hr3 hz
          by_cases hg : (20 : Int) < (z.mn : Int)
          · go_wp2_with fail
            go_ret
            first | exact ⟨true, rfl, (fun h => nomatch h), HB.out⟩ | exact ⟨rfl, HB.out⟩ | exact Or.inr ⟨rfl, HB.out⟩
          · by_cases hg2 : (80 : Int) < (z.kn : Int)
            · go_wp2_with fail
              go_ret
              first | exact ⟨true, rfl, (fun h => nomatch h), HB.out⟩ | exact ⟨rfl, HB.out⟩ | exact Or.inr ⟨rfl, HB.out⟩
            · have hin2 : Hid (∀ i, i < k2 + 1 → (rows.getD i default).mn ≤ 20 ∧ (rows.getD i default).kn ≤ 80) := Lib.hid (fun i hi => by
                by_cases q : i < k2
                · exact hin.out i q
                · obtain rfl : i = k2 := by omega
                  rw [HZ.out]; omega)
              go_wp2_with fail
              go_roundw
              case rel => exact ⟨k2 + 1, by omega, by go_num, by first | rfl | trivial, hin2⟩
              case measure => simp [intOf]; omega
        · obtain hkk : k2 = rn := by omega
          have hin2 : Hid (∀ i, i < rn → (rows.getD i default).mn ≤ 20 ∧ (rows.getD i default).kn ≤ 80) := Lib.hid (by rw [← hkk]; exact hin.out)
          clear rcap rmax hin
          go_wp2_with fail
          go_loopw [5] (fun q wr2 => ∃ k : Nat, k ≤ en ∧ q = .int .i64 k ∧ wr2 = W1 ∧ Hid (∀ i, i < k → (deeds.getD i default).mn ≤ 20)) (fun q _ => en - (intOf q).toNat)
          case atStart => exact ⟨0, Nat.zero_le _, rfl, rfl, Lib.hid (fun i hi => absurd hi (by omega))⟩
          case round =>
            clear hkk hk hlt
            obtain ⟨k3, hk, rfl, hwr, hin⟩ := hrel
            obtain rfl : W1 = wr := hwr.symm
            by_cases hlt : k3 < en
            · obtain ⟨g, off, hA, _, hr⟩ := HX.out.deeds.at_ (show 0 < en by omega)
              obtain rfl : eA = _ := hA
              obtain ⟨z, hz⟩ : ∃ z, deeds.getD k3 default = z := ⟨_, rfl⟩
              have hr2 := hr k3 hlt
              have hr3 : W1.rangeAt g (off + k3 * 2) (Xd.cells z) := by rw [← hz]; exact hr2
              have c1 : W1.cell? ⟨g, off + k3 * 2 + 1, none⟩ = some (.slice z.mA z.mn z.mc) := hr3 1 _ rfl
              have HZ := Lib.hid hz
              clear hr hr2 hr3 hz
              by_cases hg : (20 : Int) < (z.mn : Int)
              · go_wp2_with fail
                go_ret
                first | exact ⟨true, rfl, (fun h => nomatch h), HB.out⟩ | exact ⟨rfl, HB.out⟩ | exact Or.inr ⟨rfl, HB.out⟩
              · have hin3 : Hid (∀ i, i < k3 + 1 → (deeds.getD i default).mn ≤ 20) := Lib.hid (fun i hi => by
                  by_cases q : i < k3
                  · exact hin.out i q
                  · obtain rfl : i = k3 := by omega
                    rw [HZ.out]; omega)
                go_wp2_with fail
                go_roundw
                case rel => exact ⟨k3 + 1, by omega, by go_num, by first | rfl | trivial, hin3⟩
                case measure => simp [intOf]; omega
            · obtain hkk : k3 = en := by omega
              have hin3 : Hid (∀ i, i < en → (deeds.getD i default).mn ≤ 20) := Lib.hid (by rw [← hkk]; exact hin.out)
              clear ecap emax hin
              go_wp2_with fail
              go_ret
              first | exact ⟨false, rfl, fun _ => ⟨hin2.out, hin3.out⟩, HB.out⟩ | exact Or.inl ⟨rfl, ⟨hin2.out, hin3.out⟩, HB.out⟩
end

/- trothref07.Great, where thing number 0 is too great. -/
section
open Go.RowKit
set_option maxRecDepth 100000 in
set_option maxHeartbeats 4000000 in
theorem great_0 (x : Xr) (w : World)  (h0 : (20 : Int) < (x.mn : Int)) :
    Calls Tryz.prog 28 #[x.val] w (fun e w' => e = .returned (.bool true) ∧ Below w.heap.size w w') := by
  obtain ⟨kind, tx, prev, next, key, ⟨oh, od⟩, ⟨nh, nd⟩, co, mA, mn, mc, mem, kA, kn, kc, lks, rA, rn, rc, rows, dA, dn, dc, dirty, eA, en, ec, deeds, pA, pn, pc, past⟩ := x
  simp only at h0
  unfold Xr.val
  simp only
  go_enter Tryz.func28, Tryz.ntmps28
  go_wp2_with fail
  go_ret
  exact ⟨rfl, (Below.refl _ _).alloc (Nat.le_refl _) _⟩
end

/- trothref07.Great, where thing number 1 is too great. -/
section
open Go.RowKit
set_option maxRecDepth 100000 in
set_option maxHeartbeats 4000000 in
theorem great_1 (x : Xr) (w : World) (h0 : ¬ (20 : Int) < (x.mn : Int)) (h1 : (80 : Int) < (x.kn : Int)) :
    Calls Tryz.prog 28 #[x.val] w (fun e w' => e = .returned (.bool true) ∧ Below w.heap.size w w') := by
  obtain ⟨kind, tx, prev, next, key, ⟨oh, od⟩, ⟨nh, nd⟩, co, mA, mn, mc, mem, kA, kn, kc, lks, rA, rn, rc, rows, dA, dn, dc, dirty, eA, en, ec, deeds, pA, pn, pc, past⟩ := x
  simp only at h0 h1
  unfold Xr.val
  simp only
  go_enter Tryz.func28, Tryz.ntmps28
  go_wp2_with fail
  go_ret
  exact ⟨rfl, (Below.refl _ _).alloc (Nat.le_refl _) _⟩
end

/- trothref07.Great, where thing number 2 is too great. -/
section
open Go.RowKit
set_option maxRecDepth 100000 in
set_option maxHeartbeats 4000000 in
theorem great_2 (x : Xr) (w : World) (h0 : ¬ (20 : Int) < (x.mn : Int)) (h1 : ¬ (80 : Int) < (x.kn : Int)) (h2 : (70 : Int) < (x.rn : Int)) :
    Calls Tryz.prog 28 #[x.val] w (fun e w' => e = .returned (.bool true) ∧ Below w.heap.size w w') := by
  obtain ⟨kind, tx, prev, next, key, ⟨oh, od⟩, ⟨nh, nd⟩, co, mA, mn, mc, mem, kA, kn, kc, lks, rA, rn, rc, rows, dA, dn, dc, dirty, eA, en, ec, deeds, pA, pn, pc, past⟩ := x
  simp only at h0 h1 h2
  unfold Xr.val
  simp only
  go_enter Tryz.func28, Tryz.ntmps28
  go_wp2_with fail
  go_ret
  exact ⟨rfl, (Below.refl _ _).alloc (Nat.le_refl _) _⟩
end

/- trothref07.Great, where thing number 3 is too great. -/
section
open Go.RowKit
set_option maxRecDepth 100000 in
set_option maxHeartbeats 4000000 in
theorem great_3 (x : Xr) (w : World) (h0 : ¬ (20 : Int) < (x.mn : Int)) (h1 : ¬ (80 : Int) < (x.kn : Int)) (h2 : ¬ (70 : Int) < (x.rn : Int)) (h3 : (80 : Int) < (x.dn : Int)) :
    Calls Tryz.prog 28 #[x.val] w (fun e w' => e = .returned (.bool true) ∧ Below w.heap.size w w') := by
  obtain ⟨kind, tx, prev, next, key, ⟨oh, od⟩, ⟨nh, nd⟩, co, mA, mn, mc, mem, kA, kn, kc, lks, rA, rn, rc, rows, dA, dn, dc, dirty, eA, en, ec, deeds, pA, pn, pc, past⟩ := x
  simp only at h0 h1 h2 h3
  unfold Xr.val
  simp only
  go_enter Tryz.func28, Tryz.ntmps28
  go_wp2_with fail
  go_ret
  exact ⟨rfl, (Below.refl _ _).alloc (Nat.le_refl _) _⟩
end

/- trothref07.Great, where thing number 4 is too great. -/
section
open Go.RowKit
set_option maxRecDepth 100000 in
set_option maxHeartbeats 4000000 in
theorem great_4 (x : Xr) (w : World) (h0 : ¬ (20 : Int) < (x.mn : Int)) (h1 : ¬ (80 : Int) < (x.kn : Int)) (h2 : ¬ (70 : Int) < (x.rn : Int)) (h3 : ¬ (80 : Int) < (x.dn : Int)) (h4 : (80 : Int) < (x.en : Int)) :
    Calls Tryz.prog 28 #[x.val] w (fun e w' => e = .returned (.bool true) ∧ Below w.heap.size w w') := by
  obtain ⟨kind, tx, prev, next, key, ⟨oh, od⟩, ⟨nh, nd⟩, co, mA, mn, mc, mem, kA, kn, kc, lks, rA, rn, rc, rows, dA, dn, dc, dirty, eA, en, ec, deeds, pA, pn, pc, past⟩ := x
  simp only at h0 h1 h2 h3 h4
  unfold Xr.val
  simp only
  go_enter Tryz.func28, Tryz.ntmps28
  go_wp2_with fail
  go_ret
  exact ⟨rfl, (Below.refl _ _).alloc (Nat.le_refl _) _⟩
end

/- trothref07.Great, where thing number 5 is too great. -/
section
open Go.RowKit
set_option maxRecDepth 100000 in
set_option maxHeartbeats 4000000 in
theorem great_5 (x : Xr) (w : World) (h0 : ¬ (20 : Int) < (x.mn : Int)) (h1 : ¬ (80 : Int) < (x.kn : Int)) (h2 : ¬ (70 : Int) < (x.rn : Int)) (h3 : ¬ (80 : Int) < (x.dn : Int)) (h4 : ¬ (80 : Int) < (x.en : Int)) (h5 : (300 : Int) < (x.pn : Int)) :
    Calls Tryz.prog 28 #[x.val] w (fun e w' => e = .returned (.bool true) ∧ Below w.heap.size w w') := by
  obtain ⟨kind, tx, prev, next, key, ⟨oh, od⟩, ⟨nh, nd⟩, co, mA, mn, mc, mem, kA, kn, kc, lks, rA, rn, rc, rows, dA, dn, dc, dirty, eA, en, ec, deeds, pA, pn, pc, past⟩ := x
  simp only at h0 h1 h2 h3 h4 h5
  unfold Xr.val
  simp only
  go_enter Tryz.func28, Tryz.ntmps28
  go_wp2_with fail
  go_ret
  exact ⟨rfl, (Below.refl _ _).alloc (Nat.le_refl _) _⟩
end

/- trothref07.Great, where thing number 6 is too great. -/
section
open Go.RowKit
set_option maxRecDepth 100000 in
set_option maxHeartbeats 4000000 in
theorem great_6 (x : Xr) (w : World) (h0 : ¬ (20 : Int) < (x.mn : Int)) (h1 : ¬ (80 : Int) < (x.kn : Int)) (h2 : ¬ (70 : Int) < (x.rn : Int)) (h3 : ¬ (80 : Int) < (x.dn : Int)) (h4 : ¬ (80 : Int) < (x.en : Int)) (h5 : ¬ (300 : Int) < (x.pn : Int)) (h6 : (100 : Int) < (x.key.size : Int)) :
    Calls Tryz.prog 28 #[x.val] w (fun e w' => e = .returned (.bool true) ∧ Below w.heap.size w w') := by
  obtain ⟨kind, tx, prev, next, key, ⟨oh, od⟩, ⟨nh, nd⟩, co, mA, mn, mc, mem, kA, kn, kc, lks, rA, rn, rc, rows, dA, dn, dc, dirty, eA, en, ec, deeds, pA, pn, pc, past⟩ := x
  simp only at h0 h1 h2 h3 h4 h5 h6
  unfold Xr.val
  simp only
  go_enter Tryz.func28, Tryz.ntmps28
  go_wp2_with fail
  go_ret
  exact ⟨rfl, (Below.refl _ _).alloc (Nat.le_refl _) _⟩
end

/- trothref07.Great, where thing number 7 is too great. -/
section
open Go.RowKit
set_option maxRecDepth 100000 in
set_option maxHeartbeats 4000000 in
theorem great_7 (x : Xr) (w : World) (h0 : ¬ (20 : Int) < (x.mn : Int)) (h1 : ¬ (80 : Int) < (x.kn : Int)) (h2 : ¬ (70 : Int) < (x.rn : Int)) (h3 : ¬ (80 : Int) < (x.dn : Int)) (h4 : ¬ (80 : Int) < (x.en : Int)) (h5 : ¬ (300 : Int) < (x.pn : Int)) (h6 : ¬ (100 : Int) < (x.key.size : Int)) (h7 : (100 : Int) < (x.old.data.size : Int)) :
    Calls Tryz.prog 28 #[x.val] w (fun e w' => e = .returned (.bool true) ∧ Below w.heap.size w w') := by
  obtain ⟨kind, tx, prev, next, key, ⟨oh, od⟩, ⟨nh, nd⟩, co, mA, mn, mc, mem, kA, kn, kc, lks, rA, rn, rc, rows, dA, dn, dc, dirty, eA, en, ec, deeds, pA, pn, pc, past⟩ := x
  simp only at h0 h1 h2 h3 h4 h5 h6 h7
  unfold Xr.val
  simp only
  go_enter Tryz.func28, Tryz.ntmps28
  go_wp2_with fail
  go_ret
  exact ⟨rfl, (Below.refl _ _).alloc (Nat.le_refl _) _⟩
end

/- trothref07.Great, where thing number 8 is too great. -/
section
open Go.RowKit
set_option maxRecDepth 100000 in
set_option maxHeartbeats 4000000 in
theorem great_8 (x : Xr) (w : World) (h0 : ¬ (20 : Int) < (x.mn : Int)) (h1 : ¬ (80 : Int) < (x.kn : Int)) (h2 : ¬ (70 : Int) < (x.rn : Int)) (h3 : ¬ (80 : Int) < (x.dn : Int)) (h4 : ¬ (80 : Int) < (x.en : Int)) (h5 : ¬ (300 : Int) < (x.pn : Int)) (h6 : ¬ (100 : Int) < (x.key.size : Int)) (h7 : ¬ (100 : Int) < (x.old.data.size : Int)) (h8 : (100 : Int) < (x.new.data.size : Int)) :
    Calls Tryz.prog 28 #[x.val] w (fun e w' => e = .returned (.bool true) ∧ Below w.heap.size w w') := by
  obtain ⟨kind, tx, prev, next, key, ⟨oh, od⟩, ⟨nh, nd⟩, co, mA, mn, mc, mem, kA, kn, kc, lks, rA, rn, rc, rows, dA, dn, dc, dirty, eA, en, ec, deeds, pA, pn, pc, past⟩ := x
  simp only at h0 h1 h2 h3 h4 h5 h6 h7 h8
  unfold Xr.val
  simp only
  go_enter Tryz.func28, Tryz.ntmps28
  go_wp2_with fail
  go_ret
  exact ⟨rfl, (Below.refl _ _).alloc (Nat.le_refl _) _⟩
end

/- trothref07.Great tells no lie where it says no. -/
section
open Go.RowKit
structure NotGreat (x : Xr) : Prop where
  mn : x.mn ≤ 20
  kn : x.kn ≤ 80
  rn : x.rn ≤ 70
  dn : x.dn ≤ 80
  en : x.en ≤ 80
  pn : x.pn ≤ 300
  inn : InnerOk x
theorem great_any (x : Xr) (H : Nat) (w : World) (hx : XrIn H w x) : Calls Tryz.prog 28 #[x.val] w (fun e w' => ∃ b, e = .returned (.bool b) ∧ (b = false → NotGreat x) ∧ Below w.heap.size w w') := by
  have yes : ∀ (e : Ending) (w' : World), (e = Ending.returned (.bool true) ∧ Below w.heap.size w w') → ∃ b, e = .returned (.bool b) ∧ (b = false → NotGreat x) ∧ Below w.heap.size w w' := fun e w' h => ⟨true, h.1, (fun q => nomatch q), h.2⟩
  by_cases h0 : (20 : Int) < (x.mn : Int)
  · exact (great_0 x w  h0).mono yes
  by_cases h1 : (80 : Int) < (x.kn : Int)
  · exact (great_1 x w h0 h1).mono yes
  by_cases h2 : (70 : Int) < (x.rn : Int)
  · exact (great_2 x w h0 h1 h2).mono yes
  by_cases h3 : (80 : Int) < (x.dn : Int)
  · exact (great_3 x w h0 h1 h2 h3).mono yes
  by_cases h4 : (80 : Int) < (x.en : Int)
  · exact (great_4 x w h0 h1 h2 h3 h4).mono yes
  by_cases h5 : (300 : Int) < (x.pn : Int)
  · exact (great_5 x w h0 h1 h2 h3 h4 h5).mono yes
  by_cases h6 : (100 : Int) < (x.key.size : Int)
  · exact (great_6 x w h0 h1 h2 h3 h4 h5 h6).mono yes
  by_cases h7 : (100 : Int) < (x.old.data.size : Int)
  · exact (great_7 x w h0 h1 h2 h3 h4 h5 h6 h7).mono yes
  by_cases h8 : (100 : Int) < (x.new.data.size : Int)
  · exact (great_8 x w h0 h1 h2 h3 h4 h5 h6 h7 h8).mono yes
  refine (great_in x H w hx h0 h1 h2 h3 h4 h5 h6 h7 h8).mono ?_
  rintro e w' ⟨b, rfl, hb, hbel⟩
  exact ⟨b, rfl, fun q => ⟨by omega, by omega, by omega, by omega, by omega, by omega, hb q⟩, hbel⟩
end

/- a log record as it comes in: what it reads as. -/
section
open Go.RowKit Go.ChangeShapes Go.WideShapes Go.ChangeAt
theorem lst_of {α : Type} (d : α) (P : Nat → α → Prop) : ∀ n : Nat, (∀ i, i < n → ∃ x, P i x) → ∃ l : List α, l.length = n ∧ ∀ i, i < n → P i (l.getD i d)
  | 0, _ => ⟨[], rfl, fun i hi => absurd hi (by omega)⟩
  | n + 1, h => by
    obtain ⟨l, hl, hp⟩ := lst_of d P n (fun i hi => h i (by omega))
    obtain ⟨x, hx⟩ := h n (by omega)
    refine ⟨l ++ [x], by simp [hl], fun i hi => ?_⟩
    by_cases he : i < n
    · have := hp i he
      have e : (l ++ [x]).getD i d = l.getD i d := by simp [List.getD, List.getElem?_append_left (show i < l.length by omega)]
      rwa [e]
    · obtain rfl : i = n := by omega
      have : (l ++ [x]).getD l.length d = x := by simp
      rw [hl] at this
      rw [this]
      exact hx
section
variable {H : Type} {enc : TypeId × Value → H} {W : World}
theorem open_sl {α : Type} [Inhabited α] (E : El α) {sl : TypeId} (ht : Tryz.prog.underlying sl = some (.slice E.ty)) (hc : Tryz.prog.cellsOf E.ty = E.size)
    (each : ∀ k cs x, cs.length = E.size → DataW.trod enc Tryz.prog W 0 (fun _ => true) true k E.ty cs = some x → ∃ a, E.inn W.heap.size W a ∧ cs = E.cells a)
    {k : Nat} {v : Value} {x : DataW H × List MemPlace} (hf : DataW.trod enc Tryz.prog W 0 (fun _ => true) true k sl [v] = some x) : ∃ A n c l, v = .slice A n c ∧ Sl E W.heap.size W A n c l := by
  rcases Go.Deep.open_slice ht hf with ⟨hcs, _⟩ | ⟨a, n, c, m, k, D, Pl, hcs, _, hl, hm, hmm, _, hx⟩
  · obtain rfl : v = .slice none 0 0 := by simpa using hcs
    exact ⟨none, 0, 0, [], rfl, Sl.nil E _ W⟩
  · obtain rfl : v = .slice (some a) n c := by simpa using hcs
    have hmc : m = c := by simpa using hmm
    subst hmc
    have ex : ∀ i, i < n → ∃ y : α, E.inn W.heap.size W y ∧ ∀ j v, (E.cells y)[j]? = some v → W.cell? ((a.add (i * E.size)).add j) = some v := by
      intro i hi
      obtain ⟨cs', hcc, ht'⟩ := hx i (by omega)
      rw [hc] at hcc
      obtain ⟨_, hcl, hat⟩ := World.cells?_some hcc
      obtain ⟨y, hy, rfl⟩ := each _ _ _ hcl ht'
      refine ⟨y, hy, fun j v hv => ?_⟩
      have hj : j < E.size := by rw [← E.len y]; exact (List.getElem?_eq_some_iff.1 hv).1
      rw [hat j hj]
      exact hv
    obtain ⟨ys, hlen, hys⟩ := lst_of (default : α) _ n ex
    refine ⟨some a, n, m, ys, rfl, hlen, hl, hm, (fun h => nomatch h), fun y hy => ?_, fun hn => ?_⟩
    · obtain ⟨i, hi, rfl⟩ := List.getElem_of_mem hy
      have := (hys i (by omega)).1
      rwa [List.getD_eq_getElem?_getD, List.getElem?_eq_getElem hi] at this
    · obtain ⟨g, off, spot⟩ := a
      have hpos : ∀ i, i < n → ∃ v, (E.cells (ys.getD i default))[0]? = some v := fun i _ => ⟨_, List.getElem?_eq_getElem (by rw [E.len]; exact E.pos)⟩
      have hspot : spot = none := by
        obtain ⟨v, hv⟩ := hpos 0 hn
        have := (hys 0 hn).2 0 _ hv
        have h2 := World.cell?_spot this
        simpa [Addr.add] using h2
      subst hspot
      have hadd : ∀ i j : Nat, ((⟨g, off, none⟩ : Addr).add i).add j = ⟨g, off + i + j, none⟩ := by
        intro i j
        by_cases hi : i = 0 <;> by_cases hj : j = 0 <;> simp [Addr.add, hi, hj]
      have hgl : g < W.heap.size := by
        obtain ⟨v, hv⟩ := hpos 0 hn
        have := (hys 0 hn).2 0 _ hv
        rw [hadd] at this
        exact World.block_lt_of_cell? W _ this
      refine ⟨g, off, rfl, ⟨hgl, .inl trivial, .inl hgl⟩, fun i hi j v hv => ?_⟩
      have := (hys i hi).2 j v hv
      rwa [hadd] at this
theorem co_int : Tryz.prog.cellsOf 3 = 1 := by kernel_rfl
theorem co_str : Tryz.prog.cellsOf 9 = 1 := by kernel_rfl
theorem co_bool : Tryz.prog.cellsOf 4 = 1 := by kernel_rfl
theorem co_val : Tryz.prog.cellsOf 32 = 2 := by kernel_rfl
theorem co_lock : Tryz.prog.cellsOf 112 = 2 := by kernel_rfl
theorem co_row : Tryz.prog.cellsOf 114 = 8 := by kernel_rfl
theorem co_dirty : Tryz.prog.cellsOf 164 = 2 := by kernel_rfl
theorem co_deed : Tryz.prog.cellsOf 116 = 2 := by kernel_rfl
theorem co_rec : Tryz.prog.cellsOf 39 = 16 := by kernel_rfl
theorem co_ints : Tryz.prog.cellsOf 33 = 1 := by kernel_rfl
theorem co_locks : Tryz.prog.cellsOf 34 = 1 := by kernel_rfl
theorem co_rows : Tryz.prog.cellsOf 35 = 1 := by kernel_rfl
theorem co_dirties : Tryz.prog.cellsOf 36 = 1 := by kernel_rfl
theorem co_deeds : Tryz.prog.cellsOf 37 = 1 := by kernel_rfl
abbrev Trd (enc : TypeId × Value → H) (W : World) (k : Nat) (t : TypeId) (cs : List Value) (x : DataW H × List MemPlace) : Prop := DataW.trod enc Tryz.prog W 0 (fun _ => true) true k t cs = some x
theorem op_int {k : Nat} {v : Value} {x : DataW H × List MemPlace} (h : Trd enc W k 3 [v] x) : ∃ z, v = .int .i64 z ∧ i64 z := by
  obtain ⟨z, e, _, w⟩ := DataW.trod_int Tryz.underlying3 h
  simp at e
  exact ⟨z, e, wf_i64 w⟩
theorem op_str {k : Nat} {v : Value} {x : DataW H × List MemPlace} (h : Trd enc W k 9 [v] x) : ∃ s : ByteArray, v = .string s := by
  obtain ⟨s, e, _⟩ := DataW.trod_string Tryz.underlying9 h
  simp at e
  exact ⟨s, e⟩
theorem op_bool {k : Nat} {v : Value} {x : DataW H × List MemPlace} (h : Trd enc W k 4 [v] x) : ∃ b, v = .bool b := by
  obtain ⟨b, e, _⟩ := DataW.trod_bool Tryz.underlying4 h
  simp at e
  exact ⟨b, e⟩
theorem op_ints {k : Nat} {v : Value} {x : DataW H × List MemPlace} (h : Trd enc W k 33 [v] x) : ∃ A n c l, v = .slice A n c ∧ Sl elI W.heap.size W A n c l :=
  open_sl elI Tryz.underlying33 co_int (fun k cs x hl h => by
    match cs, hl with
    | [v], _ =>
      obtain ⟨z, rfl, hz⟩ := op_int h
      exact ⟨z, hz, rfl⟩) h
theorem op_locks {k : Nat} {v : Value} {x : DataW H × List MemPlace} (h : Trd enc W k 34 [v] x) : ∃ A n c l, v = .slice A n c ∧ Sl elL W.heap.size W A n c l :=
  open_sl elL Tryz.underlying34 co_lock (fun k cs x hl h => by
    match cs, hl with
    | [v0, v1], _ =>
      obtain ⟨xs, k', _, _, _, hxl, hfld⟩ := DataW.trod_struct Tryz.underlying112 h
      match xs, hxl with
      | [x0, x1], _ =>
        have f0 : Trd enc W k' 9 (List.take (Tryz.prog.cellsOf 9) [v0, v1]) x0 := hfld 0 _ rfl
        have f1 : Trd enc W k' 4 (List.take (Tryz.prog.cellsOf 4) [v1]) x1 := hfld 1 _ rfl
        rw [co_str] at f0
        rw [co_bool] at f1
        obtain ⟨s, rfl⟩ := op_str f0
        obtain ⟨b, rfl⟩ := op_bool f1
        exact ⟨⟨s, b⟩, Nat.zero_le _, rfl⟩) h
theorem op_dirty {k : Nat} {v : Value} {x : DataW H × List MemPlace} (h : Trd enc W k 36 [v] x) : ∃ A n c l, v = .slice A n c ∧ Sl elD W.heap.size W A n c l :=
  open_sl elD Tryz.underlying36 co_dirty (fun k cs x hl h => by
    match cs, hl with
    | [v0, v1], _ =>
      obtain ⟨xs, k', _, _, _, hxl, hfld⟩ := DataW.trod_struct Tryz.underlying164 h
      match xs, hxl with
      | [x0, x1], _ =>
        have f0 : Trd enc W k' 3 (List.take (Tryz.prog.cellsOf 3) [v0, v1]) x0 := hfld 0 _ rfl
        have f1 : Trd enc W k' 3 (List.take (Tryz.prog.cellsOf 3) [v1]) x1 := hfld 1 _ rfl
        rw [co_int] at f0 f1
        obtain ⟨a, rfl, ha⟩ := op_int f0
        obtain ⟨b, rfl, hb⟩ := op_int f1
        exact ⟨⟨a, b⟩, ⟨ha, hb⟩, rfl⟩) h
theorem op_deeds {k : Nat} {v : Value} {x : DataW H × List MemPlace} (h : Trd enc W k 37 [v] x) : ∃ A n c l, v = .slice A n c ∧ Sl elE W.heap.size W A n c l :=
  open_sl elE Tryz.underlying37 co_deed (fun k cs x hl h => by
    match cs, hl with
    | [v0, v1], _ =>
      obtain ⟨xs, k', _, _, _, hxl, hfld⟩ := DataW.trod_struct Tryz.underlying116 h
      match xs, hxl with
      | [x0, x1], _ =>
        have f0 : Trd enc W k' 3 (List.take (Tryz.prog.cellsOf 3) [v0, v1]) x0 := hfld 0 _ rfl
        have f1 : Trd enc W k' 33 (List.take (Tryz.prog.cellsOf 33) [v1]) x1 := hfld 1 _ rfl
        rw [co_int] at f0
        rw [co_ints] at f1
        obtain ⟨a, rfl, ha⟩ := op_int f0
        obtain ⟨A, n, c, l, rfl, hb⟩ := op_ints f1
        exact ⟨⟨a, A, n, c, l⟩, ⟨ha, hb⟩, rfl⟩) h
set_option maxRecDepth 100000 in
theorem op_rows {k : Nat} {v : Value} {x : DataW H × List MemPlace} (h : Trd enc W k 35 [v] x) : ∃ A n c l, v = .slice A n c ∧ Sl elR W.heap.size W A n c l :=
  open_sl elR Tryz.underlying35 co_row (fun k cs x hl h => by
    match cs, hl with
    | [v0, v1, v2, v3, v4, v5, v6, v7], _ =>
      obtain ⟨xs, k', _, _, _, hxl, hfld⟩ := DataW.trod_struct Tryz.underlying114 h
      match xs, hxl with
      | [x0, x1, x2, x3, x4, x5, x6, x7], _ =>
        have f0 : Trd enc W k' 3 (List.take (Tryz.prog.cellsOf 3) [v0, v1, v2, v3, v4, v5, v6, v7]) x0 := hfld 0 _ rfl
        have f1 : Trd enc W k' 3 (List.take (Tryz.prog.cellsOf 3) [v1, v2, v3, v4, v5, v6, v7]) x1 := hfld 1 _ rfl
        have f2 : Trd enc W k' 3 (List.take (Tryz.prog.cellsOf 3) [v2, v3, v4, v5, v6, v7]) x2 := hfld 2 _ rfl
        have f3 : Trd enc W k' 3 (List.take (Tryz.prog.cellsOf 3) [v3, v4, v5, v6, v7]) x3 := hfld 3 _ rfl
        have f4 : Trd enc W k' 3 (List.take (Tryz.prog.cellsOf 3) [v4, v5, v6, v7]) x4 := hfld 4 _ rfl
        have f5 : Trd enc W k' 3 (List.take (Tryz.prog.cellsOf 3) [v5, v6, v7]) x5 := hfld 5 _ rfl
        have f6 : Trd enc W k' 33 (List.take (Tryz.prog.cellsOf 33) [v6, v7]) x6 := hfld 6 _ rfl
        have f7 : Trd enc W k' 34 (List.take (Tryz.prog.cellsOf 34) [v7]) x7 := hfld 7 _ rfl
        rw [co_int] at f0 f1 f2 f3 f4 f5
        rw [co_ints] at f6
        rw [co_locks] at f7
        obtain ⟨z0, rfl, h0⟩ := op_int f0
        obtain ⟨z1, rfl, h1⟩ := op_int f1
        obtain ⟨z2, rfl, h2⟩ := op_int f2
        obtain ⟨z3, rfl, h3⟩ := op_int f3
        obtain ⟨z4, rfl, h4⟩ := op_int f4
        obtain ⟨z5, rfl, h5⟩ := op_int f5
        obtain ⟨A, n, c, l, rfl, h6⟩ := op_ints f6
        obtain ⟨B, m, d, l', rfl, h7⟩ := op_locks f7
        exact ⟨⟨z0, z1, z2, z3, z4, z5, A, n, c, l, B, m, d, l'⟩, ⟨h0, h1, h2, h3, h4, h5, h6, h7⟩, rfl⟩) h
theorem op_val {k : Nat} {v0 v1 : Value} {x : DataW H × List MemPlace} (h : Trd enc W k 32 [v0, v1] x) : ∃ v : Vl, v0 = .bool v.has ∧ v1 = .string v.data := by
  obtain ⟨xs, k', _, _, _, hxl, hfld⟩ := DataW.trod_struct Tryz.underlying32 h
  match xs, hxl with
  | [x0, x1], _ =>
    have f0 : Trd enc W k' 4 (List.take (Tryz.prog.cellsOf 4) [v0, v1]) x0 := hfld 0 _ rfl
    have f1 : Trd enc W k' 9 (List.take (Tryz.prog.cellsOf 9) [v1]) x1 := hfld 1 _ rfl
    rw [co_bool] at f0
    rw [co_str] at f1
    obtain ⟨b, rfl⟩ := op_bool f0
    obtain ⟨s, rfl⟩ := op_str f1
    exact ⟨⟨b, s⟩, rfl, rfl⟩
set_option maxRecDepth 100000 in
set_option maxHeartbeats 1000000 in
theorem open_rec16 {k : Nat} {v0 v1 v2 v3 v4 v5 v6 v7 v8 v9 v10 v11 v12 v13 v14 v15 : Value} {x : DataW H × List MemPlace} (h : Trd enc W k 39 [v0, v1, v2, v3, v4, v5, v6, v7, v8, v9, v10, v11, v12, v13, v14, v15] x) :
    ∃ r : Xr, .agg #[v0, v1, v2, v3, v4, v5, v6, v7, v8, v9, v10, v11, v12, v13, v14, v15] = r.val ∧ XrIn W.heap.size W r := by
  obtain ⟨xs, k', _, _, _, hxl, hfld⟩ := DataW.trod_struct Tryz.underlying39 h
  match xs, hxl with
  | [x0, x1, x2, x3, x4, x5, x6, x7, x8, x9, x10, x11, x12, x13], _ =>
    have f0 : Trd enc W k' 3 (List.take (Tryz.prog.cellsOf 3) [v0, v1, v2, v3, v4, v5, v6, v7, v8, v9, v10, v11, v12, v13, v14, v15]) x0 := hfld 0 _ rfl
    have f1 : Trd enc W k' 3 (List.take (Tryz.prog.cellsOf 3) [v1, v2, v3, v4, v5, v6, v7, v8, v9, v10, v11, v12, v13, v14, v15]) x1 := hfld 1 _ rfl
    have f2 : Trd enc W k' 3 (List.take (Tryz.prog.cellsOf 3) [v2, v3, v4, v5, v6, v7, v8, v9, v10, v11, v12, v13, v14, v15]) x2 := hfld 2 _ rfl
    have f3 : Trd enc W k' 3 (List.take (Tryz.prog.cellsOf 3) [v3, v4, v5, v6, v7, v8, v9, v10, v11, v12, v13, v14, v15]) x3 := hfld 3 _ rfl
    have f4 : Trd enc W k' 9 (List.take (Tryz.prog.cellsOf 9) [v4, v5, v6, v7, v8, v9, v10, v11, v12, v13, v14, v15]) x4 := hfld 4 _ rfl
    have f5 : Trd enc W k' 32 (List.take (Tryz.prog.cellsOf 32) [v5, v6, v7, v8, v9, v10, v11, v12, v13, v14, v15]) x5 := hfld 5 _ rfl
    have f6 : Trd enc W k' 32 (List.take (Tryz.prog.cellsOf 32) [v7, v8, v9, v10, v11, v12, v13, v14, v15]) x6 := hfld 6 _ rfl
    have f7 : Trd enc W k' 3 (List.take (Tryz.prog.cellsOf 3) [v9, v10, v11, v12, v13, v14, v15]) x7 := hfld 7 _ rfl
    have f8 : Trd enc W k' 33 (List.take (Tryz.prog.cellsOf 33) [v10, v11, v12, v13, v14, v15]) x8 := hfld 8 _ rfl
    have f9 : Trd enc W k' 34 (List.take (Tryz.prog.cellsOf 34) [v11, v12, v13, v14, v15]) x9 := hfld 9 _ rfl
    have f10 : Trd enc W k' 35 (List.take (Tryz.prog.cellsOf 35) [v12, v13, v14, v15]) x10 := hfld 10 _ rfl
    have f11 : Trd enc W k' 36 (List.take (Tryz.prog.cellsOf 36) [v13, v14, v15]) x11 := hfld 11 _ rfl
    have f12 : Trd enc W k' 37 (List.take (Tryz.prog.cellsOf 37) [v14, v15]) x12 := hfld 12 _ rfl
    have f13 : Trd enc W k' 33 (List.take (Tryz.prog.cellsOf 33) [v15]) x13 := hfld 13 _ rfl
    rw [co_int] at f0 f1 f2 f3 f7
    rw [co_str] at f4
    rw [co_val] at f5 f6
    rw [co_ints] at f8 f13
    rw [co_locks] at f9
    rw [co_rows] at f10
    rw [co_dirties] at f11
    rw [co_deeds] at f12
    obtain ⟨z0, rfl, h0⟩ := op_int f0
    obtain ⟨z1, rfl, h1⟩ := op_int f1
    obtain ⟨z2, rfl, h2⟩ := op_int f2
    obtain ⟨z3, rfl, h3⟩ := op_int f3
    obtain ⟨s, rfl⟩ := op_str f4
    obtain ⟨a, rfl, rfl⟩ := op_val f5
    obtain ⟨b, rfl, rfl⟩ := op_val f6
    obtain ⟨z7, rfl, h7⟩ := op_int f7
    obtain ⟨A1, n1, c1, l1, rfl, h8⟩ := op_ints f8
    obtain ⟨A2, n2, c2, l2, rfl, h9⟩ := op_locks f9
    obtain ⟨A3, n3, c3, l3, rfl, h10⟩ := op_rows f10
    obtain ⟨A4, n4, c4, l4, rfl, h11⟩ := op_dirty f11
    obtain ⟨A5, n5, c5, l5, rfl, h12⟩ := op_deeds f12
    obtain ⟨A6, n6, c6, l6, rfl, h13⟩ := op_ints f13
    exact ⟨⟨z0, z1, z2, z3, s, a, b, z7, A1, n1, c1, l1, A2, n2, c2, l2, A3, n3, c3, l3, A4, n4, c4, l4, A5, n5, c5, l5, A6, n6, c6, l6⟩, rfl, h0, h1, h2, h3, Nat.zero_le _, Nat.zero_le _, Nat.zero_le _, h7, h8, h9, h10, h11, h12, h13⟩
set_option maxRecDepth 100000 in
theorem open_rec {r : Reach} {b0 : Nat} {v : Value} {d : DataW H} {p : List MemPlace} (hv : Value.okWide Tryz.prog W r b0 39 v) (h : DataW.Trod enc Tryz.prog W 0 (fun _ => true) true 39 v d p) :
    ∃ x : Xr, v = x.val ∧ XrIn W.heap.size W x := by
  obtain ⟨cs, rfl, hsz⟩ := okWide_struct Tryz.underlying39 hv
  rw [co_rec] at hsz
  obtain ⟨fuel, hf⟩ := h
  obtain ⟨l⟩ := cs
  match l, hsz with
  | [v0, v1, v2, v3, v4, v5, v6, v7, v8, v9, v10, v11, v12, v13, v14, v15], _ => exact open_rec16 hf
end
end

/- the walk of the law WalNil: whatever comes in, it answers true and turns nothing that was there. -/
section
open Go.RowKit
section
/- A nil log. -/
set_option maxRecDepth 100000 in
set_option maxHeartbeats 2000000 in
theorem wgAppend_nil (v : Array Value) (hv : v.size = 16) (sp : Int) (w : World) : Calls Tryz.prog 29 #[.pointer none, .agg v, .int .i64 sp] w (Ret (.tuple #[.int .i64 0, .int .i64 2]) w) := by
  obtain ⟨W1, hW1⟩ : ∃ W1, W1 = w.alloc (.cells v 39) := ⟨_, rfl⟩
  have hb : Below w.heap.size w W1 := by rw [hW1]; exact (Below.refl _ _).alloc (Nat.le_refl _) _
  have CS := Lib.hid (wgState_nil W1)
  have HW := Lib.hid hW1
  have HB := Lib.hid hb
  clear hW1 hb
  go_enter Tryz.func29, Tryz.ntmps29
  go_upto_region 1 with fail
  rw [← HW.out]
  clear HW
  go_wp2_with fail
  refine CS.out.mono ?_
  intro e w1 hq
  obtain ⟨rfl, b1⟩ := quiet_ret hq
  have R9 : Hid (Ret (.tuple #[.int .i64 0, .int .i64 2]) w (.returned (.tuple #[.int .i64 0, .int .i64 2])) w1) := Lib.hid ⟨rfl, HB.out.trans (b1.mono HB.out.size)⟩
  clear hq b1
  go_wp2_with fail
  go_ret2
  exact R9.out
set_option maxHeartbeats 2000000 in
theorem wgForce_nil (w : World) : Calls Tryz.prog 31 #[.pointer none] w (Ret (.int .i64 2) w) := by
  have CS := Lib.hid (wgState_nil w)
  go_enter Tryz.func31, Tryz.ntmps31
  go_wp2_with fail
  refine CS.out.mono ?_
  intro e w1 hq
  obtain ⟨rfl, b1⟩ := quiet_ret hq
  have R9 : Hid (Ret (.int .i64 2) w (.returned (.int .i64 2)) w1) := Lib.hid ⟨rfl, b1⟩
  clear hq b1
  go_wp2_with fail
  go_ret
  exact R9.out
set_option maxHeartbeats 2000000 in
theorem wgMark_nil (a b : Int) (w : World) : Calls Tryz.prog 32 #[.pointer none, .int .i64 a, .int .i64 b] w (Ret (.int .i64 2) w) := by
  have CS := Lib.hid (fun w => wgState_nil w)
  go_enter Tryz.func32, Tryz.ntmps32
  go_wp2_with fail
  refine (CS.out _).mono ?_
  intro e w1 hq
  obtain ⟨rfl, b1⟩ := quiet_ret hq
  have R9 := Lib.hid b1
  clear hq b1
  go_wp2_with fail
  go_ret
  first | exact ⟨rfl, R9.out⟩ | exact ⟨rfl, ((Below.refl _ _).alloc (Nat.le_refl _) _).trans (R9.out.mono (by simp))⟩
set_option maxRecDepth 100000 in
set_option maxHeartbeats 2000000 in
theorem wgGet_nil (z : Int) (w : World) : Calls Tryz.prog 36 #[.pointer none, .int .i64 z] w (RetGet (rc0 0) 2 w) := by
  obtain ⟨r, hrr⟩ : ∃ r, w.heap.size = r := ⟨_, rfl⟩
  obtain ⟨W1, hW1⟩ : ∃ W1, W1 = w.alloc (.cells xr0.cells 39) := ⟨_, rfl⟩
  have hb1 : Below w.heap.size w W1 := by rw [hW1]; exact (Below.refl _ _).alloc (Nat.le_refl _) _
  have HV : Hid (Bk W1 r 39 xr0.cells) := Lib.hid (by rw [hW1, ← hrr]; exact Bk.new w _ _)
  have CS := Lib.hid (wgState_nil W1)
  have HB := Lib.hid hb1
  have HRR := Lib.hid hrr
  have HW := Lib.hid (show W1 = w.alloc (.cells #[.int .i64 0, .int .i64 0, .int .i64 0, .int .i64 0, .string ⟨#[]⟩, .bool false, .string ⟨#[]⟩, .bool false, .string ⟨#[]⟩, .int .i64 0, .slice none 0 0, .slice none 0 0, .slice none 0 0, .slice none 0 0, .slice none 0 0, .slice none 0 0] 39) from hW1)
  clear hW1 hb1
  go_enter Tryz.func36, Tryz.ntmps36
  go_upto_region 1 with fail
  (try rw [hrr])
  rw [← HW.out]
  clear HW hrr
  go_wp2_with fail
  refine CS.out.mono ?_
  intro e w2 hq2
  obtain ⟨rfl, b2⟩ := quiet_ret hq2
  have V2 := Lib.hid (HV.out.later b2)
  have RB := Lib.hid (V2.out.rowp xr0.cells)
  have R := Lib.hid (getZ (w := w) (v := w2) (r := r) (k := 2) (HB.out.trans (b2.mono HB.out.size)) (by rw [HRR.out]; exact Nat.le_refl r))
  clear hq2 b2 CS
  go_wp2_with (refine wpList_store_row rfl 39 _ _ rfl r xr0.cells rfl rfl 39 _ V2.out inf_rec rfl (Xr.cells_one xr0) ?_; simp only [Act.put])
  (try simp only [Exit.inBlock, Exit.then])
  refine bodyPost_ret (results_cellT rfl _ _ r 39 _ _ rfl RB.out Tryz.underlying39 rfl inf_rec) rfl ?_
  exact R.out
end
/- A disk whose power goes. -/
theorem fuse0_can {s : St} (h : Up s) : (s.fuse 0).can = false := by
  unfold St.can
  show (!s.gone && !(max 0 (-1) == (0 : Int))) = false
  have : (max (0 : Int) (-1) == 0) = true := by decide
  rw [this]
  simp
theorem fuse0_force {z : Int} {f : Nat → Nat} {k : Nat} (hf : fOk f) (hk : k ≤ 1000) (hz : 8 ≤ z) {s : St} (h : Up s) (hn : (s.num : Int) = 2 + z) : (lgW z f k).fcE (s.fuse 0) = 40 ∧ (lgW z f k).fcL (s.fuse 0) = (lgW z f k).note 40 := by
  obtain ⟨l1, l2, l3, _⟩ := lgW_lay (z := z) hf hk
  have hd : ¬ (lgW z f k).down = true := fun q => by cases q
  have hw : ¬ (lgW z f k).wait = [] := fun q => by cases q
  have hl : ¬ (lgW z f k).layE ≠ 0 := fun q => q l1
  have hc : (lgW z f k).count = z := rfl
  have hwr : (wrAll z (s.fuse 0) (lgW z f k).layS).2 = 40 := by
    obtain ⟨x, hx⟩ : ∃ x, (lgW z f k).layS = [x] := by
      match hq : (lgW z f k).layS, l2 with
      | [x], _ => exact ⟨x, rfl⟩
    rw [hx] at l3 ⊢
    have hst := l3 x (by simp)
    have hr : ∀ y ∈ encS x, 0 ≤ y ∧ y < 256 := encS_rng hst
    have hl : (encS x).length ≤ 254 := by rw [encS_len]; have := hst.2.2.1; omega
    have hm : 0 ≤ x.pos % z ∧ x.pos % z < z := ⟨Int.emod_nonneg _ (by omega), Int.emod_lt_of_pos _ (by omega)⟩
    have e0 : (s.fuse 0).rErr (secOf x.pos z) = 0 := by
      unfold St.rErr secOf
      rw [if_neg (by show ¬ (_ ∨ (s.num : Int) ≤ _); omega), if_neg (by show ¬ s.gone = true; rw [h.gone]; simp)]
    have hwl : (wrapL (nextOf ((s.fuse 0).rBytes (secOf x.pos z))) (encS x)).length = 256 := (wrapL_sec (by have := nextOf_rng ((s.fuse 0).rBytes (secOf x.pos z)); omega) hr hl).1
    have p1 : putE (s.fuse 0) (secOf x.pos z) (encS x) = 40 := by
      unfold putE
      rw [if_neg (by omega), if_neg (by rw [e0]; simp)]
      unfold St.wErr
      rw [if_neg (by show ¬ (_ ∨ (s.num : Int) ≤ _); unfold secOf; omega), if_neg (by rw [hwl]; simp), if_neg (by rw [fuse0_can h]; simp)]
    unfold wrAll
    rw [if_pos (by rw [p1]; decide), p1]
  refine ⟨?_, ?_⟩
  · unfold Lg.fcE
    rw [if_neg hd, if_neg hw, if_neg hl, hc, hwr]
  · unfold Lg.fcL
    rw [if_neg hd, if_neg hw, if_neg hl, hc, hwr, if_pos (by decide)]
def f1 : Nat → Nat := fun _ => 1
theorem f1_ok : fOk f1 := fun _ => ⟨by show 1 ≤ 1; omega, by show 1 < 128; omega⟩
def lgD : Lg := (lgW 8 f1 0).note 40
theorem lgD_down : lgD.down = true := rfl
theorem lgD_fit : lgD.Fit := by
  have h := lgW_fit (z := 8) (f := f1) (k := 0) (by omega) (by omega)
  exact ⟨h.count, h.gen, h.inc, h.first, h.lsn, h.chk, h.next, h.size, h.forces, h.siz, h.recs, h.wait⟩
end
end Go.Proofs.YtjllpihkjlblaaaGreatDoor
