/- What it says: contracts and plain mathematics that the laws' walks use, 31 of 33: each part's own remark says what; no condition. -/
import Derived.Test.YtfmfmdiegabobabGreatDoorPw4
import Derived.Test.YtfmfmdiegabobabGreatDoorPw5
import Derived.Test.YtfmfmdiegabobabGreatDoorPw14
import Derived.Test.YtfmfmdiegabobabGreatDoorPw30
import Derived.Deep.RegionHeld
import Derived.Deep.QuietTactic
import Derived.BigQuiet
import Derived.LoopTactic
import Derived.Deep.CutBlock

set_option linter.unusedSimpArgs false
set_option linter.unusedVariables false
set_option linter.deprecated false
set_option linter.unusedSectionVars false
set_option linter.all false
set_option maxRecDepth 100000
set_option maxHeartbeats 16000000
namespace Go.Proofs.YtfmfmdiegabobabGreatDoor

/- what is written into a record's own blocks: nothing else is turned. -/
section
open Go.RowKit
def ScrR (O : Nat → Prop) (Ws : World → Prop) (r : Nat) (C : Array Value) (w0 wr : World) : Prop := Fr O w0 wr ∧ Ws wr ∧ Bk wr r 30 C
theorem ScrR.at_ {O : Nat → Prop} {Ws : World → Prop} {r n sz i : Nat} {t : TypeId} {C : Array Value} {w0 wr : World} {A : Option Addr} (h : ScrR O Ws r C w0 wr) (hW : Wr t sz A n wr) (hO : ∀ k, inA A n k → O k) (hr : ∀ k, O k → k ≠ r)
  (hs : ∀ (w : World) (b i : Nat) (u : TypeId) (cs : Array Value) (v : Value), Ws w → Bk w b u cs → Ws (w.setCell ⟨b, i, none⟩ v)) (hi : i < n) :
  ∃ (g off : Nat) (v : Value), A = some ⟨g, off, none⟩ ∧ wr.cell? ⟨g, off + i * sz, none⟩ = some v ∧ wr.frozen? ⟨g, off + i * sz, none⟩ = false ∧ ∀ u, ScrR O Ws r C w0 (wr.setCell ⟨g, off + i * sz, none⟩ u) := by
 obtain ⟨g, off, cs, e, hg, hb⟩ := hW (by omega)
 have ho : O g := hO g ⟨by omega, _, e, rfl⟩
 have hlt := hb i hi
 refine ⟨g, off, cs[off + i * sz], e, by rw [hg.cell]; exact Array.getElem?_eq_getElem hlt, hg.frz _, fun u => ⟨h.1.setCell (a := ⟨g, off + i * sz, none⟩) ho u, hs _ _ _ _ _ _ h.2.1 hg, ?_⟩⟩
 exact ((grown_set wr g _ u).block r h.2.2.lt (fun q => by injection q with q; exact hr g ho q.symm)).trans h.2.2
theorem scrawl_gen (C : Array Value) (O : Nat → Prop) (mA kA rA pA : Option Addr) (mn mc kn kc rn rc pn pc : Nat) (w : World) (h10 : C[10]? = some (.slice mA mn mc)) (h11 : C[11]? = some (.slice kA kn kc)) (h12 : C[12]? = some (.slice rA rn rc)) (h15 : C[15]? = some (.slice pA pn pc))
  (hC : C.size = 16) (b1 : mn ≤ mc ∧ mc ≤ maxLen) (b2 : kn ≤ kc ∧ kc ≤ maxLen) (b3 : rn ≤ rc ∧ rc ≤ maxLen) (b4 : pn ≤ pc ∧ pc ≤ maxLen) (hm : Wr 3 1 mA mn w) (hk : Wr 47 2 kA kn w) (hr : Wr 49 8 rA rn w) (hp : Wr 3 1 pA pn w)
  (om : ∀ k, inA mA mn k → O k) (ok : ∀ k, inA kA kn k → O k) (or_ : ∀ k, inA rA rn k → O k) (op : ∀ k, inA pA pn k → O k) (ho : ∀ k, O k → k < w.heap.size) :
  Calls Tryz.prog 9 #[.agg C] w (fun e w' => e = .returned (.tuple #[]) ∧ Fr O w w') := by
 obtain ⟨r, hrr⟩ : ∃ r, w.heap.size = r := ⟨_, rfl⟩
 obtain ⟨W1, hW1⟩ : ∃ W1, W1 = w.alloc (.cells C 30) := ⟨_, rfl⟩
 have hb1 : Below w.heap.size w W1 := by rw [hW1]; exact (Below.refl _ _).alloc (Nat.le_refl _) _
 obtain ⟨Ws, hWs⟩ : ∃ Ws : World → Prop, Ws = fun v => Wr 3 1 mA mn v ∧ Wr 47 2 kA kn v ∧ Wr 49 8 rA rn v ∧ Wr 3 1 pA pn v := ⟨_, rfl⟩
 have HR : Hid (∀ k, O k → k ≠ r) := Lib.hid (fun k q => by have := ho k q; omega)
 have HS : Hid (∀ (v : World) (b i : Nat) (u : TypeId) (cs : Array Value) (y : Value), Ws v → Bk v b u cs → Ws (v.setCell ⟨b, i, none⟩ y)) := Lib.hid (by
  rw [hWs]
  exact fun v b i u cs y ⟨a1, a2, a3, a4⟩ hb => ⟨a1.set hb y, a2.set hb y, a3.set hb y, a4.set hb y⟩)
 have F0 : Hid (ScrR O Ws r C W1 W1) := Lib.hid ⟨Fr.refl _ _, by
  rw [hWs]
  have hh : ∀ k, O k → W1.heap[k]? = w.heap[k]? := fun k q => hb1.block k (ho k q)
  exact ⟨hm.same fun k q => hh k (om k q), hk.same fun k q => hh k (ok k q), hr.same fun k q => hh k (or_ k q), hp.same fun k q => hh k (op k q)⟩, by rw [hW1, ← hrr]; exact Bk.new w _ _⟩
 have HE : Hid (∀ w', Fr O W1 w' → Fr O w w') := Lib.hid (fun w' q => (Fr.of_below hb1).then q)
 have OM := Lib.hid om
 have OK := Lib.hid ok
 have OR := Lib.hid or_
 have OP := Lib.hid op
 have HWS := Lib.hid hWs
 have HW := Lib.hid hW1
 obtain ⟨c1, c1'⟩ := b1
 obtain ⟨c2, c2'⟩ := b2
 obtain ⟨c3, c3'⟩ := b3
 obtain ⟨c4, c4'⟩ := b4
 unfold maxLen at c1' c2' c3' c4'
 clear hm hk hr hp om ok or_ op ho hWs hW1 hb1
 go_enter Tryz.func9, Tryz.ntmps9
 go_upto_region 1 with fail
 (try rw [hrr])
 rw [← HW.out]
 clear HW hrr
 go_wp2_with fail
 go_loopw [2] (fun q wr => ∃ i : Nat, i ≤ mn ∧ q = .int .i64 i ∧ ScrR O Ws r C W1 wr) (fun q _ => mn - (intOf q).toNat)
 case atStart => exact ⟨0, Nat.zero_le _, rfl, F0.out⟩
 case round =>
  obtain ⟨i, hin, rfl, hF⟩ := hrel
  have HF := Lib.hid hF
  have d0 : wr.cell? ⟨r, 10, none⟩ = some (.slice mA mn mc) := (hF.2.2.cell 10).trans h10
  clear hF F0
  by_cases hlt : i < mn
  ·obtain ⟨g, off, v, rfl, hcell, hfz, hset⟩ := HF.out.at_ (by have := HF.out.2.1; rw [HWS.out] at this; exact this.1) OM.out HR.out HS.out hlt
   rw [Nat.mul_one] at hcell hfz hset
   have HT := Lib.hid (hset (.int .i64 77))
   clear hset
   go_wp2_with fail
   go_roundw
   case rel => exact ⟨i + 1, by omega, by go_num, HT.out⟩
   case measure => simp [intOf]; omega
  ·have F1 := HF
   clear HF
   go_wp2_with fail
   clear d0
   go_loopw [3] (fun q wr => ∃ i : Nat, i ≤ kn ∧ q = .int .i64 i ∧ ScrR O Ws r C W1 wr) (fun q _ => kn - (intOf q).toNat)
   case atStart => exact ⟨0, Nat.zero_le _, rfl, F1.out⟩
   case round =>
    obtain ⟨i2, hin2, rfl, hF⟩ := hrel
    have HF := Lib.hid hF
    have d0 : wr.cell? ⟨r, 11, none⟩ = some (.slice kA kn kc) := (hF.2.2.cell 11).trans h11
    clear hF F1
    by_cases hlt2 : i2 < kn
    ·obtain ⟨g, off, v, rfl, hcell, hfz, hset⟩ := HF.out.at_ (by have := HF.out.2.1; rw [HWS.out] at this; exact this.2.1) OK.out HR.out HS.out hlt2
     have HT := Lib.hid (hset (.string ⟨#[63]⟩))
     clear hset
     go_wp2_with fail
     go_roundw
     case rel => exact ⟨i2 + 1, by omega, by go_num, HT.out⟩
     case measure => simp [intOf]; omega
    ·have F2 := HF
     clear HF
     go_wp2_with fail
     clear d0
     go_loopw [4] (fun q wr => ∃ i : Nat, i ≤ pn ∧ q = .int .i64 i ∧ ScrR O Ws r C W1 wr) (fun q _ => pn - (intOf q).toNat)
     case atStart => exact ⟨0, Nat.zero_le _, rfl, F2.out⟩
     case round =>
      obtain ⟨i3, hin3, rfl, hF⟩ := hrel
      have HF := Lib.hid hF
      have d0 : wr.cell? ⟨r, 15, none⟩ = some (.slice pA pn pc) := (hF.2.2.cell 15).trans h15
      clear hF F2
      by_cases hlt3 : i3 < pn
      ·obtain ⟨g, off, v, rfl, hcell, hfz, hset⟩ := HF.out.at_ (by have := HF.out.2.1; rw [HWS.out] at this; exact this.2.2.2) OP.out HR.out HS.out hlt3
       rw [Nat.mul_one] at hcell hfz hset
       have HT := Lib.hid (hset (.int .i64 77))
       clear hset
       go_wp2_with fail
       go_roundw
       case rel => exact ⟨i3 + 1, by omega, by go_num, HT.out⟩
       case measure => simp [intOf]; omega
      ·have F3 := HF
       clear HF
       go_wp2_with fail
       clear d0
       go_loopw [5] (fun q wr => ∃ i : Nat, i ≤ rn ∧ q = .int .i64 i ∧ ScrR O Ws r C W1 wr) (fun q _ => rn - (intOf q).toNat)
       case atStart => exact ⟨0, Nat.zero_le _, rfl, F3.out⟩
       case round =>
        obtain ⟨i4, hin4, rfl, hF⟩ := hrel
        have HF := Lib.hid hF
        have d0 : wr.cell? ⟨r, 12, none⟩ = some (.slice rA rn rc) := (hF.2.2.cell 12).trans h12
        clear hF F3
        by_cases hlt4 : i4 < rn
        ·obtain ⟨g, off, v, rfl, hcell, hfz, hset⟩ := HF.out.at_ (by have := HF.out.2.1; rw [HWS.out] at this; exact this.2.2.1) OR.out HR.out HS.out hlt4
         have HT := Lib.hid (hset (.int .i64 77))
         clear hset
         go_wp2_with fail
         go_roundw
         case rel => exact ⟨i4 + 1, by omega, by go_num, HT.out⟩
         case measure => simp [intOf]; omega
        ·have RR := Lib.hid (HE.out wr HF.out.1)
         clear HF
         go_wp2_with fail
         go_end0
         exact ⟨rfl, RR.out⟩
theorem scrawl_any (x : Xr) (w : World) (hx : XrIn w.heap.size w x) (hw : x.Wrt w) : Calls Tryz.prog 9 #[x.val] w (fun e w' => e = .returned (.tuple #[]) ∧ Fr x.owns w w') := by
 rw [Xr.val_eq]
 exact scrawl_gen x.cells x.owns x.mA x.kA x.rA x.pA x.mn x.mc x.kn x.kc x.rn x.rc x.pn x.pc w rfl rfl rfl rfl rfl ⟨hx.mem.cap, hx.mem.max⟩ ⟨hx.lks.cap, hx.lks.max⟩ ⟨hx.rows.cap, hx.rows.max⟩ ⟨hx.past.cap, hx.past.max⟩
  hw.mem hw.lks hw.rows hw.past (fun k q => .inl q) (fun k q => .inr (.inl q)) (fun k q => .inr (.inr (.inl q))) (fun k q => .inr (.inr (.inr (.inr (.inr (.inl q)))))) (fun k q => hx.lt q)
end

/- a log of one record of any size: Append, Force, Get; a record in a block of its own, beside it; what scrawl leaves. -/
section
open Go.RowKit
def lgA (r : Rc) : Lg := (lgMade 40).apL r
def lgB (r : Rc) : Lg := (lgA r).wrote (lgA r).layS.length
section
variable {r : Rc}
theorem lgA_all (r : Rc) : allL (lgA r).wait = sealL (rcL r) := by
 have : (lgA r).wait = [rcL r] := rfl
 rw [this]
 simp [allL]
theorem lgA_ap (r : Rc) : (lgMade 40).apE r 0 = (encE r : Int) := by
 unfold Lg.apE
 rw [if_neg (show ¬ (lgMade 40).down = true from fun q => by cases q)]
 by_cases h : encE r = 0
 ·obtain ⟨_, l2⟩ := sealed_le _ (encE_zero h).2
  have h2 : ¬ ((lgMade 40).count - max 0 0 < (lgMade 40).written + shI ((lgMade 40).size + ((sealL (rcL r)).length : Int))) := by
   show ¬ ((40 : Int) - max 0 0 < (0 - 0) + shI (0 + ((sealL (rcL r)).length : Int)))
   unfold shI
   omega
  rw [if_neg (by omega), if_neg h2, h]
  rfl
 ·rw [if_pos h]
theorem lgA_app (h : encE r = 0) : (lgMade 40).app r 0 = lgA r ∧ (lgMade 40).apN r 0 = 1 := by
 have e : (lgMade 40).apE r 0 = 0 := by rw [lgA_ap, h]; rfl
 refine ⟨if_pos e, ?_⟩
 unfold Lg.apN
 rw [if_pos e]
 show ((1 : Int) + ((0 : Nat) : Int) - 1) + 1 = 1
 decide
theorem lgA_no (h : encE r ≠ 0) : (lgMade 40).app r 0 = lgMade 40 ∧ (lgMade 40).apN r 0 = 0 := Lg.ap_no (lgA_ap r) (by omega)
theorem lgA_fit (h : encE r = 0) : (lgA r).Fit := by
 obtain ⟨_, l2⟩ := sealed_le _ (encE_zero h).2
 have hs : (lgA r).size = 0 + ((sealL (rcL r)).length : Int) := rfl
 exact ⟨⟨by show (0 : Int) ≤ 40; decide, by show (40 : Int) ≤ _; decide⟩, smM.1, smM.2.1, smM.2.2.1, smM.2.2.2.1, smM.2.2.2.2, ⟨by show (0 : Int) ≤ 0; decide, by show (0 : Int) ≤ _; decide⟩, ⟨by rw [hs]; omega, by rw [hs]; omega⟩,
  ⟨by show (0 : Int) ≤ 0; decide, by show (0 : Int) ≤ _; decide⟩, by rw [hs]; omega, by show (1 : Nat) ≤ _; decide, by show (1 : Nat) ≤ _; decide⟩
theorem lgA_lay (h : encE r = 0) (hb0 : isB (rcL r)) : (lgA r).layE = 0 ∧ (lgA r).layS.length ≤ 17 ∧ ∀ x ∈ (lgA r).layS, storP x := by
 obtain ⟨_, h2⟩ := encE_zero h
 obtain ⟨_, l2⟩ := sealed_le _ h2
 have ha : (allL [rcL r]).length = (sealL (rcL r)).length := by simp [allL]
 have e : (lgA r).layE = 0 := by
  show layErr 1 0 [rcL r] = 0
  unfold layErr
  rw [if_neg, if_neg, if_neg]
  ·rw [ha]
   unfold shN
   omega
  ·rintro ⟨b, hb, q⟩
   simp at hb
   subst hb
   omega
  ·rintro (q | q)
   ·cases q
   ·cases q
 have e2 : (lgA r).layS = layShs 1 0 [rcL r] := if_pos e
 refine ⟨e, by rw [e2, layShs_len, ha]; unfold shN; omega, ?_⟩
 rw [e2]
 refine lay_stor e (fun b hb => ?_)
 simp at hb
 subst hb
 exact hb0
theorem lgA_fc (h : encE r = 0) (hb0 : isB (rcL r)) {s : St} (hs : Up s) (hn : (s.num : Int) = 2 + 40) : (lgA r).fcE s = 0 ∧ (lgA r).fcL s = lgB r := by
 obtain ⟨l1, _, l3⟩ := lgA_lay h hb0
 obtain ⟨w1, _⟩ := wrAll_up (lgA r).layS s 40 hs (by omega) (by omega) l3
 have hd : ¬ (lgA r).down = true := fun q => by cases q
 have hw : ¬ (lgA r).wait = [] := fun q => by cases q
 have hl : ¬ (lgA r).layE ≠ 0 := fun q => q l1
 have hc : (lgA r).count = 40 := rfl
 refine ⟨?_, ?_⟩
 ·unfold Lg.fcE
  rw [if_neg hd, if_neg hw, if_neg hl, hc, w1]
 ·unfold Lg.fcL
  rw [if_neg hd, if_neg hw, if_neg hl, hc, if_neg (by rw [w1]; simp)]
  rfl
theorem lgB_fit (h : encE r = 0) (hb0 : isB (rcL r)) : (lgB r).Fit := by
 obtain ⟨_, l2, _⟩ := lgA_lay h hb0
 have hs : (lgB r).next = 0 + ((lgA r).layS.length : Int) := rfl
 exact ⟨⟨by show (0 : Int) ≤ 40; decide, by show (40 : Int) ≤ _; decide⟩, smM.1, smM.2.1, smM.2.2.1, smM.2.2.2.1, smM.2.2.2.2, ⟨by rw [hs]; omega, by rw [hs]; omega⟩, ⟨by show (0 : Int) ≤ 0; decide, by show (0 : Int) ≤ _; decide⟩,
  ⟨by show (0 : Int) ≤ 0 + 1; decide, by show (0 : Int) + 1 ≤ _; decide⟩, by show (0 : Int) ≤ _; decide, by show (1 : Nat) ≤ _; decide, by show (0 : Nat) ≤ _; decide⟩
theorem lgA_get (r : Rc) : (lgA r).gtE 1 = 0 ∧ (lgA r).gtR 1 = r := by
 have e : (lgA r).gtE 1 = 0 := by
  unfold Lg.gtE
  rw [if_neg (show ¬ (lgA r).down = true from fun q => by cases q), if_neg]
  show ¬ ((1 : Int) < 1 ∨ (1 : Int) + ((1 : Nat) : Int) - 1 < 1)
  omega
 refine ⟨e, ?_⟩
 unfold Lg.gtR
 rw [if_pos e]
 rfl
theorem lgB_get (r : Rc) : (lgB r).gtE 1 = 0 ∧ (lgB r).gtR 1 = r := by
 have e : (lgB r).gtE 1 = 0 := by
  unfold Lg.gtE
  rw [if_neg (show ¬ (lgB r).down = true from fun q => by cases q), if_neg]
  show ¬ ((1 : Int) < 1 ∨ (1 : Int) + ((1 : Nat) : Int) - 1 < 1)
  omega
 refine ⟨e, ?_⟩
 unfold Lg.gtR
 rw [if_pos e]
 rfl
theorem lgA_enc (h : encE r = 0) : ∀ y ∈ (lgA r).recs, encE y.1 = 0 := by
 intro y hy
 have hy : y ∈ [(r, (0 : Int) + 0 / 242)] := hy
 simp at hy
 subst hy
 exact h
theorem lgB_enc (h : encE r = 0) : ∀ y ∈ (lgB r).recs, encE y.1 = 0 := lgA_enc h
end
section
variable {B : Nat} {R : Res} {w : World} {b d : Nat} {s : St}
theorem own_append (h : Has B ((lgR b d (lgMade 40)).star R) w) (hB : B ≤ w.heap.size) (hT : Tab w) (x : Xr) (hx : XrIn w.heap.size w x) :
  Calls Tryz.prog 8 #[.pointer (some ⟨b, 0, none⟩), x.val, .int .i64 0] w (RetHas (.tuple #[.int .i64 ((lgMade 40).apN x.read 0), .int .i64 (encE x.read)]) B ((lgR b d ((lgMade 40).app x.read 0)).star R) w) := by
 have C := wgAppend_any h hB (lgMade_eq 40 f3 ▸ lgN_fit (by omega) (by omega)) hT x (fun q => lgA_fit q) hx 0 (by omega)
 rw [lgA_ap] at C
 exact C
theorem own_isB {r : Rc} (h : Has B ((lgR b d (lgA r)).star R) w) : isB (rcL r) := by
 obtain ⟨F, A, n, c, xs, Q, p, q, vs, G, ha⟩ := lgR_at h
 have hp : (1 : Nat) = p := ha.llen
 have := (ha.weach 0 (by omega)).1.byt.rng
 exact this
theorem own_getA {r : Rc} (h : Has B ((lgR b d (lgA r)).star R) w) (hr : encE r = 0) : Calls Tryz.prog 10 #[.pointer (some ⟨b, 0, none⟩), .int .i64 1] w (RetGet r 0 w) := by
 have C := wgGet_any (lgR_at h) (lgA_fit hr) (lgA_enc hr) 1 (by omega)
 rw [(lgA_get r).1, (lgA_get r).2] at C
 exact C
theorem own_getB {r : Rc} (h : Has B ((lgR b d (lgB r)).star R) w) (hr : encE r = 0) (hb0 : isB (rcL r)) : Calls Tryz.prog 10 #[.pointer (some ⟨b, 0, none⟩), .int .i64 1] w (RetGet r 0 w) := by
 have C := wgGet_any (lgR_at h) (lgB_fit hr hb0) (lgB_enc hr) 1 (by omega)
 rw [(lgB_get r).1, (lgB_get r).2] at C
 exact C
theorem own_force {r : Rc} (h : Has B ((lgR b d (lgA r)).star ((dsk d s).star R)) w) (hB : B ≤ w.heap.size) (hT : Tab w) (hr : encE r = 0) (hs : Made 40 s) :
  Calls Tryz.prog 11 #[.pointer (some ⟨b, 0, none⟩)] w (RetHas (.int .i64 0) B ((lgR b d (lgB r)).star ((dsk d ((lgA r).fcS s)).star R)) w) := by
 have C := wgForce_any h hB (lgA_fit hr) hT (by show (1 : Int) ≤ 40 ∧ (40 : Int) ≤ 100000; omega) (by rw [lgA_all]; have := (sealed_le _ (encE_zero hr).2).2; omega) (by rw [hs.pend]; show 0 ≤ 900000; omega) (by rw [hs.syncs]; omega)
 obtain ⟨e1, e2⟩ := lgA_fc hr (own_isB h) hs.up hs.num
 rw [e1, e2] at C
 exact C
def recV (y : Xr) (q : Nat) : Res where
 is w F := XrIn w.heap.size w y ∧ y.Wrt w ∧ (∀ k, y.owns k → F k) ∧ Bk w q 30 y.cells ∧ F q ∧ ∀ k, F k → k < w.heap.size
 lt _ _ := fun h => h.2.2.2.2.2
 keep _ _ _ := fun ⟨h1, h2, h3, h4, h5, h6⟩ hs hk => ⟨h1.same hs (fun k q => hk k (h3 k q)), h2.same (fun k q => hk k (h3 k q)), h3, (hk _ h5).trans h4, h5, fun k f => Nat.lt_of_lt_of_le (h6 k f) hs⟩
def noR : Res where
 is w F := ∀ k, F k → k < w.heap.size
 lt _ _ := fun h => h
 keep _ _ _ := fun h hs _ k f => Nat.lt_of_lt_of_le (h k f) hs
theorem recV_new {S : Res} {w w1 : World} {y : Xr} (h : Has B S w) (hB : B ≤ w.heap.size) (hy : XrIn w1.heap.size w1 y) (hn : ∀ k, y.owns k → w.heap.size ≤ k ∧ k < w1.heap.size) (hb : Below w.heap.size w w1) (hw : y.Wrt w1) :
  Has B ((recV y w1.heap.size).star S) (w1.alloc (.cells y.cells 30)) := by
 have b2 : Below w1.heap.size w1 (w1.alloc (.cells y.cells 30)) := (Below.refl _ _).alloc (Nat.le_refl _) _
 have hl := (Bk.new w1 30 y.cells).lt
 refine h.new hB (hb.trans (b2.mono hb.size)) ⟨(hy.calm (Calm.of_below b2)).up b2.size, hw.same (fun k q => b2.block k (hn k q).2), fun k q => ⟨(hn k q).1, Nat.lt_of_lt_of_le (hn k q).2 b2.size⟩, Bk.new w1 _ _, ⟨hb.size, hl⟩, fun k f => f.2⟩
theorem recV_at {S : Res} {y : Xr} {q : Nat} (h : Has B ((recV y q).star S) w) : XrIn w.heap.size w y ∧ Bk w q 30 y.cells := by
 obtain ⟨F, h1⟩ := h.fst.ex
 exact ⟨h1.1, h1.2.2.2.1⟩
theorem recV_scr {S : Res} {y : Xr} {q : Nat} (h : Has B ((recV y q).star S) w) (hB : B ≤ w.heap.size) : Calls Tryz.prog 9 #[y.val] w (RetHas (.tuple #[]) B S w) := by
 obtain ⟨F, h1, h2⟩ := h.turn1 hB
 refine (scrawl_any y w h1.1 h1.2.1).mono ?_
 rintro e w' ⟨rfl, hf⟩
 have t := h2 noR w' ⟨fun k f => by
  rcases f with f | f
  ·exact Nat.lt_of_lt_of_le (h1.2.2.2.2.2 k f) hf.size
  ·exact f.2, hf.mono (fun k q => h1.2.2.1 k q)⟩
 exact ⟨rfl, t.1.snd, t.2⟩
end
end

/- trothref07.SameInts and sameLocks say yes of lists that read as the same. -/
section
open Go.RowKit
theorem sameInts_yes (A : Option Addr) (n c : Nat) (A' : Option Addr) (n' c' H H' : Nat) (l : List Int) (w : World) (h : Sl elI H w A n c l) (h' : Sl elI H' w A' n' c' l) :
  Calls Tryz.prog 30 #[.slice A n c, .slice A' n' c'] w (Quiet (.bool true) w) := by
 obtain rfl : n = n' := by rw [← h.len, ← h'.len]
 by_cases hn : 0 < n
 ·obtain ⟨g, off, rfl, _, hr⟩ := h.at_ hn
  obtain ⟨g', off', rfl, _, hr'⟩ := h'.at_ hn
  have hc0 : ∀ i, i < n → w.cell? ⟨g, off + i, none⟩ = some (.int .i64 (l.getD i default)) := fun i hi => by have := hr i hi 0 _ rfl; simpa [elI] using this
  have hc1 : ∀ i, i < n → w.cell? ⟨g', off' + i, none⟩ = some (.int .i64 (l.getD i default)) := fun i hi => by have := hr' i hi 0 _ rfl; simpa [elI] using this
  have hcap := h.cap
  have hmax := h.max
  unfold maxLen at hmax
  have HC0 := Lib.hid hc0
  have HC1 := Lib.hid hc1
  clear hc0 hc1 h h' hr hr'
  go_enter Tryz.func30, Tryz.ntmps30
  go_wp2
  go_loopw [5] (fun i wr => ∃ k : Nat, k ≤ n ∧ i = .int .i64 k ∧ ∃ m, wr = w.drewN m) (fun i _ => n - (intOf i).toNat)
  case atStart => exact ⟨0, Nat.zero_le _, rfl, 0, rfl⟩
  case round =>
   obtain ⟨k, hk, rfl, m, rfl⟩ := hrel
   by_cases hlt : k < n
   ·have hx := HC0.out k hlt
    have hy := HC1.out k hlt
    obtain ⟨x, ex⟩ : ∃ x, x = l.getD k default := ⟨_, rfl⟩
    rw [← ex] at hx hy
    clear ex
    go_wp2
    go_quiet (fail)
    go_wp2
    go_roundw
    case rel => exact ⟨k + 1, by omega, by go_num, _, rfl⟩
    case measure => simp [intOf]; omega
   ·have hkn : k = n := by omega
    subst hkn
    go_wp2
    go_ret
    exact ⟨rfl, _, rfl⟩
 ·have h0 : n = 0 := by omega
  subst h0
  clear h h' hn
  go_enter Tryz.func30, Tryz.ntmps30
  go_wp2
  refine wp_loop_rounds 1 ?_
  rw [rounds_succ]
  go_wp2
  go_ret
  exact ⟨rfl, 0, rfl⟩
theorem sameLocks_yes (A : Option Addr) (n c : Nat) (A' : Option Addr) (n' c' H H' : Nat) (l : List Lk) (w : World) (h : Sl elL H w A n c l) (h' : Sl elL H' w A' n' c' l) :
  Calls Tryz.prog 31 #[.slice A n c, .slice A' n' c'] w (Quiet (.bool true) w) := by
 obtain rfl : n = n' := by rw [← h.len, ← h'.len]
 by_cases hn : 0 < n
 ·obtain ⟨g, off, rfl, _, hr⟩ := h.at_ hn
  obtain ⟨g', off', rfl, _, hr'⟩ := h'.at_ hn
  have hcap := h.cap
  have hmax := h.max
  unfold maxLen at hmax
  have HC0 : Hid (∀ i, i < n → w.cell? ⟨g, off + i * 2, none⟩ = some (.string (l.getD i default).key) ∧ w.cell? ⟨g, off + i * 2 + 1, none⟩ = some (.bool (l.getD i default).x)) := Lib.hid (fun i hi => ⟨hr i hi 0 _ rfl, hr i hi 1 _ rfl⟩)
  have HC1 : Hid (∀ i, i < n → w.cell? ⟨g', off' + i * 2, none⟩ = some (.string (l.getD i default).key) ∧ w.cell? ⟨g', off' + i * 2 + 1, none⟩ = some (.bool (l.getD i default).x)) := Lib.hid (fun i hi => ⟨hr' i hi 0 _ rfl, hr' i hi 1 _ rfl⟩)
  clear h h' hr hr'
  go_enter Tryz.func31, Tryz.ntmps31
  go_wp2
  go_loopw [5] (fun i wr => ∃ k : Nat, k ≤ n ∧ i = .int .i64 k ∧ ∃ m, wr = w.drewN m) (fun i _ => n - (intOf i).toNat)
  case atStart => exact ⟨0, Nat.zero_le _, rfl, 0, rfl⟩
  case round =>
   obtain ⟨k, hk, rfl, m, rfl⟩ := hrel
   by_cases hlt : k < n
   ·obtain ⟨hx0, hx1⟩ := HC0.out k hlt
    obtain ⟨hy0, hy1⟩ := HC1.out k hlt
    obtain ⟨x, ex⟩ : ∃ x, x = (l.getD k default).key := ⟨_, rfl⟩
    obtain ⟨z, ez⟩ : ∃ z, z = (l.getD k default).x := ⟨_, rfl⟩
    rw [← ex] at hx0 hy0
    rw [← ez] at hx1 hy1
    clear ex ez
    go_wp2
    go_quiet (fail)
    go_wp2
    go_roundw
    case rel => exact ⟨k + 1, by omega, by go_num, _, rfl⟩
    case measure => simp [intOf]; omega
   ·have hkn : k = n := by omega
    subst hkn
    go_wp2
    go_ret
    exact ⟨rfl, _, rfl⟩
 ·have h0 : n = 0 := by omega
  subst h0
  clear h h' hn
  go_enter Tryz.func31, Tryz.ntmps31
  go_wp2
  refine wp_loop_rounds 1 ?_
  rw [rounds_succ]
  go_wp2
  go_ret
  exact ⟨rfl, 0, rfl⟩
end

/- trothref07.SameRow says yes of rows that read as the same. -/
section
open Go.RowKit
theorem calm_drewN (H : Nat) (w : World) (m : Nat) : Calm H w (w.drewN m) := ⟨rfl, rfl, rfl, Nat.le_refl _, fun _ _ _ => rfl⟩
theorem sameRow_yes (x y : Xw) (H H' : Nat) (w : World) (hx : XwIn H w x) (hy : XwIn H' w y) (e : x.row = y.row) :
  Calls Tryz.prog 54 #[.agg (elR.cells x).toArray, .agg (elR.cells y).toArray] w (fun e w' => e = .returned (.bool true) ∧ Below w.heap.size w w') := by
 obtain ⟨tx, st, fi, la, un, co, mA, mn, mc, mem, kA, kn, kc, lks⟩ := x
 obtain ⟨tx', st', fi', la', un', co', mA', mn', mc', mem', kA', kn', kc', lks'⟩ := y
 obtain rfl : tx = tx' := congrArg Rw.tx e
 obtain rfl : st = st' := congrArg Rw.st e
 obtain rfl : fi = fi' := congrArg Rw.fi e
 obtain rfl : la = la' := congrArg Rw.la e
 obtain rfl : un = un' := congrArg Rw.un e
 obtain rfl : co = co' := congrArg Rw.co e
 obtain rfl : mem = mem' := congrArg Rw.mem e
 obtain rfl : lks = lks' := congrArg Rw.lks e
 clear e
 show Calls _ _ #[.agg #[.int .i64 tx, .int .i64 st, .int .i64 fi, .int .i64 la, .int .i64 un, .int .i64 co, .slice mA mn mc, .slice kA kn kc], .agg #[.int .i64 tx, .int .i64 st, .int .i64 fi, .int .i64 la, .int .i64 un, .int .i64 co, .slice mA' mn' mc', .slice kA' kn' kc']] w _
 obtain ⟨r, hrr⟩ : ∃ r, w.heap.size = r := ⟨_, rfl⟩
 obtain ⟨W1, hW1⟩ : ∃ W1, W1 = (w.alloc (.cells #[.int .i64 tx, .int .i64 st, .int .i64 fi, .int .i64 la, .int .i64 un, .int .i64 co, .slice mA mn mc, .slice kA kn kc] 49)).alloc (.cells #[.int .i64 tx, .int .i64 st, .int .i64 fi, .int .i64 la, .int .i64 un, .int .i64 co, .slice mA' mn' mc', .slice kA' kn' kc'] 49) := ⟨_, rfl⟩
 have hb : Below w.heap.size w W1 := by rw [hW1]; exact ((Below.refl _ _).alloc (Nat.le_refl _) _).alloc (by simp) _
 have V0 : Bk W1 r 49 #[.int .i64 tx, .int .i64 st, .int .i64 fi, .int .i64 la, .int .i64 un, .int .i64 co, .slice mA mn mc, .slice kA kn kc] := by rw [hW1, ← hrr]; exact (Bk.new w _ _).bel ((Below.refl _ _).alloc (Nat.le_refl _) _) (by simp)
 have V1 : Bk W1 (r + 1) 49 #[.int .i64 tx, .int .i64 st, .int .i64 fi, .int .i64 la, .int .i64 un, .int .i64 co, .slice mA' mn' mc', .slice kA' kn' kc'] := by
  rw [hW1, ← hrr]
  have := Bk.new (w.alloc (.cells #[.int .i64 tx, .int .i64 st, .int .i64 fi, .int .i64 la, .int .i64 un, .int .i64 co, .slice mA mn mc, .slice kA kn kc] 49)) 49 #[.int .i64 tx, .int .i64 st, .int .i64 fi, .int .i64 la, .int .i64 un, .int .i64 co, .slice mA' mn' mc', .slice kA' kn' kc']
  rw [World.size_alloc] at this
  exact this
 have a0 : W1.cell? ⟨r, 0, none⟩ = some (.int .i64 tx) := V0.cell 0
 have a1 : W1.cell? ⟨r, 1, none⟩ = some (.int .i64 st) := V0.cell 1
 have a2 : W1.cell? ⟨r, 2, none⟩ = some (.int .i64 fi) := V0.cell 2
 have a3 : W1.cell? ⟨r, 3, none⟩ = some (.int .i64 la) := V0.cell 3
 have a4 : W1.cell? ⟨r, 4, none⟩ = some (.int .i64 un) := V0.cell 4
 have a5 : W1.cell? ⟨r, 5, none⟩ = some (.int .i64 co) := V0.cell 5
 have a6 : W1.cell? ⟨r, 6, none⟩ = some (.slice mA mn mc) := V0.cell 6
 have a7 : W1.cell? ⟨r, 7, none⟩ = some (.slice kA kn kc) := V0.cell 7
 have b0 : W1.cell? ⟨r + 1, 0, none⟩ = some (.int .i64 tx) := V1.cell 0
 have b1 : W1.cell? ⟨r + 1, 1, none⟩ = some (.int .i64 st) := V1.cell 1
 have b2 : W1.cell? ⟨r + 1, 2, none⟩ = some (.int .i64 fi) := V1.cell 2
 have b3 : W1.cell? ⟨r + 1, 3, none⟩ = some (.int .i64 la) := V1.cell 3
 have b4 : W1.cell? ⟨r + 1, 4, none⟩ = some (.int .i64 un) := V1.cell 4
 have b5 : W1.cell? ⟨r + 1, 5, none⟩ = some (.int .i64 co) := V1.cell 5
 have b6 : W1.cell? ⟨r + 1, 6, none⟩ = some (.slice mA' mn' mc') := V1.cell 6
 have b7 : W1.cell? ⟨r + 1, 7, none⟩ = some (.slice kA' kn' kc') := V1.cell 7
 have CI := Lib.hid (sameInts_yes mA mn mc mA' mn' mc' H H' mem W1 (hx.mem.calm (Calm.of_below hb)) (hy.mem.calm (Calm.of_below hb)))
 have CL := Lib.hid (fun m => sameLocks_yes kA kn kc kA' kn' kc' H H' lks (W1.drewN m) ((hx.lks.calm (Calm.of_below hb)).calm (calm_drewN H W1 m)) ((hy.lks.calm (Calm.of_below hb)).calm (calm_drewN H' W1 m)))
 have HB := Lib.hid hb
 have HW := Lib.hid hW1
 clear hx hy hb hW1 V0 V1
 go_enter Tryz.func54, Tryz.ntmps54
 go_upto_region 1 with fail
 (try rw [hrr])
 rw [← HW.out]
 clear HW hrr
 go_wp2_with fail
 refine CI.out.mono ?_
 rintro e w2 ⟨rfl, m, rfl⟩
 go_wp2_with fail
 refine (CL.out m).mono ?_
 rintro e w3 ⟨rfl, m2, rfl⟩
 have R : Hid (Below w.heap.size w (W1.drewN (m + m2))) := Lib.hid (HB.out.trans (below_drewN (Below.refl _ _) _))
 go_wp2_with fail
 go_ret
 exact ⟨rfl, R.out⟩
end

/- 'append' of a slice of elements onto a row of one's own; such a row as a slice. -/
section
open Go.RowKit
structure Apd {α : Type} (E : El α) (base : Nat) (w w' : World) (row : Option Nat) (A : Option Addr) (n c : Nat) (l : List α) : Prop where
 own : w'.ownsRow base E.ty E.size (.slice A n c) n (l.flatMap E.cells)
 grown : w.grownBy w' row
theorem append_nocap {P : Program} {w : World} (base : Nat) (t ty e : TypeId) (i : TypeInfo) (size : Nat) (ht : P.underlying t = some (.slice e)) (hi : P.info? e = some i)
  (v : Value) (n c : Nat) (xs : List Value) (hown : w.ownsRow base e size v n xs) : (Builtin.append_ #[t, t] ty #[v, .slice none 0 c]).run P w = .ok v w := by
 rcases hown.2 with ⟨rfl, rfl⟩ | ⟨g, cap, cur, rfl, _, _, hnc, _⟩
 ·simp [Builtin.append_, run_underlying ht, sizeOf, typeInfo, hi, Builtin.lenOf, Builtin.firstCells]
 ·simp [Builtin.append_, run_underlying ht, sizeOf, typeInfo, hi, Builtin.lenOf, Builtin.firstCells, hnc, storeCells]
abbrev iP (o : Prop) : Inhabited Prop := ⟨o⟩
section
variable {α : Type} [Inhabited α] {E : El α} {H : Nat}
theorem Sl.news {w : World} {ad : Addr} {n c : Nat} {l : List α} (h : Sl E H w (some ad) n c l) : ∀ j u, (l.flatMap E.cells)[j]? = some u → w.cell? (ad.add j) = some u := by
 intro j v hv
 have hj : j < n * E.size := by rw [← h.len, ← flat_len]; exact (List.getElem?_eq_some_iff.1 hv).1
 have hi : j / E.size < n := Nat.div_lt_of_lt_mul (by rw [Nat.mul_comm]; exact hj)
 have hr : j % E.size < E.size := Nat.mod_lt _ E.pos
 obtain ⟨d, hd'⟩ : ∃ d, j / E.size = d := ⟨_, rfl⟩
 obtain ⟨r, hr'⟩ : ∃ r, j % E.size = r := ⟨_, rfl⟩
 have e : j = d * E.size + r := by rw [← hd', ← hr', Nat.mul_comm]; exact (Nat.div_add_mod j E.size).symm
 rw [hd'] at hi
 rw [hr'] at hr
 obtain ⟨g', off, e1, _, hc⟩ := h.at_ (by omega)
 injection e1 with e1
 subst e1
 rw [e, flat_get E _ _ _ (by rw [h.len]; exact hi) hr] at hv
 have := hc d hi r v hv
 rw [Addr.add_mid, ← this, e]
 congr 2
 omega
theorem own_slice {w : World} {base n : Nat} {e : TypeId} {size : Nat} {v : Value} {xs : List Value} (h : w.ownsRow base e size v n xs) : ∃ A c, v = .slice A n c := by
 rcases h.2 with ⟨h1, h2⟩ | ⟨g, cap, _, h1, _⟩
 ·subst h2; exact ⟨none, 0, h1⟩
 ·exact ⟨_, _, h1⟩
theorem wp_append_sl {P : Program} {w : World} {o : Oper} {a : Act} {K : Act → World → Prop} {Q : Exit → Act → World → Prop} (s x : Operand) (t : TypeId)
  (ho : o.op = .call { callee := .builtin .append, args := #[s, x], argTypes := #[t, t] }) (base : Nat) (i : TypeInfo) (z : Value) (bytes : Nat) (ht : P.underlying t = some (.slice E.ty)) (hi : P.info? E.ty = some i) (hz : i.zero = some z)
  (hsize : i.size = E.size) (hby : i.bytes = bytes) (hzs : z.cells.size = E.size) {v : Value} {k : Nat} {xs : List α} (hs : a.eval s = v) (hown : w.ownsRow base E.ty E.size v k (xs.flatMap E.cells))
  {A : Option Addr} {n c : Nat} {l : List α} (hx : a.eval x = .slice A n c) (hl : Sl E H w A n c l) (hk : k + n ≤ 100000) (hbb : bytes ≤ 1000) (hbase : base ≤ w.heap.size)
  (h : ∀ A' c' w', Hid (Apd E base w w' v.ownBlock A' (k + n) c' (xs ++ l)) → K (a.put o.dst (.slice A' (k + n) c')) w') : o.wp P a w K Q := by
 cases A with
 | none =>
  obtain ⟨rfl, rfl⟩ := hl.nil_ rfl
  obtain rfl := hl.none_
  have hrun := append_nocap (P := P) (w := w) base t o.type E.ty i E.size ht hi v k 0 _ hown
  obtain ⟨A', c', rfl⟩ := own_slice hown
  have h' := h A' c' w (Lib.hid ⟨by simpa using hown, World.grownBy.refl w _⟩)
  simp only [Nat.add_zero] at h'
  unfold Oper.wp
  simp only [execOp, ho, resolve, invoke, builtin, List.map_toArray, List.map_cons, List.map_nil, hs, hx, Sem.run_bind, Sem.run_pure, Result.andThen_ok, hrun]
  exact h'
 | some ad =>
  have hbt : (k + n) * bytes ≤ 140737488355328 := Nat.le_trans (Nat.mul_le_mul hk hbb) (by omega)
  refine wp_append_own w s x t ho base E.ty i z E.size bytes ht hi hz hsize hby hzs E.pos v k _ hs hown ad n c (l.flatMap E.cells) hx (by rw [flat_len, hl.len]) hl.news (flat_one E l) (by unfold maxLen; omega) hbt hbase ?_
  intro v' w' h1 h2 _
  obtain ⟨A', c', rfl⟩ := own_slice h1
  exact h A' c' w' (Lib.hid ⟨by rw [List.flatMap_append]; exact h1, h2⟩)
theorem wpList_append_sl {P : Program} {w : World} {ops : Array Oper} {rest : List Oper} {o : Oper} {a : Act} {Q : Exit → Act → World → Prop} (hgd : o.guard = none) (s x : Operand) (t : TypeId)
  (ho : o.op = .call { callee := .builtin .append, args := #[s, x], argTypes := #[t, t] }) (base : Nat) (i : TypeInfo) (z : Value) (bytes : Nat) (ht : P.underlying t = some (.slice E.ty)) (hi : P.info? E.ty = some i) (hz : i.zero = some z)
  (hsize : i.size = E.size) (hby : i.bytes = bytes) (hzs : z.cells.size = E.size) {v : Value} {k : Nat} {xs : List α} (hs : a.eval s = v) (hown : w.ownsRow base E.ty E.size v k (xs.flatMap E.cells))
  {A : Option Addr} {n c : Nat} {l : List α} (hx : a.eval x = .slice A n c) (hl : Sl E H w A n c l) (hk : k + n ≤ 100000) (hbb : bytes ≤ 1000) (hbase : base ≤ w.heap.size)
  (h : ∀ A' c' w', Hid (Apd E base w w' v.ownBlock A' (k + n) c' (xs ++ l)) → wpList P ops Q rest (a.put o.dst (.slice A' (k + n) c')) w') : wpList P ops Q (o :: rest) a w :=
 wpList_plain hgd fun _ hK => wp_append_sl s x t ho base i z bytes ht hi hz hsize hby hzs hs hown hx hl hk hbb hbase fun A' c' w' h1 => hK _ _ (h A' c' w' h1)
theorem Sl.of_ownI {_ : Inhabited Prop} {w : World} {base : Nat} {A : Option Addr} {n c : Nat} {l : List α} (h : w.ownsRow base E.ty E.size (.slice A n c) n (l.flatMap E.cells)) (hH : H ≤ base) (hl : l.length = n) (he : ∀ x ∈ l, E.inn H w x) : Sl E H w A n c l := by
 rcases h.2 with ⟨hv, h0⟩ | ⟨g, cap, cur, hv, hb, hg, h1, h2, h3, h4⟩
 ·injection hv with e1 e2 e3
  subst e1 e2 e3
  obtain rfl := List.eq_nil_of_length_eq_zero hl
  exact Sl.nil E H w
 ·injection hv with e1 e2 e3
  subst e1 e3
  refine ⟨hl, h1, h2, (fun q => nomatch q), he, fun _ => ⟨g, 0, rfl, ⟨(Array.getElem?_eq_some_iff.1 hg).1, .inr ⟨Nat.le_trans hH hb, cur, hg⟩, .inr ⟨cur, _, hg⟩⟩, fun i hi j v hv => ?_⟩⟩
  have hj : j < E.size := by rw [← E.len (l.getD i default)]; exact (List.getElem?_eq_some_iff.1 hv).1
  have e : (l.flatMap E.cells)[i * E.size + j]? = some v := by rw [flat_get E l i j (by omega) hj]; exact hv
  have := h.cells (g := g) rfl (i * E.size + j) v e
  rw [Addr.add_mid] at this
  rw [Nat.zero_add]
  simpa using this
theorem Sl.of_ownO (o : Prop) {w : World} {base : Nat} {A : Option Addr} {n c : Nat} {l : List α} (h : w.ownsRow base E.ty E.size (.slice A n c) n (l.flatMap E.cells)) (hH : H ≤ base) (hl : l.length = n) (he : ∀ x ∈ l, E.inn H w x) : @Sl (iP o) _ _ E H w A n c l := Sl.of_ownI h hH hl he
theorem Sl.of_own {w : World} {base : Nat} {A : Option Addr} {n c : Nat} {l : List α} (h : w.ownsRow base E.ty E.size (.slice A n c) n (l.flatMap E.cells)) (hl : l.length = n) (he : ∀ x ∈ l, E.inn H w x) : Sl E H w A n c l := by
 rcases h.2 with ⟨hv, h0⟩ | ⟨g, cap, cur, hv, hb, hg, h1, h2, h3, h4⟩
 ·injection hv with e1 e2 e3
  subst e1 e2 e3
  obtain rfl := List.eq_nil_of_length_eq_zero hl
  exact Sl.nil E H w
 ·injection hv with e1 e2 e3
  subst e1 e3
  refine ⟨hl, h1, h2, (fun q => nomatch q), he, fun _ => ⟨g, 0, rfl, ⟨(Array.getElem?_eq_some_iff.1 hg).1, .inl trivial, .inr ⟨cur, _, hg⟩⟩, fun i hi j v hv => ?_⟩⟩
  have hj : j < E.size := by rw [← E.len (l.getD i default)]; exact (List.getElem?_eq_some_iff.1 hv).1
  have e : (l.flatMap E.cells)[i * E.size + j]? = some v := by rw [flat_get E l i j (by omega) hj]; exact hv
  have := h.cells (g := g) rfl (i * E.size + j) v e
  rw [Addr.add_mid] at this
  rw [Nat.zero_add]
  simpa using this
theorem cp_step {w1 w2 : World} {r j n : Nat} {t : TypeId} {C : Array Value} {A' : Option Addr} {c' : Nat} {l : List α} (hv : Bk w1 r t C) (ht : t ≠ E.ty) (hti : E.inner t = false) (hH : H ≤ r) (hl : l.length = n)
  (h : Apd E w1.heap.size (w1.alloc (.cells #[] E.ty)) w2 (some w1.heap.size) A' n c' l) (he : ∀ x ∈ l, E.inn H w1 x) :
  Bk (w2.setCell ⟨r, j, none⟩ (.slice A' n c')) r t (C.setIfInBounds j (.slice A' n c')) ∧ w1.grownBy (w2.setCell ⟨r, j, none⟩ (.slice A' n c')) (some r) ∧ Sl E H (w2.setCell ⟨r, j, none⟩ (.slice A' n c')) A' n c' l ∧ Bk w2 r t C := by
 have hb : Below w1.heap.size w1 w2 := ((Below.refl _ _).alloc (Nat.le_refl _) _).grown h.grown (by simp) (fun k hk => by injection hk with hk; omega)
 have h2 : Bk w2 r t C := hv.bel hb hv.lt
 have hs : Sl E H w2 A' n c' l := Sl.of_own h.own hl (fun x hx => E.calm H w1 w2 x (he x hx) (Calm.of_below hb))
 exact ⟨h2.setc j _, grown_trans ⟨hb.os, hb.tape, hb.output, hb.size, fun k hk _ => hb.block k hk⟩ (grown_set w2 r j _), hs.other hti ht h2 hH (grown_set w2 r j _), h2⟩
theorem cp_stepO (o : Prop) {w1 w2 : World} {r j n : Nat} {t : TypeId} {C : Array Value} {A' : Option Addr} {c' : Nat} {l : List α} (hv : Bk w1 r t C) (ht : t ≠ E.ty) (hti : E.inner t = false) (hH : H ≤ r) (hl : l.length = n)
  (h : Apd E w1.heap.size (w1.alloc (.cells #[] E.ty)) w2 (some w1.heap.size) A' n c' l) (he : ∀ x ∈ l, E.inn H w1 x) :
  Bk (w2.setCell ⟨r, j, none⟩ (.slice A' n c')) r t (C.setIfInBounds j (.slice A' n c')) ∧ w1.grownBy (w2.setCell ⟨r, j, none⟩ (.slice A' n c')) (some r) ∧ @Sl (iP o) _ _ E H (w2.setCell ⟨r, j, none⟩ (.slice A' n c')) A' n c' l ∧ Bk w2 r t C := by
 have hb : Below w1.heap.size w1 w2 := ((Below.refl _ _).alloc (Nat.le_refl _) _).grown h.grown (by simp) (fun k hk => by injection hk with hk; omega)
 have h2 : Bk w2 r t C := hv.bel hb hv.lt
 have hs : @Sl (iP o) _ _ E H w2 A' n c' l := Sl.of_ownO o h.own (Nat.le_trans hH (Nat.le_of_lt hv.lt)) hl (fun x hx => E.calm H w1 w2 x (he x hx) (Calm.of_below hb))
 exact ⟨h2.setc j _, grown_trans ⟨hb.os, hb.tape, hb.output, hb.size, fun k hk _ => hb.block k hk⟩ (grown_set w2 r j _), hs.other hti ht h2 hH (grown_set w2 r j _), h2⟩
end
def GatRel {α β : Type} (E : El α) (rd : α → β) (W5 : World) (r : Nat) (xs : List α) (k : Nat) (A : Option Addr) (c : Nat) (wr : World) : Prop := ∃ ys : List α,
 wr.ownsRow W5.heap.size E.ty E.size (.slice A k c) k (ys.flatMap E.cells) ∧ ys.length = k ∧ ys.map rd = (xs.take k).map rd ∧ (∀ y ∈ ys, E.inn r wr y) ∧ Below W5.heap.size W5 wr
theorem GatRel.next {α β : Type} [Inhabited α] {E : El α} {rd : α → β} {W5 wr we wf : World} {r k : Nat} {xs ys : List α} {A A' : Option Addr} {c c' : Nat} {z' : α} (hr : r ≤ W5.heap.size) (hi : E.inner E.ty = false) (hlen : ys.length = k) (hmap : ys.map rd = (xs.take k).map rd) (hin : ∀ y ∈ ys, E.inn r wr y) (hb : Below W5.heap.size W5 wr)
  (hbe : Below wr.heap.size wr we) (own : we.ownsRow W5.heap.size E.ty E.size (.slice A k c) k (ys.flatMap E.cells)) (hz : E.inn r we z') (hzr : rd z' = rd (xs.getD k default)) (hk : k < xs.length)
  (h : Apd E W5.heap.size we wf (Value.ownBlock (.slice A k c)) A' (k + 1) c' (ys ++ [z'])) : GatRel E rd W5 r xs (k + 1) A' c' wf := by
 have hbw : Below W5.heap.size W5 we := hb.trans (hbe.mono hb.size)
 refine ⟨ys ++ [z'], h.own, by simp [hlen], ?_, fun y hy => ?_, hbw.grown h.grown hbw.size (fun q hq => (own.lt q hq).1)⟩
 ·have e : xs.take (k + 1) = xs.take k ++ [xs.getD k default] := by
   rw [List.take_succ]
   congr 1
   simp [List.getElem?_eq_getElem hk]
  rw [e, List.map_append, List.map_append, hmap]
  simp only [List.map_cons, List.map_nil, hzr]
 ·have hy' : E.inn r we y := by
   rcases List.mem_append.1 hy with q | q
   ·exact E.calm r wr we y (hin y q) (Calm.of_below hbe)
   ·simp at q; rw [q]; exact hz
  rcases own.2 with ⟨hv, _⟩ | ⟨g, cap, cur, hv, hg, hgg, _⟩
  ·injection hv with a
   subst a
   have : Calm r we wf := Calm.grown h.grown (fun q hq => by simp [Value.ownBlock] at hq)
   exact E.calm r we wf y hy' this
  ·injection hv with a
   subst a
   exact E.apart r we wf y g E.ty cur _ hi hy' (by omega) hgg h.grown
end

/- trothref07.Great where no list of the record's own is too great: it looks at the lists in lists. -/
section
open Go.RowKit
def InnerOk (x : Xr) : Prop := (∀ i, i < x.rn → (x.rows.getD i default).mn ≤ 20 ∧ (x.rows.getD i default).kn ≤ 80) ∧ ∀ i, i < x.en → (x.deeds.getD i default).mn ≤ 20
theorem great_in (x : Xr) (H : Nat) (w : World) (hx : XrIn H w x) (h0 : ¬ (20 : Int) < (x.mn : Int)) (h1 : ¬ (80 : Int) < (x.kn : Int)) (h2 : ¬ (70 : Int) < (x.rn : Int)) (h3 : ¬ (80 : Int) < (x.dn : Int)) (h4 : ¬ (80 : Int) < (x.en : Int)) (h5 : ¬ (300 : Int) < (x.pn : Int)) (h6 : ¬ (100 : Int) < (x.key.size : Int)) (h7 : ¬ (100 : Int) < (x.old.data.size : Int)) (h8 : ¬ (100 : Int) < (x.new.data.size : Int)) :
  Calls Tryz.prog 4 #[x.val] w (fun e w' => ∃ b, e = .returned (.bool b) ∧ (b = false → InnerOk x) ∧ Below w.heap.size w w') := by
 obtain ⟨kind, tx, prev, next, key, ⟨oh, od⟩, ⟨nh, nd⟩, co, mA, mn, mc, mem, kA, kn, kc, lks, rA, rn, rc, rows, dA, dn, dc, dirty, eA, en, ec, deeds, pA, pn, pc, past⟩ := x
 simp only at h0 h1 h2 h3 h4 h5 h6 h7 h8
 unfold Xr.val
 simp only
 obtain ⟨r, hrr⟩ : ∃ r, w.heap.size = r := ⟨_, rfl⟩
 obtain ⟨W1, hW1⟩ : ∃ W1, W1 = w.alloc (.cells #[.int .i64 kind, .int .i64 tx, .int .i64 prev, .int .i64 next, .string key, .bool oh, .string od, .bool nh, .string nd, .int .i64 co, .slice mA mn mc, .slice kA kn kc, .slice rA rn rc, .slice dA dn dc, .slice eA en ec, .slice pA pn pc] 30) := ⟨_, rfl⟩
 have hb : Below w.heap.size w W1 := by rw [hW1]; exact (Below.refl _ _).alloc (Nat.le_refl _) _
 have HX := Lib.hid (hx.calm (Calm.of_below hb))
 have HV : Bk W1 r 30 #[.int .i64 kind, .int .i64 tx, .int .i64 prev, .int .i64 next, .string key, .bool oh, .string od, .bool nh, .string nd, .int .i64 co, .slice mA mn mc, .slice kA kn kc, .slice rA rn rc, .slice dA dn dc, .slice eA en ec, .slice pA pn pc] := by rw [hW1, ← hrr]; exact Bk.new w _ _
 have q4 : W1.cell? ⟨r, 4, none⟩ = some (.string key) := HV.cell 4
 have q5 : W1.cell? ⟨r, 6, none⟩ = some (.string od) := HV.cell 6
 have q6 : W1.cell? ⟨r, 8, none⟩ = some (.string nd) := HV.cell 8
 have q10 : W1.cell? ⟨r, 10, none⟩ = some (.slice mA mn mc) := HV.cell 10
 have q11 : W1.cell? ⟨r, 11, none⟩ = some (.slice kA kn kc) := HV.cell 11
 have q12 : W1.cell? ⟨r, 12, none⟩ = some (.slice rA rn rc) := HV.cell 12
 have q13 : W1.cell? ⟨r, 13, none⟩ = some (.slice dA dn dc) := HV.cell 13
 have q14 : W1.cell? ⟨r, 14, none⟩ = some (.slice eA en ec) := HV.cell 14
 have q15 : W1.cell? ⟨r, 15, none⟩ = some (.slice pA pn pc) := HV.cell 15
 have HB := Lib.hid hb
 have HW := Lib.hid hW1
 have kcap := HX.out.lks.cap
 have kmax := HX.out.lks.max
 have rcap := HX.out.rows.cap
 have rmax := HX.out.rows.max
 have ecap := HX.out.deeds.cap
 have emax := HX.out.deeds.max
 unfold maxLen at kmax rmax emax
 clear hx hb hW1 HV
 go_enter Tryz.func4, Tryz.ntmps4
 go_upto_region 1 with fail
 (try rw [hrr])
 rw [← HW.out]
 clear HW hrr
 go_wp2_with fail
 go_loopw [3] (fun q wr => ∃ k : Nat, k ≤ kn ∧ q = .int .i64 k ∧ wr = W1) (fun q _ => kn - (intOf q).toNat)
 case atStart => exact ⟨0, Nat.zero_le _, rfl, rfl⟩
 case round =>
  obtain ⟨k, hk, rfl, hwr⟩ := hrel
  obtain rfl : W1 = wr := hwr.symm
  by_cases hlt : k < kn
  ·obtain ⟨g, off, hA, _, hr⟩ := HX.out.lks.at_ (show 0 < kn by omega)
   obtain rfl : kA = _ := hA
   have c0 : W1.cell? ⟨g, off + k * 2, none⟩ = some (.string (lks.getD k default).key) := hr k hlt 0 _ rfl
   obtain ⟨ky, hky⟩ : ∃ ky, (lks.getD k default).key = ky := ⟨_, rfl⟩
   rw [hky] at c0
   clear hr hky
   by_cases hg : (100 : Int) < (ky.size : Int)
   ·go_wp2_with fail
    go_ret
    first | exact ⟨true, rfl, (fun h => nomatch h), HB.out⟩ | exact ⟨rfl, HB.out⟩ | exact Or.inr ⟨rfl, HB.out⟩
   ·go_wp2_with fail
    go_roundw
    case rel => exact ⟨k + 1, by omega, by go_num, by first | rfl | trivial⟩
    case measure => simp [intOf]; omega
  ·obtain hkk : k = kn := by omega
   clear kcap kmax
   go_wp2_with fail
   go_loopw [4] (fun q wr2 => ∃ k : Nat, k ≤ rn ∧ q = .int .i64 k ∧ wr2 = W1 ∧ Hid (∀ i, i < k → (rows.getD i default).mn ≤ 20 ∧ (rows.getD i default).kn ≤ 80)) (fun q _ => rn - (intOf q).toNat)
   case atStart => exact ⟨0, Nat.zero_le _, rfl, rfl, Lib.hid (fun i hi => absurd hi (by omega))⟩
   case round =>
    clear hkk hk hlt
    obtain ⟨k2, hk, rfl, hwr, hin⟩ := hrel
    obtain rfl : W1 = wr := hwr.symm
    by_cases hlt : k2 < rn
    ·obtain ⟨g, off, hA, _, hr⟩ := HX.out.rows.at_ (show 0 < rn by omega)
     obtain rfl : rA = _ := hA
     obtain ⟨z, hz⟩ : ∃ z, rows.getD k2 default = z := ⟨_, rfl⟩
     have hr2 := hr k2 hlt
     have hr3 : W1.rangeAt g (off + k2 * 8) (Xw.cells z) := by rw [← hz]; exact hr2
     have c6 : W1.cell? ⟨g, off + k2 * 8 + 6, none⟩ = some (.slice z.mA z.mn z.mc) := hr3 6 _ rfl
     have c7 : W1.cell? ⟨g, off + k2 * 8 + 7, none⟩ = some (.slice z.kA z.kn z.kc) := hr3 7 _ rfl
     have HZ := Lib.hid hz
     clear hr hr2 hr3 hz
     by_cases hg : (20 : Int) < (z.mn : Int)
     ·go_wp2_with fail
      go_ret
      first | exact ⟨true, rfl, (fun h => nomatch h), HB.out⟩ | exact ⟨rfl, HB.out⟩ | exact Or.inr ⟨rfl, HB.out⟩
     ·by_cases hg2 : (80 : Int) < (z.kn : Int)
      ·go_wp2_with fail
       go_ret
       first | exact ⟨true, rfl, (fun h => nomatch h), HB.out⟩ | exact ⟨rfl, HB.out⟩ | exact Or.inr ⟨rfl, HB.out⟩
      ·have hin2 : Hid (∀ i, i < k2 + 1 → (rows.getD i default).mn ≤ 20 ∧ (rows.getD i default).kn ≤ 80) := Lib.hid (fun i hi => by
        by_cases q : i < k2
        ·exact hin.out i q
        ·obtain rfl : i = k2 := by omega
         rw [HZ.out]; omega)
       go_wp2_with fail
       go_roundw
       case rel => exact ⟨k2 + 1, by omega, by go_num, by first | rfl | trivial, hin2⟩
       case measure => simp [intOf]; omega
    ·obtain hkk : k2 = rn := by omega
     have hin2 : Hid (∀ i, i < rn → (rows.getD i default).mn ≤ 20 ∧ (rows.getD i default).kn ≤ 80) := Lib.hid (by rw [← hkk]; exact hin.out)
     clear rcap rmax hin
     go_wp2_with fail
     go_loopw [5] (fun q wr2 => ∃ k : Nat, k ≤ en ∧ q = .int .i64 k ∧ wr2 = W1 ∧ Hid (∀ i, i < k → (deeds.getD i default).mn ≤ 20)) (fun q _ => en - (intOf q).toNat)
     case atStart => exact ⟨0, Nat.zero_le _, rfl, rfl, Lib.hid (fun i hi => absurd hi (by omega))⟩
     case round =>
      clear hkk hk hlt
      obtain ⟨k3, hk, rfl, hwr, hin⟩ := hrel
      obtain rfl : W1 = wr := hwr.symm
      by_cases hlt : k3 < en
      ·obtain ⟨g, off, hA, _, hr⟩ := HX.out.deeds.at_ (show 0 < en by omega)
       obtain rfl : eA = _ := hA
       obtain ⟨z, hz⟩ : ∃ z, deeds.getD k3 default = z := ⟨_, rfl⟩
       have hr2 := hr k3 hlt
       have hr3 : W1.rangeAt g (off + k3 * 2) (Xd.cells z) := by rw [← hz]; exact hr2
       have c1 : W1.cell? ⟨g, off + k3 * 2 + 1, none⟩ = some (.slice z.mA z.mn z.mc) := hr3 1 _ rfl
       have HZ := Lib.hid hz
       clear hr hr2 hr3 hz
       by_cases hg : (20 : Int) < (z.mn : Int)
       ·go_wp2_with fail
        go_ret
        first | exact ⟨true, rfl, (fun h => nomatch h), HB.out⟩ | exact ⟨rfl, HB.out⟩ | exact Or.inr ⟨rfl, HB.out⟩
       ·have hin3 : Hid (∀ i, i < k3 + 1 → (deeds.getD i default).mn ≤ 20) := Lib.hid (fun i hi => by
         by_cases q : i < k3
         ·exact hin.out i q
         ·obtain rfl : i = k3 := by omega
          rw [HZ.out]; omega)
        go_wp2_with fail
        go_roundw
        case rel => exact ⟨k3 + 1, by omega, by go_num, by first | rfl | trivial, hin3⟩
        case measure => simp [intOf]; omega
      ·obtain hkk : k3 = en := by omega
       have hin3 : Hid (∀ i, i < en → (deeds.getD i default).mn ≤ 20) := Lib.hid (by rw [← hkk]; exact hin.out)
       clear ecap emax hin
       go_wp2_with fail
       go_ret
       first | exact ⟨false, rfl, fun _ => ⟨hin2.out, hin3.out⟩, HB.out⟩ | exact Or.inl ⟨rfl, ⟨hin2.out, hin3.out⟩, HB.out⟩
end

/- trothref07.Great, where thing number 0 is too great. -/
section
open Go.RowKit
theorem great_0 (x : Xr) (w : World)  (h0 : (20 : Int) < (x.mn : Int)) :
  Calls Tryz.prog 4 #[x.val] w (fun e w' => e = .returned (.bool true) ∧ Below w.heap.size w w') := by
 obtain ⟨kind, tx, prev, next, key, ⟨oh, od⟩, ⟨nh, nd⟩, co, mA, mn, mc, mem, kA, kn, kc, lks, rA, rn, rc, rows, dA, dn, dc, dirty, eA, en, ec, deeds, pA, pn, pc, past⟩ := x
 simp only at h0
 unfold Xr.val
 simp only
 go_enter Tryz.func4, Tryz.ntmps4
 go_wp2_with fail
 go_ret
 exact ⟨rfl, (Below.refl _ _).alloc (Nat.le_refl _) _⟩
end

/- trothref07.Great, where thing number 1 is too great. -/
section
open Go.RowKit
theorem great_1 (x : Xr) (w : World) (h0 : ¬ (20 : Int) < (x.mn : Int)) (h1 : (80 : Int) < (x.kn : Int)) :
  Calls Tryz.prog 4 #[x.val] w (fun e w' => e = .returned (.bool true) ∧ Below w.heap.size w w') := by
 obtain ⟨kind, tx, prev, next, key, ⟨oh, od⟩, ⟨nh, nd⟩, co, mA, mn, mc, mem, kA, kn, kc, lks, rA, rn, rc, rows, dA, dn, dc, dirty, eA, en, ec, deeds, pA, pn, pc, past⟩ := x
 simp only at h0 h1
 unfold Xr.val
 simp only
 go_enter Tryz.func4, Tryz.ntmps4
 go_wp2_with fail
 go_ret
 exact ⟨rfl, (Below.refl _ _).alloc (Nat.le_refl _) _⟩
end

/- trothref07.Great, where thing number 2 is too great. -/
section
open Go.RowKit
theorem great_2 (x : Xr) (w : World) (h0 : ¬ (20 : Int) < (x.mn : Int)) (h1 : ¬ (80 : Int) < (x.kn : Int)) (h2 : (70 : Int) < (x.rn : Int)) :
  Calls Tryz.prog 4 #[x.val] w (fun e w' => e = .returned (.bool true) ∧ Below w.heap.size w w') := by
 obtain ⟨kind, tx, prev, next, key, ⟨oh, od⟩, ⟨nh, nd⟩, co, mA, mn, mc, mem, kA, kn, kc, lks, rA, rn, rc, rows, dA, dn, dc, dirty, eA, en, ec, deeds, pA, pn, pc, past⟩ := x
 simp only at h0 h1 h2
 unfold Xr.val
 simp only
 go_enter Tryz.func4, Tryz.ntmps4
 go_wp2_with fail
 go_ret
 exact ⟨rfl, (Below.refl _ _).alloc (Nat.le_refl _) _⟩
end

/- trothref07.Great, where thing number 3 is too great. -/
section
open Go.RowKit
theorem great_3 (x : Xr) (w : World) (h0 : ¬ (20 : Int) < (x.mn : Int)) (h1 : ¬ (80 : Int) < (x.kn : Int)) (h2 : ¬ (70 : Int) < (x.rn : Int)) (h3 : (80 : Int) < (x.dn : Int)) :
  Calls Tryz.prog 4 #[x.val] w (fun e w' => e = .returned (.bool true) ∧ Below w.heap.size w w') := by
 obtain ⟨kind, tx, prev, next, key, ⟨oh, od⟩, ⟨nh, nd⟩, co, mA, mn, mc, mem, kA, kn, kc, lks, rA, rn, rc, rows, dA, dn, dc, dirty, eA, en, ec, deeds, pA, pn, pc, past⟩ := x
 simp only at h0 h1 h2 h3
 unfold Xr.val
 simp only
 go_enter Tryz.func4, Tryz.ntmps4
 go_wp2_with fail
 go_ret
 exact ⟨rfl, (Below.refl _ _).alloc (Nat.le_refl _) _⟩
end

/- trothref07.Great, where thing number 4 is too great. -/
section
open Go.RowKit
theorem great_4 (x : Xr) (w : World) (h0 : ¬ (20 : Int) < (x.mn : Int)) (h1 : ¬ (80 : Int) < (x.kn : Int)) (h2 : ¬ (70 : Int) < (x.rn : Int)) (h3 : ¬ (80 : Int) < (x.dn : Int)) (h4 : (80 : Int) < (x.en : Int)) :
  Calls Tryz.prog 4 #[x.val] w (fun e w' => e = .returned (.bool true) ∧ Below w.heap.size w w') := by
 obtain ⟨kind, tx, prev, next, key, ⟨oh, od⟩, ⟨nh, nd⟩, co, mA, mn, mc, mem, kA, kn, kc, lks, rA, rn, rc, rows, dA, dn, dc, dirty, eA, en, ec, deeds, pA, pn, pc, past⟩ := x
 simp only at h0 h1 h2 h3 h4
 unfold Xr.val
 simp only
 go_enter Tryz.func4, Tryz.ntmps4
 go_wp2_with fail
 go_ret
 exact ⟨rfl, (Below.refl _ _).alloc (Nat.le_refl _) _⟩
end

/- trothref07.Great, where thing number 5 is too great. -/
section
open Go.RowKit
theorem great_5 (x : Xr) (w : World) (h0 : ¬ (20 : Int) < (x.mn : Int)) (h1 : ¬ (80 : Int) < (x.kn : Int)) (h2 : ¬ (70 : Int) < (x.rn : Int)) (h3 : ¬ (80 : Int) < (x.dn : Int)) (h4 : ¬ (80 : Int) < (x.en : Int)) (h5 : (300 : Int) < (x.pn : Int)) :
  Calls Tryz.prog 4 #[x.val] w (fun e w' => e = .returned (.bool true) ∧ Below w.heap.size w w') := by
 obtain ⟨kind, tx, prev, next, key, ⟨oh, od⟩, ⟨nh, nd⟩, co, mA, mn, mc, mem, kA, kn, kc, lks, rA, rn, rc, rows, dA, dn, dc, dirty, eA, en, ec, deeds, pA, pn, pc, past⟩ := x
 simp only at h0 h1 h2 h3 h4 h5
 unfold Xr.val
 simp only
 go_enter Tryz.func4, Tryz.ntmps4
 go_wp2_with fail
 go_ret
 exact ⟨rfl, (Below.refl _ _).alloc (Nat.le_refl _) _⟩
end

/- trothref07.Great, where thing number 6 is too great. -/
section
open Go.RowKit
theorem great_6 (x : Xr) (w : World) (h0 : ¬ (20 : Int) < (x.mn : Int)) (h1 : ¬ (80 : Int) < (x.kn : Int)) (h2 : ¬ (70 : Int) < (x.rn : Int)) (h3 : ¬ (80 : Int) < (x.dn : Int)) (h4 : ¬ (80 : Int) < (x.en : Int)) (h5 : ¬ (300 : Int) < (x.pn : Int)) (h6 : (100 : Int) < (x.key.size : Int)) :
  Calls Tryz.prog 4 #[x.val] w (fun e w' => e = .returned (.bool true) ∧ Below w.heap.size w w') := by
 obtain ⟨kind, tx, prev, next, key, ⟨oh, od⟩, ⟨nh, nd⟩, co, mA, mn, mc, mem, kA, kn, kc, lks, rA, rn, rc, rows, dA, dn, dc, dirty, eA, en, ec, deeds, pA, pn, pc, past⟩ := x
 simp only at h0 h1 h2 h3 h4 h5 h6
 unfold Xr.val
 simp only
 go_enter Tryz.func4, Tryz.ntmps4
 go_wp2_with fail
 go_ret
 exact ⟨rfl, (Below.refl _ _).alloc (Nat.le_refl _) _⟩
end

/- trothref07.Great, where thing number 7 is too great. -/
section
open Go.RowKit
theorem great_7 (x : Xr) (w : World) (h0 : ¬ (20 : Int) < (x.mn : Int)) (h1 : ¬ (80 : Int) < (x.kn : Int)) (h2 : ¬ (70 : Int) < (x.rn : Int)) (h3 : ¬ (80 : Int) < (x.dn : Int)) (h4 : ¬ (80 : Int) < (x.en : Int)) (h5 : ¬ (300 : Int) < (x.pn : Int)) (h6 : ¬ (100 : Int) < (x.key.size : Int)) (h7 : (100 : Int) < (x.old.data.size : Int)) :
  Calls Tryz.prog 4 #[x.val] w (fun e w' => e = .returned (.bool true) ∧ Below w.heap.size w w') := by
 obtain ⟨kind, tx, prev, next, key, ⟨oh, od⟩, ⟨nh, nd⟩, co, mA, mn, mc, mem, kA, kn, kc, lks, rA, rn, rc, rows, dA, dn, dc, dirty, eA, en, ec, deeds, pA, pn, pc, past⟩ := x
 simp only at h0 h1 h2 h3 h4 h5 h6 h7
 unfold Xr.val
 simp only
 go_enter Tryz.func4, Tryz.ntmps4
 go_wp2_with fail
 go_ret
 exact ⟨rfl, (Below.refl _ _).alloc (Nat.le_refl _) _⟩
end

/- trothref07.Great, where thing number 8 is too great. -/
section
open Go.RowKit
theorem great_8 (x : Xr) (w : World) (h0 : ¬ (20 : Int) < (x.mn : Int)) (h1 : ¬ (80 : Int) < (x.kn : Int)) (h2 : ¬ (70 : Int) < (x.rn : Int)) (h3 : ¬ (80 : Int) < (x.dn : Int)) (h4 : ¬ (80 : Int) < (x.en : Int)) (h5 : ¬ (300 : Int) < (x.pn : Int)) (h6 : ¬ (100 : Int) < (x.key.size : Int)) (h7 : ¬ (100 : Int) < (x.old.data.size : Int)) (h8 : (100 : Int) < (x.new.data.size : Int)) :
  Calls Tryz.prog 4 #[x.val] w (fun e w' => e = .returned (.bool true) ∧ Below w.heap.size w w') := by
 obtain ⟨kind, tx, prev, next, key, ⟨oh, od⟩, ⟨nh, nd⟩, co, mA, mn, mc, mem, kA, kn, kc, lks, rA, rn, rc, rows, dA, dn, dc, dirty, eA, en, ec, deeds, pA, pn, pc, past⟩ := x
 simp only at h0 h1 h2 h3 h4 h5 h6 h7 h8
 unfold Xr.val
 simp only
 go_enter Tryz.func4, Tryz.ntmps4
 go_wp2_with fail
 go_ret
 exact ⟨rfl, (Below.refl _ _).alloc (Nat.le_refl _) _⟩
end

/- trothref07.Great tells no lie where it says no. -/
section
open Go.RowKit
structure NotGreat (x : Xr) : Prop where
 mn : x.mn ≤ 20
 kn : x.kn ≤ 80
 rn : x.rn ≤ 70
 dn : x.dn ≤ 80
 en : x.en ≤ 80
 pn : x.pn ≤ 300
 inn : InnerOk x
theorem great_any (x : Xr) (H : Nat) (w : World) (hx : XrIn H w x) : Calls Tryz.prog 4 #[x.val] w (fun e w' => ∃ b, e = .returned (.bool b) ∧ (b = false → NotGreat x) ∧ Below w.heap.size w w') := by
 have yes : ∀ (e : Ending) (w' : World), (e = Ending.returned (.bool true) ∧ Below w.heap.size w w') → ∃ b, e = .returned (.bool b) ∧ (b = false → NotGreat x) ∧ Below w.heap.size w w' := fun e w' h => ⟨true, h.1, (fun q => nomatch q), h.2⟩
 by_cases h0 : (20 : Int) < (x.mn : Int)
 ·exact (great_0 x w  h0).mono yes
 by_cases h1 : (80 : Int) < (x.kn : Int)
 ·exact (great_1 x w h0 h1).mono yes
 by_cases h2 : (70 : Int) < (x.rn : Int)
 ·exact (great_2 x w h0 h1 h2).mono yes
 by_cases h3 : (80 : Int) < (x.dn : Int)
 ·exact (great_3 x w h0 h1 h2 h3).mono yes
 by_cases h4 : (80 : Int) < (x.en : Int)
 ·exact (great_4 x w h0 h1 h2 h3 h4).mono yes
 by_cases h5 : (300 : Int) < (x.pn : Int)
 ·exact (great_5 x w h0 h1 h2 h3 h4 h5).mono yes
 by_cases h6 : (100 : Int) < (x.key.size : Int)
 ·exact (great_6 x w h0 h1 h2 h3 h4 h5 h6).mono yes
 by_cases h7 : (100 : Int) < (x.old.data.size : Int)
 ·exact (great_7 x w h0 h1 h2 h3 h4 h5 h6 h7).mono yes
 by_cases h8 : (100 : Int) < (x.new.data.size : Int)
 ·exact (great_8 x w h0 h1 h2 h3 h4 h5 h6 h7 h8).mono yes
 refine (great_in x H w hx h0 h1 h2 h3 h4 h5 h6 h7 h8).mono ?_
 rintro e w' ⟨b, rfl, hb, hbel⟩
 exact ⟨b, rfl, fun q => ⟨by omega, by omega, by omega, by omega, by omega, by omega, hb q⟩, hbel⟩
end
end Go.Proofs.YtfmfmdiegabobabGreatDoor
