/- What it says: contracts and plain mathematics that the laws' walks use, 22 of 34: each part's own remark says what; no condition. -/
import Derived.Test.YtfldcddbmikfiaaPw5
import Derived.Test.YtfldcddbmikfiaaPw6
import Derived.Test.YtfldcddbmikfiaaPw21
import Derived.LoopTactic
import Derived.Deep.CutBlock

set_option linter.unusedSimpArgs false
set_option linter.unusedVariables false
set_option linter.deprecated false
set_option linter.unusedSectionVars false
set_option linter.all false

/- rec.Decode answers as the document says. -/
namespace Go.Proofs.Ytfldcddbmikfiaa
open Go.RowKit
open Classical in
theorem decF_long {l : List Int} (h : 4096 < l.length) : decF l = (rc0 0, 12) := if_pos h
open Classical in
theorem decF_err {l : List Int} (h : ¬ 4096 < l.length) (he : (decRc l).2 ≠ 0) : decF l = (rc0 0, (decRc l).2) := by unfold decF; rw [if_neg h, if_pos he]
open Classical in
theorem decF_ok {l : List Int} (h : ¬ 4096 < l.length) (he : (decRc l).2 = 0) (ho : (decRc l).1.ok) : decF l = ((decRc l).1, 0) := by unfold decF; rw [if_neg h, if_neg (by omega), if_pos ho]
open Classical in
theorem decF_no {l : List Int} (h : ¬ 4096 < l.length) (he : (decRc l).2 = 0) (ho : ¬ (decRc l).1.ok) : decF l = (rc0 0, 11) := by unfold decF; rw [if_neg h, if_neg (by omega), if_neg ho]

/-- What Decode hands back. -/
def RetDec [Inhabited Prop] (l : List Int) (w : World) (e : Ending) (w' : World) : Prop :=
  ∃ x : Xr, e = .returned (.tuple #[x.val, .int .i64 (decF l).2]) ∧ XrIn w.heap.size w' x ∧ x.read = (decF l).1 ∧ Below w.heap.size w w'
theorem xr0_read : xr0.read = rc0 0 := rfl
theorem xr0_in [Inhabited Prop] (H : Nat) (w : World) : XrIn H w xr0 := xk_in H w 0 (i64_of _ rfl)

/-- The cell that a record is handed back in. -/
theorem ret_zero [Inhabited Prop] {H r : Nat} {w v : World} {l : List Int} {k : Nat} {cs : Array Value} (hH : w.heap.size = r) (hb : Bk v r 30 cs) (hc : Calm r w v) (hd : decF l = (rc0 0, k)) : RetDec l w (.returned (.tuple #[xr0.val, .int .i64 k])) (v.setRow r xr0.cells) := by
  have hbl : Below r w v := hc.below (by omega)
  refine ⟨xr0, by rw [hd], xr0_in _ _, by rw [hd]; rfl, ?_⟩
  rw [hH]
  exact below_setRow hbl (Nat.le_refl r) _

/-- What fields hands back while a record is read. -/
theorem fieldsDec_any [Inhabited Prop] {r pb : Nat} {w : World} {l : List Int} {k : Int} {σ : Sg} {wr2 : Bool} (hl : ∀ y ∈ σ.1, 0 ≤ y ∧ y < 256) (hp : pN (l, 0) = (k, σ)) (hk : i64 k) (hw : wr2 = false ↔ 1 ≤ k ∧ k ≤ 10) (hnb : ¬ (σ.2 = 0 ∧ wr2 = true)) (h : Pst r w pb (.inp σ) wr2) :
    Calls Try.prog 34 #[.pointer (some ⟨pb, 0, none⟩), (xk k).val] w (fun e w' => ∃ (x3 : Xr) (σ3 : Sg) (wr3 : Bool), e = .returned x3.val ∧ XrIn r w' x3 ∧ Pst r w' pb (.inp σ3) wr3 ∧ Calm r w w' ∧
      (endS σ3 ≠ 0 → (decRc l).2 = endS σ3) ∧ (endS σ3 = 0 → (decRc l).2 = 0 ∧ (decRc l).1 = x3.read ∧ (wr3 = false ↔ x3.read.ok))) := by
  by_cases hkk : 1 ≤ k ∧ k ≤ 10
  · refine (fieldsAll_any (.inp σ) wr2 (xk k) h (xk_in r w k hk) hkk trivial).mono ?_
    rintro e w' ⟨_, y, s', wr3, rfl, ⟨x3, rfl, hx3, hxy⟩, ⟨rfl, hy, hiff⟩, hp3, hc3⟩
    have hy' : y = (restP k σ).1 := hy.trans (congrArg Prod.fst (kindSp_p k σ))
    have hs : ((kindSp (xk k).kind).p σ).2 = (restP k σ).2 := congrArg Prod.snd (kindSp_p k σ)
    rw [hs] at hp3
    have hd := dec_go hp hkk
    refine ⟨x3, (restP k σ).2, wr3, rfl, hx3, hp3, hc3, fun _ => by rw [hd], fun he => ⟨by rw [hd]; exact he, by rw [hd, hxy, hy'], ?_⟩⟩
    have he0 : (restP k σ).2.2 = 0 := by
      unfold endS at he
      split at he
      · cases he
      · exact he
    have hσ : σ = (σ.1, 0) := by
      by_cases q : σ.2 = 0
      · rw [← q]
      · rw [(codec_rest k).stick σ q] at he0
        exact absurd he0 q
    have rk := rest_keep k hkk σ.1 hl (by rw [← hσ]; exact he0)
    rw [← hσ, ← hy'] at rk
    rw [hxy, ← ok_iff]
    have hw2 : wr2 = false := hw.2 hkk
    refine hiff.trans ⟨fun q => ⟨by rw [rk.1]; exact hkk, by rw [rk.1]; exact q.2, by rw [rk.1]; exact rk.2⟩, fun q => ⟨hw2, by have := q.2.1; rw [rk.1] at this; exact this⟩⟩
  · refine (fieldsZ_any (.inp σ) wr2 (xk k) h hkk).mono ?_
    rintro e w' ⟨rfl, hp3, hc3⟩
    have hw2 : wr2 = true := by
      cases wr2 with
      | true => rfl
      | false => exact absurd (hw.1 rfl) hkk
    have he : σ.2 ≠ 0 := fun q => hnb ⟨q, hw2⟩
    have hd := dec_err hp he
    have hne : endS σ ≠ 0 := by
      unfold endS
      rw [if_neg (fun q => he q.1)]
      exact he
    exact ⟨xr0, σ, wr2, rfl, xr0_in _ _, hp3, hc3, fun _ => hd, fun q => absurd q hne⟩

set_option maxRecDepth 100000 in
set_option maxHeartbeats 8000000 in
theorem recDecode_any [Inhabited Prop] (A : Option Addr) (n c : Nat) (l : List Int) (w : World) (h : Byt w A n c l) : Calls Try.prog 14 #[.slice A n c] w (RetDec l w) := by
  obtain ⟨r, hrr⟩ : ∃ r, w.heap.size = r := ⟨_, rfl⟩
  obtain ⟨W1, hW1⟩ : ∃ W1, W1 = w.alloc (.cells xr0.cells 30) := ⟨_, rfl⟩
  have hb1 : Below w.heap.size w W1 := by rw [hW1]; exact (Below.refl _ _).alloc (Nat.le_refl _) _
  have HV : Hid (Bk W1 r 30 xr0.cells) := Lib.hid (by rw [hW1, ← hrr]; exact Bk.new w _ _)
  have HB := Lib.hid hb1
  have HBY := Lib.hid (h.below hb1)
  have hlen : l.length = n := h.len
  have HR := Lib.hid h.rng
  have HRR := Lib.hid hrr
  have HW := Lib.hid (show W1 = w.alloc (.cells #[.int .i64 0, .int .i64 0, .int .i64 0, .int .i64 0, .string ⟨#[]⟩, .bool false, .string ⟨#[]⟩, .bool false, .string ⟨#[]⟩, .int .i64 0, .slice none 0 0, .slice none 0 0, .slice none 0 0, .slice none 0 0, .slice none 0 0, .slice none 0 0] 30) from hW1)
  have HS1 : Hid (0 < W1.heap.size ∧ r < W1.heap.size) := Lib.hid (by rw [hW1, ← hrr]; simp)
  clear h hW1 hb1
  go_enter Try.func14, Try.ntmps14
  go_upto_region 1 with fail
  (try rw [hrr])
  rw [← HW.out]
  clear HW hrr
  by_cases hl : 4096 < n
  · have hl' : (4096 : Int) < (n : Int) := by omega
    have R := Lib.hid (ret_zero (H := r) HRR.out HV.out (Calm.of_below HB.out) (decF_long (l := l) (by omega)))
    have RB := Lib.hid (HV.out.rowp xr0.cells)
    clear hl hlen
    go_wp2_with (refine wpList_store_row rfl 30 _ _ rfl r xr0.cells rfl rfl 30 _ HV.out inf_rec rfl (Xr.cells_one xr0) ?_; simp only [Act.put])
    (try simp only [Exit.inBlock, Exit.then])
    refine bodyPost_ret (results_cellT rfl _ _ r 30 _ _ rfl RB.out Try.underlying30 rfl inf_rec) rfl ?_
    exact R.out
  · have hl' : ¬ (4096 : Int) < (n : Int) := by omega
    have CR := Lib.hid (read_rdt A n c l W1 HBY.out (by omega) HS1.out.1)
    have HL : Hid (¬ 4096 < l.length) := Lib.hid (by omega)
    clear hl hlen
    go_wp2_with fail
    refine CR.out.mono ?_
    rintro e v1 ⟨b, g, rfl, hb, hrd, hbel⟩
    obtain ⟨pb, hpb⟩ : ∃ pb, v1.heap.size = pb := ⟨_, rfl⟩
    obtain ⟨W2, hW2⟩ : ∃ W2, W2 = v1.alloc (.cells #[.pointer none, .pointer (some ⟨b, 0, none⟩), .bool false] 71) := ⟨_, rfl⟩
    have b2 : Below v1.heap.size v1 W2 := by rw [hW2]; exact (Below.refl _ _).alloc (Nat.le_refl _) _
    have C2 : Hid (Calm r w W2) := Lib.hid (((Calm.of_below HB.out).trans (Calm.of_below hbel)).trans (Calm.of_below b2))
    have V2 : Hid (Bk W2 r 30 xr0.cells) := Lib.hid ((HV.out.calm (H := r) rfl (Calm.of_below hbel)).calm (H := r) rfl (Calm.of_below b2))
    have P2 : Hid (Pst r W2 pb (.inp (l, 0)) false) := Lib.hid (by
      have hs := hbel.size
      refine ⟨b, g, by have := HS1.out.2; omega, ?_, by have := HS1.out.2; omega, hrd.keeps (Keeps.of_below b2)⟩
      rw [hW2, ← hpb]
      exact Bk.new v1 _ _)
    have HW2 := Lib.hid hW2
    clear hW2 b2 hrd hbel hb CR
    go_upto_region 4 with (refine wpList_store_new rfl (W := v1) rfl (c := #[.pointer none, .pointer none, .bool false]) (c' := #[.pointer none, .pointer (some ⟨b, 0, none⟩), .bool false]) rfl (by simp [hpb]) rfl (by kernel_rfl) rfl rfl ?_; simp only [Act.put])
    (try rw [hpb])
    rw [← HW2.out]
    clear HW2 hpb
    have CK := Lib.hid (kind_any (H := r) (pb := pb) (.inp (l, 0)) false 0 P2.out (i64_of _ rfl) trivial)
    go_wp2_with fail
    refine CK.out.mono ?_
    rintro e v2 ⟨_, k, s2, wr2, rfl, ⟨rfl, hki⟩, ⟨rfl, hk, hiff⟩, hp2, hc2⟩
    obtain ⟨σ, hσ⟩ : ∃ σ, (pN (l, 0)).2 = σ := ⟨_, rfl⟩
    have hpN : pN (l, 0) = (k, σ) := Prod.ext (show (pN (l, 0)).1 = k from hk.symm) hσ
    have hp2' : Pst r v2 pb (.inp σ) wr2 := by rw [← hσ]; exact hp2
    obtain ⟨rb, g2, c1, R2, K2⟩ := hp2'.reader
    obtain ⟨c2, _⟩ := hp2'.ptrs
    have PN := Lib.hid hpN
    have HKI := Lib.hid hki
    have HIF : Hid (wr2 = false ↔ 1 ≤ k ∧ k ≤ 10) := Lib.hid ⟨fun q => (hiff.1 q).2, fun q => hiff.2 ⟨rfl, q⟩⟩
    have P3 := Lib.hid hp2'
    have C3 := Lib.hid (C2.out.trans hc2)
    have V3 := Lib.hid (V2.out.calm rfl hc2)
    have CE := Lib.hid (rErr_any rb g2 σ.1 σ.2 v2 R2.rd)
    have HRG : Hid (∀ y ∈ σ.1, 0 ≤ y ∧ y < 256) := Lib.hid (by rw [← hσ]; exact codec_N.rng _ HR.out)
    clear hp2 hc2 hk hki hiff hp2' hpN hσ R2 K2 CK P2 C2 V2
    go_wp2_with fail
    refine CE.out.mono ?_
    rintro e v2' ⟨rfl, hv2⟩
    subst hv2
    by_cases hbad : σ.2 = 0 ∧ wr2 = true
    · obtain ⟨he, rfl⟩ := hbad
      have hd : decF l = (rc0 0, 11) := by
        have hnk : ¬ (1 ≤ k ∧ k ≤ 10) := fun q => by have := HIF.out.2 q; cases this
        have e := dec_bad PN.out he hnk
        have := decF_err HL.out (by rw [e]; simp)
        rw [this, e]
      have R := Lib.hid (ret_zero (H := r) HRR.out V3.out C3.out hd)
      have RB := Lib.hid (V3.out.rowp xr0.cells)
      have he' : (((σ.2 : Nat) : Int) == 0) = true := by rw [he]; rfl
      clear hd he CE
      go_wp2_with (refine wpList_store_row rfl 30 _ _ rfl r xr0.cells rfl rfl 30 _ V3.out inf_rec rfl (Xr.cells_one xr0) ?_; simp only [Act.put])
      (try simp only [Exit.inBlock, Exit.then])
      refine bodyPost_ret (results_cellT rfl _ _ r 30 _ _ rfl RB.out Try.underlying30 rfl inf_rec) rfl ?_
      exact R.out
    · have CF := Lib.hid (fieldsDec_any HRG.out PN.out HKI.out HIF.out hbad P3.out)
      have hgd : ((((σ.2 : Nat) : Int) == 0) = true ∧ wr2 = false) ∨ (((σ.2 : Nat) : Int) == 0) = false := by
        by_cases q : σ.2 = 0
        · left
          refine ⟨by rw [q]; rfl, ?_⟩
          cases wr2 with
          | true => exact absurd ⟨q, rfl⟩ hbad
          | false => rfl
        · right; simp; omega
      have HZ : Hid (∃ cs, (xk k).val = .agg cs ∧ cs = #[.int .i64 k, .int .i64 0, .int .i64 0, .int .i64 0, .string ⟨#[]⟩, .bool false, .string ⟨#[]⟩, .bool false, .string ⟨#[]⟩, .int .i64 0, .slice none 0 0, .slice none 0 0, .slice none 0 0, .slice none 0 0, .slice none 0 0, .slice none 0 0]) := Lib.hid ⟨_, rfl, rfl⟩
      clear hbad CE
      -- the last part, from the call of fields on
      have fin : ∀ (K : Ending → World → Prop), (∀ (x3 : Xr) (σ3 : Sg) (wr3 : Bool) (v3 : World), Hid (XrIn r v3 x3 ∧ Pst r v3 pb (.inp σ3) wr3 ∧ Calm r w v3 ∧ Bk v3 r 30 xr0.cells ∧ (endS σ3 ≠ 0 → (decRc l).2 = endS σ3) ∧ (endS σ3 = 0 → (decRc l).2 = 0 ∧ (decRc l).1 = x3.read ∧ (wr3 = false ↔ x3.read.ok))) → K (.returned x3.val) v3) →
          Calls Try.prog 34 #[.pointer (some ⟨pb, 0, none⟩), .agg #[.int .i64 k, .int .i64 0, .int .i64 0, .int .i64 0, .string ⟨#[]⟩, .bool false, .string ⟨#[]⟩, .bool false, .string ⟨#[]⟩, .int .i64 0, .slice none 0 0, .slice none 0 0, .slice none 0 0, .slice none 0 0, .slice none 0 0, .slice none 0 0]] v2 K := by
        intro K hK
        refine CF.out.mono ?_
        rintro e v3 ⟨x3, σ3, wr3, rfl, h1, h2, h3, h4, h5⟩
        exact hK x3 σ3 wr3 v3 (Lib.hid ⟨h1, h2, C3.out.trans h3, V3.out.calm rfl h3, h4, h5⟩)
      have FIN := Lib.hid fin
      clear fin CF HZ
      rcases hgd with ⟨he', rfl⟩ | he'
      · go_wp2_with fail
        refine FIN.out _ ?_
        intro x3 σ3 wr3 v3 HF
        obtain ⟨W4, hW4⟩ : ∃ W4, W4 = v3.alloc (.cells x3.cells 30) := ⟨_, rfl⟩
        have B4 : Below v3.heap.size v3 W4 := by rw [hW4]; exact (Below.refl _ _).alloc (Nat.le_refl _) _
        have P4 := HF.out.2.1.keeps (Keeps.of_below B4)
        obtain ⟨rb3, g3, c3, R3, K3⟩ := P4.reader
        have CE3 := Lib.hid (rEnd_any rb3 g3 σ3.1 σ3.2 W4 R3.rd)
        have X4 := Lib.hid (HF.out.1.calm (Calm.of_below B4))
        have C4 := Lib.hid (HF.out.2.2.1.trans (Calm.of_below B4))
        have V4 := Lib.hid (HF.out.2.2.2.1.calm (H := r) rfl (Calm.of_below B4))
        have T4 : Hid (Bk W4 v3.heap.size 30 x3.cells) := Lib.hid (by rw [hW4]; exact Bk.new v3 _ _)
        have K3 := Lib.hid K3
        have HD := Lib.hid HF.out.2.2.2.2
        have HW4 := Lib.hid hW4
        clear hW4 B4 P4 R3 HF FIN
        go_upto_region 8 with (refine wpList_store_new rfl (W := v3) rfl (c := #[.int .i64 0, .int .i64 0, .int .i64 0, .int .i64 0, .string ⟨#[]⟩, .bool false, .string ⟨#[]⟩, .bool false, .string ⟨#[]⟩, .int .i64 0, .slice none 0 0, .slice none 0 0, .slice none 0 0, .slice none 0 0, .slice none 0 0, .slice none 0 0]) (c' := x3.cells) rfl rfl rfl inf_rec rfl (Xr.cells_one x3) ?_; simp only [Act.put])
        rw [← HW4.out]
        clear HW4
        go_wp2_with fail
        refine CE3.out.mono ?_
        rintro e v5 ⟨rfl, hrd5, hg5⟩
        obtain ⟨hp5, hc5⟩ := K3.out v5 (σ3.1, endE σ3.1 σ3.2) hrd5 hg5 (Nat.le_refl _)
        obtain ⟨c5, _⟩ := hp5.ptrs
        have V5 := Lib.hid (V4.out.calm rfl hc5)
        have T5 := Lib.hid (T4.out.calm rfl hc5)
        have X5 := Lib.hid (X4.out.calm hc5)
        have C5 := Lib.hid (C4.out.trans hc5)
        have HS : Hid (endE σ3.1 σ3.2 = endS σ3) := Lib.hid rfl
        clear hrd5 hg5 hp5 hc5 K3 CE3 V4 T4 X4 C4 c3
        by_cases hz : endS σ3 = 0
        · have hz' : (((endE σ3.1 σ3.2 : Nat) : Int) != 0) = false := by rw [HS.out, hz]; rfl
          obtain ⟨d1, d2, d3⟩ := HD.out.2 hz
          have D1 := Lib.hid (And.intro d1 (And.intro d2 d3))
          clear d1 d2 d3 HD hz
          cases wr3 with
          | true =>
            have R := Lib.hid (ret_zero (H := r) HRR.out V5.out C5.out (decF_no HL.out D1.out.1 (by rw [D1.out.2.1]; exact fun q => by have := D1.out.2.2.2 q; cases this)))
            have RB := Lib.hid (V5.out.rowp xr0.cells)
            go_wp2_with (refine wpList_store_row rfl 30 _ _ rfl r xr0.cells rfl rfl 30 _ V5.out inf_rec rfl (Xr.cells_one xr0) ?_; simp only [Act.put])
            (try simp only [Exit.inBlock, Exit.then])
            refine bodyPost_ret (results_cellT rfl _ _ r 30 _ _ rfl RB.out Try.underlying30 rfl inf_rec) rfl ?_
            exact R.out
          | false =>
            have R : Hid (RetDec l w (.returned (.tuple #[x3.val, .int .i64 0])) (v5.setRow r x3.cells)) := Lib.hid (by
              have hd := decF_ok HL.out D1.out.1 (by rw [D1.out.2.1]; exact D1.out.2.2.1 rfl)
              have hbl : Below r w v5 := C5.out.below (by have := HRR.out; omega)
              refine ⟨x3, by rw [hd]; rfl, ?_, by rw [hd]; exact D1.out.2.1.symm, ?_⟩
              · rw [HRR.out]
                exact X5.out.other V5.out (Nat.le_refl r) (grown_setRow _ _ _)
              · rw [HRR.out]
                exact below_setRow hbl (Nat.le_refl r) _)
            have RB := Lib.hid (V5.out.rowp x3.cells)
            go_wp2_with (first
              | (refine wpList_load_row rfl 30 _ rfl v3.heap.size rfl 30 _ (0, 0) _ T5.out Try.underlying30 rfl inf_rec ?_)
              | (refine wpList_store_row rfl 30 _ _ rfl r x3.cells rfl rfl 30 _ V5.out inf_rec rfl (Xr.cells_one x3) ?_; simp only [Act.put]))
            (try simp only [Exit.inBlock, Exit.then])
            refine bodyPost_ret (results_cellT rfl _ _ r 30 _ _ rfl RB.out Try.underlying30 rfl inf_rec) rfl ?_
            exact R.out
        · have hz' : (((endE σ3.1 σ3.2 : Nat) : Int) != 0) = true := by rw [HS.out]; simp; omega
          have R : Hid (RetDec l w (.returned (.tuple #[xr0.val, .int .i64 (endE σ3.1 σ3.2 : Nat)])) (v5.setRow r xr0.cells)) := Lib.hid (by
            have e := HD.out.1 hz
            have := decF_err HL.out (by rw [e]; exact hz)
            rw [e] at this
            exact ret_zero (H := r) HRR.out V5.out C5.out this)
          have RB := Lib.hid (V5.out.rowp xr0.cells)
          clear hz
          go_wp2_with (refine wpList_store_row rfl 30 _ _ rfl r xr0.cells rfl rfl 30 _ V5.out inf_rec rfl (Xr.cells_one xr0) ?_; simp only [Act.put])
          (try simp only [Exit.inBlock, Exit.then])
          refine bodyPost_ret (results_cellT rfl _ _ r 30 _ _ rfl RB.out Try.underlying30 rfl inf_rec) rfl ?_
          exact R.out
      · go_wp2_with fail
        refine FIN.out _ ?_
        intro x3 σ3 wr3 v3 HF
        obtain ⟨W4, hW4⟩ : ∃ W4, W4 = v3.alloc (.cells x3.cells 30) := ⟨_, rfl⟩
        have B4 : Below v3.heap.size v3 W4 := by rw [hW4]; exact (Below.refl _ _).alloc (Nat.le_refl _) _
        have P4 := HF.out.2.1.keeps (Keeps.of_below B4)
        obtain ⟨rb3, g3, c3, R3, K3⟩ := P4.reader
        have CE3 := Lib.hid (rEnd_any rb3 g3 σ3.1 σ3.2 W4 R3.rd)
        have X4 := Lib.hid (HF.out.1.calm (Calm.of_below B4))
        have C4 := Lib.hid (HF.out.2.2.1.trans (Calm.of_below B4))
        have V4 := Lib.hid (HF.out.2.2.2.1.calm (H := r) rfl (Calm.of_below B4))
        have T4 : Hid (Bk W4 v3.heap.size 30 x3.cells) := Lib.hid (by rw [hW4]; exact Bk.new v3 _ _)
        have K3 := Lib.hid K3
        have HD := Lib.hid HF.out.2.2.2.2
        have HW4 := Lib.hid hW4
        clear hW4 B4 P4 R3 HF FIN
        go_upto_region 8 with (refine wpList_store_new rfl (W := v3) rfl (c := #[.int .i64 0, .int .i64 0, .int .i64 0, .int .i64 0, .string ⟨#[]⟩, .bool false, .string ⟨#[]⟩, .bool false, .string ⟨#[]⟩, .int .i64 0, .slice none 0 0, .slice none 0 0, .slice none 0 0, .slice none 0 0, .slice none 0 0, .slice none 0 0]) (c' := x3.cells) rfl rfl rfl inf_rec rfl (Xr.cells_one x3) ?_; simp only [Act.put])
        rw [← HW4.out]
        clear HW4
        go_wp2_with fail
        refine CE3.out.mono ?_
        rintro e v5 ⟨rfl, hrd5, hg5⟩
        obtain ⟨hp5, hc5⟩ := K3.out v5 (σ3.1, endE σ3.1 σ3.2) hrd5 hg5 (Nat.le_refl _)
        obtain ⟨c5, _⟩ := hp5.ptrs
        have V5 := Lib.hid (V4.out.calm rfl hc5)
        have T5 := Lib.hid (T4.out.calm rfl hc5)
        have X5 := Lib.hid (X4.out.calm hc5)
        have C5 := Lib.hid (C4.out.trans hc5)
        have HS : Hid (endE σ3.1 σ3.2 = endS σ3) := Lib.hid rfl
        clear hrd5 hg5 hp5 hc5 K3 CE3 V4 T4 X4 C4 c3
        by_cases hz : endS σ3 = 0
        · have hz' : (((endE σ3.1 σ3.2 : Nat) : Int) != 0) = false := by rw [HS.out, hz]; rfl
          obtain ⟨d1, d2, d3⟩ := HD.out.2 hz
          have D1 := Lib.hid (And.intro d1 (And.intro d2 d3))
          clear d1 d2 d3 HD hz
          cases wr3 with
          | true =>
            have R := Lib.hid (ret_zero (H := r) HRR.out V5.out C5.out (decF_no HL.out D1.out.1 (by rw [D1.out.2.1]; exact fun q => by have := D1.out.2.2.2 q; cases this)))
            have RB := Lib.hid (V5.out.rowp xr0.cells)
            go_wp2_with (refine wpList_store_row rfl 30 _ _ rfl r xr0.cells rfl rfl 30 _ V5.out inf_rec rfl (Xr.cells_one xr0) ?_; simp only [Act.put])
            (try simp only [Exit.inBlock, Exit.then])
            refine bodyPost_ret (results_cellT rfl _ _ r 30 _ _ rfl RB.out Try.underlying30 rfl inf_rec) rfl ?_
            exact R.out
          | false =>
            have R : Hid (RetDec l w (.returned (.tuple #[x3.val, .int .i64 0])) (v5.setRow r x3.cells)) := Lib.hid (by
              have hd := decF_ok HL.out D1.out.1 (by rw [D1.out.2.1]; exact D1.out.2.2.1 rfl)
              have hbl : Below r w v5 := C5.out.below (by have := HRR.out; omega)
              refine ⟨x3, by rw [hd]; rfl, ?_, by rw [hd]; exact D1.out.2.1.symm, ?_⟩
              · rw [HRR.out]
                exact X5.out.other V5.out (Nat.le_refl r) (grown_setRow _ _ _)
              · rw [HRR.out]
                exact below_setRow hbl (Nat.le_refl r) _)
            have RB := Lib.hid (V5.out.rowp x3.cells)
            go_wp2_with (first
              | (refine wpList_load_row rfl 30 _ rfl v3.heap.size rfl 30 _ (0, 0) _ T5.out Try.underlying30 rfl inf_rec ?_)
              | (refine wpList_store_row rfl 30 _ _ rfl r x3.cells rfl rfl 30 _ V5.out inf_rec rfl (Xr.cells_one x3) ?_; simp only [Act.put]))
            (try simp only [Exit.inBlock, Exit.then])
            refine bodyPost_ret (results_cellT rfl _ _ r 30 _ _ rfl RB.out Try.underlying30 rfl inf_rec) rfl ?_
            exact R.out
        · have hz' : (((endE σ3.1 σ3.2 : Nat) : Int) != 0) = true := by rw [HS.out]; simp; omega
          have R : Hid (RetDec l w (.returned (.tuple #[xr0.val, .int .i64 (endE σ3.1 σ3.2 : Nat)])) (v5.setRow r xr0.cells)) := Lib.hid (by
            have e := HD.out.1 hz
            have := decF_err HL.out (by rw [e]; exact hz)
            rw [e] at this
            exact ret_zero (H := r) HRR.out V5.out C5.out this)
          have RB := Lib.hid (V5.out.rowp xr0.cells)
          clear hz
          go_wp2_with (refine wpList_store_row rfl 30 _ _ rfl r xr0.cells rfl rfl 30 _ V5.out inf_rec rfl (Xr.cells_one xr0) ?_; simp only [Act.put])
          (try simp only [Exit.inBlock, Exit.then])
          refine bodyPost_ret (results_cellT rfl _ _ r 30 _ _ rfl RB.out Try.underlying30 rfl inf_rec) rfl ?_
          exact R.out
end Go.Proofs.Ytfldcddbmikfiaa

/- a record that is decoded lies in new memory, all of it; which blocks a record lies in, and that it stands where these do. -/
namespace Go.Proofs.Ytfldcddbmikfiaa
open Go.RowKit

/-- The block that a slice lies in, if it has anything. -/
def inA (A : Option Addr) (n k : Nat) : Prop := 0 < n ∧ ∃ a, A = some a ∧ a.block = k
def Xw.owns (x : Xw) (k : Nat) : Prop := inA x.mA x.mn k ∨ inA x.kA x.kn k
def Xd.owns (x : Xd) (k : Nat) : Prop := inA x.mA x.mn k
/-- The blocks that a record lies in. -/
def Xr.owns (x : Xr) (k : Nat) : Prop := inA x.mA x.mn k ∨ inA x.kA x.kn k ∨ inA x.rA x.rn k ∨ inA x.dA x.dn k ∨ inA x.eA x.en k ∨ inA x.pA x.pn k ∨ (∃ r ∈ x.rows, r.owns k) ∨ ∃ d ∈ x.deeds, d.owns k

section
variable {α : Type} [Inhabited α] {E : El α} {H n c k : Nat} {w w' : World} {A : Option Addr} {l : List α}
theorem Sl.lt (h : Sl E H w A n c l) (hk : inA A n k) : k < w.heap.size := by
  obtain ⟨hn, a, e, q⟩ := hk
  obtain ⟨g, off, e', hs, _⟩ := h.at_ hn
  rw [e] at e'
  injection e' with e'
  subst e' q
  exact hs.1
theorem Sl.same (h : Sl E H w A n c l) (hs : w.heap.size ≤ w'.heap.size) (hk : ∀ k, inA A n k → w'.heap[k]? = w.heap[k]?) (he : ∀ x ∈ l, E.inn w'.heap.size w' x) : Sl E w'.heap.size w' A n c l :=
  ⟨h.len, h.cap, h.max, h.nil_, he, fun hn => by
    obtain ⟨g, off, e, hst, hr⟩ := h.at_ hn
    have hlt := Nat.lt_of_lt_of_le hst.1 hs
    exact ⟨g, off, e, ⟨hlt, .inl trivial, .inl hlt⟩, fun i hi j v hv => (World.cell?_of_block (w := w) (w' := w') (a := ⟨g, off + i * E.size + j, none⟩) (hk g ⟨hn, _, e, rfl⟩)).trans (hr i hi j v hv)⟩⟩
/-- Where nothing old is taken. -/
theorem Sl.fresh (h : @Sl ⟨False⟩ α _ E H w A n c l) (hk : inA A n k) : H ≤ k ∧ k < w.heap.size := by
  obtain ⟨hn, a, e, q⟩ := hk
  obtain ⟨g, off, e', hs, _⟩ := @Sl.at_ ⟨False⟩ _ _ _ _ _ _ _ _ _ h hn
  rw [e] at e'
  injection e' with e'
  subst e' q
  exact ⟨hs.2.1.elim (fun f => False.elim f) And.left, hs.1⟩
theorem Sl.any {E' : El α} (h : @Sl ⟨False⟩ α _ E H w A n c l) (hs : E'.size = E.size) (hc : E'.cells = E.cells) (ht : E'.ty = E.ty) (he : ∀ x ∈ l, E'.inn H w x) : Sl E' H w A n c l := by
  obtain ⟨h1, h2, h3, h4, h5, h6⟩ := h
  refine ⟨h1, h2, h3, h4, he, fun hn => ?_⟩
  obtain ⟨g, off, e, hst, hr⟩ := h6 hn
  rw [hs, hc, ht]
  exact ⟨g, off, e, ⟨hst.1, .inl trivial, hst.2.2⟩, hr⟩
end

/-- A slice whose blocks are known whole: its elements' first cells may be written. -/
def Wr (t : TypeId) (sz : Nat) (A : Option Addr) (n : Nat) (w : World) : Prop := 0 < n → ∃ g off cs, A = some ⟨g, off, none⟩ ∧ Bk w g t cs ∧ ∀ i, i < n → off + i * sz < cs.size
theorem Wr.set {t u : TypeId} {sz n b i : Nat} {A : Option Addr} {w : World} {cs : Array Value} (h : Wr t sz A n w) (hb : Bk w b u cs) (v : Value) : Wr t sz A n (w.setCell ⟨b, i, none⟩ v) := fun hn => by
  obtain ⟨g, off, cg, e, hg, hs⟩ := h hn
  by_cases q : g = b
  · subst q
    exact ⟨g, off, _, e, hg.setc i v, by simpa using hs⟩
  · exact ⟨g, off, cg, e, ((grown_set w b i v).block g hg.lt (fun z => by injection z with z; exact q z)).trans hg, hs⟩
theorem Wr.same {t : TypeId} {sz n : Nat} {A : Option Addr} {w w' : World} (h : Wr t sz A n w) (hk : ∀ k, inA A n k → w'.heap[k]? = w.heap[k]?) : Wr t sz A n w' := fun hn => by
  obtain ⟨g, off, cg, e, hg, hs⟩ := h hn
  exact ⟨g, off, cg, e, (hk g ⟨hn, _, e, rfl⟩).trans hg, hs⟩
theorem Sl.wr {α : Type} [Inhabited α] {E : El α} {H n c : Nat} {w : World} {A : Option Addr} {l : List α} (h : @Sl ⟨False⟩ α _ E H w A n c l) : Wr E.ty E.size A n w := fun hn => by
  obtain ⟨g, off, e', hs, hr⟩ := @Sl.at_ ⟨False⟩ _ _ _ _ _ _ _ _ _ h hn
  obtain ⟨_, cs, hb⟩ : H ≤ g ∧ ∃ cs, Bk w g E.ty cs := hs.2.1.elim (fun f => False.elim f) id
  refine ⟨g, off, cs, e', hb, fun i hi => ?_⟩
  have hl : 0 < (E.cells (l.getD i default)).length := by rw [E.len]; exact E.pos
  have := hr i hi 0 _ (List.getElem?_eq_getElem hl)
  rw [Nat.add_zero, hb.cell] at this
  exact (Array.getElem?_eq_some_iff.1 this).1
/-- What may be written of a record: the four lists that the statements write into. -/
structure Xr.Wrt (x : Xr) (w : World) : Prop where
  mem : Wr 3 1 x.mA x.mn w
  lks : Wr 49 2 x.kA x.kn w
  rows : Wr 51 8 x.rA x.rn w
  past : Wr 3 1 x.pA x.pn w
theorem Xr.Wrt.set {x : Xr} {w : World} {b i : Nat} {u : TypeId} {cs : Array Value} (h : x.Wrt w) (hb : Bk w b u cs) (v : Value) : x.Wrt (w.setCell ⟨b, i, none⟩ v) := ⟨h.mem.set hb v, h.lks.set hb v, h.rows.set hb v, h.past.set hb v⟩
theorem Xr.Wrt.same {x : Xr} {w w' : World} (h : x.Wrt w) (hk : ∀ k, x.owns k → w'.heap[k]? = w.heap[k]?) : x.Wrt w' :=
  ⟨h.mem.same fun k q => hk k (.inl q), h.lks.same fun k q => hk k (.inr (.inl q)), h.rows.same fun k q => hk k (.inr (.inr (.inl q))), h.past.same fun k q => hk k (.inr (.inr (.inr (.inr (.inr (.inl q))))))⟩

theorem XwIn.same {H : Nat} {w w' : World} {x : Xw} (h : XwIn H w x) (hs : w.heap.size ≤ w'.heap.size) (hk : ∀ k, x.owns k → w'.heap[k]? = w.heap[k]?) : XwIn w'.heap.size w' x :=
  ⟨h.tx, h.st, h.fi, h.la, h.un, h.co, h.mem.same hs (fun k q => hk k (.inl q)) h.mem.each, h.lks.same hs (fun k q => hk k (.inr q)) h.lks.each⟩
theorem XdIn.same {H : Nat} {w w' : World} {x : Xd} (h : XdIn H w x) (hs : w.heap.size ≤ w'.heap.size) (hk : ∀ k, x.owns k → w'.heap[k]? = w.heap[k]?) : XdIn w'.heap.size w' x :=
  ⟨h.tx, h.mem.same hs hk h.mem.each⟩
theorem XrIn.same {H : Nat} {w w' : World} {x : Xr} (h : XrIn H w x) (hs : w.heap.size ≤ w'.heap.size) (hk : ∀ k, x.owns k → w'.heap[k]? = w.heap[k]?) : XrIn w'.heap.size w' x :=
  ⟨h.kind, h.tx, h.prev, h.next, h.key, h.old, h.new, h.co, h.mem.same hs (fun k q => hk k (.inl q)) h.mem.each, h.lks.same hs (fun k q => hk k (.inr (.inl q))) h.lks.each,
    h.rows.same hs (fun k q => hk k (.inr (.inr (.inl q)))) (fun x hx => XwIn.same (h.rows.each x hx) hs (fun k q => hk k (.inr (.inr (.inr (.inr (.inr (.inr (.inl ⟨x, hx, q⟩))))))))),
    h.dirty.same hs (fun k q => hk k (.inr (.inr (.inr (.inl q))))) h.dirty.each,
    h.deeds.same hs (fun k q => hk k (.inr (.inr (.inr (.inr (.inl q)))))) (fun x hx => XdIn.same (h.deeds.each x hx) hs (fun k q => hk k (.inr (.inr (.inr (.inr (.inr (.inr (.inr ⟨x, hx, q⟩))))))))),
    h.past.same hs (fun k q => hk k (.inr (.inr (.inr (.inr (.inr (.inl q))))))) h.past.each⟩
theorem XrIn.lt {H k : Nat} {w : World} {x : Xr} (h : XrIn H w x) (hk : x.owns k) : k < w.heap.size := by
  rcases hk with q | q | q | q | q | q | ⟨r, hr, q⟩ | ⟨r, hr, q⟩
  · exact h.mem.lt q
  · exact h.lks.lt q
  · exact h.rows.lt q
  · exact h.dirty.lt q
  · exact h.deeds.lt q
  · exact h.past.lt q
  · have hw : XwIn H w r := h.rows.each r hr
    rcases q with q | q
    · exact hw.mem.lt q
    · exact hw.lks.lt q
  · have hw : XdIn H w r := h.deeds.each r hr
    exact hw.mem.lt q

theorem XwIn.fresh {H : Nat} {w : World} {x : Xw} (h : @XwIn ⟨False⟩ H w x) : XwIn H w x ∧ ∀ k, x.owns k → H ≤ k ∧ k < w.heap.size := by
  obtain ⟨h1, h2, h3, h4, h5, h6, hm, hl⟩ := h
  refine ⟨⟨h1, h2, h3, h4, h5, h6, Sl.any hm rfl rfl rfl (@Sl.each ⟨False⟩ _ _ _ _ _ _ _ _ _ hm), Sl.any hl rfl rfl rfl (@Sl.each ⟨False⟩ _ _ _ _ _ _ _ _ _ hl)⟩, fun k q => ?_⟩
  rcases q with q | q
  · exact Sl.fresh hm q
  · exact Sl.fresh hl q
theorem XdIn.fresh {H : Nat} {w : World} {x : Xd} (h : @XdIn ⟨False⟩ H w x) : XdIn H w x ∧ ∀ k, x.owns k → H ≤ k ∧ k < w.heap.size := by
  obtain ⟨h1, hm⟩ := h
  exact ⟨⟨h1, Sl.any hm rfl rfl rfl (@Sl.each ⟨False⟩ _ _ _ _ _ _ _ _ _ hm)⟩, fun k q => Sl.fresh hm q⟩
theorem XrIn.fresh {H : Nat} {w : World} {x : Xr} (h : @XrIn ⟨False⟩ H w x) : XrIn H w x ∧ ∀ k, x.owns k → H ≤ k ∧ k < w.heap.size := by
  obtain ⟨h1, h2, h3, h4, h5, h6, h7, h8, hm, hl, hr, hd, he, hp⟩ := h
  have er : ∀ y ∈ x.rows, @XwIn ⟨False⟩ H w y := @Sl.each ⟨False⟩ _ _ _ _ _ _ _ _ _ hr
  have ee : ∀ y ∈ x.deeds, @XdIn ⟨False⟩ H w y := @Sl.each ⟨False⟩ _ _ _ _ _ _ _ _ _ he
  refine ⟨⟨h1, h2, h3, h4, h5, h6, h7, h8, Sl.any hm rfl rfl rfl (@Sl.each ⟨False⟩ _ _ _ _ _ _ _ _ _ hm), Sl.any hl rfl rfl rfl (@Sl.each ⟨False⟩ _ _ _ _ _ _ _ _ _ hl),
    Sl.any hr rfl rfl rfl (fun y hy => (XwIn.fresh (er y hy)).1), Sl.any hd rfl rfl rfl (@Sl.each ⟨False⟩ _ _ _ _ _ _ _ _ _ hd), Sl.any he rfl rfl rfl (fun y hy => (XdIn.fresh (ee y hy)).1),
    Sl.any hp rfl rfl rfl (@Sl.each ⟨False⟩ _ _ _ _ _ _ _ _ _ hp)⟩, fun k q => ?_⟩
  rcases q with q | q | q | q | q | q | ⟨r, hy, q⟩ | ⟨r, hy, q⟩
  · exact Sl.fresh hm q
  · exact Sl.fresh hl q
  · exact Sl.fresh hr q
  · exact Sl.fresh hd q
  · exact Sl.fresh he q
  · exact Sl.fresh hp q
  · exact (XwIn.fresh (er r hy)).2 k q
  · exact (XdIn.fresh (ee r hy)).2 k q
theorem XrIn.wrt {H : Nat} {w : World} {x : Xr} (h : @XrIn ⟨False⟩ H w x) : x.Wrt w := by
  obtain ⟨h1, h2, h3, h4, h5, h6, h7, h8, hm, hl, hr, hd, he, hp⟩ := h
  have a1 := Sl.wr (E := elI) hm
  have a2 := Sl.wr (E := elL) hl
  have a3 := Sl.wr (E := @elR ⟨False⟩) hr
  have a4 := Sl.wr (E := elI) hp
  exact ⟨a1, a2, a3, a4⟩

/-- What Decode hands back lies in new memory. -/
def RetRec (l : List Int) (w : World) (e : Ending) (w' : World) : Prop :=
  ∃ x : Xr, e = .returned (.tuple #[x.val, .int .i64 (decF l).2]) ∧ XrIn w'.heap.size w' x ∧ (∀ k, x.owns k → w.heap.size ≤ k ∧ k < w'.heap.size) ∧ x.read = (decF l).1 ∧ Below w.heap.size w w' ∧ x.Wrt w'
theorem recDecode_new (A : Option Addr) (n c : Nat) (l : List Int) (w : World) (h : Byt w A n c l) : Calls Try.prog 14 #[.slice A n c] w (RetRec l w) :=
  (@recDecode_any ⟨False⟩ A n c l w h).mono fun e w' ⟨x, he, hx, hr, hb⟩ => by
    obtain ⟨h1, h2⟩ := XrIn.fresh hx
    exact ⟨x, he, h1.up hb.size, h2, hr, hb, XrIn.wrt hx⟩
end Go.Proofs.Ytfldcddbmikfiaa

/- trothref07.Great where no list of the record's own is too great: it looks at the lists in lists. -/
namespace Go.Proofs.Ytfldcddbmikfiaa
open Go.RowKit
/-- No list within a list is too great. -/
def InnerOk (x : Xr) : Prop := (∀ i, i < x.rn → (x.rows.getD i default).mn ≤ 20 ∧ (x.rows.getD i default).kn ≤ 80) ∧ ∀ i, i < x.en → (x.deeds.getD i default).mn ≤ 20
set_option maxRecDepth 100000 in
set_option maxHeartbeats 8000000 in
theorem great_in (x : Xr) (H : Nat) (w : World) (hx : XrIn H w x) (h0 : ¬ (20 : Int) < (x.mn : Int)) (h1 : ¬ (80 : Int) < (x.kn : Int)) (h2 : ¬ (70 : Int) < (x.rn : Int)) (h3 : ¬ (80 : Int) < (x.dn : Int)) (h4 : ¬ (80 : Int) < (x.en : Int)) (h5 : ¬ (300 : Int) < (x.pn : Int)) (h6 : ¬ (100 : Int) < (x.key.size : Int)) (h7 : ¬ (100 : Int) < (x.old.data.size : Int)) (h8 : ¬ (100 : Int) < (x.new.data.size : Int)) :
    Calls Try.prog 5 #[x.val] w (fun e w' => ∃ b, e = .returned (.bool b) ∧ (b = false → InnerOk x) ∧ Below w.heap.size w w') := by
  obtain ⟨kind, tx, prev, next, key, ⟨oh, od⟩, ⟨nh, nd⟩, co, mA, mn, mc, mem, kA, kn, kc, lks, rA, rn, rc, rows, dA, dn, dc, dirty, eA, en, ec, deeds, pA, pn, pc, past⟩ := x
  simp only at h0 h1 h2 h3 h4 h5 h6 h7 h8
  unfold Xr.val
  simp only
  obtain ⟨r, hrr⟩ : ∃ r, w.heap.size = r := ⟨_, rfl⟩
  obtain ⟨W1, hW1⟩ : ∃ W1, W1 = w.alloc (.cells #[.int .i64 kind, .int .i64 tx, .int .i64 prev, .int .i64 next, .string key, .bool oh, .string od, .bool nh, .string nd, .int .i64 co, .slice mA mn mc, .slice kA kn kc, .slice rA rn rc, .slice dA dn dc, .slice eA en ec, .slice pA pn pc] 30) := ⟨_, rfl⟩
  have hb : Below w.heap.size w W1 := by rw [hW1]; exact (Below.refl _ _).alloc (Nat.le_refl _) _
  have HX := Lib.hid (hx.calm (Calm.of_below hb))
  have HV : Bk W1 r 30 #[.int .i64 kind, .int .i64 tx, .int .i64 prev, .int .i64 next, .string key, .bool oh, .string od, .bool nh, .string nd, .int .i64 co, .slice mA mn mc, .slice kA kn kc, .slice rA rn rc, .slice dA dn dc, .slice eA en ec, .slice pA pn pc] := by rw [hW1, ← hrr]; exact Bk.new w _ _
  have q4 : W1.cell? ⟨r, 4, none⟩ = some (.string key) := HV.cell 4
  have q5 : W1.cell? ⟨r, 6, none⟩ = some (.string od) := HV.cell 6
  have q6 : W1.cell? ⟨r, 8, none⟩ = some (.string nd) := HV.cell 8
  have q10 : W1.cell? ⟨r, 10, none⟩ = some (.slice mA mn mc) := HV.cell 10
  have q11 : W1.cell? ⟨r, 11, none⟩ = some (.slice kA kn kc) := HV.cell 11
  have q12 : W1.cell? ⟨r, 12, none⟩ = some (.slice rA rn rc) := HV.cell 12
  have q13 : W1.cell? ⟨r, 13, none⟩ = some (.slice dA dn dc) := HV.cell 13
  have q14 : W1.cell? ⟨r, 14, none⟩ = some (.slice eA en ec) := HV.cell 14
  have q15 : W1.cell? ⟨r, 15, none⟩ = some (.slice pA pn pc) := HV.cell 15
  have HB := Lib.hid hb
  have HW := Lib.hid hW1
  have kcap := HX.out.lks.cap
  have kmax := HX.out.lks.max
  have rcap := HX.out.rows.cap
  have rmax := HX.out.rows.max
  have ecap := HX.out.deeds.cap
  have emax := HX.out.deeds.max
  unfold maxLen at kmax rmax emax
  clear hx hb hW1 HV
  go_enter Try.func5, Try.ntmps5
  go_upto_region 1 with fail
  (try rw [hrr])
  rw [← HW.out]
  clear HW hrr
  go_wp2_with fail
  go_loopw [3] (fun q wr => ∃ k : Nat, k ≤ kn ∧ q = .int .i64 k ∧ wr = W1) (fun q _ => kn - (intOf q).toNat)
  case atStart => exact ⟨0, Nat.zero_le _, rfl, rfl⟩
  case round =>
    obtain ⟨k, hk, rfl, hwr⟩ := hrel
    obtain rfl : W1 = wr := hwr.symm
    by_cases hlt : k < kn
    · obtain ⟨g, off, hA, _, hr⟩ := HX.out.lks.at_ (show 0 < kn by omega)
      obtain rfl : kA = _ := hA
      have c0 : W1.cell? ⟨g, off + k * 2, none⟩ = some (.string (lks.getD k default).key) := hr k hlt 0 _ rfl
      obtain ⟨ky, hky⟩ : ∃ ky, (lks.getD k default).key = ky := ⟨_, rfl⟩
      rw [hky] at c0
      clear hr hky
      by_cases hg : (100 : Int) < (ky.size : Int)
      · go_wp2_with fail
        go_ret
        first | exact ⟨true, rfl, (fun h => nomatch h), HB.out⟩ | exact ⟨rfl, HB.out⟩ | exact Or.inr ⟨rfl, HB.out⟩
      · go_wp2_with fail
        go_roundw
        case rel => exact ⟨k + 1, by omega, by go_num, by first | rfl | trivial⟩
        case measure => simp [intOf]; omega
    · obtain hkk : k = kn := by omega
      clear kcap kmax
      go_wp2_with fail
      go_loopw [4] (fun q wr2 => ∃ k : Nat, k ≤ rn ∧ q = .int .i64 k ∧ wr2 = W1 ∧ Hid (∀ i, i < k → (rows.getD i default).mn ≤ 20 ∧ (rows.getD i default).kn ≤ 80)) (fun q _ => rn - (intOf q).toNat)
      case atStart => exact ⟨0, Nat.zero_le _, rfl, rfl, Lib.hid (fun i hi => absurd hi (by omega))⟩
      case round =>
        clear hkk hk hlt
        obtain ⟨k2, hk, rfl, hwr, hin⟩ := hrel
        obtain rfl : W1 = wr := hwr.symm
        by_cases hlt : k2 < rn
        · obtain ⟨g, off, hA, _, hr⟩ := HX.out.rows.at_ (show 0 < rn by omega)
          obtain rfl : rA = _ := hA
          obtain ⟨z, hz⟩ : ∃ z, rows.getD k2 default = z := ⟨_, rfl⟩
          have hr2 := hr k2 hlt
          have hr3 : W1.rangeAt g (off + k2 * 8) (Xw.cells z) := by rw [← hz]; exact hr2
          have c6 : W1.cell? ⟨g, off + k2 * 8 + 6, none⟩ = some (.slice z.mA z.mn z.mc) := hr3 6 _ rfl
          have c7 : W1.cell? ⟨g, off + k2 * 8 + 7, none⟩ = some (.slice z.kA z.kn z.kc) := hr3 7 _ rfl
          have HZ := Lib.hid hz
          clear hr hr2 hr3 hz
          by_cases hg : (20 : Int) < (z.mn : Int)
          · go_wp2_with fail
            go_ret
            first | exact ⟨true, rfl, (fun h => nomatch h), HB.out⟩ | exact ⟨rfl, HB.out⟩ | exact Or.inr ⟨rfl, HB.out⟩
          · by_cases hg2 : (80 : Int) < (z.kn : Int)
            · go_wp2_with fail
              go_ret
              first | exact ⟨true, rfl, (fun h => nomatch h), HB.out⟩ | exact ⟨rfl, HB.out⟩ | exact Or.inr ⟨rfl, HB.out⟩
            · have hin2 : Hid (∀ i, i < k2 + 1 → (rows.getD i default).mn ≤ 20 ∧ (rows.getD i default).kn ≤ 80) := Lib.hid (fun i hi => by
                by_cases q : i < k2
                · exact hin.out i q
                · obtain rfl : i = k2 := by omega
                  rw [HZ.out]; omega)
              go_wp2_with fail
              go_roundw
              case rel => exact ⟨k2 + 1, by omega, by go_num, by first | rfl | trivial, hin2⟩
              case measure => simp [intOf]; omega
        · obtain hkk : k2 = rn := by omega
          have hin2 : Hid (∀ i, i < rn → (rows.getD i default).mn ≤ 20 ∧ (rows.getD i default).kn ≤ 80) := Lib.hid (by rw [← hkk]; exact hin.out)
          clear rcap rmax hin
          go_wp2_with fail
          go_loopw [5] (fun q wr2 => ∃ k : Nat, k ≤ en ∧ q = .int .i64 k ∧ wr2 = W1 ∧ Hid (∀ i, i < k → (deeds.getD i default).mn ≤ 20)) (fun q _ => en - (intOf q).toNat)
          case atStart => exact ⟨0, Nat.zero_le _, rfl, rfl, Lib.hid (fun i hi => absurd hi (by omega))⟩
          case round =>
            clear hkk hk hlt
            obtain ⟨k3, hk, rfl, hwr, hin⟩ := hrel
            obtain rfl : W1 = wr := hwr.symm
            by_cases hlt : k3 < en
            · obtain ⟨g, off, hA, _, hr⟩ := HX.out.deeds.at_ (show 0 < en by omega)
              obtain rfl : eA = _ := hA
              obtain ⟨z, hz⟩ : ∃ z, deeds.getD k3 default = z := ⟨_, rfl⟩
              have hr2 := hr k3 hlt
              have hr3 : W1.rangeAt g (off + k3 * 2) (Xd.cells z) := by rw [← hz]; exact hr2
              have c1 : W1.cell? ⟨g, off + k3 * 2 + 1, none⟩ = some (.slice z.mA z.mn z.mc) := hr3 1 _ rfl
              have HZ := Lib.hid hz
              clear hr hr2 hr3 hz
              by_cases hg : (20 : Int) < (z.mn : Int)
              · go_wp2_with fail
                go_ret
                first | exact ⟨true, rfl, (fun h => nomatch h), HB.out⟩ | exact ⟨rfl, HB.out⟩ | exact Or.inr ⟨rfl, HB.out⟩
              · have hin3 : Hid (∀ i, i < k3 + 1 → (deeds.getD i default).mn ≤ 20) := Lib.hid (fun i hi => by
                  by_cases q : i < k3
                  · exact hin.out i q
                  · obtain rfl : i = k3 := by omega
                    rw [HZ.out]; omega)
                go_wp2_with fail
                go_roundw
                case rel => exact ⟨k3 + 1, by omega, by go_num, by first | rfl | trivial, hin3⟩
                case measure => simp [intOf]; omega
            · obtain hkk : k3 = en := by omega
              have hin3 : Hid (∀ i, i < en → (deeds.getD i default).mn ≤ 20) := Lib.hid (by rw [← hkk]; exact hin.out)
              clear ecap emax hin
              go_wp2_with fail
              go_ret
              first | exact ⟨false, rfl, fun _ => ⟨hin2.out, hin3.out⟩, HB.out⟩ | exact Or.inl ⟨rfl, ⟨hin2.out, hin3.out⟩, HB.out⟩
end Go.Proofs.Ytfldcddbmikfiaa

/- trothref07.Great, where thing number 0 is too great. -/
namespace Go.Proofs.Ytfldcddbmikfiaa
open Go.RowKit
set_option maxRecDepth 100000 in
set_option maxHeartbeats 4000000 in
theorem great_0 (x : Xr) (w : World)  (h0 : (20 : Int) < (x.mn : Int)) :
    Calls Try.prog 5 #[x.val] w (fun e w' => e = .returned (.bool true) ∧ Below w.heap.size w w') := by
  obtain ⟨kind, tx, prev, next, key, ⟨oh, od⟩, ⟨nh, nd⟩, co, mA, mn, mc, mem, kA, kn, kc, lks, rA, rn, rc, rows, dA, dn, dc, dirty, eA, en, ec, deeds, pA, pn, pc, past⟩ := x
  simp only at h0
  unfold Xr.val
  simp only
  go_enter Try.func5, Try.ntmps5
  go_wp2_with fail
  go_ret
  exact ⟨rfl, (Below.refl _ _).alloc (Nat.le_refl _) _⟩
end Go.Proofs.Ytfldcddbmikfiaa

/- trothref07.Great, where thing number 1 is too great. -/
namespace Go.Proofs.Ytfldcddbmikfiaa
open Go.RowKit
set_option maxRecDepth 100000 in
set_option maxHeartbeats 4000000 in
theorem great_1 (x : Xr) (w : World) (h0 : ¬ (20 : Int) < (x.mn : Int)) (h1 : (80 : Int) < (x.kn : Int)) :
    Calls Try.prog 5 #[x.val] w (fun e w' => e = .returned (.bool true) ∧ Below w.heap.size w w') := by
  obtain ⟨kind, tx, prev, next, key, ⟨oh, od⟩, ⟨nh, nd⟩, co, mA, mn, mc, mem, kA, kn, kc, lks, rA, rn, rc, rows, dA, dn, dc, dirty, eA, en, ec, deeds, pA, pn, pc, past⟩ := x
  simp only at h0 h1
  unfold Xr.val
  simp only
  go_enter Try.func5, Try.ntmps5
  go_wp2_with fail
  go_ret
  exact ⟨rfl, (Below.refl _ _).alloc (Nat.le_refl _) _⟩
end Go.Proofs.Ytfldcddbmikfiaa

/- trothref07.Great, where thing number 2 is too great. -/
namespace Go.Proofs.Ytfldcddbmikfiaa
open Go.RowKit
set_option maxRecDepth 100000 in
set_option maxHeartbeats 4000000 in
theorem great_2 (x : Xr) (w : World) (h0 : ¬ (20 : Int) < (x.mn : Int)) (h1 : ¬ (80 : Int) < (x.kn : Int)) (h2 : (70 : Int) < (x.rn : Int)) :
    Calls Try.prog 5 #[x.val] w (fun e w' => e = .returned (.bool true) ∧ Below w.heap.size w w') := by
  obtain ⟨kind, tx, prev, next, key, ⟨oh, od⟩, ⟨nh, nd⟩, co, mA, mn, mc, mem, kA, kn, kc, lks, rA, rn, rc, rows, dA, dn, dc, dirty, eA, en, ec, deeds, pA, pn, pc, past⟩ := x
  simp only at h0 h1 h2
  unfold Xr.val
  simp only
  go_enter Try.func5, Try.ntmps5
  go_wp2_with fail
  go_ret
  exact ⟨rfl, (Below.refl _ _).alloc (Nat.le_refl _) _⟩
end Go.Proofs.Ytfldcddbmikfiaa

/- trothref07.Great, where thing number 3 is too great. -/
namespace Go.Proofs.Ytfldcddbmikfiaa
open Go.RowKit
set_option maxRecDepth 100000 in
set_option maxHeartbeats 4000000 in
theorem great_3 (x : Xr) (w : World) (h0 : ¬ (20 : Int) < (x.mn : Int)) (h1 : ¬ (80 : Int) < (x.kn : Int)) (h2 : ¬ (70 : Int) < (x.rn : Int)) (h3 : (80 : Int) < (x.dn : Int)) :
    Calls Try.prog 5 #[x.val] w (fun e w' => e = .returned (.bool true) ∧ Below w.heap.size w w') := by
  obtain ⟨kind, tx, prev, next, key, ⟨oh, od⟩, ⟨nh, nd⟩, co, mA, mn, mc, mem, kA, kn, kc, lks, rA, rn, rc, rows, dA, dn, dc, dirty, eA, en, ec, deeds, pA, pn, pc, past⟩ := x
  simp only at h0 h1 h2 h3
  unfold Xr.val
  simp only
  go_enter Try.func5, Try.ntmps5
  go_wp2_with fail
  go_ret
  exact ⟨rfl, (Below.refl _ _).alloc (Nat.le_refl _) _⟩
end Go.Proofs.Ytfldcddbmikfiaa

/- trothref07.Great, where thing number 4 is too great. -/
namespace Go.Proofs.Ytfldcddbmikfiaa
open Go.RowKit
set_option maxRecDepth 100000 in
set_option maxHeartbeats 4000000 in
theorem great_4 (x : Xr) (w : World) (h0 : ¬ (20 : Int) < (x.mn : Int)) (h1 : ¬ (80 : Int) < (x.kn : Int)) (h2 : ¬ (70 : Int) < (x.rn : Int)) (h3 : ¬ (80 : Int) < (x.dn : Int)) (h4 : (80 : Int) < (x.en : Int)) :
    Calls Try.prog 5 #[x.val] w (fun e w' => e = .returned (.bool true) ∧ Below w.heap.size w w') := by
  obtain ⟨kind, tx, prev, next, key, ⟨oh, od⟩, ⟨nh, nd⟩, co, mA, mn, mc, mem, kA, kn, kc, lks, rA, rn, rc, rows, dA, dn, dc, dirty, eA, en, ec, deeds, pA, pn, pc, past⟩ := x
  simp only at h0 h1 h2 h3 h4
  unfold Xr.val
  simp only
  go_enter Try.func5, Try.ntmps5
  go_wp2_with fail
  go_ret
  exact ⟨rfl, (Below.refl _ _).alloc (Nat.le_refl _) _⟩
end Go.Proofs.Ytfldcddbmikfiaa

/- trothref07.Great, where thing number 5 is too great. -/
namespace Go.Proofs.Ytfldcddbmikfiaa
open Go.RowKit
set_option maxRecDepth 100000 in
set_option maxHeartbeats 4000000 in
theorem great_5 (x : Xr) (w : World) (h0 : ¬ (20 : Int) < (x.mn : Int)) (h1 : ¬ (80 : Int) < (x.kn : Int)) (h2 : ¬ (70 : Int) < (x.rn : Int)) (h3 : ¬ (80 : Int) < (x.dn : Int)) (h4 : ¬ (80 : Int) < (x.en : Int)) (h5 : (300 : Int) < (x.pn : Int)) :
    Calls Try.prog 5 #[x.val] w (fun e w' => e = .returned (.bool true) ∧ Below w.heap.size w w') := by
  obtain ⟨kind, tx, prev, next, key, ⟨oh, od⟩, ⟨nh, nd⟩, co, mA, mn, mc, mem, kA, kn, kc, lks, rA, rn, rc, rows, dA, dn, dc, dirty, eA, en, ec, deeds, pA, pn, pc, past⟩ := x
  simp only at h0 h1 h2 h3 h4 h5
  unfold Xr.val
  simp only
  go_enter Try.func5, Try.ntmps5
  go_wp2_with fail
  go_ret
  exact ⟨rfl, (Below.refl _ _).alloc (Nat.le_refl _) _⟩
end Go.Proofs.Ytfldcddbmikfiaa

/- trothref07.Great, where thing number 6 is too great. -/
namespace Go.Proofs.Ytfldcddbmikfiaa
open Go.RowKit
set_option maxRecDepth 100000 in
set_option maxHeartbeats 4000000 in
theorem great_6 (x : Xr) (w : World) (h0 : ¬ (20 : Int) < (x.mn : Int)) (h1 : ¬ (80 : Int) < (x.kn : Int)) (h2 : ¬ (70 : Int) < (x.rn : Int)) (h3 : ¬ (80 : Int) < (x.dn : Int)) (h4 : ¬ (80 : Int) < (x.en : Int)) (h5 : ¬ (300 : Int) < (x.pn : Int)) (h6 : (100 : Int) < (x.key.size : Int)) :
    Calls Try.prog 5 #[x.val] w (fun e w' => e = .returned (.bool true) ∧ Below w.heap.size w w') := by
  obtain ⟨kind, tx, prev, next, key, ⟨oh, od⟩, ⟨nh, nd⟩, co, mA, mn, mc, mem, kA, kn, kc, lks, rA, rn, rc, rows, dA, dn, dc, dirty, eA, en, ec, deeds, pA, pn, pc, past⟩ := x
  simp only at h0 h1 h2 h3 h4 h5 h6
  unfold Xr.val
  simp only
  go_enter Try.func5, Try.ntmps5
  go_wp2_with fail
  go_ret
  exact ⟨rfl, (Below.refl _ _).alloc (Nat.le_refl _) _⟩
end Go.Proofs.Ytfldcddbmikfiaa

/- trothref07.Great, where thing number 7 is too great. -/
namespace Go.Proofs.Ytfldcddbmikfiaa
open Go.RowKit
set_option maxRecDepth 100000 in
set_option maxHeartbeats 4000000 in
theorem great_7 (x : Xr) (w : World) (h0 : ¬ (20 : Int) < (x.mn : Int)) (h1 : ¬ (80 : Int) < (x.kn : Int)) (h2 : ¬ (70 : Int) < (x.rn : Int)) (h3 : ¬ (80 : Int) < (x.dn : Int)) (h4 : ¬ (80 : Int) < (x.en : Int)) (h5 : ¬ (300 : Int) < (x.pn : Int)) (h6 : ¬ (100 : Int) < (x.key.size : Int)) (h7 : (100 : Int) < (x.old.data.size : Int)) :
    Calls Try.prog 5 #[x.val] w (fun e w' => e = .returned (.bool true) ∧ Below w.heap.size w w') := by
  obtain ⟨kind, tx, prev, next, key, ⟨oh, od⟩, ⟨nh, nd⟩, co, mA, mn, mc, mem, kA, kn, kc, lks, rA, rn, rc, rows, dA, dn, dc, dirty, eA, en, ec, deeds, pA, pn, pc, past⟩ := x
  simp only at h0 h1 h2 h3 h4 h5 h6 h7
  unfold Xr.val
  simp only
  go_enter Try.func5, Try.ntmps5
  go_wp2_with fail
  go_ret
  exact ⟨rfl, (Below.refl _ _).alloc (Nat.le_refl _) _⟩
end Go.Proofs.Ytfldcddbmikfiaa

/- trothref07.Great, where thing number 8 is too great. -/
namespace Go.Proofs.Ytfldcddbmikfiaa
open Go.RowKit
set_option maxRecDepth 100000 in
set_option maxHeartbeats 4000000 in
theorem great_8 (x : Xr) (w : World) (h0 : ¬ (20 : Int) < (x.mn : Int)) (h1 : ¬ (80 : Int) < (x.kn : Int)) (h2 : ¬ (70 : Int) < (x.rn : Int)) (h3 : ¬ (80 : Int) < (x.dn : Int)) (h4 : ¬ (80 : Int) < (x.en : Int)) (h5 : ¬ (300 : Int) < (x.pn : Int)) (h6 : ¬ (100 : Int) < (x.key.size : Int)) (h7 : ¬ (100 : Int) < (x.old.data.size : Int)) (h8 : (100 : Int) < (x.new.data.size : Int)) :
    Calls Try.prog 5 #[x.val] w (fun e w' => e = .returned (.bool true) ∧ Below w.heap.size w w') := by
  obtain ⟨kind, tx, prev, next, key, ⟨oh, od⟩, ⟨nh, nd⟩, co, mA, mn, mc, mem, kA, kn, kc, lks, rA, rn, rc, rows, dA, dn, dc, dirty, eA, en, ec, deeds, pA, pn, pc, past⟩ := x
  simp only at h0 h1 h2 h3 h4 h5 h6 h7 h8
  unfold Xr.val
  simp only
  go_enter Try.func5, Try.ntmps5
  go_wp2_with fail
  go_ret
  exact ⟨rfl, (Below.refl _ _).alloc (Nat.le_refl _) _⟩
end Go.Proofs.Ytfldcddbmikfiaa

/- trothref07.Great tells no lie where it says no. -/
namespace Go.Proofs.Ytfldcddbmikfiaa
open Go.RowKit
/-- A record of which as much is asked. -/
structure NotGreat (x : Xr) : Prop where
  mn : x.mn ≤ 20
  kn : x.kn ≤ 80
  rn : x.rn ≤ 70
  dn : x.dn ≤ 80
  en : x.en ≤ 80
  pn : x.pn ≤ 300
  inn : InnerOk x
theorem great_any (x : Xr) (H : Nat) (w : World) (hx : XrIn H w x) : Calls Try.prog 5 #[x.val] w (fun e w' => ∃ b, e = .returned (.bool b) ∧ (b = false → NotGreat x) ∧ Below w.heap.size w w') := by
  have yes : ∀ (e : Ending) (w' : World), (e = Ending.returned (.bool true) ∧ Below w.heap.size w w') → ∃ b, e = .returned (.bool b) ∧ (b = false → NotGreat x) ∧ Below w.heap.size w w' := fun e w' h => ⟨true, h.1, (fun q => nomatch q), h.2⟩
  by_cases h0 : (20 : Int) < (x.mn : Int)
  · exact (great_0 x w  h0).mono yes
  by_cases h1 : (80 : Int) < (x.kn : Int)
  · exact (great_1 x w h0 h1).mono yes
  by_cases h2 : (70 : Int) < (x.rn : Int)
  · exact (great_2 x w h0 h1 h2).mono yes
  by_cases h3 : (80 : Int) < (x.dn : Int)
  · exact (great_3 x w h0 h1 h2 h3).mono yes
  by_cases h4 : (80 : Int) < (x.en : Int)
  · exact (great_4 x w h0 h1 h2 h3 h4).mono yes
  by_cases h5 : (300 : Int) < (x.pn : Int)
  · exact (great_5 x w h0 h1 h2 h3 h4 h5).mono yes
  by_cases h6 : (100 : Int) < (x.key.size : Int)
  · exact (great_6 x w h0 h1 h2 h3 h4 h5 h6).mono yes
  by_cases h7 : (100 : Int) < (x.old.data.size : Int)
  · exact (great_7 x w h0 h1 h2 h3 h4 h5 h6 h7).mono yes
  by_cases h8 : (100 : Int) < (x.new.data.size : Int)
  · exact (great_8 x w h0 h1 h2 h3 h4 h5 h6 h7 h8).mono yes
  refine (great_in x H w hx h0 h1 h2 h3 h4 h5 h6 h7 h8).mono ?_
  rintro e w' ⟨b, rfl, hb, hbel⟩
  exact ⟨b, rfl, fun q => ⟨by omega, by omega, by omega, by omega, by omega, by omega, hb q⟩, hbel⟩
end Go.Proofs.Ytfldcddbmikfiaa
