/- What it says: contracts and plain mathematics that the laws' walks use, 23 of 24: each part's own remark says what; no condition. -/
import Derived.Test.YtpaknpemkmhapaaPk7
import Derived.Test.YtpaknpemkmhapaaPk15
import Derived.Test.YtpaknpemkmhapaaPk21
import Derived.Test.YtpaknpemkmhapaaPk22

set_option linter.unusedSimpArgs false
set_option linter.unusedVariables false
set_option linter.deprecated false
set_option linter.unusedSectionVars false
set_option linter.all false

/- rec.Decode answers as the document says, in plain mathematics. -/
namespace Go.Proofs.Ytpaknpemkmhapaa
open Go.RowKit
open Classical in
/-- What Decode answers of bytes. -/
noncomputable def decF (l : List Int) : Rc × Nat :=
  if 4096 < l.length then (rc0 0, 12) else if (decRc l).2 ≠ 0 then (rc0 0, (decRc l).2) else if (decRc l).1.ok then ((decRc l).1, 0) else (rc0 0, 11)

set_option maxHeartbeats 1000000 in
theorem read_rdt (A : Option Addr) (n c : Nat) (l : List Int) (w : World) (h : Byt w A n c l) (hn : n ≤ 140737488355328) (h0 : 0 < w.heap.size) :
    Calls Try.prog 34 #[.slice A n c] w (fun e w' => ∃ b g, e = .returned (.pointer (some ⟨b, 0, none⟩)) ∧ w.heap.size ≤ b ∧ Rdt w' b g l 0 ∧ Below w.heap.size w w') := by
  have C := Lib.hid (clone_all_own A n c l w h hn)
  clear h
  go_enter Try.func34, Try.ntmps34
  go_wp2_with fail
  refine C.out.mono ?_
  rintro e w1 ⟨A1, n1, c1, rfl, ho, hr, b1⟩
  have hb := Byt.of_own ho hr
  obtain ⟨g, hg, R⟩ := Rd.new 94 hb (by have := b1.size; omega)
  have hty : 0 < l.length → special (w1.alloc (.cells #[.slice A1 n1 c1, .int .i64 0] 94)) g := by
    intro hl
    obtain ⟨A', n', c', k1, k2, k3⟩ := R.ex
    have e0 := (Bk.new w1 94 #[.slice A1 n1 c1, .int .i64 0])
    have e1 : (#[.slice A' n' c', .int .i64 0] : Array Value) = #[.slice A1 n1 c1, .int .i64 0] := by
      have : some (Obj.cells #[.slice A' n' c', .int .i64 0] 94 (0, 0)) = some (Obj.cells #[.slice A1 n1 c1, .int .i64 0] 94 (0, 0)) := k1.symm.trans e0
      injection this with this
      injection this
    have e2 : Value.slice A' n' c' = .slice A1 n1 c1 := by
      have := congrArg (fun a : Array Value => a[0]?) e1
      simpa using this
    injection e2 with a1 a2 a3
    subst a1 a2 a3
    obtain ⟨g', off, q1, q2⟩ := hb.at_ (by rw [← hb.len]; exact hl)
    have e3 : g' = g := k3 (by rw [← hb.len]; exact hl) _ q1
    subst e3
    rcases ho.2 with ⟨hv, _⟩ | ⟨gg, cap, cur, hv, _, hgg, _⟩
    · rw [q1] at hv; injection hv with hv; cases hv
    · rw [q1] at hv
      injection hv with hv
      injection hv with hv
      injection hv with hv
      subst hv
      exact ⟨cur, _, _, (((Below.refl _ w1).alloc (Nat.le_refl _) _).block g' hg).trans hgg, rfl⟩
  have R := Lib.hid (show Rdt _ _ _ _ _ from ⟨R, hty⟩)
  have L := Lib.hid b1
  clear hb b1 hg ho hr hty
  go_wp2_with fail
  go_ret
  exact ⟨w1.heap.size, g, rfl, L.out.size, R.out, L.out.alloc L.out.size _⟩

/-- The record of a kind alone. -/
def xk (k : Int) : Xr := { xr0 with kind := k }
theorem xk_in (H : Nat) (w : World) (k : Int) (h : i64 k) : XrIn H w (xk k) :=
  ⟨h, i64_of _ rfl, i64_of _ rfl, i64_of _ rfl, Nat.zero_le _, Nat.zero_le _, Nat.zero_le _, i64_of _ rfl, Sl.nil _ _ _, Sl.nil _ _ _, Sl.nil _ _ _, Sl.nil _ _ _, Sl.nil _ _ _, Sl.nil _ _ _⟩

/-- How rec's reading and the document's hang together. -/
theorem dec_bad {l : List Int} {k : Int} {σ : Sg} (hp : pN (l, 0) = (k, σ)) (he : σ.2 = 0) (hk : ¬ (1 ≤ k ∧ k ≤ 10)) : decRc l = (rc0 0, 11) := by
  unfold decRc
  rw [hp, if_pos ⟨he, hk⟩]
theorem dec_err {l : List Int} {k : Int} {σ : Sg} (hp : pN (l, 0) = (k, σ)) (he : σ.2 ≠ 0) : (decRc l).2 = endS σ := by
  unfold decRc
  rw [hp, if_neg (fun h => he h.1)]
  show endS (restP (pN (l, 0)).1 (pN (l, 0)).2).2 = _
  rw [hp, (codec_rest k).stick σ he]
theorem dec_go {l : List Int} {k : Int} {σ : Sg} (hp : pN (l, 0) = (k, σ)) (hk : 1 ≤ k ∧ k ≤ 10) : decRc l = ((restP k σ).1, endS (restP k σ).2) := by
  unfold decRc
  rw [hp, if_neg (fun h => h.2 hk)]
  show ((restP (pN (l, 0)).1 (pN (l, 0)).2).1, endS (restP (pN (l, 0)).1 (pN (l, 0)).2).2) = _
  rw [hp]
theorem endE_endS (σ : Sg) : endE σ.1 σ.2 = endS σ := rfl
/-- A record that is read has nothing but what its kind has. -/
theorem rest_keep (k : Int) (hk : 1 ≤ k ∧ k ≤ 10) (l : List Int) (hl : ∀ y ∈ l, 0 ≤ y ∧ y < 256) (h : (restP k (l, 0)).2.2 = 0) : (restP k (l, 0)).1.kind = k ∧ (kindSp k).keep (restP k (l, 0)).1 = (restP k (l, 0)).1 := by
  have e := ((codec_rest k).exact l hl h).2
  have e1 := rdKind_kind hk e
  refine ⟨e1, ?_⟩
  obtain ⟨r, hr⟩ : ∃ r, (restP k (l, 0)).1 = r := ⟨_, rfl⟩
  rw [hr] at e e1 ⊢
  have vk : ∀ v : Vl, rdVl v → valSp.keep v = v := fun v q => val_keep q
  unfold rdKind at e
  unfold kindSp
  by_cases h1 : k = 1
  · rw [if_pos h1] at e ⊢
    obtain ⟨⟨⟨_, a⟩, b⟩, c⟩ := e
    show mkU ((((r.tx, r.prev), r.key), valSp.keep r.old), valSp.keep r.new) = r
    rw [vk _ a, vk _ b]; exact c
  rw [if_neg h1] at e ⊢
  by_cases h2 : k = 2
  · rw [if_pos h2] at e ⊢
    obtain ⟨⟨_, b⟩, c⟩ := e
    show mkC ((((r.tx, r.prev), r.next), r.key), valSp.keep r.new) = r
    rw [vk _ b]; exact c
  rw [if_neg h2] at e ⊢
  by_cases h3 : k = 3
  · rw [if_pos h3] at e ⊢; exact e.2
  rw [if_neg h3] at e ⊢
  by_cases h4 : k = 4 ∨ k = 5 ∨ k = 6
  · rw [if_pos h4] at e ⊢; exact e.2
  rw [if_neg h4] at e ⊢
  by_cases h7 : k = 7
  · rw [if_pos h7] at e ⊢; exact e.symm
  rw [if_neg h7] at e ⊢
  by_cases h8 : k = 8
  · rw [if_pos h8] at e ⊢; exact e.2
  rw [if_neg h8] at e ⊢
  by_cases h9 : k = 9
  · rw [if_pos h9] at e ⊢; exact e.2
  rw [if_neg h9] at e ⊢
  exact e.2
end Go.Proofs.Ytpaknpemkmhapaa

/- rec.Decode answers as the document says. -/
namespace Go.Proofs.Ytpaknpemkmhapaa
open Go.RowKit
open Classical in
theorem decF_long {l : List Int} (h : 4096 < l.length) : decF l = (rc0 0, 12) := if_pos h
open Classical in
theorem decF_err {l : List Int} (h : ¬ 4096 < l.length) (he : (decRc l).2 ≠ 0) : decF l = (rc0 0, (decRc l).2) := by unfold decF; rw [if_neg h, if_pos he]
open Classical in
theorem decF_ok {l : List Int} (h : ¬ 4096 < l.length) (he : (decRc l).2 = 0) (ho : (decRc l).1.ok) : decF l = ((decRc l).1, 0) := by unfold decF; rw [if_neg h, if_neg (by omega), if_pos ho]
open Classical in
theorem decF_no {l : List Int} (h : ¬ 4096 < l.length) (he : (decRc l).2 = 0) (ho : ¬ (decRc l).1.ok) : decF l = (rc0 0, 11) := by unfold decF; rw [if_neg h, if_neg (by omega), if_neg ho]

/-- What Decode hands back. -/
def RetDec (l : List Int) (w : World) (e : Ending) (w' : World) : Prop :=
  ∃ x : Xr, e = .returned (.tuple #[x.val, .int .i64 (decF l).2]) ∧ XrIn w.heap.size w' x ∧ x.read = (decF l).1 ∧ Below w.heap.size w w'
theorem xr0_read : xr0.read = rc0 0 := rfl
theorem xr0_in (H : Nat) (w : World) : XrIn H w xr0 := xk_in H w 0 (i64_of _ rfl)

/-- The cell that a record is handed back in. -/
theorem ret_zero {H r : Nat} {w v : World} {l : List Int} {k : Nat} {cs : Array Value} (hH : w.heap.size = r) (hb : Bk v r 30 cs) (hc : Calm r w v) (hd : decF l = (rc0 0, k)) : RetDec l w (.returned (.tuple #[xr0.val, .int .i64 k])) (v.setRow r xr0.cells) := by
  have hbl : Below r w v := hc.below (by omega)
  refine ⟨xr0, by rw [hd], xr0_in _ _, by rw [hd]; rfl, ?_⟩
  rw [hH]
  exact below_setRow hbl (Nat.le_refl r) _

/-- What fields hands back while a record is read. -/
theorem fieldsDec_any {r pb : Nat} {w : World} {l : List Int} {k : Int} {σ : Sg} {wr2 : Bool} (hl : ∀ y ∈ σ.1, 0 ≤ y ∧ y < 256) (hp : pN (l, 0) = (k, σ)) (hk : i64 k) (hw : wr2 = false ↔ 1 ≤ k ∧ k ≤ 10) (hnb : ¬ (σ.2 = 0 ∧ wr2 = true)) (h : Pst r w pb (.inp σ) wr2) :
    Calls Try.prog 37 #[.pointer (some ⟨pb, 0, none⟩), (xk k).val] w (fun e w' => ∃ (x3 : Xr) (σ3 : Sg) (wr3 : Bool), e = .returned x3.val ∧ XrIn r w' x3 ∧ Pst r w' pb (.inp σ3) wr3 ∧ Calm r w w' ∧
      (endS σ3 ≠ 0 → (decRc l).2 = endS σ3) ∧ (endS σ3 = 0 → (decRc l).2 = 0 ∧ (decRc l).1 = x3.read ∧ (wr3 = false ↔ x3.read.ok))) := by
  by_cases hkk : 1 ≤ k ∧ k ≤ 10
  · refine (fieldsAll_any (.inp σ) wr2 (xk k) h (xk_in r w k hk) hkk trivial).mono ?_
    rintro e w' ⟨_, y, s', wr3, rfl, ⟨x3, rfl, hx3, hxy⟩, ⟨rfl, hy, hiff⟩, hp3, hc3⟩
    have hy' : y = (restP k σ).1 := hy.trans (congrArg Prod.fst (kindSp_p k σ))
    have hs : ((kindSp (xk k).kind).p σ).2 = (restP k σ).2 := congrArg Prod.snd (kindSp_p k σ)
    rw [hs] at hp3
    have hd := dec_go hp hkk
    refine ⟨x3, (restP k σ).2, wr3, rfl, hx3, hp3, hc3, fun _ => by rw [hd], fun he => ⟨by rw [hd]; exact he, by rw [hd, hxy, hy'], ?_⟩⟩
    have he0 : (restP k σ).2.2 = 0 := by
      unfold endS at he
      split at he
      · cases he
      · exact he
    have hσ : σ = (σ.1, 0) := by
      by_cases q : σ.2 = 0
      · rw [← q]
      · rw [(codec_rest k).stick σ q] at he0
        exact absurd he0 q
    have rk := rest_keep k hkk σ.1 hl (by rw [← hσ]; exact he0)
    rw [← hσ, ← hy'] at rk
    rw [hxy, ← ok_iff]
    have hw2 : wr2 = false := hw.2 hkk
    refine hiff.trans ⟨fun q => ⟨by rw [rk.1]; exact hkk, by rw [rk.1]; exact q.2, by rw [rk.1]; exact rk.2⟩, fun q => ⟨hw2, by have := q.2.1; rw [rk.1] at this; exact this⟩⟩
  · refine (fieldsZ_any (.inp σ) wr2 (xk k) h hkk).mono ?_
    rintro e w' ⟨rfl, hp3, hc3⟩
    have hw2 : wr2 = true := by
      cases wr2 with
      | true => rfl
      | false => exact absurd (hw.1 rfl) hkk
    have he : σ.2 ≠ 0 := fun q => hnb ⟨q, hw2⟩
    have hd := dec_err hp he
    have hne : endS σ ≠ 0 := by
      unfold endS
      rw [if_neg (fun q => he q.1)]
      exact he
    exact ⟨xr0, σ, wr2, rfl, xr0_in _ _, hp3, hc3, fun _ => hd, fun q => absurd q hne⟩

set_option maxRecDepth 100000 in
set_option maxHeartbeats 8000000 in
theorem recDecode_any (A : Option Addr) (n c : Nat) (l : List Int) (w : World) (h : Byt w A n c l) : Calls Try.prog 17 #[.slice A n c] w (RetDec l w) := by
  obtain ⟨r, hrr⟩ : ∃ r, w.heap.size = r := ⟨_, rfl⟩
  obtain ⟨W1, hW1⟩ : ∃ W1, W1 = w.alloc (.cells xr0.cells 30) := ⟨_, rfl⟩
  have hb1 : Below w.heap.size w W1 := by rw [hW1]; exact (Below.refl _ _).alloc (Nat.le_refl _) _
  have HV : Hid (Bk W1 r 30 xr0.cells) := Lib.hid (by rw [hW1, ← hrr]; exact Bk.new w _ _)
  have HB := Lib.hid hb1
  have HBY := Lib.hid (h.below hb1)
  have hlen : l.length = n := h.len
  have HR := Lib.hid h.rng
  have HRR := Lib.hid hrr
  have HW := Lib.hid (show W1 = w.alloc (.cells #[.int .i64 0, .int .i64 0, .int .i64 0, .int .i64 0, .string ⟨#[]⟩, .bool false, .string ⟨#[]⟩, .bool false, .string ⟨#[]⟩, .int .i64 0, .slice none 0 0, .slice none 0 0, .slice none 0 0, .slice none 0 0, .slice none 0 0, .slice none 0 0] 30) from hW1)
  have HS1 : Hid (0 < W1.heap.size ∧ r < W1.heap.size) := Lib.hid (by rw [hW1, ← hrr]; simp)
  clear h hW1 hb1
  go_enter Try.func17, Try.ntmps17
  go_upto_region 1 with fail
  (try rw [hrr])
  rw [← HW.out]
  clear HW hrr
  by_cases hl : 4096 < n
  · have hl' : (4096 : Int) < (n : Int) := by omega
    have R := Lib.hid (ret_zero (H := r) HRR.out HV.out (Calm.of_below HB.out) (decF_long (l := l) (by omega)))
    have RB := Lib.hid (HV.out.rowp xr0.cells)
    clear hl hlen
    go_wp2_with (refine wpList_store_row rfl 30 _ _ rfl r xr0.cells rfl rfl 30 _ HV.out inf_rec rfl (Xr.cells_one xr0) ?_; simp only [Act.put])
    (try simp only [Exit.inBlock, Exit.then])
    refine bodyPost_ret (results_cellT rfl _ _ r 30 _ _ rfl RB.out Try.underlying30 rfl inf_rec) rfl ?_
    exact R.out
  · have hl' : ¬ (4096 : Int) < (n : Int) := by omega
    have CR := Lib.hid (read_rdt A n c l W1 HBY.out (by omega) HS1.out.1)
    have HL : Hid (¬ 4096 < l.length) := Lib.hid (by omega)
    clear hl hlen
    go_wp2_with fail
    refine CR.out.mono ?_
    rintro e v1 ⟨b, g, rfl, hb, hrd, hbel⟩
    obtain ⟨pb, hpb⟩ : ∃ pb, v1.heap.size = pb := ⟨_, rfl⟩
    obtain ⟨W2, hW2⟩ : ∃ W2, W2 = v1.alloc (.cells #[.pointer none, .pointer (some ⟨b, 0, none⟩), .bool false] 72) := ⟨_, rfl⟩
    have b2 : Below v1.heap.size v1 W2 := by rw [hW2]; exact (Below.refl _ _).alloc (Nat.le_refl _) _
    have C2 : Hid (Calm r w W2) := Lib.hid (((Calm.of_below HB.out).trans (Calm.of_below hbel)).trans (Calm.of_below b2))
    have V2 : Hid (Bk W2 r 30 xr0.cells) := Lib.hid ((HV.out.calm (H := r) rfl (Calm.of_below hbel)).calm (H := r) rfl (Calm.of_below b2))
    have P2 : Hid (Pst r W2 pb (.inp (l, 0)) false) := Lib.hid (by
      have hs := hbel.size
      refine ⟨b, g, by have := HS1.out.2; omega, ?_, by have := HS1.out.2; omega, hrd.keeps (Keeps.of_below b2)⟩
      rw [hW2, ← hpb]
      exact Bk.new v1 _ _)
    have HW2 := Lib.hid hW2
    clear hW2 b2 hrd hbel hb CR
    go_upto_region 4 with (refine wpList_store_new rfl (W := v1) rfl (c := #[.pointer none, .pointer none, .bool false]) (c' := #[.pointer none, .pointer (some ⟨b, 0, none⟩), .bool false]) rfl (by simp [hpb]) rfl (by kernel_rfl) rfl rfl ?_; simp only [Act.put])
    (try rw [hpb])
    rw [← HW2.out]
    clear HW2 hpb
    have CK := Lib.hid (kind_any (H := r) (pb := pb) (.inp (l, 0)) false 0 P2.out (i64_of _ rfl) trivial)
    go_wp2_with fail
    refine CK.out.mono ?_
    rintro e v2 ⟨_, k, s2, wr2, rfl, ⟨rfl, hki⟩, ⟨rfl, hk, hiff⟩, hp2, hc2⟩
    obtain ⟨σ, hσ⟩ : ∃ σ, (pN (l, 0)).2 = σ := ⟨_, rfl⟩
    have hpN : pN (l, 0) = (k, σ) := Prod.ext (show (pN (l, 0)).1 = k from hk.symm) hσ
    have hp2' : Pst r v2 pb (.inp σ) wr2 := by rw [← hσ]; exact hp2
    obtain ⟨rb, g2, c1, R2, K2⟩ := hp2'.reader
    obtain ⟨c2, _⟩ := hp2'.ptrs
    have PN := Lib.hid hpN
    have HKI := Lib.hid hki
    have HIF : Hid (wr2 = false ↔ 1 ≤ k ∧ k ≤ 10) := Lib.hid ⟨fun q => (hiff.1 q).2, fun q => hiff.2 ⟨rfl, q⟩⟩
    have P3 := Lib.hid hp2'
    have C3 := Lib.hid (C2.out.trans hc2)
    have V3 := Lib.hid (V2.out.calm rfl hc2)
    have CE := Lib.hid (rErr_any rb g2 σ.1 σ.2 v2 R2.rd)
    have HRG : Hid (∀ y ∈ σ.1, 0 ≤ y ∧ y < 256) := Lib.hid (by rw [← hσ]; exact codec_N.rng _ HR.out)
    clear hp2 hc2 hk hki hiff hp2' hpN hσ R2 K2 CK P2 C2 V2
    go_wp2_with fail
    refine CE.out.mono ?_
    rintro e v2' ⟨rfl, hv2⟩
    subst hv2
    by_cases hbad : σ.2 = 0 ∧ wr2 = true
    · obtain ⟨he, rfl⟩ := hbad
      have hd : decF l = (rc0 0, 11) := by
        have hnk : ¬ (1 ≤ k ∧ k ≤ 10) := fun q => by have := HIF.out.2 q; cases this
        have e := dec_bad PN.out he hnk
        have := decF_err HL.out (by rw [e]; simp)
        rw [this, e]
      have R := Lib.hid (ret_zero (H := r) HRR.out V3.out C3.out hd)
      have RB := Lib.hid (V3.out.rowp xr0.cells)
      have he' : (((σ.2 : Nat) : Int) == 0) = true := by rw [he]; rfl
      clear hd he CE
      go_wp2_with (refine wpList_store_row rfl 30 _ _ rfl r xr0.cells rfl rfl 30 _ V3.out inf_rec rfl (Xr.cells_one xr0) ?_; simp only [Act.put])
      (try simp only [Exit.inBlock, Exit.then])
      refine bodyPost_ret (results_cellT rfl _ _ r 30 _ _ rfl RB.out Try.underlying30 rfl inf_rec) rfl ?_
      exact R.out
    · have CF := Lib.hid (fieldsDec_any HRG.out PN.out HKI.out HIF.out hbad P3.out)
      have hgd : ((((σ.2 : Nat) : Int) == 0) = true ∧ wr2 = false) ∨ (((σ.2 : Nat) : Int) == 0) = false := by
        by_cases q : σ.2 = 0
        · left
          refine ⟨by rw [q]; rfl, ?_⟩
          cases wr2 with
          | true => exact absurd ⟨q, rfl⟩ hbad
          | false => rfl
        · right; simp; omega
      have HZ : Hid (∃ cs, (xk k).val = .agg cs ∧ cs = #[.int .i64 k, .int .i64 0, .int .i64 0, .int .i64 0, .string ⟨#[]⟩, .bool false, .string ⟨#[]⟩, .bool false, .string ⟨#[]⟩, .int .i64 0, .slice none 0 0, .slice none 0 0, .slice none 0 0, .slice none 0 0, .slice none 0 0, .slice none 0 0]) := Lib.hid ⟨_, rfl, rfl⟩
      clear hbad CE
      -- the last part, from the call of fields on
      have fin : ∀ (K : Ending → World → Prop), (∀ (x3 : Xr) (σ3 : Sg) (wr3 : Bool) (v3 : World), Hid (XrIn r v3 x3 ∧ Pst r v3 pb (.inp σ3) wr3 ∧ Calm r w v3 ∧ Bk v3 r 30 xr0.cells ∧ (endS σ3 ≠ 0 → (decRc l).2 = endS σ3) ∧ (endS σ3 = 0 → (decRc l).2 = 0 ∧ (decRc l).1 = x3.read ∧ (wr3 = false ↔ x3.read.ok))) → K (.returned x3.val) v3) →
          Calls Try.prog 37 #[.pointer (some ⟨pb, 0, none⟩), .agg #[.int .i64 k, .int .i64 0, .int .i64 0, .int .i64 0, .string ⟨#[]⟩, .bool false, .string ⟨#[]⟩, .bool false, .string ⟨#[]⟩, .int .i64 0, .slice none 0 0, .slice none 0 0, .slice none 0 0, .slice none 0 0, .slice none 0 0, .slice none 0 0]] v2 K := by
        intro K hK
        refine CF.out.mono ?_
        rintro e v3 ⟨x3, σ3, wr3, rfl, h1, h2, h3, h4, h5⟩
        exact hK x3 σ3 wr3 v3 (Lib.hid ⟨h1, h2, C3.out.trans h3, V3.out.calm rfl h3, h4, h5⟩)
      have FIN := Lib.hid fin
      clear fin CF HZ
      rcases hgd with ⟨he', rfl⟩ | he'
      · go_wp2_with fail
        refine FIN.out _ ?_
        intro x3 σ3 wr3 v3 HF
        obtain ⟨W4, hW4⟩ : ∃ W4, W4 = v3.alloc (.cells x3.cells 30) := ⟨_, rfl⟩
        have B4 : Below v3.heap.size v3 W4 := by rw [hW4]; exact (Below.refl _ _).alloc (Nat.le_refl _) _
        have P4 := HF.out.2.1.keeps (Keeps.of_below B4)
        obtain ⟨rb3, g3, c3, R3, K3⟩ := P4.reader
        have CE3 := Lib.hid (rEnd_any rb3 g3 σ3.1 σ3.2 W4 R3.rd)
        have X4 := Lib.hid (HF.out.1.calm (Calm.of_below B4))
        have C4 := Lib.hid (HF.out.2.2.1.trans (Calm.of_below B4))
        have V4 := Lib.hid (HF.out.2.2.2.1.calm (H := r) rfl (Calm.of_below B4))
        have T4 : Hid (Bk W4 v3.heap.size 30 x3.cells) := Lib.hid (by rw [hW4]; exact Bk.new v3 _ _)
        have K3 := Lib.hid K3
        have HD := Lib.hid HF.out.2.2.2.2
        have HW4 := Lib.hid hW4
        clear hW4 B4 P4 R3 HF FIN
        go_upto_region 8 with (refine wpList_store_new rfl (W := v3) rfl (c := #[.int .i64 0, .int .i64 0, .int .i64 0, .int .i64 0, .string ⟨#[]⟩, .bool false, .string ⟨#[]⟩, .bool false, .string ⟨#[]⟩, .int .i64 0, .slice none 0 0, .slice none 0 0, .slice none 0 0, .slice none 0 0, .slice none 0 0, .slice none 0 0]) (c' := x3.cells) rfl rfl rfl inf_rec rfl (Xr.cells_one x3) ?_; simp only [Act.put])
        rw [← HW4.out]
        clear HW4
        go_wp2_with fail
        refine CE3.out.mono ?_
        rintro e v5 ⟨rfl, hrd5, hg5⟩
        obtain ⟨hp5, hc5⟩ := K3.out v5 (σ3.1, endE σ3.1 σ3.2) hrd5 hg5 (Nat.le_refl _)
        obtain ⟨c5, _⟩ := hp5.ptrs
        have V5 := Lib.hid (V4.out.calm rfl hc5)
        have T5 := Lib.hid (T4.out.calm rfl hc5)
        have X5 := Lib.hid (X4.out.calm hc5)
        have C5 := Lib.hid (C4.out.trans hc5)
        have HS : Hid (endE σ3.1 σ3.2 = endS σ3) := Lib.hid rfl
        clear hrd5 hg5 hp5 hc5 K3 CE3 V4 T4 X4 C4 c3
        by_cases hz : endS σ3 = 0
        · have hz' : (((endE σ3.1 σ3.2 : Nat) : Int) != 0) = false := by rw [HS.out, hz]; rfl
          obtain ⟨d1, d2, d3⟩ := HD.out.2 hz
          have D1 := Lib.hid (And.intro d1 (And.intro d2 d3))
          clear d1 d2 d3 HD hz
          cases wr3 with
          | true =>
            have R := Lib.hid (ret_zero (H := r) HRR.out V5.out C5.out (decF_no HL.out D1.out.1 (by rw [D1.out.2.1]; exact fun q => by have := D1.out.2.2.2 q; cases this)))
            have RB := Lib.hid (V5.out.rowp xr0.cells)
            go_wp2_with (refine wpList_store_row rfl 30 _ _ rfl r xr0.cells rfl rfl 30 _ V5.out inf_rec rfl (Xr.cells_one xr0) ?_; simp only [Act.put])
            (try simp only [Exit.inBlock, Exit.then])
            refine bodyPost_ret (results_cellT rfl _ _ r 30 _ _ rfl RB.out Try.underlying30 rfl inf_rec) rfl ?_
            exact R.out
          | false =>
            have R : Hid (RetDec l w (.returned (.tuple #[x3.val, .int .i64 0])) (v5.setRow r x3.cells)) := Lib.hid (by
              have hd := decF_ok HL.out D1.out.1 (by rw [D1.out.2.1]; exact D1.out.2.2.1 rfl)
              have hbl : Below r w v5 := C5.out.below (by have := HRR.out; omega)
              refine ⟨x3, by rw [hd]; rfl, ?_, by rw [hd]; exact D1.out.2.1.symm, ?_⟩
              · rw [HRR.out]
                exact X5.out.other V5.out (Nat.le_refl r) (grown_setRow _ _ _)
              · rw [HRR.out]
                exact below_setRow hbl (Nat.le_refl r) _)
            have RB := Lib.hid (V5.out.rowp x3.cells)
            go_wp2_with (first
              | (refine wpList_load_row rfl 30 _ rfl v3.heap.size rfl 30 _ (0, 0) _ T5.out Try.underlying30 rfl inf_rec ?_)
              | (refine wpList_store_row rfl 30 _ _ rfl r x3.cells rfl rfl 30 _ V5.out inf_rec rfl (Xr.cells_one x3) ?_; simp only [Act.put]))
            (try simp only [Exit.inBlock, Exit.then])
            refine bodyPost_ret (results_cellT rfl _ _ r 30 _ _ rfl RB.out Try.underlying30 rfl inf_rec) rfl ?_
            exact R.out
        · have hz' : (((endE σ3.1 σ3.2 : Nat) : Int) != 0) = true := by rw [HS.out]; simp; omega
          have R : Hid (RetDec l w (.returned (.tuple #[xr0.val, .int .i64 (endE σ3.1 σ3.2 : Nat)])) (v5.setRow r xr0.cells)) := Lib.hid (by
            have e := HD.out.1 hz
            have := decF_err HL.out (by rw [e]; exact hz)
            rw [e] at this
            exact ret_zero (H := r) HRR.out V5.out C5.out this)
          have RB := Lib.hid (V5.out.rowp xr0.cells)
          clear hz
          go_wp2_with (refine wpList_store_row rfl 30 _ _ rfl r xr0.cells rfl rfl 30 _ V5.out inf_rec rfl (Xr.cells_one xr0) ?_; simp only [Act.put])
          (try simp only [Exit.inBlock, Exit.then])
          refine bodyPost_ret (results_cellT rfl _ _ r 30 _ _ rfl RB.out Try.underlying30 rfl inf_rec) rfl ?_
          exact R.out
      · go_wp2_with fail
        refine FIN.out _ ?_
        intro x3 σ3 wr3 v3 HF
        obtain ⟨W4, hW4⟩ : ∃ W4, W4 = v3.alloc (.cells x3.cells 30) := ⟨_, rfl⟩
        have B4 : Below v3.heap.size v3 W4 := by rw [hW4]; exact (Below.refl _ _).alloc (Nat.le_refl _) _
        have P4 := HF.out.2.1.keeps (Keeps.of_below B4)
        obtain ⟨rb3, g3, c3, R3, K3⟩ := P4.reader
        have CE3 := Lib.hid (rEnd_any rb3 g3 σ3.1 σ3.2 W4 R3.rd)
        have X4 := Lib.hid (HF.out.1.calm (Calm.of_below B4))
        have C4 := Lib.hid (HF.out.2.2.1.trans (Calm.of_below B4))
        have V4 := Lib.hid (HF.out.2.2.2.1.calm (H := r) rfl (Calm.of_below B4))
        have T4 : Hid (Bk W4 v3.heap.size 30 x3.cells) := Lib.hid (by rw [hW4]; exact Bk.new v3 _ _)
        have K3 := Lib.hid K3
        have HD := Lib.hid HF.out.2.2.2.2
        have HW4 := Lib.hid hW4
        clear hW4 B4 P4 R3 HF FIN
        go_upto_region 8 with (refine wpList_store_new rfl (W := v3) rfl (c := #[.int .i64 0, .int .i64 0, .int .i64 0, .int .i64 0, .string ⟨#[]⟩, .bool false, .string ⟨#[]⟩, .bool false, .string ⟨#[]⟩, .int .i64 0, .slice none 0 0, .slice none 0 0, .slice none 0 0, .slice none 0 0, .slice none 0 0, .slice none 0 0]) (c' := x3.cells) rfl rfl rfl inf_rec rfl (Xr.cells_one x3) ?_; simp only [Act.put])
        rw [← HW4.out]
        clear HW4
        go_wp2_with fail
        refine CE3.out.mono ?_
        rintro e v5 ⟨rfl, hrd5, hg5⟩
        obtain ⟨hp5, hc5⟩ := K3.out v5 (σ3.1, endE σ3.1 σ3.2) hrd5 hg5 (Nat.le_refl _)
        obtain ⟨c5, _⟩ := hp5.ptrs
        have V5 := Lib.hid (V4.out.calm rfl hc5)
        have T5 := Lib.hid (T4.out.calm rfl hc5)
        have X5 := Lib.hid (X4.out.calm hc5)
        have C5 := Lib.hid (C4.out.trans hc5)
        have HS : Hid (endE σ3.1 σ3.2 = endS σ3) := Lib.hid rfl
        clear hrd5 hg5 hp5 hc5 K3 CE3 V4 T4 X4 C4 c3
        by_cases hz : endS σ3 = 0
        · have hz' : (((endE σ3.1 σ3.2 : Nat) : Int) != 0) = false := by rw [HS.out, hz]; rfl
          obtain ⟨d1, d2, d3⟩ := HD.out.2 hz
          have D1 := Lib.hid (And.intro d1 (And.intro d2 d3))
          clear d1 d2 d3 HD hz
          cases wr3 with
          | true =>
            have R := Lib.hid (ret_zero (H := r) HRR.out V5.out C5.out (decF_no HL.out D1.out.1 (by rw [D1.out.2.1]; exact fun q => by have := D1.out.2.2.2 q; cases this)))
            have RB := Lib.hid (V5.out.rowp xr0.cells)
            go_wp2_with (refine wpList_store_row rfl 30 _ _ rfl r xr0.cells rfl rfl 30 _ V5.out inf_rec rfl (Xr.cells_one xr0) ?_; simp only [Act.put])
            (try simp only [Exit.inBlock, Exit.then])
            refine bodyPost_ret (results_cellT rfl _ _ r 30 _ _ rfl RB.out Try.underlying30 rfl inf_rec) rfl ?_
            exact R.out
          | false =>
            have R : Hid (RetDec l w (.returned (.tuple #[x3.val, .int .i64 0])) (v5.setRow r x3.cells)) := Lib.hid (by
              have hd := decF_ok HL.out D1.out.1 (by rw [D1.out.2.1]; exact D1.out.2.2.1 rfl)
              have hbl : Below r w v5 := C5.out.below (by have := HRR.out; omega)
              refine ⟨x3, by rw [hd]; rfl, ?_, by rw [hd]; exact D1.out.2.1.symm, ?_⟩
              · rw [HRR.out]
                exact X5.out.other V5.out (Nat.le_refl r) (grown_setRow _ _ _)
              · rw [HRR.out]
                exact below_setRow hbl (Nat.le_refl r) _)
            have RB := Lib.hid (V5.out.rowp x3.cells)
            go_wp2_with (first
              | (refine wpList_load_row rfl 30 _ rfl v3.heap.size rfl 30 _ (0, 0) _ T5.out Try.underlying30 rfl inf_rec ?_)
              | (refine wpList_store_row rfl 30 _ _ rfl r x3.cells rfl rfl 30 _ V5.out inf_rec rfl (Xr.cells_one x3) ?_; simp only [Act.put]))
            (try simp only [Exit.inBlock, Exit.then])
            refine bodyPost_ret (results_cellT rfl _ _ r 30 _ _ rfl RB.out Try.underlying30 rfl inf_rec) rfl ?_
            exact R.out
        · have hz' : (((endE σ3.1 σ3.2 : Nat) : Int) != 0) = true := by rw [HS.out]; simp; omega
          have R : Hid (RetDec l w (.returned (.tuple #[xr0.val, .int .i64 (endE σ3.1 σ3.2 : Nat)])) (v5.setRow r xr0.cells)) := Lib.hid (by
            have e := HD.out.1 hz
            have := decF_err HL.out (by rw [e]; exact hz)
            rw [e] at this
            exact ret_zero (H := r) HRR.out V5.out C5.out this)
          have RB := Lib.hid (V5.out.rowp xr0.cells)
          clear hz
          go_wp2_with (refine wpList_store_row rfl 30 _ _ rfl r xr0.cells rfl rfl 30 _ V5.out inf_rec rfl (Xr.cells_one xr0) ?_; simp only [Act.put])
          (try simp only [Exit.inBlock, Exit.then])
          refine bodyPost_ret (results_cellT rfl _ _ r 30 _ _ rfl RB.out Try.underlying30 rfl inf_rec) rfl ?_
          exact R.out
end Go.Proofs.Ytpaknpemkmhapaa

/- trothref07.sameLists says yes of records whose lists read as the same. -/
namespace Go.Proofs.Ytpaknpemkmhapaa
open Go.RowKit
theorem inf_row8 : (Try.prog.info? 52).map (·.size) = some 8 := by kernel_rfl
theorem inf_dirty2 : (Try.prog.info? 90).map (·.size) = some 2 := by kernel_rfl
theorem map_getD {α β : Type} [Inhabited α] [Inhabited β] {f : α → β} (hd : f default = default) {l m : List α} (h : l.map f = m.map f) (i : Nat) : f (l.getD i default) = f (m.getD i default) := by
  have e : ∀ q : List α, (q.map f).getD i default = f (q.getD i default) := fun q => by
    rw [List.getD_eq_getElem?_getD, List.getElem?_map, List.getD_eq_getElem?_getD]
    cases q[i]? <;> simp [hd]
  rw [← e, ← e, h]
theorem below_range {w w' : World} {g o : Nat} {cs : List Value} (h : w.rangeAt g o cs) (hg : g < w.heap.size) (hb : Below w.heap.size w w') : w'.rangeAt g o cs := rangeAt_heap h (hb.block g hg)
set_option maxRecDepth 100000 in
set_option maxHeartbeats 16000000 in
theorem sameLists_yes (x y : Xr) (H H' : Nat) (w : World) (hx : XrIn H w x) (hy : XrIn H' w y) (e1 : x.rows.map Xw.row = y.rows.map Xw.row) (e2 : x.dirty = y.dirty) (e3 : x.deeds.map Xd.deed = y.deeds.map Xd.deed) (e4 : x.past = y.past) :
    Calls Try.prog 48 #[x.val, y.val] w (fun e w' => e = .returned (.bool true) ∧ Below w.heap.size w w') := by
  have n1 : x.rn = y.rn := by rw [← hx.rows.len, ← hy.rows.len]; have := congrArg List.length e1; simpa using this
  have n2 : x.dn = y.dn := by rw [← hx.dirty.len, ← hy.dirty.len, e2]
  have n3 : x.en = y.en := by rw [← hx.deeds.len, ← hy.deeds.len]; have := congrArg List.length e3; simpa using this
  obtain ⟨kind, tx, prev, next, key, ⟨oh, od⟩, ⟨nh, nd⟩, co, mA, mn, mc, mem, kA, kn, kc, lks, rA, rn, rc, rows, dA, dn, dc, dirty, eA, en, ec, deeds, pA, pn, pc, past⟩ := x
  obtain ⟨kind', tx', prev', next', key', ⟨oh', od'⟩, ⟨nh', nd'⟩, co', mA', mn', mc', mem', kA', kn', kc', lks', rA', rn', rc', rows', dA', dn', dc', dirty', eA', en', ec', deeds', pA', pn', pc', past'⟩ := y
  simp only at n1 n2 n3 e1 e2 e3 e4
  subst n1 n2 n3 e2 e4
  unfold Xr.val
  simp only
  obtain ⟨r, hrr⟩ : ∃ r, w.heap.size = r := ⟨_, rfl⟩
  obtain ⟨W1, hW1⟩ : ∃ W1, W1 = (w.alloc (.cells #[.int .i64 kind, .int .i64 tx, .int .i64 prev, .int .i64 next, .string key, .bool oh, .string od, .bool nh, .string nd, .int .i64 co, .slice mA mn mc, .slice kA kn kc, .slice rA rn rc, .slice dA dn dc, .slice eA en ec, .slice pA pn pc] 30)).alloc (.cells #[.int .i64 kind', .int .i64 tx', .int .i64 prev', .int .i64 next', .string key', .bool oh', .string od', .bool nh', .string nd', .int .i64 co', .slice mA' mn' mc', .slice kA' kn' kc', .slice rA' rn rc', .slice dA' dn dc', .slice eA' en ec', .slice pA' pn' pc'] 30) := ⟨_, rfl⟩
  have hb : Below w.heap.size w W1 := by rw [hW1]; exact ((Below.refl _ _).alloc (Nat.le_refl _) _).alloc (by simp) _
  have V0 : Bk W1 r 30 #[.int .i64 kind, .int .i64 tx, .int .i64 prev, .int .i64 next, .string key, .bool oh, .string od, .bool nh, .string nd, .int .i64 co, .slice mA mn mc, .slice kA kn kc, .slice rA rn rc, .slice dA dn dc, .slice eA en ec, .slice pA pn pc] := by rw [hW1, ← hrr]; exact (Bk.new w _ _).bel ((Below.refl _ _).alloc (Nat.le_refl _) _) (by simp)
  have V1 : Bk W1 (r + 1) 30 #[.int .i64 kind', .int .i64 tx', .int .i64 prev', .int .i64 next', .string key', .bool oh', .string od', .bool nh', .string nd', .int .i64 co', .slice mA' mn' mc', .slice kA' kn' kc', .slice rA' rn rc', .slice dA' dn dc', .slice eA' en ec', .slice pA' pn' pc'] := by
    rw [hW1, ← hrr]
    have := Bk.new (w.alloc (.cells #[.int .i64 kind, .int .i64 tx, .int .i64 prev, .int .i64 next, .string key, .bool oh, .string od, .bool nh, .string nd, .int .i64 co, .slice mA mn mc, .slice kA kn kc, .slice rA rn rc, .slice dA dn dc, .slice eA en ec, .slice pA pn pc] 30)) 30 #[.int .i64 kind', .int .i64 tx', .int .i64 prev', .int .i64 next', .string key', .bool oh', .string od', .bool nh', .string nd', .int .i64 co', .slice mA' mn' mc', .slice kA' kn' kc', .slice rA' rn rc', .slice dA' dn dc', .slice eA' en ec', .slice pA' pn' pc']
    rw [World.size_alloc] at this
    exact this
  have HX := Lib.hid (hx.calm (Calm.of_below hb))
  have HY := Lib.hid (hy.calm (Calm.of_below hb))
  have a12 : W1.cell? ⟨r, 12, none⟩ = some (.slice rA rn rc) := V0.cell 12
  have a13 : W1.cell? ⟨r, 13, none⟩ = some (.slice dA dn dc) := V0.cell 13
  have a14 : W1.cell? ⟨r, 14, none⟩ = some (.slice eA en ec) := V0.cell 14
  have a15 : W1.cell? ⟨r, 15, none⟩ = some (.slice pA pn pc) := V0.cell 15
  have b12 : W1.cell? ⟨r + 1, 12, none⟩ = some (.slice rA' rn rc') := V1.cell 12
  have b13 : W1.cell? ⟨r + 1, 13, none⟩ = some (.slice dA' dn dc') := V1.cell 13
  have b14 : W1.cell? ⟨r + 1, 14, none⟩ = some (.slice eA' en ec') := V1.cell 14
  have b15 : W1.cell? ⟨r + 1, 15, none⟩ = some (.slice pA' pn' pc') := V1.cell 15
  have HV := Lib.hid (And.intro V0 V1)
  have CP := Lib.hid (sameInts_yes pA pn pc pA' pn' pc' H H' past W1 HX.out.past HY.out.past)
  have HB := Lib.hid hb
  have HW := Lib.hid hW1
  have HSL : Hid (r < W1.heap.size ∧ r + 1 < W1.heap.size) := Lib.hid ⟨V0.lt, V1.lt⟩
  have rcap := HX.out.rows.cap
  have rmax := HX.out.rows.max
  have dcap := HX.out.dirty.cap
  have dmax := HX.out.dirty.max
  have ecap := HX.out.deeds.cap
  have emax := HX.out.deeds.max
  unfold maxLen at rmax dmax emax
  have E1 := Lib.hid e1
  have E3 := Lib.hid e3
  clear hx hy hb hW1 V0 V1 e1 e3
  go_enter Try.func48, Try.ntmps48
  go_upto_region 1 with fail
  (try rw [hrr])
  rw [← HW.out]
  clear HW hrr
  go_wp2_with fail
  refine CP.out.mono ?_
  rintro e w2 ⟨rfl, m0, rfl⟩
  clear a15 b15
  have HCell : Hid (∀ W, Below W1.heap.size W1 W → (W.cell? ⟨r, 12, none⟩ = some (.slice rA rn rc) ∧ W.cell? ⟨r + 1, 12, none⟩ = some (.slice rA' rn rc')) ∧ (W.cell? ⟨r, 13, none⟩ = some (.slice dA dn dc) ∧ W.cell? ⟨r + 1, 13, none⟩ = some (.slice dA' dn dc')) ∧ (W.cell? ⟨r, 14, none⟩ = some (.slice eA en ec) ∧ W.cell? ⟨r + 1, 14, none⟩ = some (.slice eA' en ec'))) :=
    Lib.hid (fun W hb => ⟨⟨(hb.cell (p := ⟨r, 12, none⟩) HSL.out.1).trans a12, (hb.cell (p := ⟨r + 1, 12, none⟩) HSL.out.2).trans b12⟩, ⟨(hb.cell (p := ⟨r, 13, none⟩) HSL.out.1).trans a13, (hb.cell (p := ⟨r + 1, 13, none⟩) HSL.out.2).trans b13⟩, ⟨(hb.cell (p := ⟨r, 14, none⟩) HSL.out.1).trans a14, (hb.cell (p := ⟨r + 1, 14, none⟩) HSL.out.2).trans b14⟩⟩)
  have B0 : Hid (Below W1.heap.size W1 (W1.drewN m0)) := Lib.hid (below_drewN (Below.refl _ _) m0)
  clear a12 a13 a14 b12 b13 b14 CP
  obtain ⟨⟨p12, q12⟩, ⟨p13, q13⟩, ⟨p14, q14⟩⟩ := HCell.out _ B0.out
  go_wp2_with fail
  clear p12 q12 p13 q13 p14 q14
  go_loopw [5] (fun q wr => ∃ k : Nat, k ≤ rn ∧ q = .int .i64 k ∧ Below W1.heap.size W1 wr) (fun q _ => rn - (intOf q).toNat)
  case atStart => exact ⟨0, Nat.zero_le _, rfl, B0.out⟩
  case round =>
    clear B0
    obtain ⟨k, hk, rfl, hbw⟩ := hrel
    obtain ⟨⟨p12, q12⟩, ⟨p13, q13⟩, ⟨p14, q14⟩⟩ := HCell.out wr hbw
    have HBW := Lib.hid hbw
    clear hbw
    by_cases hlt : k < rn
    · obtain ⟨g, off, hA, hs, hr⟩ := HX.out.rows.at_ (show 0 < rn by omega)
      obtain rfl : rA = _ := hA
      obtain ⟨g', off', hA', hs', hr'⟩ := HY.out.rows.at_ (show 0 < rn by omega)
      obtain rfl : rA' = _ := hA'
      obtain ⟨z, hz⟩ : ∃ z, rows.getD k default = z := ⟨_, rfl⟩
      obtain ⟨z', hz'⟩ : ∃ z, rows'.getD k default = z := ⟨_, rfl⟩
      have hr2 : W1.rangeAt g (off + k * 8) (elR.cells z) := by rw [← hz]; exact hr k hlt
      have hr3 : W1.rangeAt g' (off' + k * 8) (elR.cells z') := by rw [← hz']; exact hr' k hlt
      have hzz : z.row = z'.row := by rw [← hz, ← hz']; exact map_getD (f := Xw.row) rfl E1.out k
      have hzi : XwIn H W1 z := by rw [← hz]; exact HX.out.rows.get (i := k) hlt
      have hzi' : XwIn H' W1 z' := by rw [← hz']; exact HY.out.rows.get (i := k) hlt
      have KS : Hid (∀ W, Below W1.heap.size W1 W → W.cell? ⟨r, 12, none⟩ = some (.slice (some ⟨g, off, none⟩) rn rc) ∧ W.cell? ⟨r + 1, 12, none⟩ = some (.slice (some ⟨g', off', none⟩) rn rc') ∧ W.rangeAt g (off + k * 8) (elR.cells z) ∧ W.rangeAt g' (off' + k * 8) (elR.cells z')) := Lib.hid (fun W hb => ⟨(HCell.out W hb).1.1, (HCell.out W hb).1.2, below_range hr2 hs.1 hb, below_range hr3 hs'.1 hb⟩)
      have CR := Lib.hid (fun W (hb : Below W1.heap.size W1 W) => sameRow_yes z z' H H' W (elR.calm H W1 W z hzi (Calm.of_below hb)) (elR.calm H' W1 W z' hzi' (Calm.of_below hb)) hzz)
      clear hr hr' hr2 hr3 hs hs' hz hz' hzz hzi hzi' p13 q13 p14 q14
      go_wp2_with fail
      have hbd : Below W1.heap.size W1 wr.drew := HBW.out.drew
      have HBD := Lib.hid hbd
      have hS0 := KS.out wr.drew hbd
      clear hbd
      refine wp_region_noPanic ?_
      refine upto_start (fun W => W.cell? ⟨r, 12, none⟩ = some (.slice (some ⟨g, off, none⟩) rn rc) ∧ W.cell? ⟨r + 1, 12, none⟩ = some (.slice (some ⟨g', off', none⟩) rn rc') ∧ W.rangeAt g (off + k * 8) (elR.cells z) ∧ W.rangeAt g' (off' + k * 8) (elR.cells z')) 11 (by kernel_rfl) ?_
      change Upto _ _ _ _ _ 12 _ _ _
      refine Upto.take (i := 0) (v := ?_) rfl (by kernel_rfl) (fun _ _ _ h => h) rfl (fun w' hS => ?_) hS0 ?_
      rotate_left
      · (try dsimp only at hS); go_split_ands; go_simp; (try with_reducible rfl)
      simp only [Act.put, List.setIfInBounds_toArray, List.set_cons_zero, List.set_cons_succ]
      refine Upto.take (i := 1) (v := ?_) rfl (by kernel_rfl) (fun _ _ _ h => h) rfl (fun w' hS => ?_) hS0 ?_
      rotate_left
      · (try dsimp only at hS); go_split_ands; go_simp; (try with_reducible rfl)
      simp only [Act.put, List.setIfInBounds_toArray, List.set_cons_zero, List.set_cons_succ]
      refine Upto.take (i := 2) (v := ?_) rfl (by kernel_rfl) (fun _ _ _ h => h) rfl (fun w' hS => ?_) hS0 ?_
      rotate_left
      · (try dsimp only at hS); go_split_ands; go_simp; (try with_reducible rfl)
      simp only [Act.put, List.setIfInBounds_toArray, List.set_cons_zero, List.set_cons_succ]
      refine Upto.take (i := 3) (v := ?_) rfl (by kernel_rfl) (fun _ _ _ h => h) rfl (fun w' hS => ?_) hS0 ?_
      rotate_left
      · (try dsimp only at hS); go_split_ands; go_simp; (try with_reducible rfl)
      simp only [Act.put, List.setIfInBounds_toArray, List.set_cons_zero, List.set_cons_succ]
      refine Upto.take (i := 4) rfl (by kernel_rfl) (fun _ _ _ h => h) rfl (fun w' hS => exec_load rfl (by rfl) hS.2.2.1 Try.underlying52 rfl (by rw [elR.len z]; exact inf_row8)) hS0 ?_
      simp only [Act.put, List.setIfInBounds_toArray, List.set_cons_zero, List.set_cons_succ]
      refine Upto.take (i := 5) (v := ?_) rfl (by kernel_rfl) (fun _ _ _ h => h) rfl (fun w' hS => ?_) hS0 ?_
      rotate_left
      · (try dsimp only at hS); go_split_ands; go_simp; (try with_reducible rfl)
      simp only [Act.put, List.setIfInBounds_toArray, List.set_cons_zero, List.set_cons_succ]
      refine Upto.take (i := 6) (v := ?_) rfl (by kernel_rfl) (fun _ _ _ h => h) rfl (fun w' hS => ?_) hS0 ?_
      rotate_left
      · (try dsimp only at hS); go_split_ands; go_simp; (try with_reducible rfl)
      simp only [Act.put, List.setIfInBounds_toArray, List.set_cons_zero, List.set_cons_succ]
      refine Upto.take (i := 7) (v := ?_) rfl (by kernel_rfl) (fun _ _ _ h => h) rfl (fun w' hS => ?_) hS0 ?_
      rotate_left
      · (try dsimp only at hS); go_split_ands; go_simp; (try with_reducible rfl)
      simp only [Act.put, List.setIfInBounds_toArray, List.set_cons_zero, List.set_cons_succ]
      refine Upto.take (i := 8) (v := ?_) rfl (by kernel_rfl) (fun _ _ _ h => h) rfl (fun w' hS => ?_) hS0 ?_
      rotate_left
      · (try dsimp only at hS); go_split_ands; go_simp; (try with_reducible rfl)
      simp only [Act.put, List.setIfInBounds_toArray, List.set_cons_zero, List.set_cons_succ]
      refine Upto.take (i := 9) rfl (by kernel_rfl) (fun _ _ _ h => h) rfl (fun w' hS => exec_load rfl (by rfl) hS.2.2.2 Try.underlying52 rfl (by rw [elR.len z']; exact inf_row8)) hS0 ?_
      simp only [Act.put, List.setIfInBounds_toArray, List.set_cons_zero, List.set_cons_succ]
      refine Upto.law (i := 10) rfl (by kernel_rfl) rfl (fun K hK => ?_)
      refine wp_enter (f := 68) (args := #[.agg (elR.cells z).toArray, .agg (elR.cells z').toArray]) (by go_simp) (CR.out wr.drew HBD.out) ?_
      rintro e W3 ⟨rfl, hb3⟩
      have hb4 : Below W1.heap.size W1 W3 := HBD.out.trans (hb3.mono HBD.out.size)
      refine ⟨_, rfl, hK _ _ (KS.out W3 hb4) ?_⟩
      have HB4 := Lib.hid hb4
      clear hK hS0 hb3 hb4 KS CR HBD HBW
      simp only [Act.put, List.setIfInBounds_toArray, List.set_cons_zero, List.set_cons_succ]
      refine Upto.tail rfl (by kernel_rfl) ?_
      simp only [List.drop_succ_cons, List.drop_zero]
      go_wp2_with fail
      refine NoPanic.normal ?_
      go_wp2_with fail
      go_roundw
      case rel => exact ⟨k + 1, by omega, by go_num, HB4.out⟩
      case measure => simp [intOf]; omega
    · obtain hkk : k = rn := by omega
      clear rcap rmax
      go_wp2_with fail
      go_loopw [6] (fun q wr2 => ∃ k : Nat, k ≤ dn ∧ q = .int .i64 k ∧ Below W1.heap.size W1 wr2) (fun q _ => dn - (intOf q).toNat)
      case atStart => exact ⟨0, Nat.zero_le _, rfl, HBW.out⟩
      case round =>
        clear HBW hlt hk hkk p12 q12 p13 q13 p14 q14
        obtain ⟨k2, hk, rfl, hbw⟩ := hrel
        obtain ⟨⟨p12, q12⟩, ⟨p13, q13⟩, ⟨p14, q14⟩⟩ := HCell.out _ hbw
        have HBW := Lib.hid hbw
        clear hbw
        by_cases hlt : k2 < dn
        · obtain ⟨g, off, hA, hs, hr⟩ := HX.out.dirty.at_ (show 0 < dn by omega)
          obtain rfl : dA = _ := hA
          obtain ⟨g', off', hA', hs', hr'⟩ := HY.out.dirty.at_ (show 0 < dn by omega)
          obtain rfl : dA' = _ := hA'
          obtain ⟨z, hz⟩ : ∃ z, dirty.getD k2 default = z := ⟨_, rfl⟩
          have hr2 : W1.rangeAt g (off + k2 * 2) [.int .i64 z.page, .int .i64 z.lsn] := by rw [← hz]; exact hr k2 hlt
          have hr3 : W1.rangeAt g' (off' + k2 * 2) [.int .i64 z.page, .int .i64 z.lsn] := by rw [← hz]; exact hr' k2 hlt
          have KS : Hid (∀ W, Below W1.heap.size W1 W → W.cell? ⟨r, 13, none⟩ = some (.slice (some ⟨g, off, none⟩) dn dc) ∧ W.cell? ⟨r + 1, 13, none⟩ = some (.slice (some ⟨g', off', none⟩) dn dc') ∧ W.rangeAt g (off + k2 * 2) [.int .i64 z.page, .int .i64 z.lsn] ∧ W.rangeAt g' (off' + k2 * 2) [.int .i64 z.page, .int .i64 z.lsn]) := Lib.hid (fun W hb => ⟨(HCell.out W hb).2.1.1, (HCell.out W hb).2.1.2, below_range hr2 hs.1 hb, below_range hr3 hs'.1 hb⟩)
          clear hr hr' hr2 hr3 hs hs' hz p12 q12 p14 q14
          go_wp2_with fail
          have hbd := HBW.out.drew
          have HBD := Lib.hid hbd
          have hS0 := KS.out _ hbd
          clear hbd
          refine wp_region_noPanic ?_
          refine upto_start (fun W => W.cell? ⟨r, 13, none⟩ = some (.slice (some ⟨g, off, none⟩) dn dc) ∧ W.cell? ⟨r + 1, 13, none⟩ = some (.slice (some ⟨g', off', none⟩) dn dc') ∧ W.rangeAt g (off + k2 * 2) [.int .i64 z.page, .int .i64 z.lsn] ∧ W.rangeAt g' (off' + k2 * 2) [.int .i64 z.page, .int .i64 z.lsn]) 10 (by kernel_rfl) ?_
          change Upto _ _ _ _ _ 11 _ _ _
          refine Upto.take (i := 0) (v := ?_) rfl (by kernel_rfl) (fun _ _ _ h => h) rfl (fun w' hS => ?_) hS0 ?_
          rotate_left
          · (try dsimp only at hS); go_split_ands; go_simp; (try with_reducible rfl)
          simp only [Act.put, List.setIfInBounds_toArray, List.set_cons_zero, List.set_cons_succ]
          refine Upto.take (i := 1) (v := ?_) rfl (by kernel_rfl) (fun _ _ _ h => h) rfl (fun w' hS => ?_) hS0 ?_
          rotate_left
          · (try dsimp only at hS); go_split_ands; go_simp; (try with_reducible rfl)
          simp only [Act.put, List.setIfInBounds_toArray, List.set_cons_zero, List.set_cons_succ]
          refine Upto.take (i := 2) (v := ?_) rfl (by kernel_rfl) (fun _ _ _ h => h) rfl (fun w' hS => ?_) hS0 ?_
          rotate_left
          · (try dsimp only at hS); go_split_ands; go_simp; (try with_reducible rfl)
          simp only [Act.put, List.setIfInBounds_toArray, List.set_cons_zero, List.set_cons_succ]
          refine Upto.take (i := 3) (v := ?_) rfl (by kernel_rfl) (fun _ _ _ h => h) rfl (fun w' hS => ?_) hS0 ?_
          rotate_left
          · (try dsimp only at hS); go_split_ands; go_simp; (try with_reducible rfl)
          simp only [Act.put, List.setIfInBounds_toArray, List.set_cons_zero, List.set_cons_succ]
          refine Upto.take (i := 4) rfl (by kernel_rfl) (fun _ _ _ h => h) rfl (fun w' hS => exec_load rfl (by rfl) hS.2.2.1 Try.underlying90 rfl inf_dirty2) hS0 ?_
          simp only [Act.put, List.setIfInBounds_toArray, List.set_cons_zero, List.set_cons_succ]
          refine Upto.take (i := 5) (v := ?_) rfl (by kernel_rfl) (fun _ _ _ h => h) rfl (fun w' hS => ?_) hS0 ?_
          rotate_left
          · (try dsimp only at hS); go_split_ands; go_simp; (try with_reducible rfl)
          simp only [Act.put, List.setIfInBounds_toArray, List.set_cons_zero, List.set_cons_succ]
          refine Upto.take (i := 6) (v := ?_) rfl (by kernel_rfl) (fun _ _ _ h => h) rfl (fun w' hS => ?_) hS0 ?_
          rotate_left
          · (try dsimp only at hS); go_split_ands; go_simp; (try with_reducible rfl)
          simp only [Act.put, List.setIfInBounds_toArray, List.set_cons_zero, List.set_cons_succ]
          refine Upto.take (i := 7) (v := ?_) rfl (by kernel_rfl) (fun _ _ _ h => h) rfl (fun w' hS => ?_) hS0 ?_
          rotate_left
          · (try dsimp only at hS); go_split_ands; go_simp; (try with_reducible rfl)
          simp only [Act.put, List.setIfInBounds_toArray, List.set_cons_zero, List.set_cons_succ]
          refine Upto.take (i := 8) (v := ?_) rfl (by kernel_rfl) (fun _ _ _ h => h) rfl (fun w' hS => ?_) hS0 ?_
          rotate_left
          · (try dsimp only at hS); go_split_ands; go_simp; (try with_reducible rfl)
          simp only [Act.put, List.setIfInBounds_toArray, List.set_cons_zero, List.set_cons_succ]
          refine Upto.take (i := 9) rfl (by kernel_rfl) (fun _ _ _ h => h) rfl (fun w' hS => exec_load rfl (by rfl) hS.2.2.2 Try.underlying90 rfl inf_dirty2) hS0 ?_
          simp only [Act.put, List.setIfInBounds_toArray, List.set_cons_zero, List.set_cons_succ]
          refine Upto.tail rfl (by kernel_rfl) ?_
          simp only [List.drop_succ_cons, List.drop_zero]
          go_wp2_with fail
          refine NoPanic.normal ?_
          go_wp2_with fail
          go_roundw
          case rel => exact ⟨k2 + 1, by omega, by go_num, HBD.out⟩
          case measure => simp [intOf]; omega
        · obtain hkk : k2 = dn := by omega
          clear dcap dmax
          go_wp2_with fail
          go_loopw [7] (fun q wr2 => ∃ k : Nat, k ≤ en ∧ q = .int .i64 k ∧ Below W1.heap.size W1 wr2) (fun q _ => en - (intOf q).toNat)
          case atStart => exact ⟨0, Nat.zero_le _, rfl, HBW.out⟩
          case round =>
            clear HBW hlt hk hkk p12 q12 p13 q13 p14 q14
            obtain ⟨k3, hk, rfl, hbw⟩ := hrel
            obtain ⟨⟨p12, q12⟩, ⟨p13, q13⟩, ⟨p14, q14⟩⟩ := HCell.out _ hbw
            have HBW := Lib.hid hbw
            clear hbw
            by_cases hlt : k3 < en
            · obtain ⟨g, off, hA, hs, hr⟩ := HX.out.deeds.at_ (show 0 < en by omega)
              obtain rfl : eA = _ := hA
              obtain ⟨g', off', hA', hs', hr'⟩ := HY.out.deeds.at_ (show 0 < en by omega)
              obtain rfl : eA' = _ := hA'
              obtain ⟨z, hz⟩ : ∃ z, deeds.getD k3 default = z := ⟨_, rfl⟩
              obtain ⟨z', hz'⟩ : ∃ z, deeds'.getD k3 default = z := ⟨_, rfl⟩
              have hzz : z.deed = z'.deed := by rw [← hz, ← hz']; exact map_getD (f := Xd.deed) rfl E3.out k3
              have htx : z'.tx = z.tx := (congrArg Dd.tx hzz).symm
              have hmem : z'.mem = z.mem := (congrArg Dd.mem hzz).symm
              have hr2 : W1.rangeAt g (off + k3 * 2) [.int .i64 z.tx, .slice z.mA z.mn z.mc] := by rw [← hz]; exact hr k3 hlt
              have hr3 : W1.rangeAt g' (off' + k3 * 2) [.int .i64 z.tx, .slice z'.mA z'.mn z'.mc] := by rw [← htx, ← hz']; exact hr' k3 hlt
              have hzi : XdIn H W1 z := by rw [← hz]; exact HX.out.deeds.get (i := k3) hlt
              have hzi' : XdIn H' W1 z' := by rw [← hz']; exact HY.out.deeds.get (i := k3) hlt
              have KS : Hid (∀ W, Below W1.heap.size W1 W → W.cell? ⟨r, 14, none⟩ = some (.slice (some ⟨g, off, none⟩) en ec) ∧ W.cell? ⟨r + 1, 14, none⟩ = some (.slice (some ⟨g', off', none⟩) en ec') ∧ (W.cell? ⟨g, off + k3 * 2, none⟩ = some (.int .i64 z.tx) ∧ W.cell? ⟨g, off + k3 * 2 + 1, none⟩ = some (.slice z.mA z.mn z.mc)) ∧ W.cell? ⟨g', off' + k3 * 2, none⟩ = some (.int .i64 z.tx) ∧ W.cell? ⟨g', off' + k3 * 2 + 1, none⟩ = some (.slice z'.mA z'.mn z'.mc)) :=
                Lib.hid (fun W hb => ⟨(HCell.out W hb).2.2.1, (HCell.out W hb).2.2.2, ⟨below_range hr2 hs.1 hb 0 _ rfl, below_range hr2 hs.1 hb 1 _ rfl⟩, below_range hr3 hs'.1 hb 0 _ rfl, below_range hr3 hs'.1 hb 1 _ rfl⟩)
              have CI := Lib.hid (fun W (hb : Below W1.heap.size W1 W) => sameInts_yes z.mA z.mn z.mc z'.mA z'.mn z'.mc H H' z.mem W (hzi.mem.calm (Calm.of_below hb)) (by rw [← hmem]; exact hzi'.mem.calm (Calm.of_below hb)))
              clear hr hr' hr2 hr3 hs hs' hz hz' hzz htx hmem hzi hzi' p12 q12 p13 q13
              go_wp2_with fail
              have hbd := HBW.out.drew
              have HBD := Lib.hid hbd
              have hS0 := KS.out _ hbd
              clear hbd
              refine wp_region_noPanic ?_
              refine upto_start (fun W => W.cell? ⟨r, 14, none⟩ = some (.slice (some ⟨g, off, none⟩) en ec) ∧ W.cell? ⟨r + 1, 14, none⟩ = some (.slice (some ⟨g', off', none⟩) en ec') ∧ (W.cell? ⟨g, off + k3 * 2, none⟩ = some (.int .i64 z.tx) ∧ W.cell? ⟨g, off + k3 * 2 + 1, none⟩ = some (.slice z.mA z.mn z.mc)) ∧ W.cell? ⟨g', off' + k3 * 2, none⟩ = some (.int .i64 z.tx) ∧ W.cell? ⟨g', off' + k3 * 2 + 1, none⟩ = some (.slice z'.mA z'.mn z'.mc)) 27 (by kernel_rfl) ?_
              change Upto _ _ _ _ _ 29 _ _ _
              refine Upto.take (i := 0) (v := ?_) rfl (by kernel_rfl) (fun _ _ _ h => h) rfl (fun w' hS => ?_) hS0 ?_
              rotate_left
              · (try dsimp only at hS); go_split_ands; go_simp; (try with_reducible rfl)
              simp only [Act.put, List.setIfInBounds_toArray, List.set_cons_zero, List.set_cons_succ]
              refine Upto.take (i := 1) (v := ?_) rfl (by kernel_rfl) (fun _ _ _ h => h) rfl (fun w' hS => ?_) hS0 ?_
              rotate_left
              · (try dsimp only at hS); go_split_ands; go_simp; (try with_reducible rfl)
              simp only [Act.put, List.setIfInBounds_toArray, List.set_cons_zero, List.set_cons_succ]
              refine Upto.take (i := 2) (v := ?_) rfl (by kernel_rfl) (fun _ _ _ h => h) rfl (fun w' hS => ?_) hS0 ?_
              rotate_left
              · (try dsimp only at hS); go_split_ands; go_simp; (try with_reducible rfl)
              simp only [Act.put, List.setIfInBounds_toArray, List.set_cons_zero, List.set_cons_succ]
              refine Upto.take (i := 3) (v := ?_) rfl (by kernel_rfl) (fun _ _ _ h => h) rfl (fun w' hS => ?_) hS0 ?_
              rotate_left
              · (try dsimp only at hS); go_split_ands; go_simp; (try with_reducible rfl)
              simp only [Act.put, List.setIfInBounds_toArray, List.set_cons_zero, List.set_cons_succ]
              refine Upto.take (i := 4) (v := ?_) rfl (by kernel_rfl) (fun _ _ _ h => h) rfl (fun w' hS => ?_) hS0 ?_
              rotate_left
              · (try dsimp only at hS); go_split_ands; go_simp; (try with_reducible rfl)
              simp only [Act.put, List.setIfInBounds_toArray, List.set_cons_zero, List.set_cons_succ]
              refine Upto.take (i := 5) (v := ?_) rfl (by kernel_rfl) (fun _ _ _ h => h) rfl (fun w' hS => ?_) hS0 ?_
              rotate_left
              · (try dsimp only at hS); go_split_ands; go_simp; (try with_reducible rfl)
              simp only [Act.put, List.setIfInBounds_toArray, List.set_cons_zero, List.set_cons_succ]
              refine Upto.take (i := 6) (v := ?_) rfl (by kernel_rfl) (fun _ _ _ h => h) rfl (fun w' hS => ?_) hS0 ?_
              rotate_left
              · (try dsimp only at hS); go_split_ands; go_simp; (try with_reducible rfl)
              simp only [Act.put, List.setIfInBounds_toArray, List.set_cons_zero, List.set_cons_succ]
              refine Upto.take (i := 7) (v := ?_) rfl (by kernel_rfl) (fun _ _ _ h => h) rfl (fun w' hS => ?_) hS0 ?_
              rotate_left
              · (try dsimp only at hS); go_split_ands; go_simp; (try with_reducible rfl)
              simp only [Act.put, List.setIfInBounds_toArray, List.set_cons_zero, List.set_cons_succ]
              refine Upto.take (i := 8) (v := ?_) rfl (by kernel_rfl) (fun _ _ _ h => h) rfl (fun w' hS => ?_) hS0 ?_
              rotate_left
              · (try dsimp only at hS); go_split_ands; go_simp; (try with_reducible rfl)
              simp only [Act.put, List.setIfInBounds_toArray, List.set_cons_zero, List.set_cons_succ]
              refine Upto.take (i := 9) (v := ?_) rfl (by kernel_rfl) (fun _ _ _ h => h) rfl (fun w' hS => ?_) hS0 ?_
              rotate_left
              · (try dsimp only at hS); go_split_ands; go_simp; (try with_reducible rfl)
              simp only [Act.put, List.setIfInBounds_toArray, List.set_cons_zero, List.set_cons_succ]
              refine Upto.take (i := 10) (v := ?_) rfl (by kernel_rfl) (fun _ _ _ h => h) rfl (fun w' hS => ?_) hS0 ?_
              rotate_left
              · (try dsimp only at hS); go_split_ands; go_simp; (try with_reducible rfl)
              simp only [Act.put, List.setIfInBounds_toArray, List.set_cons_zero, List.set_cons_succ]
              refine Upto.take (i := 11) (v := ?_) rfl (by kernel_rfl) (fun _ _ _ h => h) rfl (fun w' hS => ?_) hS0 ?_
              rotate_left
              · (try dsimp only at hS); go_split_ands; go_simp; (try with_reducible rfl)
              simp only [Act.put, List.setIfInBounds_toArray, List.set_cons_zero, List.set_cons_succ]
              refine Upto.take (i := 12) (v := ?_) rfl (by kernel_rfl) (fun _ _ _ h => h) rfl (fun w' hS => ?_) hS0 ?_
              rotate_left
              · (try dsimp only at hS); go_split_ands; go_simp; (try with_reducible rfl)
              simp only [Act.put, List.setIfInBounds_toArray, List.set_cons_zero, List.set_cons_succ]
              refine Upto.take (i := 13) (v := ?_) rfl (by kernel_rfl) (fun _ _ _ h => h) rfl (fun w' hS => ?_) hS0 ?_
              rotate_left
              · (try dsimp only at hS); go_split_ands; go_simp; (try with_reducible rfl)
              simp only [Act.put, List.setIfInBounds_toArray, List.set_cons_zero, List.set_cons_succ]
              refine Upto.takeG (i := 14) (v := ?_) rfl (by kernel_rfl) (fun _ _ _ h => h) rfl (fun w' hS => ?_) hS0 ?_
              rotate_left
              · (try dsimp only at hS); go_split_ands; go_simp; (try with_reducible rfl)
              simp only [Act.put, List.setIfInBounds_toArray, List.set_cons_zero, List.set_cons_succ]
              refine Upto.takeG (i := 15) (v := ?_) rfl (by kernel_rfl) (fun _ _ _ h => h) rfl (fun w' hS => ?_) hS0 ?_
              rotate_left
              · (try dsimp only at hS); go_split_ands; go_simp; (try with_reducible rfl)
              simp only [Act.put, List.setIfInBounds_toArray, List.set_cons_zero, List.set_cons_succ]
              refine Upto.takeG (i := 16) (v := ?_) rfl (by kernel_rfl) (fun _ _ _ h => h) rfl (fun w' hS => ?_) hS0 ?_
              rotate_left
              · (try dsimp only at hS); go_split_ands; go_simp; (try with_reducible rfl)
              simp only [Act.put, List.setIfInBounds_toArray, List.set_cons_zero, List.set_cons_succ]
              refine Upto.takeG (i := 17) (v := ?_) rfl (by kernel_rfl) (fun _ _ _ h => h) rfl (fun w' hS => ?_) hS0 ?_
              rotate_left
              · (try dsimp only at hS); go_split_ands; go_simp; (try with_reducible rfl)
              simp only [Act.put, List.setIfInBounds_toArray, List.set_cons_zero, List.set_cons_succ]
              refine Upto.takeG (i := 18) (v := ?_) rfl (by kernel_rfl) (fun _ _ _ h => h) rfl (fun w' hS => ?_) hS0 ?_
              rotate_left
              · (try dsimp only at hS); go_split_ands; go_simp; (try with_reducible rfl)
              simp only [Act.put, List.setIfInBounds_toArray, List.set_cons_zero, List.set_cons_succ]
              refine Upto.takeG (i := 19) (v := ?_) rfl (by kernel_rfl) (fun _ _ _ h => h) rfl (fun w' hS => ?_) hS0 ?_
              rotate_left
              · (try dsimp only at hS); go_split_ands; go_simp; (try with_reducible rfl)
              simp only [Act.put, List.setIfInBounds_toArray, List.set_cons_zero, List.set_cons_succ]
              refine Upto.takeG (i := 20) (v := ?_) rfl (by kernel_rfl) (fun _ _ _ h => h) rfl (fun w' hS => ?_) hS0 ?_
              rotate_left
              · (try dsimp only at hS); go_split_ands; go_simp; (try with_reducible rfl)
              simp only [Act.put, List.setIfInBounds_toArray, List.set_cons_zero, List.set_cons_succ]
              refine Upto.takeG (i := 21) (v := ?_) rfl (by kernel_rfl) (fun _ _ _ h => h) rfl (fun w' hS => ?_) hS0 ?_
              rotate_left
              · (try dsimp only at hS); go_split_ands; go_simp; (try with_reducible rfl)
              simp only [Act.put, List.setIfInBounds_toArray, List.set_cons_zero, List.set_cons_succ]
              refine Upto.takeG (i := 22) (v := ?_) rfl (by kernel_rfl) (fun _ _ _ h => h) rfl (fun w' hS => ?_) hS0 ?_
              rotate_left
              · (try dsimp only at hS); go_split_ands; go_simp; (try with_reducible rfl)
              simp only [Act.put, List.setIfInBounds_toArray, List.set_cons_zero, List.set_cons_succ]
              refine Upto.takeG (i := 23) (v := ?_) rfl (by kernel_rfl) (fun _ _ _ h => h) rfl (fun w' hS => ?_) hS0 ?_
              rotate_left
              · (try dsimp only at hS); go_split_ands; go_simp; (try with_reducible rfl)
              simp only [Act.put, List.setIfInBounds_toArray, List.set_cons_zero, List.set_cons_succ]
              refine Upto.takeG (i := 24) (v := ?_) rfl (by kernel_rfl) (fun _ _ _ h => h) rfl (fun w' hS => ?_) hS0 ?_
              rotate_left
              · (try dsimp only at hS); go_split_ands; go_simp; (try with_reducible rfl)
              simp only [Act.put, List.setIfInBounds_toArray, List.set_cons_zero, List.set_cons_succ]
              refine Upto.takeG (i := 25) (v := ?_) rfl (by kernel_rfl) (fun _ _ _ h => h) rfl (fun w' hS => ?_) hS0 ?_
              rotate_left
              · (try dsimp only at hS); go_split_ands; go_simp; (try with_reducible rfl)
              simp only [Act.put, List.setIfInBounds_toArray, List.set_cons_zero, List.set_cons_succ]
              refine Upto.lawG (i := 26) rfl (by kernel_rfl) rfl (fun K hK => ?_)
              refine wp_enter (f := 46) (args := #[.slice z.mA z.mn z.mc, .slice z'.mA z'.mn z'.mc]) (by go_simp) (CI.out _ HBD.out) ?_
              rintro e W3 ⟨rfl, m3, hw3⟩
              have hb4 : Below W1.heap.size W1 W3 := by rw [hw3]; exact below_drewN HBD.out m3
              refine ⟨_, rfl, hK _ _ (KS.out W3 hb4) ?_⟩
              have HB4 := Lib.hid hb4
              clear hK hS0 hw3 hb4 KS CI HBD HBW
              simp only [Act.put, List.setIfInBounds_toArray, List.set_cons_zero, List.set_cons_succ]
              refine Upto.tail rfl (by kernel_rfl) ?_
              simp only [List.drop_succ_cons, List.drop_zero]
              go_wp2_with fail
              refine NoPanic.normal ?_
              go_wp2_with fail
              go_roundw
              case rel => exact ⟨k3 + 1, by omega, by go_num, HB4.out⟩
              case measure => simp [intOf]; omega
            · obtain hkk : k3 = en := by omega
              have R := Lib.hid (HB.out.trans (HBW.out.mono HB.out.size))
              go_wp2_with fail
              go_ret
              exact ⟨rfl, R.out⟩
end Go.Proofs.Ytpaknpemkmhapaa
