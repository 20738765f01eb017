/- What it says: 'Rows.SheetPayloadsCardSaid': for every input trothlaw08.SheetPayloads answers true, and what came in reads behind the call as before. No condition but that the listed variables read as the program's text lays them, which the card ties. -/
import Derived.Test.YtljpnngknmpdoaaDoorPq4
import Derived.Test.YtljpnngknmpdoaaDoorPq5
import Derived.Test.YtljpnngknmpdoaaDoorPq6
import Derived.Test.YtljpnngknmpdoaaDoorCards
import Derived.Test.YtljpnngknmpdoaaDoorTie
import Derived.SevenTiedAt
import Derived.LaidMore
import Derived.Stop.Joined

set_option linter.unusedSimpArgs false
set_option linter.unusedVariables false
set_option linter.deprecated false
set_option linter.unusedSectionVars false
set_option linter.all false

/- the Go text of trothlaw08.SheetPayloads answers true, and writes nothing that was there. -/
namespace Go.Proofs.YtljpnngknmpdoaaDoor
open Go.RowKit

def encE (x : Sh) : Int := if storP x then 0 else 1
def encL (x : Sh) : List Int := if storP x then encS x else []
theorem RetEnc.flat {x : Sh} {w w' : World} {e : Ending} (h : RetEnc x w e w') : ∃ A n c, e = .returned (.tuple #[.slice A n c, .int .i64 (encE x)]) ∧ Byt w' A n c (encL x) ∧ Below w.heap.size w w' := by
  rcases h with ⟨hs, A, n, c, rfl, hb, b⟩ | ⟨hs, rfl, b⟩
  · exact ⟨A, n, c, by unfold encE; rw [if_pos hs], by unfold encL; rw [if_pos hs]; exact hb, b⟩
  · exact ⟨none, 0, 0, by unfold encE; rw [if_neg hs], by unfold encL; rw [if_neg hs]; exact Byt.nil w', b⟩

/-- A sheet, part by part, and an error. -/
def RetDecP (pi pp pf : Int) (pd : ByteArray) (ge : Int) (w : World) (e : Ending) (w' : World) : Prop := e = .returned (.tuple #[.agg #[.int .i64 pi, .int .i64 pp, .int .i64 pf, .string pd], .int .i64 ge]) ∧ Below w.heap.size w w'
theorem RetDec8.to {b : List Int} {w w' : World} {e : Ending} {pi pp pf : Int} {pd : ByteArray} {ge : Int} (h : RetDec8 b w e w') (hp : decRes b = ⟨pi, pp, pf, pd⟩) (hg : decErr b = ge) : RetDecP pi pp pf pd ge w e w' := by
  unfold RetDec8 at h
  rw [hp, hg] at h
  exact h

set_option maxHeartbeats 1000000 in
theorem sheetPayloads_awake (inc pos first : Int) (data : ByteArray) (A : Option Addr) (n c : Nat) (l : List Int) (w : World) (hx : (⟨inc, pos, first, data⟩ : Sh).In) (h : Byt w A n c l) (hT : Tab w) (hg : 500 < data.size ∨ (data.size ≤ 500 ∧ 500 < n)) :
    Calls Tryd.prog 3 #[.agg #[.int .i64 inc, .int .i64 pos, .int .i64 first, .string data], .slice A n c] w (Ret (.bool true) w) := by
  obtain ⟨_, _, _, hd⟩ := hx
  unfold maxLen at hd
  simp only at hd
  have hcap := h.cap
  have hmax := h.max
  unfold maxLen at hmax
  obtain ⟨W1, hW1⟩ : ∃ W1, W1 = w.alloc (.cells #[.int .i64 inc, .int .i64 pos, .int .i64 first, .string data] 23) := ⟨_, rfl⟩
  obtain ⟨r, hr⟩ : ∃ r, w.heap.size = r := ⟨_, rfl⟩
  have b1 : Below w.heap.size w W1 := by rw [hW1]; exact (Below.refl _ _).alloc (Nat.le_refl _) _
  have v1 : Bk W1 r 23 #[.int .i64 inc, .int .i64 pos, .int .i64 first, .string data] := by rw [hW1, ← hr]; exact Bk.new _ _ _
  have HT := Lib.hid (hT.ret b1)
  have a3 : W1.cell? ⟨r, 3, none⟩ = some (.string data) := v1.cell 3
  have HW := Lib.hid hW1
  have HB := Lib.hid b1
  have hr' := Lib.hid hr
  clear h hT hW1 v1 b1 hr
  rcases hg with q1 | ⟨q1, q2⟩
  all_goals
    go_enter Tryd.func3, Tryd.ntmps3
    go_upto_region 1 with fail
    rw [hr'.out, ← HW.out]
    clear HW
    go_wp2_with fail
    refine (awake8 _ HT.out).mono ?_
    rintro e w1 ⟨rfl, b1⟩
    have B1 := Lib.hid (HB.out.trans (b1.mono HB.out.size))
    clear b1
    go_wp2_with fail
    go_ret
    exact ⟨rfl, B1.out⟩

set_option maxRecDepth 100000 in
set_option maxHeartbeats 8000000 in
theorem sheetPayloads_main (inc pos first : Int) (data : ByteArray) (A : Option Addr) (n c : Nat) (l : List Int) (w : World) (hx : (⟨inc, pos, first, data⟩ : Sh).In) (h : Byt w A n c l) (hT : Tab w) (hd5 : data.size ≤ 500) (hn5 : n ≤ 500) :
    Calls Tryd.prog 3 #[.agg #[.int .i64 inc, .int .i64 pos, .int .i64 first, .string data], .slice A n c] w (Ret (.bool true) w) := by
  have hcap := h.cap
  have hmax := h.max
  unfold maxLen at hmax
  have CE := Lib.hid (fun W => shEnc_any ⟨inc, pos, first, data⟩ W hx (by simp only; omega))
  have CR := Lib.hid (fun W => rEnc_any ⟨inc, pos, first, data⟩ W hx (by simp only; omega))
  obtain ⟨W1, hW1⟩ : ∃ W1, W1 = w.alloc (.cells #[.int .i64 inc, .int .i64 pos, .int .i64 first, .string data] 23) := ⟨_, rfl⟩
  obtain ⟨r, hr⟩ : ∃ r, w.heap.size = r := ⟨_, rfl⟩
  have b1 : Below w.heap.size w W1 := by rw [hW1]; exact (Below.refl _ _).alloc (Nat.le_refl _) _
  have v1 : Bk W1 r 23 #[.int .i64 inc, .int .i64 pos, .int .i64 first, .string data] := by rw [hW1, ← hr]; exact Bk.new _ _ _
  have H0 := Lib.hid h
  have HT := Lib.hid hT
  have a3 : W1.cell? ⟨r, 3, none⟩ = some (.string data) := v1.cell 3
  have HW := Lib.hid hW1
  have HV := Lib.hid v1
  have HB := Lib.hid b1
  have hr' := Lib.hid hr
  have HX := Lib.hid hx
  obtain ⟨eE, heE⟩ : ∃ e, encE ⟨inc, pos, first, data⟩ = e := ⟨_, rfl⟩
  have HEE := Lib.hid heE
  obtain ⟨⟨pi, pp, pf, pd⟩, hpr⟩ : ∃ z, decRes l = z := ⟨_, rfl⟩
  obtain ⟨ge, hge⟩ : ∃ e, decErr l = e := ⟨_, rfl⟩
  have HPR := Lib.hid hpr
  have HGE := Lib.hid hge
  have CD := Lib.hid (fun (A : Option Addr) (n c : Nat) (W : World) (hb : Byt W A n c l) (hn : n ≤ 1000) => (shDec_any A n c l W hb hn).mono (fun _ _ q => q.to hpr hge))
  have CG := Lib.hid (fun (A : Option Addr) (n c : Nat) (W : World) (hb : Byt W A n c l) (hn : n ≤ 1000) => (rDec_any A n c l W hb hn).mono (fun _ _ q => q.to hpr hge))
  obtain ⟨i0, hi, hz0, hz1, hz2⟩ := info_parts info_u8
  clear h hT hW1 v1 b1 hr hx heE hpr hge
  go_enter Tryd.func3, Tryd.ntmps3
  go_upto_region 1 with fail
  rw [hr'.out, ← HW.out]
  clear HW
  go_wp2_with (refine wpList_load_row rfl _ _ rfl _ rfl _ _ _ _ HV.out Tryd.underlying23 rfl (by kernel_rfl) ?_)
  refine (CE.out _).mono ?_
  rintro e w2 he2
  obtain ⟨A2, n2, c2, rfl, hb2, b2⟩ := he2.flat
  rw [HEE.out]
  have HE2 := Lib.hid he2
  have B2 := Lib.hid (HB.out.trans (b2.mono HB.out.size))
  have V2 := Lib.hid (HV.out.bel b2 HV.out.lt)
  have H2 := Lib.hid hb2
  have hcap2 := hb2.cap
  have hmax2 := hb2.max
  unfold maxLen at hmax2
  clear he2 hb2 b2 a3 HV HB
  go_wp2_with (refine wpList_load_row rfl _ _ rfl _ rfl _ _ _ _ V2.out Tryd.underlying23 rfl (by kernel_rfl) ?_)
  refine (CR.out _).mono ?_
  rintro e w3 he3
  obtain ⟨A3, n3, c3, rfl, hb3, b3⟩ := he3.flat
  rw [HEE.out]
  have B3 := Lib.hid (B2.out.trans (b3.mono B2.out.size))
  have V3 := Lib.hid (V2.out.bel b3 V2.out.lt)
  have H3 := Lib.hid hb3
  have H23 := Lib.hid (H2.out.below b3)
  clear he3 hb3 b3 V2 B2 H2 CR
  have hown0 := World.ownsRow_made (base := w3.heap.size) (e := 5) (size := 1) w3 #[] 0 (Nat.le_refl _) (Nat.zero_le _) rfl
  have HY3 := Lib.hid (H0.out.below B3.out)
  go_wp2_with (at_builtin; refine wpList_append_byt rfl _ _ 24 rfl w3.heap.size 5 i0 Tryd.underlying24 hi hz0 hz1 hz2 _ 0 [] rfl (by exact hown0) A n c l rfl (HY3.out.alloc _) (by omega) (by simp) ?_)
  intro A4 c4 w4 k1 k2
  have hb4 : Byt w4 A4 n c4 l := Byt.of_own (by simpa using k1) H0.out.rng
  have b4 : Below w3.heap.size w3 w4 := ((Below.refl _ _).alloc (Nat.le_refl _) _).grown k2 (by simp) (by intro k hk; simp [Value.ownBlock] at hk; omega)
  (try rw [Nat.zero_add])
  have B4 := Lib.hid (B3.out.trans (b4.mono B3.out.size))
  have V4 := Lib.hid (V3.out.bel b4 V3.out.lt)
  have X4 := Lib.hid (H23.out.below b4)
  have Y4 := Lib.hid (H3.out.below b4)
  have C4 := Lib.hid (CD.out A4 n c4 w4 hb4 (by omega))
  clear k1 k2 hown0 hb4 b4 B3 V3 H3 H23 HY3
  go_wp2_with fail
  refine C4.out.mono ?_
  rintro e w5 ⟨rfl, b5⟩
  have B5 := Lib.hid (B4.out.trans (b5.mono B4.out.size))
  have V5 := Lib.hid (V4.out.bel b5 V4.out.lt)
  have X5 := Lib.hid (X4.out.below b5)
  have Y5 := Lib.hid (Y4.out.below b5)
  clear b5 B4 V4 X4 Y4 C4
  go_wp2_with fail
  obtain ⟨W5, hW⟩ : ∃ W, W = w5.alloc (.cells #[.int .i64 pi, .int .i64 pp, .int .i64 pf, .string pd] 23) := ⟨_, rfl⟩
  obtain ⟨s5, hs⟩ : ∃ s, w5.heap.size = s := ⟨_, rfl⟩
  rw [← hW, hs]
  have bw : Below w5.heap.size w5 W5 := by rw [hW]; exact (Below.refl _ _).alloc (Nat.le_refl _) _
  have B5' := Lib.hid (B5.out.trans (bw.mono B5.out.size))
  have Ns5 : Hid (Bk W5 s5 23 #[.int .i64 pi, .int .i64 pp, .int .i64 pf, .string pd]) := Lib.hid (by rw [hW, ← hs]; exact Bk.new _ _ _)
  have V5' := Lib.hid (V5.out.bel bw V5.out.lt)
  have X5' := Lib.hid (X5.out.below bw)
  have Y5' := Lib.hid (Y5.out.below bw)
  clear bw hW hs B5 V5 X5 Y5
  have C5 := Lib.hid (CG.out A n c W5 (H0.out.below B5'.out) (by omega))
  refine C5.out.mono ?_
  rintro e w6 ⟨rfl, b6⟩
  have B6 := Lib.hid (B5'.out.trans (b6.mono B5'.out.size))
  have V6 := Lib.hid (V5'.out.bel b6 V5'.out.lt)
  have P6 := Lib.hid (Ns5.out.bel b6 Ns5.out.lt)
  have X6 := Lib.hid (X5'.out.below b6)
  have Y6 := Lib.hid (Y5'.out.below b6)
  clear b6 B5' V5' X5' Y5' Ns5 C5
  go_wp2_with fail
  obtain ⟨W6, hW⟩ : ∃ W, W = w6.alloc (.cells #[.int .i64 pi, .int .i64 pp, .int .i64 pf, .string pd] 23) := ⟨_, rfl⟩
  obtain ⟨s6, hs⟩ : ∃ s, w6.heap.size = s := ⟨_, rfl⟩
  rw [← hW, hs]
  have bw : Below w6.heap.size w6 W6 := by rw [hW]; exact (Below.refl _ _).alloc (Nat.le_refl _) _
  have B6' := Lib.hid (B6.out.trans (bw.mono B6.out.size))
  have Ns6 : Hid (Bk W6 s6 23 #[.int .i64 pi, .int .i64 pp, .int .i64 pf, .string pd]) := Lib.hid (by rw [hW, ← hs]; exact Bk.new _ _ _)
  have V6' := Lib.hid (V6.out.bel bw V6.out.lt)
  have P6' := Lib.hid (P6.out.bel bw P6.out.lt)
  have X6' := Lib.hid (X6.out.below bw)
  have Y6' := Lib.hid (Y6.out.below bw)
  clear bw hW hs B6 V6 P6 X6 Y6
  have CS := Lib.hid (same_yes A2 n2 c2 A3 n3 c3 _ _ W6 X6'.out Y6'.out rfl)
  go_wp2_with fail
  refine CS.out.mono ?_
  rintro e w7 ⟨rfl, k7, h7⟩
  have B7 : Hid (Below w.heap.size w w7) := Lib.hid (by rw [h7]; exact below_drewN B6'.out k7)
  have V7 : Hid (Bk w7 r 23 #[.int .i64 inc, .int .i64 pos, .int .i64 first, .string data]) := Lib.hid (by rw [h7]; exact V6'.out)
  have X7 := Lib.hid (X6'.out.drewN k7)
  rw [← h7] at X7
  have P7 : Bk w7 s5 23 #[.int .i64 pi, .int .i64 pp, .int .i64 pf, .string pd] := by rw [h7]; exact P6'.out
  have Q7 : Bk w7 s6 23 #[.int .i64 pi, .int .i64 pp, .int .i64 pf, .string pd] := by rw [h7]; exact Ns6.out
  have HP7 := Lib.hid P7
  have a0 : w7.cell? ⟨s5, 0, none⟩ = some (.int .i64 pi) := P7.cell 0
  have a1 : w7.cell? ⟨s5, 1, none⟩ = some (.int .i64 pp) := P7.cell 1
  have a2 : w7.cell? ⟨s5, 2, none⟩ = some (.int .i64 pf) := P7.cell 2
  have a3 : w7.cell? ⟨s5, 3, none⟩ = some (.string pd) := P7.cell 3
  have d0 : w7.cell? ⟨s6, 0, none⟩ = some (.int .i64 pi) := Q7.cell 0
  have d1 : w7.cell? ⟨s6, 1, none⟩ = some (.int .i64 pp) := Q7.cell 1
  have d2 : w7.cell? ⟨s6, 2, none⟩ = some (.int .i64 pf) := Q7.cell 2
  have d3 : w7.cell? ⟨s6, 3, none⟩ = some (.string pd) := Q7.cell 3
  clear h7 P7 Q7 B6' V6' X6' Y6' P6' Ns6 CS
  by_cases hst : storP ⟨inc, pos, first, data⟩
  · obtain rfl : eE = 0 := by rw [← HEE.out]; exact if_pos hst
    obtain ⟨u1, u2⟩ := dec_enc hst
    have u3 : decRes (encS ⟨inc, pos, first, data⟩) = ⟨inc, pos, first, data⟩ := by unfold decRes; rw [if_pos u1]; exact u2
    have xb := X7.out
    rw [show encL ⟨inc, pos, first, data⟩ = encS ⟨inc, pos, first, data⟩ from if_pos hst] at xb
    have C8 := Lib.hid ((shDec_any A2 n2 c2 _ w7 xb (by rw [← xb.len, encS_len]; simp only; omega)).mono (fun _ _ q => q.to u3 u1))
    clear hst u1 u2 u3 xb X7
    go_wp2_with fail
    refine C8.out.mono ?_
    rintro e w8 ⟨rfl, b8⟩
    have B8 := Lib.hid (B7.out.trans (b8.mono B7.out.size))
    have V8 := Lib.hid (V7.out.bel b8 V7.out.lt)
    have P8 := Lib.hid (HP7.out.bel b8 HP7.out.lt)
    clear b8 a0 a1 a2 a3 d0 d1 d2 d3 C8 B7 V7 HP7
    have B9 : Hid (Below w.heap.size w (w8.alloc (.cells #[.int .i64 inc, .int .i64 pos, .int .i64 first, .string data] 23))) := Lib.hid (B8.out.alloc B8.out.size _)
    have v0 : (w8.alloc (.cells #[.int .i64 inc, .int .i64 pos, .int .i64 first, .string data] 23)).cell? ⟨r, 0, none⟩ = some (.int .i64 inc) := Lib.cell?_alloc_some _ (V8.out.cell 0)
    have v1 : (w8.alloc (.cells #[.int .i64 inc, .int .i64 pos, .int .i64 first, .string data] 23)).cell? ⟨r, 1, none⟩ = some (.int .i64 pos) := Lib.cell?_alloc_some _ (V8.out.cell 1)
    have v2 : (w8.alloc (.cells #[.int .i64 inc, .int .i64 pos, .int .i64 first, .string data] 23)).cell? ⟨r, 2, none⟩ = some (.int .i64 first) := Lib.cell?_alloc_some _ (V8.out.cell 2)
    have v3 : (w8.alloc (.cells #[.int .i64 inc, .int .i64 pos, .int .i64 first, .string data] 23)).cell? ⟨r, 3, none⟩ = some (.string data) := Lib.cell?_alloc_some _ (V8.out.cell 3)
    have a0 : (w8.alloc (.cells #[.int .i64 inc, .int .i64 pos, .int .i64 first, .string data] 23)).cell? ⟨s5, 0, none⟩ = some (.int .i64 pi) := Lib.cell?_alloc_some _ (P8.out.cell 0)
    have a1 : (w8.alloc (.cells #[.int .i64 inc, .int .i64 pos, .int .i64 first, .string data] 23)).cell? ⟨s5, 1, none⟩ = some (.int .i64 pp) := Lib.cell?_alloc_some _ (P8.out.cell 1)
    have a2 : (w8.alloc (.cells #[.int .i64 inc, .int .i64 pos, .int .i64 first, .string data] 23)).cell? ⟨s5, 2, none⟩ = some (.int .i64 pf) := Lib.cell?_alloc_some _ (P8.out.cell 2)
    have a3 : (w8.alloc (.cells #[.int .i64 inc, .int .i64 pos, .int .i64 first, .string data] 23)).cell? ⟨s5, 3, none⟩ = some (.string pd) := Lib.cell?_alloc_some _ (P8.out.cell 3)
    clear B8 V8 P8
    by_cases hg : ge = 0
    · subst hg
      have GS : storP (decSh l) := by
        have e := HGE.out
        unfold decErr at e
        split at e
        · cases e
        · split at e
          · cases e
          · split at e
            · assumption
            · cases e
      have GP : decSh l = ⟨pi, pp, pf, pd⟩ := by
        rw [← HPR.out]
        unfold decRes
        rw [if_pos HGE.out]
      have gq := enc_dec H0.out.rng HGE.out
      rw [GP] at gq GS
      have GI := Lib.hid (show (⟨pi, pp, pf, pd⟩ : Sh).In by rw [← GP]; exact decSh_in H0.out.rng (by rw [H0.out.len]; omega))
      have GD : Hid ((⟨pi, pp, pf, pd⟩ : Sh).data.size ≤ 1000) := Lib.hid (by have := GS.2.2.1; omega)
      have GE : Hid (encE ⟨pi, pp, pf, pd⟩ = 0) := Lib.hid (if_pos GS)
      have GL : Hid (encL ⟨pi, pp, pf, pd⟩ = encS ⟨pi, pp, pf, pd⟩) := Lib.hid (if_pos GS)
      have GQ := Lib.hid gq.1
      have GN : Hid ((encS ⟨pi, pp, pf, pd⟩).length ≤ n) := Lib.hid (by rw [← H0.out.len]; exact gq.2)
      clear gq GS GP
      have CP := Lib.hid (shEnc_any ⟨pi, pp, pf, pd⟩ (w8.alloc (.cells #[.int .i64 inc, .int .i64 pos, .int .i64 first, .string data] 23)) GI.out GD.out)
      go_wp2_with fail
      refine CP.out.mono ?_
      rintro e w10 he10
      obtain ⟨A10, n10, c10, rfl, hb10, b10⟩ := he10.flat
      rw [GE.out]
      rw [GL.out] at hb10
      have hn10 : n10 ≤ n := by rw [← hb10.len]; exact GN.out
      have hn10' : ¬ (n : Int) < (n10 : Int) := by omega
      have B10 := Lib.hid (B9.out.trans (b10.mono B9.out.size))
      obtain ⟨B11, d11, hs11, hb11⟩ := cut_h (H0.out.below B10.out) n10 hn10 (n10 : Int) rfl
      have hmx := hb10.max
      have hcp := hb10.cap
      unfold maxLen at hmx
      have CS := Lib.hid (same_yes A10 n10 c10 B11 n10 d11 _ _ w10 hb10 hb11 (by rw [← hb10.len]; exact GQ.out))
      clear he10 hb10 hb11 b10 CP B9
      go_wp2_with fail
      refine CS.out.mono ?_
      rintro e w11 ⟨rfl, k11, h11⟩
      have B11 : Hid (Below w.heap.size w w11) := Lib.hid (by rw [h11]; exact below_drewN B10.out k11)
      clear h11 CS B10 hs11
      go_wp2_with fail
      refine (awake8 _ (HT.out.ret B11.out)).mono ?_
      rintro e w20 ⟨rfl, b20⟩
      have B20 := Lib.hid (B11.out.trans (b20.mono B11.out.size))
      clear b20
      go_wp2_with fail
      go_ret
      exact ⟨rfl, B20.out⟩
    · have hg0 : (ge == 0) = false := by simp [hg]
      go_wp2_with fail
      refine (awake8 _ (HT.out.ret B9.out)).mono ?_
      rintro e w20 ⟨rfl, b20⟩
      have B20 := Lib.hid (B9.out.trans (b20.mono B9.out.size))
      clear b20
      go_wp2_with fail
      go_ret
      exact ⟨rfl, B20.out⟩
  · have hE : eE = 1 := by rw [← HEE.out]; exact if_neg hst
    subst hE
    clear hst X7 V7 HP7
    by_cases hg : ge = 0
    · subst hg
      have GS : storP (decSh l) := by
        have e := HGE.out
        unfold decErr at e
        split at e
        · cases e
        · split at e
          · cases e
          · split at e
            · assumption
            · cases e
      have GP : decSh l = ⟨pi, pp, pf, pd⟩ := by
        rw [← HPR.out]
        unfold decRes
        rw [if_pos HGE.out]
      have gq := enc_dec H0.out.rng HGE.out
      rw [GP] at gq GS
      have GI := Lib.hid (show (⟨pi, pp, pf, pd⟩ : Sh).In by rw [← GP]; exact decSh_in H0.out.rng (by rw [H0.out.len]; omega))
      have GD : Hid ((⟨pi, pp, pf, pd⟩ : Sh).data.size ≤ 1000) := Lib.hid (by have := GS.2.2.1; omega)
      have GE : Hid (encE ⟨pi, pp, pf, pd⟩ = 0) := Lib.hid (if_pos GS)
      have GL : Hid (encL ⟨pi, pp, pf, pd⟩ = encS ⟨pi, pp, pf, pd⟩) := Lib.hid (if_pos GS)
      have GQ := Lib.hid gq.1
      have GN : Hid ((encS ⟨pi, pp, pf, pd⟩).length ≤ n) := Lib.hid (by rw [← H0.out.len]; exact gq.2)
      clear gq GS GP
      have CP := Lib.hid (shEnc_any ⟨pi, pp, pf, pd⟩ w7 GI.out GD.out)
      go_wp2_with fail
      refine CP.out.mono ?_
      rintro e w10 he10
      obtain ⟨A10, n10, c10, rfl, hb10, b10⟩ := he10.flat
      rw [GE.out]
      rw [GL.out] at hb10
      have hn10 : n10 ≤ n := by rw [← hb10.len]; exact GN.out
      have hn10' : ¬ (n : Int) < (n10 : Int) := by omega
      have B10 := Lib.hid (B7.out.trans (b10.mono B7.out.size))
      obtain ⟨B11, d11, hs11, hb11⟩ := cut_h (H0.out.below B10.out) n10 hn10 (n10 : Int) rfl
      have hmx := hb10.max
      have hcp := hb10.cap
      unfold maxLen at hmx
      have CS := Lib.hid (same_yes A10 n10 c10 B11 n10 d11 _ _ w10 hb10 hb11 (by rw [← hb10.len]; exact GQ.out))
      clear he10 hb10 hb11 b10 CP B7
      go_wp2_with fail
      refine CS.out.mono ?_
      rintro e w11 ⟨rfl, k11, h11⟩
      have B11 : Hid (Below w.heap.size w w11) := Lib.hid (by rw [h11]; exact below_drewN B10.out k11)
      clear h11 CS B10 hs11
      go_wp2_with fail
      refine (awake8 _ (HT.out.ret B11.out)).mono ?_
      rintro e w20 ⟨rfl, b20⟩
      have B20 := Lib.hid (B11.out.trans (b20.mono B11.out.size))
      clear b20
      go_wp2_with fail
      go_ret
      exact ⟨rfl, B20.out⟩
    · have hg0 : (ge == 0) = false := by simp [hg]
      go_wp2_with fail
      refine (awake8 _ (HT.out.ret B7.out)).mono ?_
      rintro e w20 ⟨rfl, b20⟩
      have B20 := Lib.hid (B7.out.trans (b20.mono B7.out.size))
      clear b20
      go_wp2_with fail
      go_ret
      exact ⟨rfl, B20.out⟩

theorem sheetPayloads_walk (x : Sh) (A : Option Addr) (n c : Nat) (l : List Int) (w : World) (hx : x.In) (h : Byt w A n c l) (_hn : n ≤ 140737488351232) (hT : Tab w) :
    Calls Tryd.prog 3 #[.agg x.cells.toArray, .slice A n c] w (Ret (.bool true) w) := by
  obtain ⟨inc, pos, first, data⟩ := x
  by_cases h1 : 500 < data.size
  · exact sheetPayloads_awake inc pos first data A n c l w hx h hT (Or.inl h1)
  · by_cases h2 : 500 < n
    · exact sheetPayloads_awake inc pos first data A n c l w hx h hT (Or.inr ⟨by omega, h2⟩)
    · exact sheetPayloads_main inc pos first data A n c l w hx h hT (by omega) (by omega)
end Go.Proofs.YtljpnngknmpdoaaDoor

/- 'Rows.SheetPayloadsCardSaid': for every input trothlaw08.SheetPayloads answers true, and what came in reads behind the call as before. No condition but that the listed variables read as the program's text lays them, which the card ties. -/
namespace Go.Proofs.YtljpnngknmpdoaaDoor
open Go.ChangeShapes Go.WideShapes Go.ChangeAt Go.RowKit

theorem sheetPayloads_door (os : Os) (args : Array Value) : laidMetH Tryd.prog Rows.sheetPayloadsRow.laid ((World.doorLaid Tryd.prog 14 os).forCall (fun _ _ => 0) ⟨#[], args, []⟩).memory :=
  laidMetH_of_parts3 (fuel := 8) (laidMet_of_run' 8 (by kernel_rfl) (by kernel_rfl)) (by kernel_rfl) (by kernel_rfl)

set_option maxRecDepth 100000 in
theorem sheetPayloads_lifted (os : Os) (started : os.Started) (H : Type) (enc : TypeId × Value → H) :
    ReturnsInHanded {} Tryd.checked os 3 .any (fun w args => (Rows.sheetPayloadsSpec.pre enc Tryd.prog Tryd.f3 Rows.sheetPayloadsRow.domain false w args ∧ laidMetH Tryd.prog Rows.sheetPayloadsRow.laid w) ∧ sizedMet enc Tryd.prog Tryd.f3 (OpenSpec.ofChange Rows.sheetPayloadsSpec) false w args)
      (Rows.sheetPayloadsSpec.post enc Tryd.prog Tryd.f3 false true false false) := by
  refine returnsInHanded_of_change_and (C := Tryd.checked) (X := fun w _ => laidMetH Tryd.prog Rows.sheetPayloadsRow.laid w) (fun _ _ _ hh h => h.of_heap hh) own_knob started (by kernel_rfl) Tryd.func3
    (ChangeSpec.witness_shaped (enc := enc) (C := Tryd.checked) (os := os) (X := fun w _ => laidMetH Tryd.prog Rows.sheetPayloadsRow.laid w) false (World.doorLaid Tryd.prog 14 os) #[.agg #[.int .i64 0, .int .i64 0, .int .i64 0, .string ByteArray.empty], .slice none 0 0] 8 rfl (World.shaped_of_RefB (by kernel_rfl) (by kernel_rfl)) (by kernel_rfl) (by kernel_rfl) (by kernel_rfl) (sheetPayloads_door os _)) ?_
  intro W base args ds gs before hval0 hW _ hsz0 hL _
  have hsz : (DataW.weightsEach Tryd.prog (Tryd.f3.params.toList ++ Rows.sheetPayloadsSpec.plain.varTypes Tryd.prog) (ds ++ gs)).all (· ≤ reachBytes) = true := hsz0
  have hval : ∀ (j : Nat) t v, Tryd.f3.params[j]? = some t → args[j]? = some v → Value.okWide Tryd.prog W .any base t v := hval0
  have hW' := hW
  obtain ⟨p, q, hA0, hV, rfl, hfz, hnd⟩ := hW
  have hA : DataW.TrodAll enc Tryd.prog W 0 (fun _ => true) true Tryd.f3.params.toList args.toList ds p := hA0
  rw [Tryd.params3] at hA hval hsz
  obtain ⟨v0, vs0, d0, ds0, p0, q0, hargs, rfl, rfl, h0, r0⟩ := trodAll_cons hA
  obtain ⟨v1, vs1, d1, ds1, p1, q1, rfl, rfl, rfl, h1, r1⟩ := trodAll_cons r0
  obtain ⟨rfl, rfl, rfl⟩ := trodAll_nil r1
  obtain rfl : args = #[v0, v1] := by cases args; simp_all
  obtain ⟨rfl, rfl⟩ := trodVars_none hV
  have k0 := h0
  have lt0 : ∀ x ∈ p0, x.block < W.heap.size := by obtain ⟨m, hm⟩ := k0; exact DataW.trod_lt m _ _ _ hm
  obtain ⟨m0, rfl, b0⟩ := open_sheet (hval 0 23 v0 rfl rfl) h0
  obtain ⟨a1, n1, c1, rfl⟩ := okWide_slice Tryd.underlying24 (hval 1 24 v1 rfl rfl)
  have k1 := h1
  have lt1 : ∀ x ∈ p1, x.block < W.heap.size := by obtain ⟨m, hm⟩ := k1; exact DataW.trod_lt m _ _ _ hm
  obtain ⟨l1, b1, e1⟩ := open_bytes h1
  have z1 : n1 ≤ 140737488351232 := bytes_reach hsz (j := 1) rfl rfl e1
  clear hA0 hval0 hsz0 hsz
  refine (sheetPayloads_walk m0 a1 n1 c1 l1 W b0 b1 z1 (tab_of_laid hL)).mono fun e W' ⟨he, bel⟩ => ?_
  subst he
  exact ⟨_, rfl, _, _, _, [], _, [], hW', trodAll_mk1 (shut_bool Tryd.underlying4 _), (trodAll_cons_mk (Below.trod laidOut (by kernel_rfl) (of_decide_eq_true (by kernel_rfl)) k0 bel lt0) (trodAll_cons_mk (Below.trod laidOut (by kernel_rfl) (of_decide_eq_true (by kernel_rfl)) k1 bel lt1) trodAll_mk0)), rfl, bel.frame _, fun h => by cases h⟩

/-- The row. -/
theorem sheetPayloads_holds : Rows.SheetPayloadsSaid :=
  OpenClaim.holds_of_wide 3 Tryd.f3 rfl rfl rfl rfl rfl rfl rfl ⟨rfl, rfl, rfl, rfl, rfl⟩ rfl rfl rfl rfl rfl (by kernel_rfl) Tryd.func3 (by kernel_rfl)
    (of_decide_eq_true (by kernel_rfl)) (by unfold Func.isWrapper; first | (rw [if_pos (by decide +kernel)]; kernel_rfl) | (rw [if_neg (by decide +kernel)]; exact ⟨rfl, rfl⟩))
    (fun os started H enc _ => sheetPayloads_lifted os started H enc)

/-- The statement: the tied card. -/
theorem sheetPayloads_card : Rows.SheetPayloadsCardSaid :=
  Claim7.holds_tied_plain_at .later [] Rows.sheetPayloadsCard.laidKinds true Rows.sheetPayloadsCard.stood.harness false
    sheetPayloads_holds (fun _ h => by cases h) (by kernel_rfl) (fun _ h => by cases h) sheetPayloads_row_tie rfl ⟨rfl, rfl⟩ (by kernel_rfl) rfl
    (fun f fn hf hfn => by
      obtain rfl : f = 3 := Option.some.inj ((show Tryd.prog.funcNamed "troth/trothlaw08.SheetPayloads" = some 3 by kernel_rfl).symm.trans hf) |>.symm
      obtain rfl : fn = Tryd.f3 := (Option.some.inj (Tryd.func3.symm.trans hfn)).symm
      exact ⟨by kernel_rfl, fun j t ht => by
        rw [Tryd.params3] at ht
        have hm : t ∈ [23, 24] := by simpa using Array.mem_of_getElem? ht
        have hall : ([23, 24].all fun u => !Tryd.prog.wantsStandIn u) = true := by kernel_rfl
        exact (show Tryd.prog.wantsStandIn t = false by simpa using List.all_eq_true.1 hall t hm)⟩)
    (by kernel_rfl)
#print axioms sheetPayloads_card
end Go.Proofs.YtljpnngknmpdoaaDoor
