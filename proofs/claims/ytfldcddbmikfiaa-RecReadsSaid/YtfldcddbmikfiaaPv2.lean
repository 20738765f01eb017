/- What it says: contracts and plain mathematics that the laws' walks use, 2 of 9: each part's own remark says what; no condition. -/
import Derived.Test.YtfldcddbmikfiaaPv1

set_option linter.unusedSimpArgs false
set_option linter.unusedVariables false
set_option linter.deprecated false
set_option linter.unusedSectionVars false
set_option linter.all false

/- trothref07.readLists reads the lists of a checkpoint. -/
namespace Go.Proofs.Ytfldcddbmikfiaa
open Go.RowKit

theorem info_rwR : (Try.prog.info? 51).map (fun i => (i.zero, i.size, i.bytes)) = some (some (.agg #[.int .i64 0, .int .i64 0, .int .i64 0, .int .i64 0, .int .i64 0, .int .i64 0, .slice none 0 0, .slice none 0 0]), 8, 96) := by kernel_rfl
theorem info_dtR : (Try.prog.info? 89).map (fun i => (i.zero, i.size, i.bytes)) = some (some (.agg #[.int .i64 0, .int .i64 0]), 2, 16) := by kernel_rfl
theorem info_ddR : (Try.prog.info? 53).map (fun i => (i.zero, i.size, i.bytes)) = some (some (.agg #[.int .i64 0, .slice none 0 0]), 2, 32) := by kernel_rfl
theorem pN_i64 (σ : Sg) : i64 (pN σ).1 := pNum_i64 _ (by omega) (by omega) σ
theorem bs_dirtyR (W : World) (a b : Int) : (Instr.buildSlice 27 1 #[(0, .agg #[.int .i64 a, .int .i64 b])]).run Try.prog W = .ok (.slice (some ⟨W.heap.size, 0, none⟩) 1 1) (W.alloc (.cells #[.int .i64 a, .int .i64 b] 89)) := by
  first
    | (go_simp; done)
    | (go_simp; rfl)
theorem bs_deedR (W : World) (a : Int) (A : Option Addr) (n c : Nat) : (Instr.buildSlice 28 1 #[(0, .agg #[.int .i64 a, .slice A n c])]).run Try.prog W = .ok (.slice (some ⟨W.heap.size, 0, none⟩) 1 1) (W.alloc (.cells #[.int .i64 a, .slice A n c] 53)) := by
  first
    | (go_simp; done)
    | (go_simp; rfl)
theorem built_dirtyR (a b : Int) : Try.prog.built 89 [(0, .int .i64 a), (1, .int .i64 b)] = some #[.int .i64 a, .int .i64 b] := by kernel_rfl
theorem built_deedR (a : Int) (A : Option Addr) (n c : Nat) : Try.prog.built 53 [(0, .int .i64 a), (1, .slice A n c)] = some #[.int .i64 a, .slice A n c] := by kernel_rfl
theorem Bk.rowR {w : World} {g : Nat} {t : TypeId} {old : Array Value} (h : Bk w g t old) (cs : Array Value) : Bk (w.setRow g cs) g t cs := setRow_heap w g old cs _ _ h
theorem pRw_eq {σ s1 s2 s3 s4 s5 s6 s7 s8 : Sg} {z0 z1 z2 z3 z4 z5 : Int} {ml : List Int} {kl : List Lk} (h0 : pN σ = (z0, s1)) (h1 : pN s1 = (z1, s2)) (h2 : pN s2 = (z2, s3)) (h3 : pN s3 = (z3, s4)) (h4 : pN s4 = (z4, s5)) (h5 : pN s5 = (z5, s6)) (h6 : pInts s6 = (ml, s7)) (h7 : pLks s7 = (kl, s8)) :
    pRw σ = (⟨z0, z1, z2, z3, z4, z5, ml, kl⟩, s8) := by
  unfold pRw pBind
  simp only [h0, h1, h2, h3, h4, h5, h6, h7]
theorem pK_eq {σ sA sB sC sD : Sg} {rows : List Rw} {dts : List Dt} {dds : List Dd} {pl : List Int} (h0 : pList 256 pRw σ = (rows, sA)) (h1 : pList 256 pDt sA = (dts, sB)) (h2 : pList 256 pDd sB = (dds, sC)) (h3 : pInts sC = (pl, sD)) : pK σ = ((((rows, dts), dds), pl), sD) := by
  unfold pK pBind
  simp only [h0, h1, h2, h3]

/-- What is read of a checkpoint. -/
def RetLs (rb g : Nat) (σ : Sg) (w : World) (e : Ending) (w' : World) : Prop := ∃ y : Xr, e = .returned y.val ∧ y.read = mkK (pK σ).1 ∧ RdQ rb g w w' (pK σ).2 ∧
  y.mn = 0 ∧ y.mem = [] ∧ y.mA = none ∧ y.mc = 0 ∧ y.kn = 0 ∧ y.lks = [] ∧ y.kA = none ∧ y.kc = 0 ∧
  OwnL elRt w.heap.size w' y.rA y.rn y.rc y.rows ∧ OwnL elDt w.heap.size w' y.dA y.dn y.dc y.dirty ∧ OwnL elEt w.heap.size w' y.eA y.en y.ec y.deeds ∧ OwnL elI w.heap.size w' y.pA y.pn y.pc y.past ∧
  (∀ z ∈ y.rows, XwNew w.heap.size w' z) ∧ (∀ z ∈ y.deeds, XdNew w.heap.size w' z) ∧ (∀ d ∈ y.dirty, i64 d.page ∧ i64 d.lsn) ∧ (∀ x ∈ y.past, i64 x)

set_option maxRecDepth 100000 in
set_option maxHeartbeats 16000000 in
theorem readLists_any (rb g : Nat) (l : List Int) (e0 : Nat) (w : World) (h : Rd w 76 rb g l e0) (hg : g < w.heap.size) :
    Calls Try.prog 37 #[.pointer (some ⟨rb, 0, none⟩), .agg (cellsCk (.slice none 0 0) (.slice none 0 0) (.slice none 0 0) (.slice none 0 0))] w (RetLs rb g (l, e0) w) := by
  obtain ⟨ir, hir, hir0, hir1, hir2⟩ := info_parts info_rwR
  obtain ⟨id, hid', hid0, hid1, hid2⟩ := info_parts info_dtR
  obtain ⟨ie, hie, hie0, hie1, hie2⟩ := info_parts info_ddR
  obtain ⟨r, hr⟩ : ∃ r, w.heap.size = r := ⟨_, rfl⟩
  obtain ⟨W0, hW0⟩ : ∃ W, W = (w.alloc (.cells (cellsCk (.slice none 0 0) (.slice none 0 0) (.slice none 0 0) (.slice none 0 0)) 30)).alloc (.cells #[.int .i64 0, .int .i64 0, .int .i64 0, .int .i64 0, .string ⟨#[]⟩, .bool false, .string ⟨#[]⟩, .bool false, .string ⟨#[]⟩, .int .i64 0, .slice none 0 0, .slice none 0 0, .slice none 0 0, .slice none 0 0, .slice none 0 0, .slice none 0 0] 30) := ⟨_, rfl⟩
  have hrb := h.lt
  have L0 : Hid (LsW w W0 rb g r (none, 0, 0) (none, 0, 0) (none, 0, 0) [] [] [] (l, e0)) := Lib.hid (by
    have hal : Below w.heap.size w W0 := by rw [hW0]; exact ((Below.refl _ _).alloc (Nat.le_refl _) _).alloc (by simp) _
    have hgw : w.grownBy W0 none := ⟨hal.os, hal.tape, hal.output, hal.size, fun k hk _ => hal.block k hk⟩
    refine ⟨by omega, h.grown hgw (by simp) (by simp), ?_, ?_, hr, ⟨hal.os, hal.tape, hal.output, hal.size, fun k hk _ => hal.block k hk⟩, OwnL.nil _ _ _, OwnL.nil _ _ _, OwnL.nil _ _ _, by simp, by simp⟩
    · rw [hW0, ← hr]
      exact (Bk.new w _ _).bel ((Below.refl _ _).alloc (Nat.le_refl _) _) (by simp)
    · have := Bk.new (w.alloc (.cells (cellsCk (.slice none 0 0) (.slice none 0 0) (.slice none 0 0) (.slice none 0 0)) 30)) 30 #[.int .i64 0, .int .i64 0, .int .i64 0, .int .i64 0, .string ⟨#[]⟩, .bool false, .string ⟨#[]⟩, .bool false, .string ⟨#[]⟩, .int .i64 0, .slice none 0 0, .slice none 0 0, .slice none 0 0, .slice none 0 0, .slice none 0 0, .slice none 0 0]
      rw [World.size_alloc, hr] at this
      rw [hW0]
      exact this)
  obtain ⟨⟨cnt, σ1⟩, hM⟩ : ∃ x, pNum 256 (l, e0) = x := ⟨_, rfl⟩
  obtain ⟨k0, hk0, hk1⟩ := pNum_take 256 (by omega) (l, e0)
  rw [hM] at hk0
  simp only at hk0
  subst hk0
  have HM := Lib.hid hM
  have C1 := dNumR 256 (by omega) L0.out.rd
  rw [hM] at C1
  have C1 := Lib.hid C1
  have HW := Lib.hid hW0
  have HR := Lib.hid hr
  unfold cellsCk at HW
  unfold cellsCk
  clear h hM hW0 hg hrb hr
  go_enter Try.func37, Try.ntmps37
  go_wp2_with fail
  rw [← HW.out, HR.out]
  refine C1.out.mono ?_
  rintro e w1 ⟨rfl, hr1, g1⟩
  have L1 := Lib.hid (L0.out.read (σ' := σ1) hr1 g1)
  clear hr1 g1 C1 L0 HW
  go_wp2_with fail
  go_loopw [6, 7] (fun i _ wr => ∃ (k : Nat) (R : Option Addr × Nat × Nat) (rows : List Xw), k ≤ k0 ∧ i = .int .i64 (k : Nat) ∧ R.2.1 = k ∧ rows.map Xw.row = (pRep pRw σ1 k).1 ∧ LsW w wr rb g r R (none, 0, 0) (none, 0, 0) rows [] [] (pRep pRw σ1 k).2) (fun i _ _ => k0 - (intOf i).toNat)
  case atStart => exact ⟨0, (none, 0, 0), [], Nat.zero_le _, rfl, rfl, rfl, L1.out⟩
  case round =>
    obtain ⟨k, ⟨RA, Rn, Rc⟩, rows, hk, rfl, hRk, hrows, hl⟩ := hrel
    simp only at hRk
    subst hRk
    have LK := Lib.hid hl
    have HROWS := Lib.hid hrows
    clear hl hrows L1
    by_cases hlt : Rn < k0
    · have hlt' : (Rn : Int) < (k0 : Int) := by omega
      obtain ⟨q, hq⟩ : ∃ q, wr.heap.size = q := ⟨_, rfl⟩
      obtain ⟨V0, hV0⟩ : ∃ W, W = wr.alloc (.cells #[.int .i64 0, .int .i64 0, .int .i64 0, .int .i64 0, .int .i64 0, .int .i64 0, .slice none 0 0, .slice none 0 0] 51) := ⟨_, rfl⟩
      have hal : Below wr.heap.size wr V0 := by rw [hV0]; exact (Below.refl _ _).alloc (Nat.le_refl _) _
      have M0 := Lib.hid (LK.out.new hal)
      have Q0 : Hid (Bk V0 q 51 #[.int .i64 0, .int .i64 0, .int .i64 0, .int .i64 0, .int .i64 0, .int .i64 0, .slice none 0 0, .slice none 0 0]) := Lib.hid (by rw [hV0, ← hq]; exact Bk.new _ _ _)
      have HRQ : Hid (r + 1 < q) := Lib.hid (by have := LK.out.res.lt; omega)
      have HNQ : Hid (∀ k, (Value.slice RA Rn Rc).ownBlock = some k → k < q) := Lib.hid (fun k hk => by have := (LK.out.ors.own.lt k hk).2; omega)
      have HV := Lib.hid hV0
      have HQ := Lib.hid hq
      obtain ⟨s0, hs0⟩ : ∃ s, (pRep pRw σ1 Rn).2 = s := ⟨_, rfl⟩
      rw [hs0] at M0
      have HS0 := Lib.hid hs0
      clear hal hV0 hq hs0 LK
      go_upto_region 6 with fail
      rw [← HV.out, HQ.out]
      clear HV HQ
      obtain ⟨⟨z0, s1⟩, h0⟩ : ∃ x, pN s0 = x := ⟨_, rfl⟩
      have HZ0 := Lib.hid h0
      have C := dNumR 1099511627776 (by omega) M0.out.rd
      rw [show pNum 1099511627776 (s0.1, s0.2) = (z0, s1) from h0] at C
      have C := Lib.hid C
      clear h0
      go_wp2_with fail
      refine C.out.mono ?_
      rintro e v0 ⟨rfl, hr, hg⟩
      have N0 := Lib.hid (M0.out.read (σ' := s1) hr hg)
      have P0 := Lib.hid (Q0.out.growR hg (fun q => by injection q with q; have := N0.out.ord; have := HRQ.out; omega))
      have fz : v0.frozen? ⟨q, 0, none⟩ = false := P0.out.frz 0
      have cz : v0.cell? ⟨q, 0, none⟩ = some (.int .i64 0) := P0.out.cell 0
      obtain ⟨V1, hV⟩ : ∃ W, W = v0.setCell ⟨q, 0, none⟩ (.int .i64 z0) := ⟨_, rfl⟩
      have M1 := Lib.hid (N0.out.set P0.out HNQ.out HRQ.out (i := 0) (.int .i64 z0))
      have Q1 : Hid (Bk (v0.setCell ⟨q, 0, none⟩ (.int .i64 z0)) q 51 #[.int .i64 z0, .int .i64 0, .int .i64 0, .int .i64 0, .int .i64 0, .int .i64 0, .slice none 0 0, .slice none 0 0]) := Lib.hid (by simpa using P0.out.setc 0 (.int .i64 z0))
      rw [← hV] at M1 Q1
      clear hr hg C M0 Q0 N0 P0
      go_upto_region 7 with fail
      rw [← hV]
      clear hV fz cz
      obtain ⟨⟨z1, s2⟩, h1⟩ : ∃ x, pN s1 = x := ⟨_, rfl⟩
      have HZ1 := Lib.hid h1
      have C := dNumR 1099511627776 (by omega) M1.out.rd
      rw [show pNum 1099511627776 (s1.1, s1.2) = (z1, s2) from h1] at C
      have C := Lib.hid C
      clear h1
      go_wp2_with fail
      refine C.out.mono ?_
      rintro e v1 ⟨rfl, hr, hg⟩
      have N1 := Lib.hid (M1.out.read (σ' := s2) hr hg)
      have P1 := Lib.hid (Q1.out.growR hg (fun q => by injection q with q; have := N1.out.ord; have := HRQ.out; omega))
      have fz : v1.frozen? ⟨q, 1, none⟩ = false := P1.out.frz 1
      have cz : v1.cell? ⟨q, 1, none⟩ = some (.int .i64 0) := P1.out.cell 1
      obtain ⟨V2, hV⟩ : ∃ W, W = v1.setCell ⟨q, 1, none⟩ (.int .i64 z1) := ⟨_, rfl⟩
      have M2 := Lib.hid (N1.out.set P1.out HNQ.out HRQ.out (i := 1) (.int .i64 z1))
      have Q2 : Hid (Bk (v1.setCell ⟨q, 1, none⟩ (.int .i64 z1)) q 51 #[.int .i64 z0, .int .i64 z1, .int .i64 0, .int .i64 0, .int .i64 0, .int .i64 0, .slice none 0 0, .slice none 0 0]) := Lib.hid (by simpa using P1.out.setc 1 (.int .i64 z1))
      rw [← hV] at M2 Q2
      clear hr hg C M1 Q1 N1 P1
      go_upto_region 8 with fail
      rw [← hV]
      clear hV fz cz
      obtain ⟨⟨z2, s3⟩, h2⟩ : ∃ x, pN s2 = x := ⟨_, rfl⟩
      have HZ2 := Lib.hid h2
      have C := dNumR 1099511627776 (by omega) M2.out.rd
      rw [show pNum 1099511627776 (s2.1, s2.2) = (z2, s3) from h2] at C
      have C := Lib.hid C
      clear h2
      go_wp2_with fail
      refine C.out.mono ?_
      rintro e v2 ⟨rfl, hr, hg⟩
      have N2 := Lib.hid (M2.out.read (σ' := s3) hr hg)
      have P2 := Lib.hid (Q2.out.growR hg (fun q => by injection q with q; have := N2.out.ord; have := HRQ.out; omega))
      have fz : v2.frozen? ⟨q, 2, none⟩ = false := P2.out.frz 2
      have cz : v2.cell? ⟨q, 2, none⟩ = some (.int .i64 0) := P2.out.cell 2
      obtain ⟨V3, hV⟩ : ∃ W, W = v2.setCell ⟨q, 2, none⟩ (.int .i64 z2) := ⟨_, rfl⟩
      have M3 := Lib.hid (N2.out.set P2.out HNQ.out HRQ.out (i := 2) (.int .i64 z2))
      have Q3 : Hid (Bk (v2.setCell ⟨q, 2, none⟩ (.int .i64 z2)) q 51 #[.int .i64 z0, .int .i64 z1, .int .i64 z2, .int .i64 0, .int .i64 0, .int .i64 0, .slice none 0 0, .slice none 0 0]) := Lib.hid (by simpa using P2.out.setc 2 (.int .i64 z2))
      rw [← hV] at M3 Q3
      clear hr hg C M2 Q2 N2 P2
      go_upto_region 9 with fail
      rw [← hV]
      clear hV fz cz
      obtain ⟨⟨z3, s4⟩, h3⟩ : ∃ x, pN s3 = x := ⟨_, rfl⟩
      have HZ3 := Lib.hid h3
      have C := dNumR 1099511627776 (by omega) M3.out.rd
      rw [show pNum 1099511627776 (s3.1, s3.2) = (z3, s4) from h3] at C
      have C := Lib.hid C
      clear h3
      go_wp2_with fail
      refine C.out.mono ?_
      rintro e v3 ⟨rfl, hr, hg⟩
      have N3 := Lib.hid (M3.out.read (σ' := s4) hr hg)
      have P3 := Lib.hid (Q3.out.growR hg (fun q => by injection q with q; have := N3.out.ord; have := HRQ.out; omega))
      have fz : v3.frozen? ⟨q, 3, none⟩ = false := P3.out.frz 3
      have cz : v3.cell? ⟨q, 3, none⟩ = some (.int .i64 0) := P3.out.cell 3
      obtain ⟨V4, hV⟩ : ∃ W, W = v3.setCell ⟨q, 3, none⟩ (.int .i64 z3) := ⟨_, rfl⟩
      have M4 := Lib.hid (N3.out.set P3.out HNQ.out HRQ.out (i := 3) (.int .i64 z3))
      have Q4 : Hid (Bk (v3.setCell ⟨q, 3, none⟩ (.int .i64 z3)) q 51 #[.int .i64 z0, .int .i64 z1, .int .i64 z2, .int .i64 z3, .int .i64 0, .int .i64 0, .slice none 0 0, .slice none 0 0]) := Lib.hid (by simpa using P3.out.setc 3 (.int .i64 z3))
      rw [← hV] at M4 Q4
      clear hr hg C M3 Q3 N3 P3
      go_upto_region 10 with fail
      rw [← hV]
      clear hV fz cz
      obtain ⟨⟨z4, s5⟩, h4⟩ : ∃ x, pN s4 = x := ⟨_, rfl⟩
      have HZ4 := Lib.hid h4
      have C := dNumR 1099511627776 (by omega) M4.out.rd
      rw [show pNum 1099511627776 (s4.1, s4.2) = (z4, s5) from h4] at C
      have C := Lib.hid C
      clear h4
      go_wp2_with fail
      refine C.out.mono ?_
      rintro e v4 ⟨rfl, hr, hg⟩
      have N4 := Lib.hid (M4.out.read (σ' := s5) hr hg)
      have P4 := Lib.hid (Q4.out.growR hg (fun q => by injection q with q; have := N4.out.ord; have := HRQ.out; omega))
      have fz : v4.frozen? ⟨q, 4, none⟩ = false := P4.out.frz 4
      have cz : v4.cell? ⟨q, 4, none⟩ = some (.int .i64 0) := P4.out.cell 4
      obtain ⟨V5, hV⟩ : ∃ W, W = v4.setCell ⟨q, 4, none⟩ (.int .i64 z4) := ⟨_, rfl⟩
      have M5 := Lib.hid (N4.out.set P4.out HNQ.out HRQ.out (i := 4) (.int .i64 z4))
      have Q5 : Hid (Bk (v4.setCell ⟨q, 4, none⟩ (.int .i64 z4)) q 51 #[.int .i64 z0, .int .i64 z1, .int .i64 z2, .int .i64 z3, .int .i64 z4, .int .i64 0, .slice none 0 0, .slice none 0 0]) := Lib.hid (by simpa using P4.out.setc 4 (.int .i64 z4))
      rw [← hV] at M5 Q5
      clear hr hg C M4 Q4 N4 P4
      go_upto_region 11 with fail
      rw [← hV]
      clear hV fz cz
      obtain ⟨⟨z5, s6⟩, h5⟩ : ∃ x, pN s5 = x := ⟨_, rfl⟩
      have HZ5 := Lib.hid h5
      have C := dNumR 1099511627776 (by omega) M5.out.rd
      rw [show pNum 1099511627776 (s5.1, s5.2) = (z5, s6) from h5] at C
      have C := Lib.hid C
      clear h5
      go_wp2_with fail
      refine C.out.mono ?_
      rintro e v5 ⟨rfl, hr, hg⟩
      have N5 := Lib.hid (M5.out.read (σ' := s6) hr hg)
      have P5 := Lib.hid (Q5.out.growR hg (fun q => by injection q with q; have := N5.out.ord; have := HRQ.out; omega))
      have fz : v5.frozen? ⟨q, 5, none⟩ = false := P5.out.frz 5
      have cz : v5.cell? ⟨q, 5, none⟩ = some (.int .i64 0) := P5.out.cell 5
      obtain ⟨V6, hV⟩ : ∃ W, W = v5.setCell ⟨q, 5, none⟩ (.int .i64 z5) := ⟨_, rfl⟩
      have M6 := Lib.hid (N5.out.set P5.out HNQ.out HRQ.out (i := 5) (.int .i64 z5))
      have Q6 : Hid (Bk (v5.setCell ⟨q, 5, none⟩ (.int .i64 z5)) q 51 #[.int .i64 z0, .int .i64 z1, .int .i64 z2, .int .i64 z3, .int .i64 z4, .int .i64 z5, .slice none 0 0, .slice none 0 0]) := Lib.hid (by simpa using P5.out.setc 5 (.int .i64 z5))
      rw [← hV] at M6 Q6
      clear hr hg C M5 Q5 N5 P5
      go_upto_region 12 with fail
      rw [← hV]
      clear hV fz cz
      obtain ⟨⟨ml, s7⟩, h6⟩ : ∃ x, pInts s6 = x := ⟨_, rfl⟩
      have HZ6 := Lib.hid h6
      have C := readInts_any rb g s6.1 s6.2 V6 M6.out.rd (by have := M6.out.ord; have := M6.out.box.lt; omega)
      rw [show pInts (s6.1, s6.2) = (ml, s7) from h6] at C
      have C := Lib.hid C
      clear h6
      go_wp2_with fail
      refine C.out.mono ?_
      rintro e v6 ⟨mA, mn, mc, rfl, hown, hrq⟩
      have N6 := Lib.hid (M6.out.read (σ' := s7) hrq.rd hrq.grown)
      have P6 := Lib.hid (Q6.out.growR hrq.grown (fun q => by injection q with q; have := N6.out.ord; have := HRQ.out; omega))
      have O6 : Hid (OwnL elI r v6 mA mn mc ml) := Lib.hid (hown.lo (by have := M6.out.box.lt; omega))
      have fz : v6.frozen? ⟨q, 6, none⟩ = false := P6.out.frz 6
      have cz : v6.cell? ⟨q, 6, none⟩ = some (.slice none 0 0) := P6.out.cell 6
      obtain ⟨V7, hV⟩ : ∃ W, W = v6.setCell ⟨q, 6, none⟩ (.slice mA mn mc) := ⟨_, rfl⟩
      have M7 := Lib.hid (N6.out.set P6.out HNQ.out HRQ.out (i := 6) (.slice mA mn mc))
      have Q7 : Hid (Bk (v6.setCell ⟨q, 6, none⟩ (.slice mA mn mc)) q 51 #[.int .i64 z0, .int .i64 z1, .int .i64 z2, .int .i64 z3, .int .i64 z4, .int .i64 z5, .slice mA mn mc, .slice none 0 0]) := Lib.hid (by simpa using P6.out.setc 6 (.slice mA mn mc))
      have U6 : Hid (OwnL elI r (v6.setCell ⟨q, 6, none⟩ (.slice mA mn mc)) mA mn mc ml) := Lib.hid (O6.out.stay (.set P6.out (by decide) _))
      rw [← hV] at M7 Q7 U6
      clear hown hrq C M6 Q6 N6 P6 O6
      go_upto_region 13 with fail
      rw [← hV]
      clear hV fz cz
      obtain ⟨⟨kl, s8⟩, h7⟩ : ∃ x, pLks s7 = x := ⟨_, rfl⟩
      have HZ7 := Lib.hid h7
      have C := readLocks_any rb g s7.1 s7.2 V7 M7.out.rd (by have := M7.out.ord; have := M7.out.box.lt; omega)
      rw [show pLks (s7.1, s7.2) = (kl, s8) from h7] at C
      have C := Lib.hid C
      clear h7
      go_wp2_with fail
      refine C.out.mono ?_
      rintro e v7 ⟨kA, kn, kc, rfl, hown, hrq⟩
      have N7 := Lib.hid (M7.out.read (σ' := s8) hrq.rd hrq.grown)
      have P7 := Lib.hid (Q7.out.growR hrq.grown (fun q => by injection q with q; have := N7.out.ord; have := HRQ.out; omega))
      have O7 : Hid (OwnL elL r v7 kA kn kc kl) := Lib.hid (hown.lo (by have := M7.out.box.lt; omega))
      have O6 := Lib.hid (U6.out.stay (RdQ.stay (σ := s8) hrq M7.out.rd (by decide)))
      have fz : v7.frozen? ⟨q, 7, none⟩ = false := P7.out.frz 7
      have cz : v7.cell? ⟨q, 7, none⟩ = some (.slice none 0 0) := P7.out.cell 7
      obtain ⟨V8, hV⟩ : ∃ W, W = v7.setCell ⟨q, 7, none⟩ (.slice kA kn kc) := ⟨_, rfl⟩
      have M8 := Lib.hid (N7.out.set P7.out HNQ.out HRQ.out (i := 7) (.slice kA kn kc))
      have Q8 : Hid (Bk (v7.setCell ⟨q, 7, none⟩ (.slice kA kn kc)) q 51 #[.int .i64 z0, .int .i64 z1, .int .i64 z2, .int .i64 z3, .int .i64 z4, .int .i64 z5, .slice mA mn mc, .slice kA kn kc]) := Lib.hid (by simpa using P7.out.setc 7 (.slice kA kn kc))
      have U7 : Hid (OwnL elL r (v7.setCell ⟨q, 7, none⟩ (.slice kA kn kc)) kA kn kc kl) := Lib.hid (O7.out.stay (.set P7.out (by decide) _))
      have U6' : Hid (OwnL elI r (v7.setCell ⟨q, 7, none⟩ (.slice kA kn kc)) mA mn mc ml) := Lib.hid (O6.out.stay (.set P7.out (by decide) _))
      rw [← hV] at M8 Q8 U7 U6'
      clear hown hrq C M7 Q7 N7 P7 O7
      go_upto_region 14 with fail
      rw [← hV]
      clear hV fz cz
      have HEQ := Lib.hid (pRw_eq HZ0.out HZ1.out HZ2.out HZ3.out HZ4.out HZ5.out HZ6.out HZ7.out)
      obtain ⟨z, hz⟩ : ∃ z : Xw, z = ⟨z0, z1, z2, z3, z4, z5, mA, mn, mc, ml, kA, kn, kc, kl⟩ := ⟨_, rfl⟩
      have XN : Hid (XwNew r V8 z) := Lib.hid (by
        have b : ∀ {s t : Sg} {x : Int}, pN s = (x, t) → i64 x := fun {s t x} hx => by have := pN_i64 s; rwa [hx] at this
        rw [hz]
        exact ⟨b HZ0.out, b HZ1.out, b HZ2.out, b HZ3.out, b HZ4.out, b HZ5.out, U6'.out, U7.out, by
          have : (pInts s6).1 = ml := by rw [HZ6.out]
          rw [← this]
          exact pList_all pN_i64 256 s6⟩)
      have HZC : Hid (Bk V8 q 51 (Xw.cells z).toArray) := Lib.hid (by rw [hz]; exact Q8.out)
      have HZR : Hid (Xw.row z = (pRw s0).1) := Lib.hid (by rw [hz, HEQ.out]; rfl)
      have HCL : Hid ((Xw.cells z).toArray = #[.int .i64 z0, .int .i64 z1, .int .i64 z2, .int .i64 z3, .int .i64 z4, .int .i64 z5, .slice mA mn mc, .slice kA kn kc]) := Lib.hid (by rw [hz]; rfl)
      clear hz U6 U6' U7 HZ0 HZ1 HZ2 HZ3 HZ4 HZ5 HZ6 HZ7
      have hb8 : V8.cell? ⟨r, 12, none⟩ = some (.slice RA Rn Rc) := M8.out.box.cell 12
      obtain ⟨V9, hV9⟩ : ∃ W, W = V8.alloc (.cells (Xw.cells z).toArray 51) := ⟨_, rfl⟩
      have hb9 : Below V8.heap.size V8 V9 := by rw [hV9]; exact (Below.refl _ _).alloc (Nat.le_refl _) _
      have M9 := Lib.hid (M8.out.new hb9)
      have S9 : Hid (Sl elRt V9.heap.size V9 (some ⟨V8.heap.size, 0, none⟩) 1 1 [z]) := Lib.hid (by rw [hV9]; exact sl_one (E := elRt) V8 z (fun _ => trivial))
      have HSZ : Hid (r ≤ V9.heap.size) := Lib.hid (by have := M9.out.box.lt; omega)
      have HB9 := Lib.hid hb9
      have XN9 := Lib.hid (XN.out.stay (Stay.of_below hb9) (Stay.of_below hb9))
      rw [HCL.out] at hV9
      have HV9 := Lib.hid hV9
      clear hb9 hV9
      have hn256 : Rn + 1 ≤ 100000 := by omega
      go_wp2_with (first
        | (refine wpList_load_row rfl 51 _ rfl q rfl 51 #[.int .i64 z0, .int .i64 z1, .int .i64 z2, .int .i64 z3, .int .i64 z4, .int .i64 z5, .slice mA mn mc, .slice kA kn kc] (0, 0) _ (by rw [← HCL.out]; exact HZC.out) Try.underlying51 rfl inf_row8 ?_; simp only [Act.put])
        | (at_builtin; (try rw [← HV9.out]); refine wpList_append_sl (E := elRt) rfl _ _ 26 rfl r ir _ 96 Try.underlying26 hir hir0 hir1 hir2 rfl rfl (by exact M9.out.ors.own) rfl S9.out hn256 (by omega) HSZ.out ?_))
      intro A' c' w3 ha
      obtain ⟨pr, pf, pc⟩ := M8.out.pushR HB9.out ha.out XN9.out
      have PR := Lib.hid pr
      clear pr ha M9 S9 HSZ HB9 XN9 HV9 hb8
      go_wp2_with fail
      go_roundw
      case rel => exact ⟨Rn + 1, (A', Rn + 1, c'), rows ++ [z], by omega, by go_num, rfl, by
        show (rows ++ [z]).map Xw.row = (pRep pRw σ1 Rn).1 ++ [(pRw (pRep pRw σ1 Rn).2).1]
        rw [List.map_append, HROWS.out, HS0.out, ← HZR.out]
        rfl, by
        have e : (pRep pRw σ1 (Rn + 1)).2 = s8 := by
          show (pRw (pRep pRw σ1 Rn).2).2 = s8
          rw [HS0.out, HEQ.out]
        rw [e]
        exact PR.out⟩
      case measure => simp [intOf]; omega
    · obtain rfl : Rn = k0 := by omega
      clear hlt hk
      have HRX : Hid (pList 256 pRw (l, e0) = pRep pRw σ1 Rn) := Lib.hid (by
        unfold pList pBind
        rw [HM.out]
        rfl)
      obtain ⟨sA, hsA⟩ : ∃ s, (pRep pRw σ1 Rn).2 = s := ⟨_, rfl⟩
      rw [hsA] at LK
      have HSA := Lib.hid hsA
      obtain ⟨⟨cnt2, τ1⟩, hM2⟩ : ∃ x, pNum 256 sA = x := ⟨_, rfl⟩
      obtain ⟨k1, hk1e, hk1b⟩ := pNum_take 256 (by omega) sA
      rw [hM2] at hk1e
      simp only at hk1e
      subst hk1e
      have HM2 := Lib.hid hM2
      have C := dNumR 256 (by omega) LK.out.rd
      rw [show pNum 256 (sA.1, sA.2) = ((k1 : Int), τ1) from hM2] at C
      have C := Lib.hid C
      clear hsA hM2
      go_wp2_with fail
      refine C.out.mono ?_
      rintro e w2 ⟨rfl, hr2, g2⟩
      have L2 := Lib.hid (LK.out.read (σ' := τ1) hr2 g2)
      clear hr2 g2 C LK
      go_wp2_with fail
      go_loopw [8, 9] (fun i _ wr => ∃ (k : Nat) (D : Option Addr × Nat × Nat), k ≤ k1 ∧ i = .int .i64 (k : Nat) ∧ D.2.1 = k ∧ LsW w wr rb g r (RA, Rn, Rc) D (none, 0, 0) rows (pRep pDt τ1 k).1 [] (pRep pDt τ1 k).2) (fun i _ _ => k1 - (intOf i).toNat)
      case atStart => exact ⟨0, (none, 0, 0), Nat.zero_le _, rfl, rfl, L2.out⟩
      case round =>
        obtain ⟨k, ⟨DA, Dn, Dc⟩, hk, rfl, hDk, hl⟩ := hrel
        simp only at hDk
        subst hDk
        have LK := Lib.hid hl
        clear hl L2
        by_cases hlt : Dn < k1
        · have hlt' : (Dn : Int) < (k1 : Int) := by omega
          obtain ⟨s0, hs0⟩ : ∃ s, (pRep pDt τ1 Dn).2 = s := ⟨_, rfl⟩
          rw [hs0] at LK
          have HS0 := Lib.hid hs0
          obtain ⟨⟨a, s1⟩, h0⟩ : ∃ x, pN s0 = x := ⟨_, rfl⟩
          obtain ⟨⟨b, s2⟩, h1⟩ : ∃ x, pN s1 = x := ⟨_, rfl⟩
          have HDT : Hid (pDt s0 = (⟨a, b⟩, s2)) := Lib.hid (by unfold pDt; rw [h0]; simp only; rw [h1])
          have H1 := Lib.hid h1
          have C := dNumR 1099511627776 (by omega) LK.out.rd
          rw [show pNum 1099511627776 (s0.1, s0.2) = (a, s1) from h0] at C
          have C := Lib.hid C
          clear hs0 h0 h1
          go_wp2_with fail
          refine C.out.mono ?_
          rintro e v ⟨rfl, hr, hg⟩
          have LV := Lib.hid (LK.out.read (σ' := s1) hr hg)
          clear hr hg C LK
          go_wp2_with fail
          have f0 : Below v.heap.size v v.drew := (Below.refl _ _).drew
          have LD := Lib.hid (LV.out.new f0)
          have hS0 : v.drew.cell? ⟨r, 13, none⟩ = some (.slice DA Dn Dc) := LD.out.box.cell 13
          have C := dNumR 1099511627776 (by omega) LD.out.rd
          rw [show pNum 1099511627776 (s1.1, s1.2) = (b, s2) from H1.out] at C
          have C := Lib.hid C
          refine wp_region_noPanic ?_
          refine upto_start (fun w' => w'.cell? ⟨r, 13, none⟩ = some (.slice DA Dn Dc)) 8 (by kernel_rfl) ?_
          change Upto _ _ _ _ _ 10 _ _ _
          refine Upto.take (i := 0) (v := ?_) rfl (by kernel_rfl) (fun _ _ _ h => h) rfl (fun w' hS => ?_) hS0 ?_
          rotate_left
          · (try dsimp only at hS)
            go_simp
            (try with_reducible rfl)
          simp only [Act.put, List.setIfInBounds_toArray, List.set_cons_zero, List.set_cons_succ]
          refine Upto.take (i := 1) (v := ?_) rfl (by kernel_rfl) (fun _ _ _ h => h) rfl (fun w' hS => ?_) hS0 ?_
          rotate_left
          · (try dsimp only at hS)
            go_simp
            (try with_reducible rfl)
          simp only [Act.put, List.setIfInBounds_toArray, List.set_cons_zero, List.set_cons_succ]
          refine Upto.take (i := 2) (v := ?_) rfl (by kernel_rfl) (fun _ _ _ h => h) rfl (fun w' hS => ?_) hS0 ?_
          rotate_left
          · (try dsimp only at hS)
            go_simp
            (try with_reducible rfl)
          simp only [Act.put, List.setIfInBounds_toArray, List.set_cons_zero, List.set_cons_succ]
          refine Upto.take (i := 3) (v := ?_) rfl (by kernel_rfl) (fun _ _ _ h => h) rfl (fun w' hS => ?_) hS0 ?_
          rotate_left
          · (try dsimp only at hS)
            go_simp
            (try with_reducible rfl)
          simp only [Act.put, List.setIfInBounds_toArray, List.set_cons_zero, List.set_cons_succ]
          refine Upto.law (i := 4) rfl (by kernel_rfl) rfl (fun K hK => ?_)
          refine wp_enter (f := 36) (args := #[.pointer (some ⟨rb, 0, none⟩), .int .i64 1099511627776]) (by go_simp; (try with_reducible rfl)) C.out ?_
          rintro e v2 ⟨rfl, hr, hg⟩
          have L2 := Lib.hid (LD.out.read (σ' := s2) hr hg)
          refine ⟨_, rfl, hK _ _ (L2.out.box.cell 13) ?_⟩
          clear hK hr hg C LD LV hS0 f0
          simp only [Act.put, List.setIfInBounds_toArray, List.set_cons_zero, List.set_cons_succ]
          refine Upto.only (i := 5) rfl (by kernel_rfl) rfl (exec_build rfl [(0, .int .i64 a), (1, .int .i64 b)] (by rfl) (built_dirtyR a b)) (L2.out.box.cell 13) ?_
          simp only [Act.put, List.setIfInBounds_toArray, List.set_cons_zero, List.set_cons_succ]
          obtain ⟨v3, hv3⟩ : ∃ W, W = v2.alloc (.cells #[.int .i64 a, .int .i64 b] 89) := ⟨_, rfl⟩
          have hb3 : Below v2.heap.size v2 v3 := by rw [hv3]; exact (Below.refl _ _).alloc (Nat.le_refl _) _
          have L3 := Lib.hid (L2.out.new hb3)
          have S3 : Hid (Sl elDt v3.heap.size v3 (some ⟨v2.heap.size, 0, none⟩) 1 1 [⟨a, b⟩]) := Lib.hid (by rw [hv3]; exact sl_one (E := elDt) v2 ⟨a, b⟩ (fun _ => trivial))
          refine Upto.only (i := 6) rfl (by kernel_rfl) rfl (exec_buildSlice rfl [(0, .agg #[.int .i64 a, .int .i64 b])] (by rfl) (bs_dirtyR v2 a b)) (by rw [← hv3]; exact L3.out.box.cell 13) ?_
          simp only [Act.put, List.setIfInBounds_toArray, List.set_cons_zero, List.set_cons_succ]
          rw [← hv3]
          have HB3 := Lib.hid hb3
          clear hv3 hb3
          refine Upto.law (i := 7) rfl (by kernel_rfl) rfl (fun K hK => ?_)
          refine wp_append_sl (E := elDt) _ _ 27 (by rfl) r id _ 16 Try.underlying27 hid' hid0 hid1 hid2 rfl (by rfl) L3.out.ods.own (by rfl) S3.out (by show Dn + 1 ≤ 100000; omega) (by omega) (by have := L3.out.box.lt; omega) ?_
          intro A' c' v4 ha
          obtain ⟨pr, pf, pc⟩ := L2.out.pushD HB3.out ha.out
          have PR := Lib.hid pr
          refine hK _ _ pc ?_
          clear hK pr ha L2 L3 S3 HB3
          simp only [Act.put, List.setIfInBounds_toArray, List.set_cons_zero, List.set_cons_succ]
          refine Upto.tail rfl (by kernel_rfl) ?_
          simp only [List.drop_succ_cons, List.drop_zero]
          go_wp2_with fail
          refine NoPanic.normal ?_
          go_wp2_with fail
          go_roundw
          case rel => exact ⟨Dn + 1, (A', Dn + 1, c'), by omega, by go_num, rfl, by
            have e1 : (pRep pDt τ1 (Dn + 1)).1 = (pRep pDt τ1 Dn).1 ++ [⟨a, b⟩] := by
              show (pRep pDt τ1 Dn).1 ++ [(pDt (pRep pDt τ1 Dn).2).1] = _
              rw [HS0.out, HDT.out]
            have e2 : (pRep pDt τ1 (Dn + 1)).2 = s2 := by
              show (pDt (pRep pDt τ1 Dn).2).2 = s2
              rw [HS0.out, HDT.out]
            rw [e1, e2]
            exact PR.out⟩
          case measure => simp [intOf]; omega
        · obtain rfl : Dn = k1 := by omega
          clear hlt hk
          have HDX : Hid (pList 256 pDt sA = pRep pDt τ1 Dn) := Lib.hid (by
            unfold pList pBind
            rw [HM2.out]
            rfl)
          obtain ⟨sB, hsB⟩ : ∃ s, (pRep pDt τ1 Dn).2 = s := ⟨_, rfl⟩
          rw [hsB] at LK
          have HSB := Lib.hid hsB
          obtain ⟨⟨cnt3, υ1⟩, hM3⟩ : ∃ x, pNum 256 sB = x := ⟨_, rfl⟩
          obtain ⟨k2, hk2e, hk2b⟩ := pNum_take 256 (by omega) sB
          rw [hM3] at hk2e
          simp only at hk2e
          subst hk2e
          have HM3 := Lib.hid hM3
          have C := dNumR 256 (by omega) LK.out.rd
          rw [show pNum 256 (sB.1, sB.2) = ((k2 : Int), υ1) from hM3] at C
          have C := Lib.hid C
          clear hsB hM3
          go_wp2_with fail
          refine C.out.mono ?_
          rintro e w3 ⟨rfl, hr3, g3⟩
          have L3 := Lib.hid (LK.out.read (σ' := υ1) hr3 g3)
          clear hr3 g3 C LK
          go_wp2_with fail
          go_loopw [10, 11] (fun i _ wr => ∃ (k : Nat) (E : Option Addr × Nat × Nat) (deeds : List Xd), k ≤ k2 ∧ i = .int .i64 (k : Nat) ∧ E.2.1 = k ∧ deeds.map Xd.deed = (pRep pDd υ1 k).1 ∧ LsW w wr rb g r (RA, Rn, Rc) (DA, Dn, Dc) E rows (pRep pDt τ1 Dn).1 deeds (pRep pDd υ1 k).2) (fun i _ _ => k2 - (intOf i).toNat)
          case atStart => exact ⟨0, (none, 0, 0), [], Nat.zero_le _, rfl, rfl, rfl, L3.out⟩
          case round =>
            obtain ⟨k, ⟨EA, En, Ec⟩, deeds, hk, rfl, hEk, hdeeds, hl⟩ := hrel
            simp only at hEk
            subst hEk
            have LK := Lib.hid hl
            have HDEEDS := Lib.hid hdeeds
            clear hl hdeeds L3
            by_cases hlt : En < k2
            · have hlt' : (En : Int) < (k2 : Int) := by omega
              obtain ⟨s0, hs0⟩ : ∃ s, (pRep pDd υ1 En).2 = s := ⟨_, rfl⟩
              rw [hs0] at LK
              have HS0 := Lib.hid hs0
              obtain ⟨⟨a, s1⟩, h0⟩ : ∃ x, pN s0 = x := ⟨_, rfl⟩
              obtain ⟨⟨ml, s2⟩, h1⟩ : ∃ x, pInts s1 = x := ⟨_, rfl⟩
              have HDD : Hid (pDd s0 = (⟨a, ml⟩, s2)) := Lib.hid (by unfold pDd; rw [h0]; simp only; rw [h1])
              have H1 := Lib.hid h1
              have HA : Hid (i64 a) := Lib.hid (by have := pN_i64 s0; rwa [h0] at this)
              have C := dNumR 1099511627776 (by omega) LK.out.rd
              rw [show pNum 1099511627776 (s0.1, s0.2) = (a, s1) from h0] at C
              have C := Lib.hid C
              clear hs0 h0 h1
              go_wp2_with fail
              refine C.out.mono ?_
              rintro e v ⟨rfl, hr, hg⟩
              have LV := Lib.hid (LK.out.read (σ' := s1) hr hg)
              clear hr hg C LK
              go_wp2_with fail
              have f0 : Below v.heap.size v v.drew := (Below.refl _ _).drew
              have LD := Lib.hid (LV.out.new f0)
              have hS0 : v.drew.cell? ⟨r, 14, none⟩ = some (.slice EA En Ec) := LD.out.box.cell 14
              have C := readInts_any rb g s1.1 s1.2 v.drew LD.out.rd (by have := LD.out.ord; have := LD.out.box.lt; omega)
              rw [show pInts (s1.1, s1.2) = (ml, s2) from H1.out] at C
              have C := Lib.hid C
              refine wp_region_noPanic ?_
              refine upto_start (fun w' => w'.cell? ⟨r, 14, none⟩ = some (.slice EA En Ec)) 8 (by kernel_rfl) ?_
              change Upto _ _ _ _ _ 10 _ _ _
              refine Upto.take (i := 0) (v := ?_) rfl (by kernel_rfl) (fun _ _ _ h => h) rfl (fun w' hS => ?_) hS0 ?_
              rotate_left
              · (try dsimp only at hS)
                go_simp
                (try with_reducible rfl)
              simp only [Act.put, List.setIfInBounds_toArray, List.set_cons_zero, List.set_cons_succ]
              refine Upto.take (i := 1) (v := ?_) rfl (by kernel_rfl) (fun _ _ _ h => h) rfl (fun w' hS => ?_) hS0 ?_
              rotate_left
              · (try dsimp only at hS)
                go_simp
                (try with_reducible rfl)
              simp only [Act.put, List.setIfInBounds_toArray, List.set_cons_zero, List.set_cons_succ]
              refine Upto.take (i := 2) (v := ?_) rfl (by kernel_rfl) (fun _ _ _ h => h) rfl (fun w' hS => ?_) hS0 ?_
              rotate_left
              · (try dsimp only at hS)
                go_simp
                (try with_reducible rfl)
              simp only [Act.put, List.setIfInBounds_toArray, List.set_cons_zero, List.set_cons_succ]
              refine Upto.take (i := 3) (v := ?_) rfl (by kernel_rfl) (fun _ _ _ h => h) rfl (fun w' hS => ?_) hS0 ?_
              rotate_left
              · (try dsimp only at hS)
                go_simp
                (try with_reducible rfl)
              simp only [Act.put, List.setIfInBounds_toArray, List.set_cons_zero, List.set_cons_succ]
              refine Upto.law (i := 4) rfl (by kernel_rfl) rfl (fun K hK => ?_)
              refine wp_enter (f := 40) (args := #[.pointer (some ⟨rb, 0, none⟩)]) (by go_simp; (try with_reducible rfl)) C.out ?_
              rintro e v2 ⟨mA, mn, mc, rfl, hown, hrq⟩
              have L2 := Lib.hid (LD.out.read (σ' := s2) hrq.rd hrq.grown)
              have XN : Hid (XdNew r v2 ⟨a, mA, mn, mc, ml⟩) := Lib.hid ⟨HA.out, hown.lo (by have := LD.out.box.lt; omega), by
                have : (pInts s1).1 = ml := by rw [H1.out]
                show ∀ x ∈ ml, i64 x
                rw [← this]
                exact pList_all pN_i64 256 s1⟩
              refine ⟨_, rfl, hK _ _ (L2.out.box.cell 14) ?_⟩
              clear hK hown hrq C LD LV hS0 f0
              simp only [Act.put, List.setIfInBounds_toArray, List.set_cons_zero, List.set_cons_succ]
              refine Upto.only (i := 5) rfl (by kernel_rfl) rfl (exec_build rfl [(0, .int .i64 a), (1, .slice mA mn mc)] (by rfl) (built_deedR a mA mn mc)) (L2.out.box.cell 14) ?_
              simp only [Act.put, List.setIfInBounds_toArray, List.set_cons_zero, List.set_cons_succ]
              obtain ⟨v3, hv3⟩ : ∃ W, W = v2.alloc (.cells #[.int .i64 a, .slice mA mn mc] 53) := ⟨_, rfl⟩
              have hb3 : Below v2.heap.size v2 v3 := by rw [hv3]; exact (Below.refl _ _).alloc (Nat.le_refl _) _
              have L3 := Lib.hid (L2.out.new hb3)
              have S3 : Hid (Sl elEt v3.heap.size v3 (some ⟨v2.heap.size, 0, none⟩) 1 1 [⟨a, mA, mn, mc, ml⟩]) := Lib.hid (by rw [hv3]; exact sl_one (E := elEt) v2 ⟨a, mA, mn, mc, ml⟩ (fun _ => trivial))
              have XN3 := Lib.hid (XN.out.stay (Stay.of_below hb3))
              refine Upto.only (i := 6) rfl (by kernel_rfl) rfl (exec_buildSlice rfl [(0, .agg #[.int .i64 a, .slice mA mn mc])] (by rfl) (bs_deedR v2 a mA mn mc)) (by rw [← hv3]; exact L3.out.box.cell 14) ?_
              simp only [Act.put, List.setIfInBounds_toArray, List.set_cons_zero, List.set_cons_succ]
              rw [← hv3]
              have HB3 := Lib.hid hb3
              clear hv3 hb3
              refine Upto.law (i := 7) rfl (by kernel_rfl) rfl (fun K hK => ?_)
              refine wp_append_sl (E := elEt) _ _ 28 (by rfl) r ie _ 32 Try.underlying28 hie hie0 hie1 hie2 rfl (by rfl) L3.out.oes.own (by rfl) S3.out (by show En + 1 ≤ 100000; omega) (by omega) (by have := L3.out.box.lt; omega) ?_
              intro A' c' v4 ha
              obtain ⟨pr, pf, pc⟩ := L2.out.pushE HB3.out ha.out XN3.out
              have PR := Lib.hid pr
              refine hK _ _ pc ?_
              clear hK pr ha L2 L3 S3 HB3 XN3 XN
              simp only [Act.put, List.setIfInBounds_toArray, List.set_cons_zero, List.set_cons_succ]
              refine Upto.tail rfl (by kernel_rfl) ?_
              simp only [List.drop_succ_cons, List.drop_zero]
              go_wp2_with fail
              refine NoPanic.normal ?_
              go_wp2_with fail
              go_roundw
              case rel => exact ⟨En + 1, (A', En + 1, c'), deeds ++ [⟨a, mA, mn, mc, ml⟩], by omega, by go_num, rfl, by
                show (deeds ++ [_]).map Xd.deed = (pRep pDd υ1 En).1 ++ [(pDd (pRep pDd υ1 En).2).1]
                rw [List.map_append, HDEEDS.out, HS0.out, HDD.out]
                rfl, by
                have e2 : (pRep pDd υ1 (En + 1)).2 = s2 := by
                  show (pDd (pRep pDd υ1 En).2).2 = s2
                  rw [HS0.out, HDD.out]
                rw [e2]
                exact PR.out⟩
              case measure => simp [intOf]; omega
            · obtain rfl : En = k2 := by omega
              clear hlt hk
              have HEX : Hid (pList 256 pDd sB = pRep pDd υ1 En) := Lib.hid (by
                unfold pList pBind
                rw [HM3.out]
                rfl)
              obtain ⟨sC, hsC⟩ : ∃ s, (pRep pDd υ1 En).2 = s := ⟨_, rfl⟩
              rw [hsC] at LK
              obtain ⟨⟨pl, sD⟩, hp⟩ : ∃ x, pInts sC = x := ⟨_, rfl⟩
              have HPK : Hid ((pK (l, e0)).2 = sD ∧ mkK (pK (l, e0)).1 = mkK ((((pRep pRw σ1 Rn).1, (pRep pDt τ1 Dn).1), (pRep pDd υ1 En).1), pl)) := Lib.hid (by
                have e : pK (l, e0) = (((((pRep pRw σ1 Rn).1, (pRep pDt τ1 Dn).1), (pRep pDd υ1 En).1), pl), sD) := pK_eq (rows := (pRep pRw σ1 Rn).1) (sA := sA) (by rw [HRX.out, ← HSA.out]) (dts := (pRep pDt τ1 Dn).1) (sB := sB) (by rw [HDX.out, ← HSB.out]) (dds := (pRep pDd υ1 En).1) (sC := sC) (by rw [HEX.out, ← hsC]) hp
                rw [e]
                exact ⟨rfl, rfl⟩)
              have C := readInts_any rb g sC.1 sC.2 wr LK.out.rd (by have := LK.out.ord; have := LK.out.box.lt; omega)
              rw [show pInts (sC.1, sC.2) = (pl, sD) from hp] at C
              have HPL : Hid (∀ x ∈ pl, i64 x) := Lib.hid (by
                have : (pInts sC).1 = pl := by rw [hp]
                rw [← this]
                exact pList_all pN_i64 256 sC)
              have C := Lib.hid C
              clear hsC hp
              go_wp2_with fail
              refine C.out.mono ?_
              rintro e v ⟨pA, pn, pc, rfl, hown, hrq⟩
              have L2 := Lib.hid (LK.out.read (σ' := sD) hrq.rd hrq.grown)
              have OP : Hid (OwnL elI r v pA pn pc pl) := Lib.hid (hown.lo (by have := LK.out.box.lt; omega))
              clear hown hrq C LK
              have fz : v.frozen? ⟨r, 15, none⟩ = false := L2.out.box.frz 15
              have cz : v.cell? ⟨r, 15, none⟩ = some (.slice none 0 0) := L2.out.box.cell 15
              have BX : Hid (Bk (v.setCell ⟨r, 15, none⟩ (.slice pA pn pc)) r 30 (cellsCk (.slice RA Rn Rc) (.slice DA Dn Dc) (.slice EA En Ec) (.slice pA pn pc))) := Lib.hid (by simpa [cellsCk] using L2.out.box.setc 15 (.slice pA pn pc))
              have BR : Hid (Bk (v.setCell ⟨r, 15, none⟩ (.slice pA pn pc)) (r + 1) 30 #[.int .i64 0, .int .i64 0, .int .i64 0, .int .i64 0, .string ⟨#[]⟩, .bool false, .string ⟨#[]⟩, .bool false, .string ⟨#[]⟩, .int .i64 0, .slice none 0 0, .slice none 0 0, .slice none 0 0, .slice none 0 0, .slice none 0 0, .slice none 0 0]) := Lib.hid (((grown_set v r 15 _).block (r + 1) L2.out.res.lt (fun q => by injection q with q; omega)).trans L2.out.res)
              have ST : Hid (Stay5 v ((v.setCell ⟨r, 15, none⟩ (.slice pA pn pc)).setRow (r + 1) (cellsCk (.slice RA Rn Rc) (.slice DA Dn Dc) (.slice EA En Ec) (.slice pA pn pc)))) := Lib.hid (by
                have s1 : Stay5 v (v.setCell ⟨r, 15, none⟩ (.slice pA pn pc)) := Stay5.set L2.out.box (by decide) (by decide) (by decide) (by decide) (by decide) _
                have hgr : (v.setCell ⟨r, 15, none⟩ (.slice pA pn pc)).grownBy ((v.setCell ⟨r, 15, none⟩ (.slice pA pn pc)).setRow (r + 1) (cellsCk (.slice RA Rn Rc) (.slice DA Dn Dc) (.slice EA En Ec) (.slice pA pn pc))) (some (r + 1)) := ⟨rfl, rfl, rfl, by simp [World.setRow], fun k _ hk => setRow_other _ (r + 1) k _ (fun q => hk (by simp [q]))⟩
                exact s1.trans ⟨.grown hgr BR.out (by decide), .grown hgr BR.out (by decide), .grown hgr BR.out (by decide), .grown hgr BR.out (by decide), .grown hgr BR.out (by decide)⟩)
              have RQ : Hid (RdQ rb g w ((v.setCell ⟨r, 15, none⟩ (.slice pA pn pc)).setRow (r + 1) (cellsCk (.slice RA Rn Rc) (.slice DA Dn Dc) (.slice EA En Ec) (.slice pA pn pc))) sD) := Lib.hid (by
                have hgr : (v.setCell ⟨r, 15, none⟩ (.slice pA pn pc)).grownBy ((v.setCell ⟨r, 15, none⟩ (.slice pA pn pc)).setRow (r + 1) (cellsCk (.slice RA Rn Rc) (.slice DA Dn Dc) (.slice EA En Ec) (.slice pA pn pc))) (some (r + 1)) := ⟨rfl, rfl, rfl, by simp [World.setRow], fun k _ hk => setRow_other _ (r + 1) k _ (fun q => hk (by simp [q]))⟩
                have r1 := L2.out.rd.setNewR (p := r) (i := 15) (by have := L2.out.ord; omega) (by have := L2.out.ord; omega) (.slice pA pn pc)
                have g1 := grown_setNewR L2.out.gr (p := ⟨r, 15, none⟩) (by show w.heap.size ≤ r; have := L2.out.size; omega) (.slice pA pn pc)
                refine ⟨r1.grown hgr (fun q => by injection q with q; have := L2.out.ord; omega) (fun q => by injection q with q; have := L2.out.ord; omega), ⟨hgr.os.trans g1.os, hgr.tape.trans g1.tape, hgr.output.trans g1.output, Nat.le_trans g1.size hgr.size, fun k hk hne => (hgr.block k (Nat.lt_of_lt_of_le hk g1.size) (fun q => by injection q with q; have := L2.out.size; omega)).trans (g1.block k hk hne)⟩⟩)
              have NEWB := Lib.hid (BR.out.rowR (cellsCk (.slice RA Rn Rc) (.slice DA Dn Dc) (.slice EA En Ec) (.slice pA pn pc)))
              have OR := Lib.hid (L2.out.ors.stay ST.out.r)
              have OD := Lib.hid (L2.out.ods.stay ST.out.d)
              have OE := Lib.hid (L2.out.oes.stay ST.out.e)
              have OP' := Lib.hid (OP.out.stay ST.out.i)
              have XR : Hid (∀ z ∈ rows, XwNew r ((v.setCell ⟨r, 15, none⟩ (.slice pA pn pc)).setRow (r + 1) (cellsCk (.slice RA Rn Rc) (.slice DA Dn Dc) (.slice EA En Ec) (.slice pA pn pc))) z) := Lib.hid (fun z hz => (L2.out.er z hz).stay ST.out.i ST.out.l)
              have XE : Hid (∀ z ∈ deeds, XdNew r ((v.setCell ⟨r, 15, none⟩ (.slice pA pn pc)).setRow (r + 1) (cellsCk (.slice RA Rn Rc) (.slice DA Dn Dc) (.slice EA En Ec) (.slice pA pn pc))) z) := Lib.hid (fun z hz => (L2.out.ee z hz).stay ST.out.i)
              clear ST OP L2
              have HOC : Hid ((cellsCk (.slice RA Rn Rc) (.slice DA Dn Dc) (.slice EA En Ec) (.slice pA pn pc)).all (·.oneCell') = true) := Lib.hid (by simp [cellsCk, Value.oneCell'])
              go_wp2_with (first
                | (refine wpList_load_row rfl 30 _ rfl r rfl 30 (cellsCk (.slice RA Rn Rc) (.slice DA Dn Dc) (.slice EA En Ec) (.slice pA pn pc)) (0, 0) _ BX.out Try.underlying30 rfl inf_rec ?_; simp only [Act.put])
                | (refine wpList_store_row rfl 30 _ _ rfl (r + 1) (cellsCk (.slice RA Rn Rc) (.slice DA Dn Dc) (.slice EA En Ec) (.slice pA pn pc)) rfl rfl 30 _ BR.out inf_rec rfl HOC.out ?_; simp only [Act.put]))
              (try simp only [Exit.inBlock, Exit.then])
              refine bodyPost_ret (results_cell_row (p := 4) (ty := 30) rfl _ _ (r + 1) 30 _ (0, 0) _ rfl NEWB.out Try.underlying30 rfl inf_rec) rfl ?_
              refine ⟨⟨8, 0, 0, 0, ⟨#[]⟩, ⟨false, ⟨#[]⟩⟩, ⟨false, ⟨#[]⟩⟩, 0, none, 0, 0, [], none, 0, 0, [], RA, Rn, Rc, rows, DA, Dn, Dc, (pRep pDt τ1 Dn).1, EA, En, Ec, deeds, pA, pn, pc, pl⟩, rfl, ?_, by rw [HPK.out.1]; exact RQ.out, rfl, rfl, rfl, rfl, rfl, rfl, rfl, rfl, by rw [HR.out]; exact OR.out, by rw [HR.out]; exact OD.out, by rw [HR.out]; exact OE.out, by rw [HR.out]; exact OP'.out, by rw [HR.out]; exact XR.out, by rw [HR.out]; exact XE.out, ?_, HPL.out⟩
              · rw [HPK.out.2]
                unfold Xr.read
                simp only
                rw [HROWS.out, HDEEDS.out]
                rfl
              · exact pRep_all (fun σ => ⟨pN_i64 σ, pN_i64 _⟩) Dn τ1
end Go.Proofs.Ytfldcddbmikfiaa
