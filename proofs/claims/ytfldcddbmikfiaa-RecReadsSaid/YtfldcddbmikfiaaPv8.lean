/- What it says: contracts and plain mathematics that the laws' walks use, 8 of 9: each part's own remark says what; no condition. -/
import Derived.Test.YtfldcddbmikfiaaPv3

set_option linter.unusedSimpArgs false
set_option linter.unusedVariables false
set_option linter.deprecated false
set_option linter.unusedSectionVars false
set_option linter.all false

/- trothref07.Decode answers the record of bytes, or the error. -/
namespace Go.Proofs.Ytfldcddbmikfiaa
open Go.RowKit

set_option maxRecDepth 100000 in
set_option maxHeartbeats 32000000 in
theorem refDec7a (A : Option Addr) (n c : Nat) (l : List Int) (w : World) (h : Byt w A n c l) (hG : ¬ 4096 < n ∧ (pN (l, 0)).2.2 = 0 ∧ (pN (l, 0)).1 = 1) : Calls Try.prog 15 #[.slice A n c] w (RetDec l w) := by
  obtain ⟨W1, hW1⟩ : ∃ W1, W1 = w.alloc (.cells xr0.cells 30) := ⟨_, rfl⟩
  have hb1 : Below w.heap.size w W1 := by rw [hW1]; exact (Below.refl _ _).alloc (Nat.le_refl _) _
  have HV : Hid (Bk W1 w.heap.size 30 xr0.cells) := Lib.hid (by rw [hW1]; exact Bk.new w _ _)
  have HB := Lib.hid hb1
  have HBY := Lib.hid (h.below hb1)
  have hlen : l.length = n := h.len
  have HW := Lib.hid (show W1 = w.alloc (.cells #[.int .i64 0, .int .i64 0, .int .i64 0, .int .i64 0, .string ⟨#[]⟩, .bool false, .string ⟨#[]⟩, .bool false, .string ⟨#[]⟩, .int .i64 0, .slice none 0 0, .slice none 0 0, .slice none 0 0, .slice none 0 0, .slice none 0 0, .slice none 0 0] 30) from hW1)
  have hs1 : W1.heap.size = w.heap.size + 1 := by rw [hW1, World.size_alloc]
  clear h hW1 hb1
  have HG0 := Lib.hid hG
  clear hG
  go_enter Try.func15, Try.ntmps15
  go_upto_region 1 with fail
  rw [← HW.out]
  clear HW
  by_cases hl : 4096 < n
  · have hl' : (4096 : Int) < (n : Int) := by omega
    exfalso; have := HG0.out; omega
  · have hl' : ¬ (4096 : Int) < (n : Int) := by omega
    have HL : Hid (¬ 4096 < l.length) := Lib.hid (by omega)
    obtain ⟨g, hg, hrd0⟩ := Rd.new 76 HBY.out (by omega)
    obtain ⟨W2, hW2⟩ : ∃ W, W = W1.alloc (.cells #[.slice A n c, .int .i64 0] 76) := ⟨_, rfl⟩
    rw [← hW2] at hrd0
    rw [hs1] at hrd0 hg
    have b2 : Below W1.heap.size W1 W2 := by rw [hW2]; exact (Below.refl _ _).alloc (Nat.le_refl _) _
    have HW2 := Lib.hid hW2
    obtain ⟨⟨k, s0⟩, hN⟩ : ∃ x, pN (l, 0) = x := ⟨_, rfl⟩
    have HN := Lib.hid hN
    have hG := HG0.out
    rw [hN] at hG
    simp only at hG
    have HG : Hid (s0.2 = 0 ∧ k = 1) := Lib.hid (by omega)
    clear hG HG0
    have HK : Hid (i64 k) := Lib.hid (by have := pN_i64 (l, 0); rwa [hN] at this)
    have HK0 : Hid (s0.2 ≠ 0 → k = 0) := Lib.hid (fun q => by have := pN_failed (σ := (l, 0)) (by rw [hN]; exact q); rw [hN] at this; exact this)
    have C2 := dNumR 1099511627776 (by omega) hrd0
    rw [show pNum 1099511627776 (l, 0) = (k, s0) from hN] at C2
    have C2 := Lib.hid C2
    have B2 := Lib.hid (Below.then HB.out b2)
    have R2 : Hid (Bk W2 w.heap.size 30 xr0.cells) := Lib.hid ((b2.block _ HV.out.lt).trans HV.out)
    have hrlt := hrd0.lt
    clear hl hlen hN hW2 hrd0 b2
    go_upto_region 4 with fail
    rw [← HW2.out]
    clear HW2
    go_wp2_with fail
    refine C2.out.mono ?_
    rintro e w3 ⟨rfl, hr3, g3⟩
    have D0 : Hid (DcW w (w3.alloc (.cells #[.int .i64 k, .int .i64 0, .int .i64 0, .int .i64 0, .string ⟨#[]⟩, .bool false, .string ⟨#[]⟩, .bool false, .string ⟨#[]⟩, .int .i64 0, .slice none 0 0, .slice none 0 0, .slice none 0 0, .slice none 0 0, .slice none 0 0, .slice none 0 0] 30)) (w.heap.size + 1) g w3.heap.size (xk k) s0) := Lib.hid (by
      have b3 : Below w.heap.size w w3 := B2.out.grown g3 B2.out.size (fun q hq => by injection hq with hq; omega)
      have ha : Below w3.heap.size w3 (w3.alloc (.cells #[.int .i64 k, .int .i64 0, .int .i64 0, .int .i64 0, .string ⟨#[]⟩, .bool false, .string ⟨#[]⟩, .bool false, .string ⟨#[]⟩, .int .i64 0, .slice none 0 0, .slice none 0 0, .slice none 0 0, .slice none 0 0, .slice none 0 0, .slice none 0 0] 30)) := (Below.refl _ _).alloc (Nat.le_refl _) _
      have hres : Bk w3 w.heap.size 30 xr0.cells := (g3.block _ R2.out.lt (fun q => by injection q with q; omega)).trans R2.out
      exact ⟨⟨by omega, hg, Nat.lt_of_lt_of_le hrlt g3.size⟩, hr3.alloc _, (ha.block _ hres.lt).trans hres, Bk.new w3 _ _, Below.then b3 ha, XrOwn.of_kind _ _ k HK.out⟩)
    obtain ⟨X, hX⟩ : ∃ X, w3.heap.size = X := ⟨_, rfl⟩
    clear hr3 g3 C2 R2 B2 hg hrlt hs1
    go_upto_region 5 with (refine wpList_store_new rfl (W := w3) rfl (c := #[.int .i64 0, .int .i64 0, .int .i64 0, .int .i64 0, .string ⟨#[]⟩, .bool false, .string ⟨#[]⟩, .bool false, .string ⟨#[]⟩, .int .i64 0, .slice none 0 0, .slice none 0 0, .slice none 0 0, .slice none 0 0, .slice none 0 0, .slice none 0 0]) (c' := (xk k).cells) rfl rfl rfl inf_rec rfl (Xr.cells_one (xk k)) ?_; simp only [Act.put])
    generalize hW4 : w3.alloc (.cells #[.int .i64 k, .int .i64 0, .int .i64 0, .int .i64 0, .string ⟨#[]⟩, .bool false, .string ⟨#[]⟩, .bool false, .string ⟨#[]⟩, .int .i64 0, .slice none 0 0, .slice none 0 0, .slice none 0 0, .slice none 0 0, .slice none 0 0, .slice none 0 0] 30) = W4 at D0 ⊢
    rw [hX] at D0
    (try rw [hX])
    clear hW4 hX
    obtain ⟨_, _, _, _, _, he1, _⟩ := D0.out.rd.byt
    by_cases he : s0.2 = 0
    · rw [he] at he1
      by_cases hk : 1 ≤ k ∧ k ≤ 10
      · rcases (by omega : k = 1 ∨ k = 2 ∨ k = 3 ∨ k = 4 ∨ k = 5 ∨ k = 6 ∨ k = 7 ∨ k = 8 ∨ k = 9 ∨ k = 10) with rfl | rfl | rfl | rfl | rfl | rfl | rfl | rfl | rfl | rfl
        · clear he hk
          have x0 := D0.out.blk.cell 0
          simp only [Xr.cells, xk, xr0, List.getElem?_toArray, List.getElem?_cons_zero, List.getElem?_cons_succ] at x0
          obtain ⟨⟨a0, s1⟩, h0⟩ : ∃ x, pN s0 = x := ⟨_, rfl⟩
          have I0 : Hid (i64 a0) := Lib.hid (by have := pN_i64 s0; rwa [h0] at this)
          have C := dNumR 1099511627776 (by omega) D0.out.rd
          rw [show pNum 1099511627776 (s0.1, s0.2) = (a0, s1) from h0] at C
          have C := Lib.hid C
          have HH0 := Lib.hid h0
          clear h0
          go_wp2_with fail
          refine C.out.mono ?_
          rintro e v0 ⟨rfl, hr, hg⟩
          have E0 := Lib.hid (D0.out.read (σ' := s1) hr hg)
          clear hr hg C
          have D1 := Lib.hid (E0.out.put1 (y' := { (xk 1) with tx := a0 }) 1 (.int .i64 a0) rfl { E0.out.own with tx := I0.out })
          clear x0
          have x0 := E0.out.blk.cell 0
          have x1 := E0.out.blk.cell 1
          have t1 := E0.out.blk.frz 1
          simp only [Xr.cells, xk, xr0, List.getElem?_toArray, List.getElem?_cons_zero, List.getElem?_cons_succ] at x0 x1
          obtain ⟨⟨a1, s2⟩, h1⟩ : ∃ x, pN s1 = x := ⟨_, rfl⟩
          have I1 : Hid (i64 a1) := Lib.hid (by have := pN_i64 s1; rwa [h1] at this)
          have C := dNumR 1099511627776 (by omega) D1.out.rd
          rw [show pNum 1099511627776 (s1.1, s1.2) = (a1, s2) from h1] at C
          have C := Lib.hid C
          have HH1 := Lib.hid h1
          clear h1
          go_wp2_with fail
          refine C.out.mono ?_
          rintro e v1 ⟨rfl, hr, hg⟩
          have E1 := Lib.hid (D1.out.read (σ' := s2) hr hg)
          clear hr hg C
          have D2 := Lib.hid (E1.out.put1 (y' := { { (xk 1) with tx := a0 } with prev := a1 }) 2 (.int .i64 a1) rfl { E1.out.own with prev := I1.out })
          clear x0 x1 t1
          have x0 := E1.out.blk.cell 0
          have x2 := E1.out.blk.cell 2
          have t2 := E1.out.blk.frz 2
          simp only [Xr.cells, xk, xr0, List.getElem?_toArray, List.getElem?_cons_zero, List.getElem?_cons_succ] at x0 x2
          obtain ⟨⟨a2, s3⟩, h2⟩ : ∃ x, pText 32 s2 = x := ⟨_, rfl⟩
          have C := dTextR 32 (by omega) D2.out.rd
          rw [show pText 32 (s2.1, s2.2) = (a2, s3) from h2] at C
          have C := Lib.hid C
          have HH2 := Lib.hid h2
          clear h2
          go_wp2_with fail
          refine C.out.mono ?_
          rintro e v2 ⟨rfl, hr, hg⟩
          have E2 := Lib.hid (D2.out.read (σ' := s3) hr hg)
          clear hr hg C
          have D3 := Lib.hid (E2.out.put1 (y' := { { { (xk 1) with tx := a0 } with prev := a1 } with key := a2 }) 4 (.string a2) rfl { E2.out.own with })
          clear x0 x2 t2
          have x0 := E2.out.blk.cell 0
          have x4 := E2.out.blk.cell 4
          have t4 := E2.out.blk.frz 4
          simp only [Xr.cells, xk, xr0, List.getElem?_toArray, List.getElem?_cons_zero, List.getElem?_cons_succ] at x0 x4
          obtain ⟨⟨a3, s4⟩, h3⟩ : ∃ x, pVl s3 = x := ⟨_, rfl⟩
          have C := readValue_any (w.heap.size + 1) g s3.1 s3.2 _ D3.out.rd (by have := D3.out.ord; have := D3.out.blk.lt; omega)
          rw [show pVl (s3.1, s3.2) = (a3, s4) from h3] at C
          have C := Lib.hid C
          have HH3 := Lib.hid h3
          clear h3
          go_wp2_with fail
          refine C.out.mono ?_
          rintro e v3 ⟨rfl, hq⟩
          have E3 := Lib.hid (D3.out.read (σ' := s4) hq.rd hq.grown)
          clear hq C
          have D4 := Lib.hid (E3.out.put2 (y' := { { { { (xk 1) with tx := a0 } with prev := a1 } with key := a2 } with old := a3 }) 5 (.bool a3.has) (.string a3.data) rfl { E3.out.own with })
          clear x0 x4 t4
          have x0 := E3.out.blk.cell 0
          have x5 := E3.out.blk.cell 5
          have t5 := E3.out.blk.frz 5
          have x6 := E3.out.blk.cell 6
          have t6 := E3.out.blk.frz 6
          simp only [Xr.cells, xk, xr0, List.getElem?_toArray, List.getElem?_cons_zero, List.getElem?_cons_succ] at x0 x5 x6
          obtain ⟨⟨a4, s5⟩, h4⟩ : ∃ x, pVl s4 = x := ⟨_, rfl⟩
          have C := readValue_any (w.heap.size + 1) g s4.1 s4.2 _ D4.out.rd (by have := D4.out.ord; have := D4.out.blk.lt; omega)
          rw [show pVl (s4.1, s4.2) = (a4, s5) from h4] at C
          have C := Lib.hid C
          have HH4 := Lib.hid h4
          clear h4
          go_wp2_with fail
          refine C.out.mono ?_
          rintro e v4 ⟨rfl, hq⟩
          have E4 := Lib.hid (D4.out.read (σ' := s5) hq.rd hq.grown)
          clear hq C
          have D5 := Lib.hid (E4.out.put2 (y' := { { { { { (xk 1) with tx := a0 } with prev := a1 } with key := a2 } with old := a3 } with new := a4 }) 7 (.bool a4.has) (.string a4.data) rfl { E4.out.own with })
          clear x0 x5 t5 x6 t6
          have x0 := E4.out.blk.cell 0
          have x7 := E4.out.blk.cell 7
          have t7 := E4.out.blk.frz 7
          have x8 := E4.out.blk.cell 8
          have t8 := E4.out.blk.frz 8
          simp only [Xr.cells, xk, xr0, List.getElem?_toArray, List.getElem?_cons_zero, List.getElem?_cons_succ] at x0 x7 x8
          have CE := Lib.hid (mEnd_any (w.heap.size + 1) g s5.1 s5.2 _ D5.out.rd)
          have HR : Hid (restP 1 s0 = (Xr.read { { { { { (xk 1) with tx := a0 } with prev := a1 } with key := a2 } with old := a3 } with new := a4 }, s5)) := Lib.hid (by
            unfold restP
            rw [if_pos rfl]
            simp only [pU, pBind, HH0.out, HH1.out, HH2.out, HH3.out, HH4.out]
            rfl
          )
          obtain ⟨FE, FO⟩ := decF_end HL.out HN.out (by omega) HR.out
          have FE := Lib.hid FE
          have FO := Lib.hid FO
          go_wp2_with fail
          refine CE.out.mono ?_
          rintro e w5 ⟨rfl, hr, hg⟩
          have F5 := Lib.hid (D5.out.read (σ' := (s5.1, endE s5.1 s5.2)) hr hg)
          have HS : Hid (endE s5.1 s5.2 = endS s5) := Lib.hid rfl
          clear hr hg CE
          by_cases hz0 : endS s5 = 0
          · have hz : (((endE s5.1 s5.2 : Nat) : Int) != 0) = false := by rw [HS.out, hz0]; rfl
            have FO := Lib.hid (FO.out hz0)
            have CM := Lib.hid (may7_any _ w.heap.size w5 (F5.out.own.inn (Nat.le_refl _)))
            have BX := Lib.hid F5.out.blk
            clear hz0
            go_wp2_with (refine wpList_load_row rfl 30 _ rfl X rfl 30 _ (0, 0) _ BX.out Try.underlying30 rfl inf_rec ?_; simp only [Act.put])
            refine CM.out.mono ?_
            rintro e w6 ⟨b, rfl, hb, b6⟩
            have F6 := Lib.hid (F5.out.new b6)
            cases b with
            | false =>
              have FN := Lib.hid (F6.out.zero (k := 11) (FO.out.2 (fun q => nomatch hb.2 q)))
              clear hb b6 CM FO
              go_wp2_with (refine wpList_store_row rfl 30 _ _ rfl w.heap.size xr0.cells rfl rfl 30 _ F6.out.res inf_rec rfl (Xr.cells_one xr0) ?_; simp only [Act.put])
              (try simp only [Exit.inBlock, Exit.then])
              refine bodyPost_ret (results_cellT rfl _ _ w.heap.size 30 _ _ rfl FN.out.1 Try.underlying30 rfl inf_rec) rfl ?_
              exact FN.out.2
            | true =>
              have FN := Lib.hid (F6.out.done (FO.out.1 (hb.1 rfl)))
              have BX6 := Lib.hid F6.out.blk
              clear hb b6 CM FO BX
              go_wp2_with (first
                | (refine wpList_load_row rfl 30 _ rfl X rfl 30 _ (0, 0) _ BX6.out Try.underlying30 rfl inf_rec ?_; simp only [Act.put])
                | (refine wpList_store_row rfl 30 _ _ rfl w.heap.size (Xr.cells { { { { { (xk 1) with tx := a0 } with prev := a1 } with key := a2 } with old := a3 } with new := a4 }) rfl rfl 30 _ F6.out.res inf_rec rfl (Xr.cells_one _) ?_; simp only [Act.put]))
              (try simp only [Exit.inBlock, Exit.then])
              refine bodyPost_ret (results_cellT rfl _ _ w.heap.size 30 _ _ rfl FN.out.1 Try.underlying30 rfl inf_rec) rfl ?_
              exact FN.out.2
          · have hz : (((endE s5.1 s5.2 : Nat) : Int) != 0) = true := by rw [HS.out]; simp; omega
            have FN := Lib.hid (F5.out.zero (k := endE s5.1 s5.2) (FE.out hz0))
            clear hz0
            go_wp2_with (refine wpList_store_row rfl 30 _ _ rfl w.heap.size xr0.cells rfl rfl 30 _ F5.out.res inf_rec rfl (Xr.cells_one xr0) ?_; simp only [Act.put])
            (try simp only [Exit.inBlock, Exit.then])
            refine bodyPost_ret (results_cellT rfl _ _ w.heap.size 30 _ _ rfl FN.out.1 Try.underlying30 rfl inf_rec) rfl ?_
            exact FN.out.2
        · exfalso; have := HG.out; omega
        · exfalso; have := HG.out; omega
        · exfalso; have := HG.out; omega
        · exfalso; have := HG.out; omega
        · exfalso; have := HG.out; omega
        · exfalso; have := HG.out; omega
        · exfalso; have := HG.out; omega
        · exfalso; have := HG.out; omega
        · exfalso; have := HG.out; omega
      · exfalso; have := HG.out; omega
    · exfalso; have := HG.out; omega
end Go.Proofs.Ytfldcddbmikfiaa
