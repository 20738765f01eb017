/- What it says: the walk of the law DiskApart: whatever comes in, it answers true and turns nothing that was there. -/
import Derived.Test.YtlchikllgmkokaaDApart
import Derived.Test.YtlchikllgmkokaaOwnC
import Derived.Test.YtlchikllgmkokaaSame
import Derived.Test.YtlchikllgmkokaaDiskEnds
import Derived.Deep.QuietTactic
import Derived.BigQuiet
import Derived.Deep.CutBlock
namespace Go.Proofs.Ytlchikllgmkokaa
open Go.RowKit

/-- The crash's two disks, then the two that were crashed. -/
abbrev four (b g bx gy : Nat) (s t : St) (Z : Res) : Res := (rfd gy t).star ((dsk bx t).star ((dsk b s).star ((rfd g s).star Z)))

set_option maxRecDepth 100000 in
set_option maxHeartbeats 40000000 in
theorem diskApart_walk (A : Option Addr) (n c : Nat) (cs : List Cal) (A' : Option Addr) (n' c' : Nat) (cs' : List Cal) (KA : Option Addr) (kn kc : Nat) (cr : Crs) (w : World) (h : Cls w A n c cs) (h' : Cls w A' n' c' cs') (hk : Nts w KA kn kc cr.keep) (hcut : -9223372036854775808 ≤ cr.cut ∧ cr.cut ≤ 9223372036854775807) :
    Calls Try.prog 6 #[.slice A n c, .slice A' n' c', .agg #[.slice KA kn kc, .bool cr.torn, .int .i64 cr.cut]] w (Ret (.bool true) w) := by
  have hB0 : Below w.heap.size w (w.alloc (.cells (crsV KA kn kc cr) 35)) := (Below.refl _ _).alloc (Nat.le_refl _) _
  have hbox : Bk (w.alloc (.cells (crsV KA kn kc cr) 35)) w.heap.size 35 (crsV KA kn kc cr) := Bk.new _ _ _
  have hlt0 : w.heap.size < (w.alloc (.cells (crsV KA kn kc cr) 35)).heap.size := hbox.lt
  have h0 := h.below hB0
  have h0' := h'.below hB0
  have hkb := hk.below hB0
  obtain ⟨W0, hW0⟩ : ∃ W0, W0 = w.alloc (.cells (crsV KA kn kc cr) 35) := ⟨_, rfl⟩
  rw [← hW0] at h0 h0' hkb hB0 hbox hlt0
  have CL := Lib.hid (long_any A n c cs W0 h0)
  have CL' := Lib.hid (long_any A' n' c' cs' W0 h0')
  have HW0 : Hid (W0 = w.alloc (.cells #[.slice KA kn kc, .bool cr.torn, .int .i64 cr.cut] 35)) := Lib.hid hW0
  have HB0 := Lib.hid hB0
  have HK := Lib.hid hkb
  have HBOX := Lib.hid hbox
  have hkn := hk.cap
  have hkm := hk.max
  have b0 : W0.cell? ⟨w.heap.size, 0, none⟩ = some (.slice KA kn kc) := hbox.cell 0
  have hcap' := h'.cap
  have hmax' := h'.max
  unfold maxLen at hmax'
  have HLN' := Lib.hid h'.len
  have HX' := Lib.hid h'
  clear hk hkb hB0 hbox hW0
  by_cases hlong : longC cs = true
  · rw [hlong] at CL
    clear hlong h h0 h0' h'
    go_enter Try.func6, Try.ntmps6
    go_wp2_with fail
    rw [← HW0.out]; clear HW0
    refine CL.out.mono ?_
    rintro e w1 ⟨rfl, rfl⟩
    go_wp2_with fail
    refine (awake_any _).mono ?_
    rintro e w1 ⟨rfl, b1⟩
    have B1 := Lib.hid (HB0.out.trans (b1.mono HB0.out.size))
    clear b1
    go_wp2_with fail
    go_ret
    exact ⟨rfl, B1.out⟩
  have hlong1 : longC cs = false := by simpa using hlong
  have hn60 : n ≤ 60 := by rw [← h.len]; exact (longC_no hlong1).1
  rw [hlong1] at CL
  by_cases hlong2 : longC cs' = true
  · rw [hlong2] at CL'
    clear hlong hlong1 hlong2 h h0 h0' h'
    go_enter Try.func6, Try.ntmps6
    go_wp2_with fail
    rw [← HW0.out]; clear HW0
    refine CL.out.mono ?_
    rintro e w1 ⟨rfl, rfl⟩
    go_wp2_with fail
    refine CL'.out.mono ?_
    rintro e w1 ⟨rfl, rfl⟩
    go_wp2_with fail
    refine (awake_any _).mono ?_
    rintro e w1 ⟨rfl, b1⟩
    have B1 := Lib.hid (HB0.out.trans (b1.mono HB0.out.size))
    clear b1
    go_wp2_with fail
    go_ret
    exact ⟨rfl, B1.out⟩
  have hlong3 : longC cs' = false := by simpa using hlong2
  have hn60' : n' ≤ 60 := by rw [← h'.len]; exact (longC_no hlong3).1
  rw [hlong3] at CL'
  by_cases hkb : 60 < kn
  · clear hlong hlong1 hlong2 hlong3 h h0 h0' h'
    go_enter Try.func6, Try.ntmps6
    go_wp2_with fail
    rw [← HW0.out]; clear HW0
    refine CL.out.mono ?_
    rintro e w1 ⟨rfl, rfl⟩
    go_wp2_with fail
    refine CL'.out.mono ?_
    rintro e w1 ⟨rfl, rfl⟩
    go_wp2_with fail
    refine (awake_any _).mono ?_
    rintro e w1 ⟨rfl, b1⟩
    have B1 := Lib.hid (HB0.out.trans (b1.mono HB0.out.size))
    clear b1
    go_wp2_with fail
    go_ret
    exact ⟨rfl, B1.out⟩
  have CP := Lib.hid (played_any A n c cs W0 h0 hn60)
  clear hlong hlong1 hlong2 hlong3 h h0 h0' h'
  go_enter Try.func6, Try.ntmps6
  go_wp2_with fail
  rw [← HW0.out]; clear HW0
  refine CL.out.mono ?_
  rintro e w1 ⟨rfl, rfl⟩
  go_wp2_with fail
  refine CL'.out.mono ?_
  rintro e w1 ⟨rfl, rfl⟩
  go_wp2_with fail
  refine CP.out.mono ?_
  rintro e w1 ⟨b, g, s, rfl, hp, hs, hb⟩
  have HP := Lib.hid hp
  have HS := Lib.hid hs
  have HB1 : Hid (Below W0.heap.size W0 w1) := Lib.hid hb
  have KS : Hid (∀ W, Below W0.heap.size W0 W → W.cell? ⟨w.heap.size, 0, none⟩ = some (.slice KA kn kc) ∧ W.cell? ⟨w.heap.size, 1, none⟩ = some (.bool cr.torn) ∧ W.cell? ⟨w.heap.size, 2, none⟩ = some (.int .i64 cr.cut)) := Lib.hid (fun W hb => by
    have hz := HBOX.out.bel hb hlt0
    exact ⟨hz.cell 0, hz.cell 1, hz.cell 2⟩)
  have hS0 := KS.out w1.drew HB1.out.drew
  clear hp hs hb CL CL' CP b0
  go_wp2_with fail
  refine wp_region_noPanic ?_
  refine upto_start (fun w' => w'.cell? ⟨w.heap.size, 0, none⟩ = some (.slice KA kn kc) ∧ w'.cell? ⟨w.heap.size, 1, none⟩ = some (.bool cr.torn) ∧ w'.cell? ⟨w.heap.size, 2, none⟩ = some (.int .i64 cr.cut)) 7 (by kernel_rfl) ?_
  change Upto _ _ _ _ _ 9 _ _ _
  refine Upto.take (i := 0) (v := ?_) rfl (by kernel_rfl) (fun _ _ _ h => h) rfl (fun w' hS => ?_) hS0 ?_
  rotate_left
  · (try dsimp only at hS); go_split_ands; go_simp; (try with_reducible rfl)
  simp only [Act.put, List.setIfInBounds_toArray, List.set_cons_zero, List.set_cons_succ]
  refine Upto.take (i := 1) (v := ?_) rfl (by kernel_rfl) (fun _ _ _ h => h) rfl (fun w' hS => ?_) hS0 ?_
  rotate_left
  · (try dsimp only at hS); go_split_ands; go_simp; (try with_reducible rfl)
  simp only [Act.put, List.setIfInBounds_toArray, List.set_cons_zero, List.set_cons_succ]
  refine Upto.take (i := 4) (v := ?_) rfl (by kernel_rfl) (fun _ _ _ h => h) rfl (fun w' hS => ?_) hS0 ?_
  rotate_left
  · (try dsimp only at hS); go_split_ands; go_simp; (try with_reducible rfl)
  simp only [Act.put, List.setIfInBounds_toArray, List.set_cons_zero, List.set_cons_succ]
  refine Upto.take (i := 5) (v := ?_) rfl (by kernel_rfl) (fun _ _ _ h => h) rfl (fun w' hS => ?_) hS0 ?_
  rotate_left
  · (try dsimp only at hS); go_split_ands; go_simp; (try with_reducible rfl)
  simp only [Act.put, List.setIfInBounds_toArray, List.set_cons_zero, List.set_cons_succ]
  have CO := ownC_any KA kn kc cr w1.drew ((HK.out.below HB1.out).below (Below.refl _ _).drew) (by omega)
  unfold crsV at CO
  refine Upto.law (i := 2) rfl (by kernel_rfl) rfl (fun K hK => ?_)
  refine wp_enter (f := 24) (args := #[.agg #[.slice KA kn kc, .bool cr.torn, .int .i64 cr.cut]]) (by go_simp) CO ?_
  rintro e w2 ⟨A2, c2, rfl, hn2, _, hbel2⟩
  have hbel2' : Below w1.heap.size w1 w2 := ⟨hbel2.os, hbel2.tape, hbel2.output, hbel2.size, hbel2.block⟩
  have HB2 := Lib.hid (HB1.out.trans (hbel2'.mono HB1.out.size))
  refine ⟨_, rfl, hK _ _ (KS.out w2 HB2.out) ?_⟩
  clear hK
  have HS2 := Lib.hid (HS.out.below hbel2')
  have CC := Lib.hid (hasD_crash HS2.out HS2.out HB2.out.size A2 kn c2 cr hn2 hcut)
  unfold crsV at CC ⊢
  clear hn2 hbel2 hbel2' CO HS
  simp only [Act.put, List.setIfInBounds_toArray, List.set_cons_zero, List.set_cons_succ]
  refine Upto.law (i := 3) rfl (by kernel_rfl) rfl (fun K hK => ?_)
  refine wp_enter (f := 23) (args := #[.pointer (some ⟨b, 0, none⟩), .agg #[.slice A2 kn c2, .bool cr.torn, .int .i64 cr.cut]]) (by go_simp) CC.out ?_
  rintro e w3 ⟨bx, rfl, hx, hbx⟩
  have HB3 := Lib.hid (HB2.out.trans (hbx.mono HB2.out.size))
  refine ⟨_, rfl, hK _ _ (KS.out w3 HB3.out) ?_⟩
  clear hK
  have CR := Lib.hid (hasR_crash hx.snd.sw hx HB3.out.size KA kn kc cr ((HK.out.below HB3.out)) hcut)
  unfold crsV at CR
  clear hx hbx CC HS2
  simp only [Act.put, List.setIfInBounds_toArray, List.set_cons_zero, List.set_cons_succ]
  refine Upto.law (i := 6) rfl (by kernel_rfl) rfl (fun K hK => ?_)
  refine wp_enter (f := 25) (args := #[.pointer (some ⟨g, 0, none⟩), .agg #[.slice KA kn kc, .bool cr.torn, .int .i64 cr.cut]]) (by go_simp) CR.out ?_
  rintro e w4 ⟨gy, rfl, hy, hby⟩
  have HB4 := Lib.hid (HB3.out.trans (hby.mono HB3.out.size))
  refine ⟨_, rfl, hK _ _ (KS.out w4 HB4.out) ?_⟩
  clear hK
  have R0 : Hid (∃ s t Z, Ply s 60 ∧ Ply t 60 ∧ Has W0.heap.size (four b g bx gy s t Z) w4) := Lib.hid ⟨s, s.crash cr, emp, HP.out, ⟨HP.out.num, rfl, rfl, Nat.zero_le _, Nat.zero_le _⟩, hy⟩
  clear hy hby CR hS0 HP
  simp only [Act.put, List.setIfInBounds_toArray, List.set_cons_zero, List.set_cons_succ]
  refine Upto.tail rfl (by kernel_rfl) ?_
  simp only [List.drop_succ_cons, List.drop_zero]
  go_wp2_with fail
  refine NoPanic.normal ?_
  go_wp2_with fail
  go_loopw [11] (fun q wr => ∃ (k : Nat), k ≤ n' ∧ q = .int .i64 k ∧ (∃ s t Z, Ply s (60 + k) ∧ Ply t (60 + k) ∧ Has W0.heap.size (four b g bx gy s t Z) wr) ∧ Below W0.heap.size W0 wr) (fun q _ => n' - (intOf q).toNat)
  case atStart => exact ⟨0, Nat.zero_le _, rfl, R0.out, HB4.out⟩
  case round =>
    obtain ⟨k, hkn', rfl, ⟨s, t, Z, hp, hpt, hs⟩, hbw⟩ := hrel
    have HP := Lib.hid hp
    have HPT := Lib.hid hpt
    have HS := Lib.hid hs
    have HBW := Lib.hid hbw
    clear hp hpt hs hbw R0 HB4 HB3 HB2 HB1 KS
    by_cases hlt : k < n'
    · obtain ⟨q0, off, rfl, hc⟩ := HX'.out.at_ (by omega)
      have hin := HX'.out.each k hlt
      obtain ⟨cl, hcl⟩ : ∃ cl, cs'.getD k default = cl := ⟨_, rfl⟩
      have hc0 := hc k hlt
      rw [hcl] at hin hc0
      have hbwr : Below w.heap.size w wr := HB0.out.trans (HBW.out.mono HB0.out.size)
      have KN : Hid (∀ W, Below w.heap.size w W → W.cell? ⟨q0, off + k * 7 + 1, none⟩ = some (.int .i64 cl.n)) := Lib.hid (fun W hb => (hb.cell (World.block_lt_of_cell? w _ (hc0 1 _ rfl))).trans (hc0 1 _ rfl))
      have x2 : wr.cell? ⟨q0, off + k * 7 + 2, none⟩ = some (.int .u8 cl.b) := (hbwr.cell (World.block_lt_of_cell? w _ (hc0 2 _ rfl))).trans (hc0 2 _ rfl)
      have hcn := hin.n
      have hcb := hin.b
      have HWW := Lib.hid hbwr
      obtain ⟨cn, hcn'⟩ : ∃ cn, cl.n = cn := ⟨_, rfl⟩
      obtain ⟨cb, hcb'⟩ : ∃ cb, cl.b = cb := ⟨_, rfl⟩
      rw [hcn'] at hcn KN
      rw [hcb'] at hcb x2
      have hk0 : (0 : Int) ≤ (k : Int) := Int.natCast_nonneg _
      have hk1 : (k : Int) < (n' : Int) := by omega
      clear hc hc0 hin hcl hcn' hcb' hbwr
      go_wp2_with fail
      refine (full_any cb wr).mono ?_
      rintro e W1 ⟨gg, hgg, rfl, hbk, hb1⟩
      have HK1 := Lib.hid (full_beside HS.out HBW.out.size hgg hb1 hbk)
      have HBW1 := Lib.hid (HBW.out.trans (hb1.mono HBW.out.size))
      have HSEC := Lib.hid (fullL_sec hcb)
      have x1 : W1.cell? ⟨q0, off + k * 7 + 1, none⟩ = some (.int .i64 cn) := KN.out W1 (HB0.out.trans (HBW1.out.mono HB0.out.size))
      clear hgg hbk hb1 x2 HS
      by_cases hev : k % 2 = 0
      · have hde : ((k : Int) % 2 == 0) = true := by rw [beq_iff_eq]; omega
        have CW := Lib.hid (hasD_writeK (foc3 HK1.out) HBW1.out.size (Byt.sec (blk_at HK1.out) HSEC.out) cn hcn (by have := HPT.out.pend; omega))
        clear hev
        go_wp2_with fail
        refine CW.out.mono ?_
        rintro e W2 ⟨rfl, h2, b2⟩
        have HBW2 := Lib.hid (HBW1.out.trans b2)
        have HK2 := Lib.hid (foc3 h2)
        have CR := Lib.hid (hasR_write HK2.out HBW2.out.size (Byt.sec (blk_at h2.swap) HSEC.out) cn (by have := HPT.out.pend; omega))
        have x1' : W2.cell? ⟨q0, off + k * 7 + 1, none⟩ = some (.int .i64 cn) := KN.out W2 (HB0.out.trans (HBW2.out.mono HB0.out.size))
        clear h2 b2 CW HK1 x1
        go_wp2_with fail
        refine CR.out.mono ?_
        rintro e W3 ⟨rfl, h3, b3⟩
        have HBW3 := Lib.hid (HBW2.out.trans b3)
        have HK3 := Lib.hid (foc3 h3)
        have y0 : W3.cell? ⟨gg, 0, none⟩ = some (.int .u8 cb) := (blk_at HK3.out).cell 0
        have yf : W3.frozen? ⟨gg, 0, none⟩ = false := (blk_at HK3.out).frz 0
        have R : Hid (∀ u, Has W0.heap.size (four b g bx gy s (t.write cn (fullL cb)) Z) (W3.setCell ⟨gg, 0, none⟩ u) ∧ Below W0.heap.size W0 (W3.setCell ⟨gg, 0, none⟩ u)) := Lib.hid (fun u => ⟨(blk_set HK3.out HBW3.out.size 0 u).1.snd, HBW3.out.trans (blk_set HK3.out HBW3.out.size 0 u).2⟩)
        clear h3 b3 CR HK2 x1'
        go_wp2_with fail
        go_roundw
        case rel => exact ⟨k + 1, by omega, by go_num, ⟨s, _, Z, HP.out.next, HPT.out.write _ _, (R.out _).1⟩, (R.out _).2⟩
        case measure => simp [intOf]; omega
      · have hde : ((k : Int) % 2 == 0) = false := by rw [beq_eq_false_iff_ne]; omega
        clear hev
        have CW := Lib.hid (hasD_writeK (foc4 HK1.out) HBW1.out.size (Byt.sec (blk_at HK1.out) HSEC.out) cn hcn (by have := HP.out.pend; omega))
        go_wp2_with fail
        refine CW.out.mono ?_
        rintro e W2 ⟨rfl, h2, b2⟩
        have HBW2 := Lib.hid (HBW1.out.trans b2)
        have HK2 := Lib.hid (foc5 h2)
        have CR := Lib.hid (hasR_write HK2.out HBW2.out.size (Byt.sec (blk_at h2.swap) HSEC.out) cn (by have := HP.out.pend; omega))
        have x1' : W2.cell? ⟨q0, off + k * 7 + 1, none⟩ = some (.int .i64 cn) := KN.out W2 (HB0.out.trans (HBW2.out.mono HB0.out.size))
        clear h2 b2 CW HK1 x1
        go_wp2_with fail
        refine CR.out.mono ?_
        rintro e W3 ⟨rfl, h3, b3⟩
        have HBW3 := Lib.hid (HBW2.out.trans b3)
        have HK3 := Lib.hid (foc3 h3)
        have y0 : W3.cell? ⟨gg, 0, none⟩ = some (.int .u8 cb) := (blk_at HK3.out).cell 0
        have yf : W3.frozen? ⟨gg, 0, none⟩ = false := (blk_at HK3.out).frz 0
        have R : Hid (∀ u, Has W0.heap.size (four b g bx gy (s.write cn (fullL cb)) t Z) (W3.setCell ⟨gg, 0, none⟩ u) ∧ Below W0.heap.size W0 (W3.setCell ⟨gg, 0, none⟩ u)) := Lib.hid (fun u => ⟨by
          obtain ⟨F, hF, hFB⟩ := (blk_set HK3.out HBW3.out.size 0 u).1.snd
          exact ⟨F, perm4 hF, hFB⟩, HBW3.out.trans (blk_set HK3.out HBW3.out.size 0 u).2⟩)
        clear h3 b3 CR HK2 x1'
        go_wp2_with fail
        go_roundw
        case rel => exact ⟨k + 1, by omega, by go_num, ⟨_, t, Z, HP.out.write _ _, HPT.out.next, (R.out _).1⟩, (R.out _).2⟩
        case measure => simp [intOf]; omega
    · obtain rfl : k = n' := by omega
      obtain ⟨wi, hwi⟩ : ∃ wi, wi = wr := ⟨_, rfl⟩
      subst hwi
      have HD := Lib.hid (foc3 HS.out)
      have HXX := Lib.hid HS.out.swap
      have HR := Lib.hid (foc4 HS.out)
      have hos := Lib.hid (hasD_ok HD.out)
      have hot := Lib.hid (hasD_ok HXX.out)
      clear hlt
      go_wp2_with fail
      go_loopw [13] (fun q wr => ∃ j : Nat, j ≤ 4 ∧ q = .int .i64 j ∧ Below wi.heap.size wi wr) (fun q _ => 4 - (intOf q).toNat)
      case atStart => exact ⟨0, Nat.zero_le _, rfl, Below.refl _ _⟩
      case round =>
        obtain ⟨j, hj, rfl, hbj⟩ := hrel
        have HBJ := Lib.hid hbj
        clear hbj
        by_cases hj4 : j < 4
        · have C1 := Lib.hid (hasD_read (HD.out.below HBJ.out) (j : Int))
          rw [(rd_ok HP.out.gone HP.out.num j hj4).1, (rd_ok HP.out.gone HP.out.num j hj4).2] at C1
          go_wp2_with fail
          refine C1.out.mono ?_
          rintro e w5 ⟨A5, n5, c5, rfl, hb5, hnew5, hbel5⟩
          obtain rfl : n5 = 256 := by rw [← hb5.len]; exact (hos.out.now j).1
          obtain ⟨g5, o5, rfl, hc5⟩ := hb5.at_ (by omega)
          have hc50 : w5.cell? ⟨g5, o5, none⟩ = some (.int .u8 ((s.now j).getD 0 0)) := hc5 0 (by omega)
          have hcap5 := hb5.cap
          have hmax5 := hb5.max
          unfold maxLen at hmax5
          obtain ⟨hg5, hf5⟩ := hnew5 g5 o5 rfl
          have HU : Hid (∀ u, Below wi.heap.size wi (w5.setCell ⟨g5, o5, none⟩ u)) := Lib.hid (fun u => (HBJ.out.trans (hbel5.mono HBJ.out.size)).setCell (Nat.le_trans HBJ.out.size hg5) u)
          have C2 : Hid (∀ u, Calls Try.prog 18 #[.pointer (some ⟨b, 0, none⟩), .int .i64 j] (w5.setCell ⟨g5, o5, none⟩ u) (RetRd (s.now j) 0 (w5.setCell ⟨g5, o5, none⟩ u))) := Lib.hid (fun u => by
            have := hasD_read (HD.out.below (HU.out u)) (j : Int)
            rwa [(rd_ok HP.out.gone HP.out.num j hj4).1, (rd_ok HP.out.gone HP.out.num j hj4).2] at this)
          obtain ⟨x5, hx5⟩ : ∃ x5, (s.now j).getD 0 0 = x5 := ⟨_, rfl⟩
          rw [hx5] at hc50
          clear hb5 hnew5 hbel5 hc5 C1 hg5 hx5
          go_wp2_with fail
          refine (C2.out _).mono ?_
          rintro e w6 ⟨A6, n6, c6, rfl, hb6, _, hbel6⟩
          have B6 := Lib.hid ((HU.out _).trans (hbel6.mono (HU.out _).size))
          have Y6 := Lib.hid hb6
          have C3 := Lib.hid (hasD_read (HXX.out.below B6.out) (j : Int))
          rw [(rd_ok HPT.out.gone HPT.out.num j hj4).1, (rd_ok HPT.out.gone HPT.out.num j hj4).2] at C3
          clear hb6 hbel6 C2 HU hc50
          go_wp2_with fail
          refine C3.out.mono ?_
          rintro e w7 ⟨A7, n7, c7, rfl, hb7, _, hbel7⟩
          have B7 := Lib.hid (B6.out.trans (hbel7.mono B6.out.size))
          have Y67 := Lib.hid (Y6.out.below hbel7)
          have Y7 := Lib.hid hb7
          have C4 := Lib.hid (hasR_now (HR.out.below B7.out) j (by rw [HP.out.num]; exact hj4))
          clear hb7 hbel7 C3
          go_wp2_with fail
          refine C4.out.mono ?_
          rintro e w8 ⟨A8, n8, c8, rfl, hb8, hbel8⟩
          have B8 := Lib.hid (B7.out.trans (hbel8.mono B7.out.size))
          have Y78 := Lib.hid (Y7.out.below hbel8)
          have S1 := Lib.hid (same_yes A6 n6 c6 A8 n8 c8 _ _ w8 (Y67.out.below hbel8) hb8 rfl)
          clear hb8 hbel8 C4
          go_wp2_with fail
          refine S1.out.mono ?_
          rintro e w9 ⟨rfl, kd, rfl⟩
          have B9 : Hid (Below wi.heap.size wi (w8.drewN kd)) := Lib.hid (below_drewN B8.out kd)
          have C5 := Lib.hid (hasR_now (HS.out.below B9.out) j (by rw [HPT.out.num]; exact hj4))
          clear S1
          go_wp2_with fail
          refine C5.out.mono ?_
          rintro e wa ⟨Aa, na, ca, rfl, hba, hbela⟩
          have Ba := Lib.hid (B9.out.trans (hbela.mono B9.out.size))
          have S2 := Lib.hid (same_yes A7 n7 c7 Aa na ca _ _ wa ((Y78.out.drewN kd).below hbela) hba rfl)
          clear hba hbela C5
          go_wp2_with fail
          refine S2.out.mono ?_
          rintro e wb ⟨rfl, kb, rfl⟩
          have Bb : Hid (Below wi.heap.size wi (wa.drewN kb)) := Lib.hid (below_drewN Ba.out kb)
          clear S2
          go_wp2_with fail
          go_roundw
          case rel => exact ⟨j + 1, by omega, by go_num, Bb.out⟩
          case measure => simp [intOf]; omega
        · have HBF := Lib.hid (HBW.out.trans (HBJ.out.mono HBW.out.size))
          go_wp2_with fail
          refine (awake_any _).mono ?_
          rintro e wz ⟨rfl, bz⟩
          have BZ := Lib.hid ((HB0.out.trans (HBF.out.mono HB0.out.size)).trans (bz.mono (Nat.le_trans HB0.out.size HBF.out.size)))
          clear bz
          go_wp2_with fail
          go_ret
          exact ⟨rfl, BZ.out⟩
end Go.Proofs.Ytlchikllgmkokaa
