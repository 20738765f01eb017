/- What it says: the walk of the law DiskPlays: whatever comes in, it answers true and turns nothing that was there. -/
import Derived.Test.YtlchikllgmkokaaOwnC
import Derived.Test.YtlchikllgmkokaaPlayed
import Derived.Test.YtlchikllgmkokaaSame
import Derived.Deep.CutBlock
import Derived.Deep.QuietTactic
import Derived.BigQuiet
namespace Go.Proofs.Ytlchikllgmkokaa
open Go.RowKit

/-- Behind k calls. -/
structure Pls (s : St) (n k : Nat) : Prop where
  num : s.num = n
  pend : s.pend.length ≤ k
  syncs : s.syncs ≤ k

theorem Pls.next {s : St} {n k : Nat} (h : Pls s n k) : Pls s n (k + 1) := ⟨h.num, Nat.le_succ_of_le h.pend, Nat.le_succ_of_le h.syncs⟩
theorem Pls.step {s : St} {n k : Nat} (h : Pls s n k) : Pls s.step n k := ⟨by rw [St.step_num]; exact h.num, by rw [St.step_pend]; exact h.pend, by rw [St.step_syncs]; exact h.syncs⟩
theorem Pls.write {s : St} {n k : Nat} (h : Pls s n k) (m : Int) (l : List Int) : Pls (s.write m l) n (k + 1) := by
  unfold St.write
  split
  · exact h.next
  · split
    · exact h.next
    · split
      · refine ⟨h.step.num, ?_, Nat.le_succ_of_le h.step.syncs⟩
        show (s.pend ++ [_]).length ≤ _
        rw [List.length_append]
        have := h.pend
        simp; omega
      · exact h.step.next
theorem Pls.sync {s : St} {n k : Nat} (h : Pls s n k) : Pls s.sync n (k + 1) := by
  unfold St.sync
  split
  · refine ⟨h.step.num, Nat.zero_le _, ?_⟩
    show s.syncs + 1 ≤ _
    have := h.syncs; omega
  · exact h.step.next
theorem Pls.fuse {s : St} {n k : Nat} (h : Pls s n k) (m : Int) : Pls (s.fuse m) n (k + 1) := ⟨h.num, Nat.le_succ_of_le h.pend, Nat.le_succ_of_le h.syncs⟩
theorem Pls.crash {s : St} {n k : Nat} (h : Pls s n k) (c : Crs) : Pls (s.crash c) n (k + 1) := ⟨h.num, Nat.zero_le _, Nat.zero_le _⟩

/-- A block known whole. -/
def blkR (g : Nat) (t : TypeId) (cs : Array Value) : Res where
  is w F := Bk w g t cs ∧ F g ∧ ∀ k, F k → k < w.heap.size
  lt _ _ h := h.2.2
  keep w w' F := fun h hs hk => ⟨h.1.eq (hk g h.2.1), h.2.1, fun k f => Nat.lt_of_lt_of_le (h.2.2 k f) hs⟩

theorem blkR_new {B : Nat} {S : Res} {w : World} (t : TypeId) (cs : Array Value) (h : Has B S w) (hB : B ≤ w.heap.size) : Has B ((blkR w.heap.size t cs).star S) (w.alloc (.cells cs t)) :=
  h.new hB ((Below.refl _ _).alloc (Nat.le_refl _) _) ⟨Bk.new w t cs, ⟨Nat.le_refl _, (Bk.new w t cs).lt⟩, fun _ f => f.2⟩

/-- A disk, the document's, and a block: three ways to hold them. -/
abbrev atD (b g q : Nat) (s s' : St) (t : TypeId) (cs : Array Value) : Res := (dsk b s).star (((rfd g s').star emp).star (blkR q t cs))
abbrev atR (b g q : Nat) (s s' : St) (t : TypeId) (cs : Array Value) : Res := (rfd g s').star (emp.star ((blkR q t cs).star (dsk b s)))
section
variable {B b g q : Nat} {s s' : St} {t : TypeId} {cs : Array Value} {w : World}
theorem toD (h : Has B ((blkR q t cs).star (both b g s)) w) : Has B (atD b g q s s t cs) w := h.sw
theorem toR (h : Has B (atD b g q s s' t cs) w) : Has B (atR b g q s s' t cs) w := h.sw.assoc
theorem ofR (h : Has B (atR b g q s s t cs) w) : Has B (both b g s) w := h.assoc'.comm.assoc.snd
theorem bkD (h : Has B (atD b g q s s' t cs) w) : Bk w q t cs := by
  obtain ⟨F, hF⟩ := h.snd.snd.ex
  exact hF.1
theorem bkR (h : Has B (atR b g q s s' t cs) w) : Bk w q t cs := by
  obtain ⟨F, hF⟩ := h.snd.snd.fst.ex
  exact hF.1
end

set_option maxRecDepth 100000 in
set_option maxHeartbeats 8000000 in
theorem diskPlays_walk (x : Int) (A : Option Addr) (n c : Nat) (cs : List Cal) (w : World) (h : Cls w A n c cs) :
    Calls Try.prog 3 #[.int .i64 x, .slice A n c] w (Ret (.bool true) w) := by
  have CL := Lib.hid (long_any A n c cs w h)
  have HX := Lib.hid h
  have hcap := h.cap
  have hmax := h.max
  unfold maxLen at hmax
  have HLN := Lib.hid h.len
  clear h
  by_cases hlong : longC cs = true
  · rw [hlong] at CL
    clear hlong
    go_enter Try.func3, Try.ntmps3
    go_wp2_with fail
    refine CL.out.mono ?_
    rintro e w1 ⟨rfl, rfl⟩
    go_wp2_with fail
    refine (awake_any _).mono ?_
    rintro e w1 ⟨rfl, b1⟩
    have B1 := Lib.hid b1
    clear b1
    go_wp2_with fail
    go_ret
    exact ⟨rfl, B1.out⟩
  · have hlong' : longC cs = false := by simpa using hlong
    have HNO := Lib.hid (longC_no hlong')
    have hn60 : n ≤ 60 := by rw [← HLN.out]; exact HNO.out.1
    rw [hlong'] at CL
    clear hlong hlong'
    by_cases hbig : 64 < x
    · by_cases hbig2 : x ≤ 4096
      · go_enter Try.func3, Try.ntmps3
        go_wp2_with fail
        refine CL.out.mono ?_
        rintro e w1 ⟨rfl, rfl⟩
        go_wp2_with fail
        refine (awake_any _).mono ?_
        rintro e w1 ⟨rfl, b1⟩
        have B1 := Lib.hid b1
        clear b1
        go_wp2_with fail
        go_ret
        exact ⟨rfl, B1.out⟩
      · have CB := Lib.hid (new_bad x (.inr (by omega)) w)
        have CB2 := Lib.hid (rnew_bad x (.inr (by omega)) w)
        go_enter Try.func3, Try.ntmps3
        go_wp2_with fail
        refine CL.out.mono ?_
        rintro e w1 ⟨rfl, rfl⟩
        go_wp2_with fail
        refine CB.out.mono ?_
        rintro e w1 ⟨rfl, rfl⟩
        go_wp2_with fail
        refine CB2.out.mono ?_
        rintro e w1 ⟨rfl, rfl⟩
        go_wp2_with fail
        refine (awake_any _).mono ?_
        rintro e w1 ⟨rfl, b1⟩
        have B1 := Lib.hid b1
        clear b1
        go_wp2_with fail
        go_ret
        exact ⟨rfl, B1.out⟩
    · by_cases hsm : x < 1
      · have CB := Lib.hid (new_bad x (.inl hsm) w)
        have CB2 := Lib.hid (rnew_bad x (.inl hsm) w)
        go_enter Try.func3, Try.ntmps3
        go_wp2_with fail
        refine CL.out.mono ?_
        rintro e w1 ⟨rfl, rfl⟩
        go_wp2_with fail
        refine CB.out.mono ?_
        rintro e w1 ⟨rfl, rfl⟩
        go_wp2_with fail
        refine CB2.out.mono ?_
        rintro e w1 ⟨rfl, rfl⟩
        go_wp2_with fail
        refine (awake_any _).mono ?_
        rintro e w1 ⟨rfl, b1⟩
        have B1 := Lib.hid b1
        clear b1
        go_wp2_with fail
        go_ret
        exact ⟨rfl, B1.out⟩
      · obtain ⟨sn, rfl⟩ := Int.eq_ofNat_of_zero_le (show 0 ≤ x by omega)
        have hs1 : 1 ≤ sn ∧ sn ≤ 64 := by omega
        have CN := Lib.hid (hasD_new (Has.emp w.heap.size w) (Nat.le_refl w.heap.size) sn (by omega))
        go_enter Try.func3, Try.ntmps3
        go_wp2_with fail
        refine CL.out.mono ?_
        rintro e w1 ⟨rfl, rfl⟩
        go_wp2_with fail
        refine CN.out.mono ?_
        rintro e w1 ⟨b, rfl, h1, b1⟩
        have CR := Lib.hid (hasR_new h1 b1.size sn (by omega))
        have B1 := Lib.hid b1
        clear h1 b1 CN CL
        go_wp2_with fail
        refine CR.out.mono ?_
        rintro e w2 ⟨g, rfl, h2, b2⟩
        have R0 : Hid (∃ s, Pls s sn 0 ∧ Has w.heap.size (both b g s) w2 ∧ Below w.heap.size w w2) := Lib.hid ⟨St.new sn, ⟨rfl, Nat.le_refl _, Nat.le_refl _⟩, h2.swap, B1.out.trans (b2.mono B1.out.size)⟩
        clear h2 b2 CR B1
        go_wp2_with fail
        go_loopw [5, 7, 9] (fun d m q wr => ∃ k b g, k ≤ n ∧ d = .pointer (some ⟨b, 0, none⟩) ∧ m = .pointer (some ⟨g, 0, none⟩) ∧ q = .int .i64 (k : Nat) ∧ ∃ s, Pls s sn k ∧ Has w.heap.size (both b g s) wr ∧ Below w.heap.size w wr) (fun _ _ q _ => n - (intOf q).toNat)
        case atStart => exact ⟨0, b, g, Nat.zero_le _, rfl, rfl, rfl, R0.out⟩
        case round =>
          obtain ⟨k, b, g, hkn, rfl, rfl, rfl, s, hp, hs, hb⟩ := hrel
          have HP := Lib.hid hp
          have HS := Lib.hid hs
          have HB := Lib.hid hb
          clear hp hs hb R0
          by_cases hlt : k < n
          · obtain ⟨q0, off, rfl, hc⟩ := HX.out.at_ (by omega)
            have hin := HX.out.each k hlt
            obtain ⟨cl, hcl⟩ : ∃ cl, cs.getD k default = cl := ⟨_, rfl⟩
            have hc0 := hc k hlt
            rw [hcl] at hin hc0
            have X0 : ∀ j v, cl.cells[j]? = some v → wr.cell? ⟨q0, off + k * 7 + j, none⟩ = some v := fun j v hv => (HB.out.cell (World.block_lt_of_cell? w _ (hc0 j v hv))).trans (hc0 j v hv)
            have x0 : wr.cell? ⟨q0, off + k * 7, none⟩ = some (.int .i64 cl.kind) := X0 0 _ rfl
            have x1 : wr.cell? ⟨q0, off + k * 7 + 1, none⟩ = some (.int .i64 cl.n) := X0 1 _ rfl
            have x2 : wr.cell? ⟨q0, off + k * 7 + 2, none⟩ = some (.int .u8 cl.b) := X0 2 _ rfl
            have x3 : wr.cell? ⟨q0, off + k * 7 + 3, none⟩ = some (.slice cl.dA cl.dn cl.dc) := X0 3 _ rfl
            have x4 : wr.cell? ⟨q0, off + k * 7 + 4, none⟩ = some (.slice cl.kA cl.kn cl.kc) := X0 4 _ rfl
            have x5 : wr.cell? ⟨q0, off + k * 7 + 5, none⟩ = some (.bool cl.crs.torn) := X0 5 _ rfl
            have x6 : wr.cell? ⟨q0, off + k * 7 + 6, none⟩ = some (.int .i64 cl.crs.cut) := X0 6 _ rfl
            have HINW := Lib.hid hin
            have HIN := Lib.hid (hin.below (HB.out.mono (Nat.le_refl _)))
            have hcn := hin.n
            have hcb := hin.b
            have hcut := hin.cut
            have HDN := Lib.hid (HNO.out.2 k (by rw [HLN.out]; exact hlt))
            rw [hcl] at HDN
            have hk0 : (0 : Int) ≤ (k : Int) := Int.natCast_nonneg _
            have hk1 : (k : Int) < (n : Int) := by omega
            clear hc hc0 hin X0 hcl
            obtain ⟨kd, hkd⟩ : ∃ kd, cl.kind = kd := ⟨_, rfl⟩
            rw [hkd] at x0
            clear hkd
            go_upto_block 2 with fail
            have HD := Lib.hid (toD (blkR_new 37 #[.int .i64 kd, .int .i64 cl.n, .int .u8 cl.b, .slice cl.dA cl.dn cl.dc, .slice cl.kA cl.kn cl.kc, .bool cl.crs.torn, .int .i64 cl.crs.cut] HS.out HB.out.size))
            have HB0 : Hid (Below w.heap.size w (wr.alloc (.cells #[.int .i64 kd, .int .i64 cl.n, .int .u8 cl.b, .slice cl.dA cl.dn cl.dc, .slice cl.kA cl.kn cl.kc, .bool cl.crs.torn, .int .i64 cl.crs.cut] 37))) := Lib.hid (HB.out.alloc HB.out.size _)
            obtain ⟨cn, hcn'⟩ : ∃ cn, cl.n = cn := ⟨_, rfl⟩
            obtain ⟨cb, hcb'⟩ : ∃ cb, cl.b = cb := ⟨_, rfl⟩
            obtain ⟨tn, htn⟩ : ∃ tn, cl.crs.torn = tn := ⟨_, rfl⟩
            obtain ⟨ct, hct⟩ : ∃ ct, cl.crs.cut = ct := ⟨_, rfl⟩
            have HCR : Hid (cl.crs.torn = tn ∧ cl.crs.cut = ct) := Lib.hid ⟨htn, hct⟩
            rw [hcn'] at hcn
            rw [hcb'] at hcb
            rw [hct] at hcut
            rw [hcn', hcb', htn, hct] at HD HB0
            rw [hcn', hcb', htn, hct]
            clear hcn' hcb' htn hct x0 x1 x2 x3 x4 x5 x6
            obtain ⟨q, hq⟩ : ∃ q, q = wr.heap.size := ⟨_, rfl⟩
            obtain ⟨W0, hW0⟩ : ∃ W0, W0 = wr.alloc (.cells #[.int .i64 kd, .int .i64 cn, .int .u8 cb, .slice cl.dA cl.dn cl.dc, .slice cl.kA cl.kn cl.kc, .bool tn, .int .i64 ct] 37) := ⟨_, rfl⟩
            have HWQ : Hid (Below wr.heap.size wr W0) := Lib.hid (by rw [hW0]; exact (Below.refl _ _).alloc (Nat.le_refl _) _)
            rw [← hq] at HD
            rw [← hq]
            rw [← hW0] at HD HB0
            rw [← hW0]
            have HIN0 := Lib.hid (HIN.out.below HWQ.out)
            clear hW0 hq
            go_cut [5, 7, 11, 12, 13, 14, 15] from 58 to 189 (fun d m sm _ _ _ _ wx => sm = .bool true ∧ ∃ b g s, d = .pointer (some ⟨b, 0, none⟩) ∧ m = .pointer (some ⟨g, 0, none⟩) ∧ Pls s sn (k + 1) ∧ Has w.heap.size (both b g s) wx ∧ Below w.heap.size w wx)
            case first =>
              have hbk := bkD HD.out
              have y0 : W0.cell? ⟨q, 0, none⟩ = some (.int .i64 kd) := hbk.cell 0
              have y1 : W0.cell? ⟨q, 1, none⟩ = some (.int .i64 cn) := hbk.cell 1
              have y2 : W0.cell? ⟨q, 2, none⟩ = some (.int .u8 cb) := hbk.cell 2
              clear hbk
              by_cases hk0' : kd = 0
              · subst hk0'
                have KS : Hid (∀ W, Below W0.heap.size W0 W → W.cell? ⟨q, 1, none⟩ = some (.int .i64 cn) ∧ W.cell? ⟨q, 2, none⟩ = some (.int .u8 cb)) := Lib.hid (fun W hb => by
                  have hz := bkD (HD.out.below hb)
                  exact ⟨hz.cell 1, hz.cell 2⟩)
                have hS0 := KS.out W0.drew (Below.refl _ _).drew
                go_wp2_with fail
                refine wp_region_noPanic ?_
                refine upto_start (fun w' => w'.cell? ⟨q, 1, none⟩ = some (.int .i64 cn) ∧ w'.cell? ⟨q, 2, none⟩ = some (.int .u8 cb)) 13 (by kernel_rfl) ?_
                change Upto _ _ _ _ _ 16 _ _ _
                refine Upto.take (i := 0) (v := ?_) rfl (by kernel_rfl) (fun _ _ _ h => h) rfl (fun w' hS => ?_) hS0 ?_
                rotate_left
                · (try dsimp only at hS); go_split_ands; go_simp; (try with_reducible rfl)
                simp only [Act.put, List.setIfInBounds_toArray, List.set_cons_zero, List.set_cons_succ]
                refine Upto.take (i := 1) (v := ?_) rfl (by kernel_rfl) (fun _ _ _ h => h) rfl (fun w' hS => ?_) hS0 ?_
                rotate_left
                · (try dsimp only at hS); go_split_ands; go_simp; (try with_reducible rfl)
                simp only [Act.put, List.setIfInBounds_toArray, List.set_cons_zero, List.set_cons_succ]
                refine Upto.take (i := 2) (v := ?_) rfl (by kernel_rfl) (fun _ _ _ h => h) rfl (fun w' hS => ?_) hS0 ?_
                rotate_left
                · (try dsimp only at hS); go_split_ands; go_simp; (try with_reducible rfl)
                simp only [Act.put, List.setIfInBounds_toArray, List.set_cons_zero, List.set_cons_succ]
                refine Upto.take (i := 3) (v := ?_) rfl (by kernel_rfl) (fun _ _ _ h => h) rfl (fun w' hS => ?_) hS0 ?_
                rotate_left
                · (try dsimp only at hS); go_split_ands; go_simp; (try with_reducible rfl)
                simp only [Act.put, List.setIfInBounds_toArray, List.set_cons_zero, List.set_cons_succ]
                refine Upto.take (i := 4) (v := ?_) rfl (by kernel_rfl) (fun _ _ _ h => h) rfl (fun w' hS => ?_) hS0 ?_
                rotate_left
                · (try dsimp only at hS); go_split_ands; go_simp; (try with_reducible rfl)
                simp only [Act.put, List.setIfInBounds_toArray, List.set_cons_zero, List.set_cons_succ]
                refine Upto.take (i := 7) (v := ?_) rfl (by kernel_rfl) (fun _ _ _ h => h) rfl (fun w' hS => ?_) hS0 ?_
                rotate_left
                · (try dsimp only at hS); go_split_ands; go_simp; (try with_reducible rfl)
                simp only [Act.put, List.setIfInBounds_toArray, List.set_cons_zero, List.set_cons_succ]
                refine Upto.take (i := 8) (v := ?_) rfl (by kernel_rfl) (fun _ _ _ h => h) rfl (fun w' hS => ?_) hS0 ?_
                rotate_left
                · (try dsimp only at hS); go_split_ands; go_simp; (try with_reducible rfl)
                simp only [Act.put, List.setIfInBounds_toArray, List.set_cons_zero, List.set_cons_succ]
                refine Upto.take (i := 9) (v := ?_) rfl (by kernel_rfl) (fun _ _ _ h => h) rfl (fun w' hS => ?_) hS0 ?_
                rotate_left
                · (try dsimp only at hS); go_split_ands; go_simp; (try with_reducible rfl)
                simp only [Act.put, List.setIfInBounds_toArray, List.set_cons_zero, List.set_cons_succ]
                refine Upto.take (i := 10) (v := ?_) rfl (by kernel_rfl) (fun _ _ _ h => h) rfl (fun w' hS => ?_) hS0 ?_
                rotate_left
                · (try dsimp only at hS); go_split_ands; go_simp; (try with_reducible rfl)
                simp only [Act.put, List.setIfInBounds_toArray, List.set_cons_zero, List.set_cons_succ]
                refine Upto.take (i := 11) (v := ?_) rfl (by kernel_rfl) (fun _ _ _ h => h) rfl (fun w' hS => ?_) hS0 ?_
                rotate_left
                · (try dsimp only at hS); go_split_ands; go_simp; (try with_reducible rfl)
                simp only [Act.put, List.setIfInBounds_toArray, List.set_cons_zero, List.set_cons_succ]
                refine Upto.law (i := 5) rfl (by kernel_rfl) rfl (fun K hK => ?_)
                refine wp_enter (f := 14) (args := #[.int .u8 cb]) (by go_simp) (full_any cb W0.drew) ?_
                rintro e W2 ⟨gg, hgg, rfl, hbk, hb2⟩
                have hb2' : Below W0.heap.size W0 W2 := ⟨hb2.os, hb2.tape, hb2.output, hb2.size, hb2.block⟩
                refine ⟨_, rfl, hK _ _ (KS.out W2 hb2') ?_⟩
                clear hK
                have CW := Lib.hid (hasD_write HD.out hb2' HB0.out.size (Byt.sec hbk (fullL_sec hcb)) (fun q' hq' => by
                  have : gg = q' := by simpa [Value.ownBlock] using hq'
                  have : W0.heap.size ≤ gg := hgg
                  omega) cn hcn (by have := HP.out.pend; omega))
                have HB2 := Lib.hid (HB0.out.trans (hb2'.mono HB0.out.size))
                clear hbk hb2 hb2' hgg hS0 y0 y1 y2 KS
                simp only [Act.put, List.setIfInBounds_toArray, List.set_cons_zero, List.set_cons_succ]
                refine Upto.law (i := 6) rfl (by kernel_rfl) rfl (fun K hK => ?_)
                refine wp_enter (f := 13) (args := #[.pointer (some ⟨b, 0, none⟩), .int .i64 cn, .slice (some ⟨gg, 0, none⟩) 256 256]) (by go_simp) CW.out ?_
                rintro e W3 ⟨rfl, h3, b3⟩
                refine ⟨_, rfl, hK _ _ ⟨(bkD h3).cell 1, (bkD h3).cell 2⟩ ?_⟩
                clear hK
                have HB3 := Lib.hid (HB2.out.trans b3)
                have H3 := Lib.hid h3
                clear h3 b3 CW HB2
                simp only [Act.put, List.setIfInBounds_toArray, List.set_cons_zero, List.set_cons_succ]
                refine Upto.law (i := 12) rfl (by kernel_rfl) rfl (fun K hK => ?_)
                refine wp_enter (f := 14) (args := #[.int .u8 cb]) (by go_simp) (full_any cb W3) ?_
                rintro e W4 ⟨gg4, hgg4, rfl, hbk4, hb4⟩
                have h4 := H3.out.below hb4
                refine ⟨_, rfl, hK _ _ ⟨(bkD h4).cell 1, (bkD h4).cell 2⟩ ?_⟩
                clear hK
                have HB4 := Lib.hid (HB3.out.trans (hb4.mono HB3.out.size))
                have CR := Lib.hid (hasR_write (toR h4) HB4.out.size (Byt.sec hbk4 (fullL_sec hcb)) cn (by have := HP.out.pend; omega))
                clear h4 hb4 hbk4 hgg4 H3 HB3
                obtain ⟨er, her⟩ : ∃ er, s.wErr cn (fullL cb) = er := ⟨_, rfl⟩
                rw [her] at CR
                rw [her]
                clear her
                simp only [Act.put, List.setIfInBounds_toArray, List.set_cons_zero, List.set_cons_succ]
                refine Upto.tail rfl (by kernel_rfl) ?_
                simp only [List.drop_succ_cons, List.drop_zero]
                go_wp2_with fail
                refine CR.out.mono ?_
                rintro e W5 ⟨rfl, h5, b5⟩
                have R : Hid (Has w.heap.size (both b g (s.write cn (fullL cb))) W5 ∧ Below w.heap.size w W5) := Lib.hid ⟨ofR h5, HB4.out.trans b5⟩
                clear h5 b5 CR HB4 HD HB0
                go_wp2_with fail
                refine NoPanic.normal ?_
                go_wp2_with fail
                go_meet
                case rel => exact ⟨by simp, b, g, s.write cn (fullL cb), rfl, rfl, HP.out.write _ _, R.out⟩
              · have hd0 : (kd == 0) = false := by simpa using hk0'
                by_cases hk1' : kd = 1
                · subst hk1'
                  have CS := Lib.hid (hasD_sync HD.out HB0.out.size (by have := HP.out.syncs; omega))
                  go_wp2_with fail
                  refine CS.out.mono ?_
                  rintro e W3 ⟨rfl, h3, b3⟩
                  have HB3 := Lib.hid (HB0.out.trans b3)
                  have CR := Lib.hid (hasR_sync (toR h3) HB3.out.size (by have := HP.out.syncs; omega))
                  clear h3 b3 CS
                  go_wp2_with fail
                  refine CR.out.mono ?_
                  rintro e W5 ⟨rfl, h5, b5⟩
                  have R : Hid (Has w.heap.size (both b g s.sync) W5 ∧ Below w.heap.size w W5) := Lib.hid ⟨ofR h5, HB3.out.trans b5⟩
                  clear h5 b5 CR HB3 HD HB0 y0 y1 y2
                  go_wp2_with fail
                  go_meet
                  case rel => exact ⟨by simp, b, g, s.sync, rfl, rfl, HP.out.sync, R.out⟩
                · have hd1 : (kd == 1) = false := by simpa using hk1'
                  by_cases hk2' : kd = 2
                  · subst hk2'
                    have CS := Lib.hid (hasD_read HD.out cn)
                    go_wp2_with fail
                    refine CS.out.mono ?_
                    rintro e W3 ⟨A3, n3, c3, rfl, hb3, _, hbel3⟩
                    have HB3 := Lib.hid (HB0.out.trans (hbel3.mono HB0.out.size))
                    have HD3 := Lib.hid (HD.out.below hbel3)
                    have Y3 := Lib.hid hb3
                    have z1 : W3.cell? ⟨q, 1, none⟩ = some (.int .i64 cn) := (bkD HD3.out).cell 1
                    have CR := Lib.hid (hasR_read (toR HD3.out) cn)
                    clear hb3 hbel3 CS y0 y1 y2 HD HB0
                    go_wp2_with fail
                    refine CR.out.mono ?_
                    rintro e W4 ⟨A4, n4, c4, rfl, hb4, _, hbel4⟩
                    have HB4 := Lib.hid (HB3.out.trans (hbel4.mono HB3.out.size))
                    have HD4 := Lib.hid (HD3.out.below hbel4)
                    have S1 := Lib.hid (same_yes A3 n3 c3 A4 n4 c4 _ _ W4 (Y3.out.below hbel4) hb4 rfl)
                    clear hb4 hbel4 CR z1 HD3 HB3 Y3
                    obtain ⟨er, her⟩ : ∃ er, s.rErr cn = er := ⟨_, rfl⟩
                    rw [her]
                    clear her
                    go_wp2_with fail
                    refine S1.out.mono ?_
                    rintro e W5 ⟨rfl, kd5, rfl⟩
                    have R : Hid (Has w.heap.size (both b g s) (W4.drewN kd5) ∧ Below w.heap.size w (W4.drewN kd5)) := Lib.hid ⟨ofR (toR (HD4.out.below (below_drewN (Below.refl _ _) kd5))), below_drewN HB4.out kd5⟩
                    clear S1 HD4 HB4
                    go_wp2_with fail
                    go_meet
                    case rel => exact ⟨by simp, b, g, s, rfl, rfl, HP.out.next, R.out⟩
                  · have hd2 : (kd == 2) = false := by simpa using hk2'
                    by_cases hk3' : kd = 3
                    · subst hk3'
                      have CS := Lib.hid (hasD_fuse HD.out HB0.out.size cn hcn)
                      go_wp2_with fail
                      refine CS.out.mono ?_
                      rintro e W3 ⟨rfl, h3, b3⟩
                      have HB3 := Lib.hid (HB0.out.trans b3)
                      have z1 : W3.cell? ⟨q, 1, none⟩ = some (.int .i64 cn) := (bkD h3).cell 1
                      have CR := Lib.hid (hasR_fuse (toR h3) HB3.out.size cn hcn)
                      clear h3 b3 CS y0 y1 y2
                      go_wp2_with fail
                      refine CR.out.mono ?_
                      rintro e W5 ⟨rfl, h5, b5⟩
                      have R : Hid (Has w.heap.size (both b g (s.fuse cn)) W5 ∧ Below w.heap.size w W5) := Lib.hid ⟨ofR h5, HB3.out.trans b5⟩
                      clear h5 b5 CR HB3 HD HB0 z1
                      go_wp2_with fail
                      go_meet
                      case rel => exact ⟨by simp, b, g, s.fuse cn, rfl, rfl, HP.out.fuse cn, R.out⟩
                    · have hd3 : (kd == 3) = false := by simpa using hk3'
                      by_cases hk4' : kd = 4
                      · subst hk4'
                        have KS : Hid (∀ W, Below W0.heap.size W0 W → W.cell? ⟨q, 1, none⟩ = some (.int .i64 cn) ∧ W.cell? ⟨q, 3, none⟩ = some (.slice cl.dA cl.dn cl.dc)) := Lib.hid (fun W hb => by
                          have hz := bkD (HD.out.below hb)
                          exact ⟨hz.cell 1, hz.cell 3⟩)
                        have hS0 := KS.out W0.drew (Below.refl _ _).drew
                        obtain ⟨j0, ji, jz0, jz1, jz2⟩ := info_parts info_u8r
                        go_wp2_with fail
                        refine wp_region_noPanic ?_
                        refine upto_start (fun w' => w'.cell? ⟨q, 1, none⟩ = some (.int .i64 cn) ∧ w'.cell? ⟨q, 3, none⟩ = some (.slice cl.dA cl.dn cl.dc)) 13 (by kernel_rfl) ?_
                        change Upto _ _ _ _ _ 16 _ _ _
                        refine Upto.take (i := 0) (v := ?_) rfl (by kernel_rfl) (fun _ _ _ h => h) rfl (fun w' hS => ?_) hS0 ?_
                        rotate_left
                        · (try dsimp only at hS); go_split_ands; go_simp; (try with_reducible rfl)
                        simp only [Act.put, List.setIfInBounds_toArray, List.set_cons_zero, List.set_cons_succ]
                        refine Upto.take (i := 1) (v := ?_) rfl (by kernel_rfl) (fun _ _ _ h => h) rfl (fun w' hS => ?_) hS0 ?_
                        rotate_left
                        · (try dsimp only at hS); go_split_ands; go_simp; (try with_reducible rfl)
                        simp only [Act.put, List.setIfInBounds_toArray, List.set_cons_zero, List.set_cons_succ]
                        refine Upto.take (i := 2) (v := ?_) rfl (by kernel_rfl) (fun _ _ _ h => h) rfl (fun w' hS => ?_) hS0 ?_
                        rotate_left
                        · (try dsimp only at hS); go_split_ands; go_simp; (try with_reducible rfl)
                        simp only [Act.put, List.setIfInBounds_toArray, List.set_cons_zero, List.set_cons_succ]
                        refine Upto.take (i := 4) (v := ?_) rfl (by kernel_rfl) (fun _ _ _ h => h) rfl (fun w' hS => ?_) hS0 ?_
                        rotate_left
                        · (try dsimp only at hS); go_split_ands; go_simp; (try with_reducible rfl)
                        simp only [Act.put, List.setIfInBounds_toArray, List.set_cons_zero, List.set_cons_succ]
                        refine Upto.take (i := 5) (v := ?_) rfl (by kernel_rfl) (fun _ _ _ h => h) rfl (fun w' hS => ?_) hS0 ?_
                        rotate_left
                        · (try dsimp only at hS); go_split_ands; go_simp; (try with_reducible rfl)
                        simp only [Act.put, List.setIfInBounds_toArray, List.set_cons_zero, List.set_cons_succ]
                        refine Upto.take (i := 8) (v := ?_) rfl (by kernel_rfl) (fun _ _ _ h => h) rfl (fun w' hS => ?_) hS0 ?_
                        rotate_left
                        · (try dsimp only at hS); go_split_ands; go_simp; (try with_reducible rfl)
                        simp only [Act.put, List.setIfInBounds_toArray, List.set_cons_zero, List.set_cons_succ]
                        refine Upto.take (i := 9) (v := ?_) rfl (by kernel_rfl) (fun _ _ _ h => h) rfl (fun w' hS => ?_) hS0 ?_
                        rotate_left
                        · (try dsimp only at hS); go_split_ands; go_simp; (try with_reducible rfl)
                        simp only [Act.put, List.setIfInBounds_toArray, List.set_cons_zero, List.set_cons_succ]
                        refine Upto.take (i := 10) (v := ?_) rfl (by kernel_rfl) (fun _ _ _ h => h) rfl (fun w' hS => ?_) hS0 ?_
                        rotate_left
                        · (try dsimp only at hS); go_split_ands; go_simp; (try with_reducible rfl)
                        simp only [Act.put, List.setIfInBounds_toArray, List.set_cons_zero, List.set_cons_succ]
                        refine Upto.take (i := 11) (v := ?_) rfl (by kernel_rfl) (fun _ _ _ h => h) rfl (fun w' hS => ?_) hS0 ?_
                        rotate_left
                        · (try dsimp only at hS); go_split_ands; go_simp; (try with_reducible rfl)
                        simp only [Act.put, List.setIfInBounds_toArray, List.set_cons_zero, List.set_cons_succ]
                        refine Upto.take (i := 12) (v := ?_) rfl (by kernel_rfl) (fun _ _ _ h => h) rfl (fun w' hS => ?_) hS0 ?_
                        rotate_left
                        · (try dsimp only at hS); go_split_ands; go_simp; (try with_reducible rfl)
                        simp only [Act.put, List.setIfInBounds_toArray, List.set_cons_zero, List.set_cons_succ]
                        refine Upto.only (i := 3) rfl (by kernel_rfl) rfl (exec_buildSlice rfl [] (by rfl) (bslice_none _)) (KS.out _ ((Below.refl _ W0).drew.alloc (Nat.le_refl _) _)) ?_
                        simp only [Act.put, List.setIfInBounds_toArray, List.set_cons_zero, List.set_cons_succ]
                        have hown0 := World.ownsRow_made (base := W0.heap.size) (e := 5) (size := 1) W0.drew #[] 0 (Nat.le_refl _) (Nat.zero_le _) rfl
                        have hbA : Below W0.heap.size W0 (W0.drew.alloc (.cells #[] 5)) := (Below.refl _ W0).drew.alloc (Nat.le_refl _) _
                        refine Upto.law (i := 6) rfl (by kernel_rfl) rfl (fun K hK => ?_)
                        refine wp_append_byt _ _ 32 (by rfl) W0.heap.size 5 j0 Try.underlying32 ji jz0 jz1 jz2 _ 0 [] (by rfl) hown0 cl.dA cl.dn cl.dc cl.data (by rfl) (HIN0.out.data.below hbA) (by have := HDN.out.1; omega) hbA.size ?_
                        intro vA vcc W3 hv3 hg3
                        have hbB : Below W0.heap.size W0 W3 := hbA.grown hg3 hbA.size (fun k hk => by simp [Value.ownBlock] at hk; omega)
                        refine hK _ _ (KS.out _ hbB) ?_
                        simp only [Nat.zero_add, List.nil_append] at hv3
                        have CW := Lib.hid (hasD_write HD.out hbB HB0.out.size (Byt.of_own hv3 HIN0.out.data.rng) (fun q' hq' => (hv3.lt q' hq').1) cn hcn (by have := HP.out.pend; omega))
                        have HB3 := Lib.hid (HB0.out.trans (hbB.mono HB0.out.size))
                        clear hK hown0 hg3 hv3 hbA hbB hS0 y0 y1 y2 KS
                        simp only [Act.put, List.setIfInBounds_toArray, List.set_cons_zero, List.set_cons_succ, Nat.zero_add]
                        refine Upto.law (i := 7) rfl (by kernel_rfl) rfl (fun K hK => ?_)
                        refine wp_enter (f := 13) (args := #[.pointer (some ⟨b, 0, none⟩), .int .i64 cn, .slice vA cl.dn vcc]) (by go_simp) CW.out ?_
                        rintro e W4 ⟨rfl, h4, b4⟩
                        refine ⟨_, rfl, hK _ _ ⟨(bkD h4).cell 1, (bkD h4).cell 3⟩ ?_⟩
                        clear hK
                        have HB4 := Lib.hid (HB3.out.trans b4)
                        have CR := Lib.hid (hasR_write (toR h4) HB4.out.size (HINW.out.below HB4.out).data cn (by have := HP.out.pend; omega))
                        clear h4 b4 CW HB3
                        obtain ⟨er, her⟩ : ∃ er, s.wErr cn cl.data = er := ⟨_, rfl⟩
                        rw [her] at CR
                        rw [her]
                        clear her
                        simp only [Act.put, List.setIfInBounds_toArray, List.set_cons_zero, List.set_cons_succ]
                        refine Upto.tail rfl (by kernel_rfl) ?_
                        simp only [List.drop_succ_cons, List.drop_zero]
                        go_wp2_with fail
                        refine CR.out.mono ?_
                        rintro e W5 ⟨rfl, h5, b5⟩
                        have R : Hid (Has w.heap.size (both b g (s.write cn cl.data)) W5 ∧ Below w.heap.size w W5) := Lib.hid ⟨ofR h5, HB4.out.trans b5⟩
                        clear h5 b5 CR HB4 HD HB0
                        go_wp2_with fail
                        refine NoPanic.normal ?_
                        go_wp2_with fail
                        go_meet
                        case rel => exact ⟨by simp, b, g, s.write cn cl.data, rfl, rfl, HP.out.write _ _, R.out⟩
                      · have hd4 : (kd == 4) = false := by simpa using hk4'
                        have hbk := bkD HD.out
                        have y4 : W0.cell? ⟨q, 4, none⟩ = some (.slice cl.kA cl.kn cl.kc) := hbk.cell 4
                        have y5 : W0.cell? ⟨q, 5, none⟩ = some (.bool tn) := hbk.cell 5
                        have y6 : W0.cell? ⟨q, 6, none⟩ = some (.int .i64 ct) := hbk.cell 6
                        have CO := Lib.hid (ownC_any cl.kA cl.kn cl.kc cl.crs W0 HIN0.out.keep (by have := HDN.out.2; omega))
                        unfold crsV at CO
                        rw [HCR.out.1, HCR.out.2] at CO
                        clear hbk
                        go_wp2_with fail
                        refine CO.out.mono ?_
                        rintro e W3 ⟨A3, c3, rfl, hn3, _, hbel3⟩
                        have HB3 := Lib.hid (HB0.out.trans (hbel3.mono HB0.out.size))
                        have HD3 := Lib.hid (HD.out.below hbel3)
                        have HN3 := Lib.hid (HIN0.out.below hbel3)
                        have CS := Lib.hid (hasD_crash HD3.out HD3.out.snd HB3.out.size A3 cl.kn c3 cl.crs hn3 (by rw [HCR.out.2]; exact hcut))
                        unfold crsV at CS ⊢
                        rw [HCR.out.1, HCR.out.2] at CS ⊢
                        clear hn3 hbel3 CO y0 y1 y2 y4 y5 y6 HD HB0
                        go_wp2_with fail
                        refine CS.out.mono ?_
                        rintro e W4 ⟨b4, rfl, h4, hbel4⟩
                        have HB4 := Lib.hid (HB3.out.trans (hbel4.mono HB3.out.size))
                        have HN4 := Lib.hid (HN3.out.below hbel4)
                        have hbk := bkD h4
                        have y4 : W4.cell? ⟨q, 4, none⟩ = some (.slice cl.kA cl.kn cl.kc) := hbk.cell 4
                        have y5 : W4.cell? ⟨q, 5, none⟩ = some (.bool tn) := hbk.cell 5
                        have y6 : W4.cell? ⟨q, 6, none⟩ = some (.int .i64 ct) := hbk.cell 6
                        have CR := Lib.hid (hasR_crash (toR h4) (toR h4).snd HB4.out.size cl.kA cl.kn cl.kc cl.crs HN4.out.keep (by rw [HCR.out.2]; exact hcut))
                        unfold crsV at CR
                        rw [HCR.out.1, HCR.out.2] at CR
                        clear hbk h4 hbel4 CS HD3 HB3
                        go_wp2_with fail
                        refine CR.out.mono ?_
                        rintro e W5 ⟨g5, rfl, h5, hbel5⟩
                        have R : Hid (Has w.heap.size (both b4 g5 (s.crash cl.crs)) W5 ∧ Below w.heap.size w W5) := Lib.hid ⟨ofR h5, HB4.out.trans (hbel5.mono HB4.out.size)⟩
                        clear h5 hbel5 CR HB4 y4 y5 y6
                        go_wp2_with fail
                        go_meet
                        case rel => exact ⟨by simp, b4, g5, s.crash cl.crs, rfl, rfl, HP.out.crash _, R.out⟩
            case rest =>
              obtain ⟨rfl, b, g, s, rfl, rfl, hp, hs, hb⟩ := hcut
              have HP2 := Lib.hid hp
              have HR2 : Hid (Has w.heap.size (both b g s) wc ∧ Below w.heap.size w wc) := Lib.hid ⟨hs, hb⟩
              obtain ⟨SA, sc, LA, lc, z0, z1, z3, z4⟩ := hasR_cells hs.sw
              have KD : Hid (∀ nq, Calls Try.prog 26 #[.pointer (some ⟨b, 0, none⟩)] (wc.drewN nq) (Same (.bool s.gone) (wc.drewN nq))) := Lib.hid (fun nq => hasD_down (hs.below (below_drewN (Below.refl _ _) nq)))
              have KP : Hid (∀ nq, Calls Try.prog 27 #[.pointer (some ⟨b, 0, none⟩)] (wc.drewN nq) (Same (.int .i64 s.pend.length) (wc.drewN nq))) := Lib.hid (fun nq => hasD_pending (hs.below (below_drewN (Below.refl _ _) nq)))
              have KY : Hid (∀ nq, Calls Try.prog 28 #[.pointer (some ⟨b, 0, none⟩)] (wc.drewN nq) (Same (.int .i64 s.syncs) (wc.drewN nq))) := Lib.hid (fun nq => hasD_syncs (hs.below (below_drewN (Below.refl _ _) nq)))
              have KN : Hid (∀ nq, Calls Try.prog 29 #[.pointer (some ⟨b, 0, none⟩)] (wc.drewN nq) (Same (.int .i64 sn) (wc.drewN nq))) := Lib.hid (fun nq => by
                have := hasD_sectors (hs.below (below_drewN (Below.refl _ _) nq))
                rwa [hp.num] at this)
              clear hp hs hb z0
              obtain ⟨gn, hgn⟩ : ∃ gn, s.gone = gn := ⟨_, rfl⟩
              obtain ⟨pl, hpl⟩ : ∃ pl, s.pend.length = pl := ⟨_, rfl⟩
              obtain ⟨sy, hsy⟩ : ∃ sy, s.syncs = sy := ⟨_, rfl⟩
              rw [hgn] at KD z3
              rw [hpl] at KP z1
              rw [hsy] at KY z4
              clear hgn hpl hsy
              go_wp2_with fail
              go_quiet (first
                | (go_at_call 26; exact Calls.quiet_of_same ((KD.out _).mono fun _ _ h => ⟨h.1, h.2.symm⟩))
                | (go_at_call 27; exact Calls.quiet_of_same ((KP.out _).mono fun _ _ h => ⟨h.1, h.2.symm⟩))
                | (go_at_call 28; exact Calls.quiet_of_same ((KY.out _).mono fun _ _ h => ⟨h.1, h.2.symm⟩))
                | (go_at_call 29; exact Calls.quiet_of_same ((KN.out _).mono fun _ _ h => ⟨h.1, h.2.symm⟩)))
              go_wp2_with fail
              go_roundw
              case rel => exact ⟨k + 1, b, g, by omega, rfl, rfl, by go_num, s, HP2.out, HR2.out.1.below (below_drewN (Below.refl _ _) _), below_drewN HR2.out.2 _⟩
              case measure => simp [intOf]; omega
          · obtain rfl : k = n := by omega
            obtain ⟨wi, hwi⟩ : ∃ wi, wi = wr := ⟨_, rfl⟩
            subst hwi
            go_wp2_with fail
            go_loopw [16] (fun j wr => ∃ i : Nat, i ≤ sn ∧ j = .int .i64 i ∧ Below wi.heap.size wi wr) (fun j _ => sn - (intOf j).toNat)
            case atStart => exact ⟨0, Nat.zero_le _, rfl, Below.refl _ _⟩
            case round =>
              obtain ⟨i, hi, rfl, hbi⟩ := hrel
              by_cases hlt2 : i < sn
              · have HBI := Lib.hid hbi
                have CS := Lib.hid (hasD_read (HS.out.below hbi) (i : Int))
                clear hbi
                go_wp2_with fail
                refine CS.out.mono ?_
                rintro e W3 ⟨A3, n3, c3, rfl, hb3, _, hbel3⟩
                have HB3 := Lib.hid (HBI.out.trans (hbel3.mono HBI.out.size))
                have Y3 := Lib.hid hb3
                have CR := Lib.hid (hasR_read (HS.out.below HB3.out).sw (i : Int))
                clear hb3 hbel3 CS
                go_wp2_with fail
                refine CR.out.mono ?_
                rintro e W4 ⟨A4, n4, c4, rfl, hb4, _, hbel4⟩
                have HB4 := Lib.hid (HB3.out.trans (hbel4.mono HB3.out.size))
                have S1 := Lib.hid (same_yes A3 n3 c3 A4 n4 c4 _ _ W4 (Y3.out.below hbel4) hb4 rfl)
                clear hb4 hbel4 CR HB3 Y3
                obtain ⟨er, her⟩ : ∃ er, s.rErr (i : Int) = er := ⟨_, rfl⟩
                rw [her]
                clear her
                go_wp2_with fail
                refine S1.out.mono ?_
                rintro e W5 ⟨rfl, kd5, rfl⟩
                have R := Lib.hid (below_drewN HB4.out kd5)
                clear S1 HB4
                go_wp2_with fail
                go_roundw
                case rel => exact ⟨i + 1, by omega, by go_num, R.out⟩
                case measure => simp [intOf]; omega
              · have HBI := Lib.hid (HB.out.trans (hbi.mono HB.out.size))
                clear hbi
                go_wp2_with fail
                refine (awake_any _).mono ?_
                rintro e w9 ⟨rfl, b9⟩
                have B9 := Lib.hid (HBI.out.trans (b9.mono HBI.out.size))
                clear b9
                go_wp2_with fail
                go_ret
                exact ⟨rfl, B9.out⟩
end Go.Proofs.Ytlchikllgmkokaa
