/- What it says: disk.Crash hands back the disk that the plain one's crash leaves, all of it new memory. -/
import Derived.Test.YtlchikllgmkokaaDNew
import Derived.Test.YtlchikllgmkokaaDLast
import Derived.Test.YtlchikllgmkokaaDClone
import Derived.Laws.CopyOwn
namespace Go.Proofs.Ytlchikllgmkokaa
open Go.RowKit

/-- In the loop over the pending writes. -/
structure CrashRel (w w3 : World) (nm : Nat) (s : St) (cut : Nat → Nat) (k : Nat) (wr : World) : Prop where
  map : MapFn wr nm (secV zeros) (fun n => secV (s.left_ cut k n))
  fr : Fr (fun q => q = nm) w3 wr
  low : w.heap.size ≤ nm
  bel : Below w.heap.size w w3

theorem CrashRel.below {w w3 wr : World} {nm : Nat} {s : St} {cut : Nat → Nat} {k : Nat} (h : CrashRel w w3 nm s cut k wr) : Below w.heap.size w wr := h.bel.trans (h.fr.below h.bel.size (fun q e => e ▸ h.low))

theorem CrashRel.step {w w3 wr w2 w4 : World} {nm : Nat} {s : St} {cut : Nat → Nat} {k : Nat} (h : CrashRel w w3 nm s cut k wr) (hb : Below wr.heap.size wr w2)
    (hm : MapFn w4 nm (secV zeros) (fun m => if m = (s.at_ k).1 then secV (over (s.at_ k).2 (s.left_ cut k (s.at_ k).1) (cut k)) else secV (s.left_ cut k m))) (hf : Fr (fun q => q = nm) w2 w4) : CrashRel w w3 nm s cut (k + 1) w4 := by
  refine ⟨?_, (h.fr.then (Fr.of_below hb)).then hf, h.low, h.bel⟩
  have e : (fun n => secV (s.left_ cut (k + 1) n)) = fun m => if m = (s.at_ k).1 then secV (over (s.at_ k).2 (s.left_ cut k (s.at_ k).1) (cut k)) else secV (s.left_ cut k m) := by
    funext m
    show secV (upd (s.left_ cut k) (s.at_ k).1 _ m) = _
    unfold upd
    split <;> rfl
  rw [e]
  exact hm

/-- What Crash hands back. -/
def RetCrash (s : St) (w : World) (e : Ending) (w' : World) : Prop := ∃ b, e = .returned (.pointer (some ⟨b, 0, none⟩)) ∧ (dsk b s).is w' (fresh w w') ∧ Below w.heap.size w w'

theorem CrashRel.done {w w3 wr : World} {nm : Nat} {s : St} {c : Crs} (h : CrashRel w w3 nm s (c.of s.pend.length) s.pend.length wr) (ok : s.Ok) :
    RetCrash (s.crash c) w (.returned (.pointer (some ⟨wr.heap.size, 0, none⟩))) (wr.alloc (.cells (newC s.num nm) 71)) :=
  ⟨_, rfl, new_dsk (s := s.crash c) ⟨rfl, rfl, rfl, rfl⟩ (ok.crash c) h.map h.low h.below⟩

theorem splice_over (l m : List Int) (k : Nat) (hl : Sec l) (hm : Sec m) (hk : k ≤ 256) : splice (byC m) 0 ((byC l).take k) = byC (over l m k) := by
  have h1 : ((byC l).take k).length = k := by simp [byC_len, hl.1]; omega
  unfold splice over byC
  simp only [List.take_zero, List.nil_append, Nat.zero_add, List.map_append, List.map_take, List.map_drop]
  have h2 : ((l.map (Value.int .u8)).take k).length = k := h1
  rw [h2]

theorem info_byte : (Try.prog.info? 5).map (fun i => (i.zero, i.size, i.bytes)) = some (some (.int .u8 0), 1, 1) := by kernel_rfl
theorem slice_head (g o k : Nat) (hk : k ≤ 256) (w : World) : (Instr.sliceAt 73 (.pointer (some ⟨g, o, none⟩)) none (some (.int .i64 (k : Int))) none).run Try.prog w = .ok (.slice (some ⟨g, o, none⟩) k 256) w := by
  obtain ⟨i0, hi, hz0, hz1, hz2⟩ := info_parts info_byte
  have h1 : (0 ≤ (k : Int) ∧ (k : Int) ≤ ((256 : Nat) : Int)) := by omega
  simp [Instr.sliceAt, Instr.sureAddr, Instr.sliceBounds, Instr.sliceBound, asIntOf, run_underlying (P := Try.prog) Try.underlying73, Result.andThen, sizeOf, typeInfo, hi, hz1, Addr.add]
  rw [if_pos hk]
theorem slice_whole (g o : Nat) (w : World) : (Instr.sliceAt 73 (.pointer (some ⟨g, o, none⟩)) none none none).run Try.prog w = .ok (.slice (some ⟨g, o, none⟩) 256 256) w := by
  obtain ⟨i0, hi, hz0, hz1, hz2⟩ := info_parts info_byte
  simp [Instr.sliceAt, Instr.sureAddr, Instr.sliceBounds, run_underlying (P := Try.prog) Try.underlying73, Result.andThen, sizeOf, typeInfo, hi, hz1, Addr.add]

set_option maxRecDepth 100000 in
set_option maxHeartbeats 4000000 in
theorem crash_any (w : World) (F : Nat → Prop) (b mb : Nat) (A : Option Addr) (ca : Nat) (s : St) (h : DskB w F b mb A ca s) (KA : Option Addr) (kn kc : Nat) (c : Crs) (hk : Nts w KA kn kc c.keep) (hcut : -9223372036854775808 ≤ c.cut ∧ c.cut ≤ 9223372036854775807) :
    Calls Try.prog 23 #[.pointer (some ⟨b, 0, none⟩), .agg (crsV KA kn kc c)] w (RetCrash (s.crash c) w) := by
  obtain ⟨i0, hi, hz0, hz1, hz2⟩ := info_parts info_wr
  have hpl1 := h.lim.1
  have HOK := Lib.hid h.ok
  have hcmax : ca ≤ 9223372036854775807 := by
    rcases h.row.2 with ⟨hv, _⟩ | ⟨g, cap, cur, hv, _, _, _, hm, _⟩
    · injection hv with _ _ e3; omega
    · injection hv with _ _ e3; unfold maxLen at hm; omega
  have hu := Try.underlying75
  have hus := Try.underlying73
  have huw := Try.underlying67
  have hui := Try.underlying3
  have HZ := Lib.hid (show ∀ w, (zeroValue 75).run Try.prog w = .ok (.agg (wrC (0, zeros)).toArray) w from fun w => by simp [zeroValue, typeInfo, hi, hz0])
  have HZS := Lib.hid (fun w => zero_secA w)
  have HZM := Lib.hid (fun w => zero_sec w)
  have hz257 : (wrC (0, zeros)).toArray.size = 257 := by simp [wrC_len (p := (0, zeros)) zeros_sec]
  have HI : Hid ((Try.prog.info? 75).map (·.size) = some 257) := Lib.hid (by rw [hi]; simp [hz1])
  obtain ⟨es, clock, hes, hkeys, hgets⟩ := h.map
  -- behind the box
  have hB1 : Below w.heap.size w (w.alloc (.cells (crsV KA kn kc c) 35)) := (Below.refl _ _).alloc (Nat.le_refl _) _
  have h1 := h.below hB1
  obtain ⟨W1, hW1⟩ : ∃ W1, W1 = w.alloc (.cells (crsV KA kn kc c) 35) := ⟨_, rfl⟩
  have hbox : W1.heap[w.heap.size]? = some (.cells (crsV KA kn kc c) 35 (0, 0)) := by rw [hW1]; exact heap_alloc_new _ _
  have hsz1 : W1.heap.size = w.heap.size + 1 := by rw [hW1]; simp
  rw [← hW1] at h1 hB1
  have hes1 : W1.heap[mb]? = some (.map es clock) := (hB1.block mb h.map.lt).trans hes
  -- behind the clone
  have hB2 : Below w.heap.size w (W1.alloc (.map es clock)) := hB1.alloc (by omega) _
  have h2 := h1.below ((Below.refl W1.heap.size W1).alloc (Nat.le_refl _) (.map es clock))
  have hm2 : MapFn (W1.alloc (.map es clock)) W1.heap.size (secV zeros) (fun n => secV (s.syn n)) := ⟨es, clock, heap_alloc_new _ _, hkeys, hgets⟩
  have hbox2 : (W1.alloc (.map es clock)).heap[w.heap.size]? = some (.cells (crsV KA kn kc c) 35 (0, 0)) := (Below.heap_alloc W1 _ w.heap.size (by omega)).trans hbox
  obtain ⟨W2, hW2⟩ : ∃ W2, W2 = W1.alloc (.map es clock) := ⟨_, rfl⟩
  rw [← hW2] at hB2 h2 hm2 hbox2
  have C1 := Lib.hid (clone_any mb es clock W1 hes1)
  have hk2 : Nts W2.drew KA kn kc c.keep := hk.below hB2.drew
  have C2 := Lib.hid (last_any s.pend.length KA kn kc c W2.drew h.lim.1 hk2 hcut)
  have hW1c1 : W1.cell? ⟨b, 1, none⟩ = some (.map (some mb)) := h1.blk.cell 1
  have hW2c2 : W2.cell? ⟨b, 2, none⟩ = some (.slice A s.pend.length ca) := h2.blk.cell 2
  have hW2b0 : W2.cell? ⟨w.heap.size, 0, none⟩ = some (.slice KA kn kc) := (cell_of_row _ _ _ _ _ _ hbox2).trans rfl
  have hW2b1 : W2.cell? ⟨w.heap.size, 1, none⟩ = some (.bool c.torn) := (cell_of_row _ _ _ _ _ _ hbox2).trans rfl
  have hW2b2 : W2.cell? ⟨w.heap.size, 2, none⟩ = some (.int .i64 c.cut) := (cell_of_row _ _ _ _ _ _ hbox2).trans rfl
  have H2 := Lib.hid h2
  have HNM : Hid (w.heap.size < W1.heap.size) := Lib.hid (by omega)
  obtain ⟨nm, hnm⟩ : ∃ nm, W1.heap.size = nm := ⟨_, rfl⟩
  rw [hnm] at hm2 C1 HNM
  have HM2 := Lib.hid hm2
  have HB2 := Lib.hid hB2
  clear h h1 hes hkeys hgets hes1 hk hk2 h2 hm2 hB1 hB2 hbox hbox2
  have HW1 := Lib.hid hW1
  have HW2 := Lib.hid hW2
  clear hW1 hW2
  have HCV : Hid (∃ cv, cv = crsV KA kn kc c) := Lib.hid ⟨_, rfl⟩
  obtain ⟨cv, hcv⟩ := HCV.out
  have HCVE := Lib.hid hcv
  rw [← hcv] at C2 HW1 ⊢
  clear hcv HCV
  go_enter Try.func23, Try.ntmps23
  go_wp2_with (refine wpList_box rfl rfl (by rfl) HW1.out ?_)
  refine C1.out.mono ?_
  rintro e w' ⟨rfl, hw'⟩
  rw [← HW2.out] at hw'
  have hw2 := hw'.symm
  subst hw2
  clear C1 hW1c1 hsz1 HW1 HW2 hnm
  go_wp2_with fail
  have hS0 : W2.drew.cell? ⟨b, 2, none⟩ = some (.slice A s.pend.length ca) ∧ W2.drew.cell? ⟨w.heap.size, 0, none⟩ = some (.slice KA kn kc) ∧ W2.drew.cell? ⟨w.heap.size, 1, none⟩ = some (.bool c.torn) ∧ W2.drew.cell? ⟨w.heap.size, 2, none⟩ = some (.int .i64 c.cut) := ⟨hW2c2, hW2b0, hW2b1, hW2b2⟩
  clear hW2b0 hW2b1 hW2b2
  refine wp_region_noPanic ?_
  refine upto_start (fun w' => w'.cell? ⟨b, 2, none⟩ = some (.slice A s.pend.length ca) ∧ w'.cell? ⟨w.heap.size, 0, none⟩ = some (.slice KA kn kc) ∧ w'.cell? ⟨w.heap.size, 1, none⟩ = some (.bool c.torn) ∧ w'.cell? ⟨w.heap.size, 2, none⟩ = some (.int .i64 c.cut)) 7 (by kernel_rfl) ?_
  change Upto _ _ _ _ _ 8 _ _ _
  refine Upto.take (i := 0) (v := ?_) rfl (by kernel_rfl) (fun _ _ _ h => h) rfl (fun w' hS => ?_) hS0 ?_
  rotate_left
  · (try dsimp only at hS); go_split_ands; go_simp; (try with_reducible rfl)
  simp only [Act.put, List.setIfInBounds_toArray, List.set_cons_zero, List.set_cons_succ]
  refine Upto.take (i := 1) (v := ?_) rfl (by kernel_rfl) (fun _ _ _ h => h) rfl (fun w' hS => ?_) hS0 ?_
  rotate_left
  · (try dsimp only at hS); go_split_ands; go_simp; (try with_reducible rfl)
  simp only [Act.put, List.setIfInBounds_toArray, List.set_cons_zero, List.set_cons_succ]
  refine Upto.take (i := 2) (v := ?_) rfl (by kernel_rfl) (fun _ _ _ h => h) rfl (fun w' hS => ?_) hS0 ?_
  rotate_left
  · (try dsimp only at hS); go_split_ands; go_simp; (try with_reducible rfl)
  simp only [Act.put, List.setIfInBounds_toArray, List.set_cons_zero, List.set_cons_succ]
  refine Upto.take (i := 3) (v := ?_) rfl (by kernel_rfl) (fun _ _ _ h => h) rfl (fun w' hS => ?_) hS0 ?_
  rotate_left
  · (try dsimp only at hS); go_split_ands; go_simp; (try with_reducible rfl)
  simp only [Act.put, List.setIfInBounds_toArray, List.set_cons_zero, List.set_cons_succ]
  refine Upto.take (i := 4) (v := ?_) rfl (by kernel_rfl) (fun _ _ _ h => h) rfl (fun w' hS => ?_) hS0 ?_
  rotate_left
  · (try dsimp only at hS); go_split_ands; go_simp; (try with_reducible rfl)
  simp only [Act.put, List.setIfInBounds_toArray, List.set_cons_zero, List.set_cons_succ]
  refine Upto.take (i := 5) (v := ?_) rfl (by kernel_rfl) (fun _ _ _ h => h) rfl (fun w' hS => ?_) hS0 ?_
  rotate_left
  · (try dsimp only at hS); go_split_ands; go_simp; (try with_reducible rfl)
  simp only [Act.put, List.setIfInBounds_toArray, List.set_cons_zero, List.set_cons_succ]
  refine Upto.law (i := 6) rfl (by kernel_rfl) rfl (fun K hK => ?_)
  refine wp_enter (f := 39) (args := #[.int .i64 s.pend.length, .agg (crsV KA kn kc c)]) (by unfold crsV; go_simp) (by rw [← HCVE.out]; exact C2.out) ?_
  rintro e W3 ⟨lg, hlg, rfl, hblk, hb3⟩
  have hb23 : Below W2.heap.size W2 W3 := ⟨hb3.os, hb3.tape, hb3.output, hb3.size, hb3.block⟩
  have h3 := H2.out.below hb23
  have hm3 := HM2.out.eq (hb23.block _ HM2.out.lt)
  have hS3 : W3.cell? ⟨b, 2, none⟩ = some (.slice A s.pend.length ca) ∧ W3.cell? ⟨w.heap.size, 0, none⟩ = some (.slice KA kn kc) ∧ W3.cell? ⟨w.heap.size, 1, none⟩ = some (.bool c.torn) ∧ W3.cell? ⟨w.heap.size, 2, none⟩ = some (.int .i64 c.cut) := by
    have hlt : w.heap.size < W2.heap.size := by have := HM2.out.lt; have := HNM.out; omega
    exact ⟨h3.blk.cell 2, (hb23.cell (p := ⟨w.heap.size, 0, none⟩) hlt).trans hS0.2.1, (hb23.cell (p := ⟨w.heap.size, 1, none⟩) hlt).trans hS0.2.2.1, (hb23.cell (p := ⟨w.heap.size, 2, none⟩) hlt).trans hS0.2.2.2⟩
  refine ⟨_, rfl, hK _ _ hS3 ?_⟩
  have hc2 := hS3.1
  have hBW : Below w.heap.size w W3 := HB2.out.trans (hb23.mono HB2.out.size)
  have H3 := Lib.hid h3
  have HL := Lib.hid hblk
  have R0 : Hid (CrashRel w W3 nm s (c.of s.pend.length) 0 W3) := Lib.hid ⟨hm3, Fr.refl _ _, Nat.le_of_lt HNM.out, hBW⟩
  clear hS3 hS0 hb23 h3 hm3 hb3 hblk C2 HCVE HB2 HM2 H2 hK hW2c2 hBW hlg
  simp only [Act.put, List.setIfInBounds_toArray, List.set_cons_zero, List.set_cons_succ]
  refine Upto.tail rfl (by kernel_rfl) ?_
  simp only [List.drop_succ_cons, List.drop_zero]
  go_wp2_with fail
  refine NoPanic.normal ?_
  go_wp2_with fail
  go_loopw [29] (fun q wr => ∃ k : Nat, k ≤ s.pend.length ∧ q = .int .i64 k ∧ CrashRel w W3 nm s (c.of s.pend.length) k wr) (fun q _ => s.pend.length - (intOf q).toNat)
  case atStart => exact ⟨0, Nat.zero_le _, rfl, R0.out⟩
  case round =>
    obtain ⟨k, hkl, rfl, hr⟩ := hrel
    have hnb : nm ≠ b := R0.out.map.not_bk H3.out.blk
    have hnl : nm ≠ lg := R0.out.map.not_bk HL.out
    have hnp : (Value.slice A s.pend.length ca).ownBlock ≠ some nm := R0.out.map.not_row H3.out.row
    have hblk := H3.out.blk.eq (hr.fr.block b H3.out.blk.lt (fun e => hnb e.symm))
    have hlb := HL.out.eq (hr.fr.block lg HL.out.lt (fun e => hnl e.symm))
    have hrow := owns_keep H3.out.row (fun q hq => hr.fr.block q (H3.out.row.lt q hq).2 (fun e => hnp (by rw [hq, e])))
    by_cases hlt : k < s.pend.length
    · obtain ⟨pb, rfl, hpc, hpm, hat⟩ := pend_at HOK.out hrow (by omega)
      have hrg := hat k hlt
      have hrg0 : wr.rangeAt pb (0 + k * 257) (wrC (s.at_ k)) := by rw [Nat.zero_add]; exact hrg
      obtain ⟨n, l, hnl⟩ : ∃ n l, s.at_ k = (n, l) := ⟨_, _, rfl⟩
      have hsec : Sec l := by have := (HOK.out.at_ k hlt).2; rw [hnl] at this; exact this
      have hsecm : Sec (s.left_ (c.of s.pend.length) k n) := HOK.out.left_ (c.of_le _) k (by omega) n
      rw [hnl] at hrg hrg0
      have hwl : (wrC (n, l)).length = 257 := wrC_len (p := (n, l)) hsec
      have hbl : (byC l).length = 256 := by rw [byC_len, hsec.1]
      have hiw : (Try.prog.info? 75).map (·.size) = some (wrC (n, l)).length := by rw [hwl]; exact HI.out
      have h1w : (wrC (n, l)).toArray.all (·.oneCell') = true := all_oneCell_toArray (wrC_one _)
      have HST := Lib.hid (fun w2 w4 hb hm hf => hr.step (w2 := w2) (w4 := w4) hb (by rw [hnl]; exact hm) hf)
      have hlc : wr.cell? ⟨lg, k, none⟩ = some (.int .i64 (c.of s.pend.length k : Nat)) := by rw [hlb.cell]; exact natC_at _ _ _ hlt
      have hcl := c.of_le s.pend.length k
      have HMW : Hid (MapFn (wr.alloc (.cells (wrC (n, l)).toArray 75)) nm (secV zeros) (fun n => secV (s.left_ (c.of s.pend.length) k n))) := Lib.hid (hr.map.eq (Below.heap_alloc _ _ _ hr.map.lt))
      have hxn : (wr.alloc (.cells (wrC (n, l)).toArray 75)).cell? ⟨wr.heap.size, 0, none⟩ = some (.int .i64 n) := (cell_of_row _ _ _ _ _ _ (heap_alloc_new wr _)).trans rfl
      obtain ⟨m, hmm⟩ : ∃ m, s.left_ (c.of s.pend.length) k n = m := ⟨_, rfl⟩
      obtain ⟨cu, hcu⟩ : ∃ cu, c.of s.pend.length k = cu := ⟨_, rfl⟩
      rw [hmm] at hsecm
      rw [hcu] at hlc hcl
      have HI2 : Hid ((Try.prog.info? 73).map (·.size) = some (byC m).toArray.size) := Lib.hid (by rw [secV_size hsecm]; exact size_sec)
      have HS2 : Hid ((byC zeros).toArray.size = (byC m).toArray.size) := Lib.hid (by rw [secV_size hsecm, zeros_size])
      have H12 : Hid ((byC m).toArray.all (·.oneCell') = true) := Lib.hid (all_oneCell_toArray (byC_one m))
      have HMM := Lib.hid hmm
      have HCU := Lib.hid hcu
      have HR := Lib.hid hr
      have HBLK := Lib.hid hblk
      have HLB := Lib.hid hlb
      clear hr hat hmm hcu hblk hlb hrow hnl
      have hk0 : (0 : Int) ≤ (k : Int) := Int.natCast_nonneg _
      have hk1 : (k : Int) < (s.pend.length : Int) := by omega
      go_wp2_with (first
        | (refine wpList_run rfl (exec_load rfl (by rfl) (by first | exact hrg | exact hrg0) hu rfl hiw) ?_)
        | (refine wpList_run rfl (exec_allocA (t := 75) rfl HZ.out) ?_)
        | (refine wpList_store_new rfl (ty := 75) rfl (W := wr) rfl (by rfl) (by rfl) (by rw [List.size_toArray]; exact hiw) (by rw [hz257, List.size_toArray, hwl]) h1w ?_)
        | (refine wpList_lookup_fn rfl _ _ rfl huw hui nm _ _ (HZM.out _) HMW.out (by rfl) n (by rfl) ?_; rw [HMM.out])
        | (refine wpList_run rfl (exec_allocA (t := 73) rfl HZS.out) ?_)
        | (refine wpList_store_new rfl (ty := 73) rfl (W := wr.alloc (.cells (wrC (n, l)).toArray 75)) rfl (by rfl) (by rfl) HI2.out HS2.out H12.out ?_))
      obtain ⟨Wc, hWc⟩ : ∃ Wc, Wc = (wr.alloc (.cells (wrC (n, l)).toArray 75)).alloc (.cells (byC m).toArray 73) := ⟨_, rfl⟩
      have hbc : Below wr.heap.size wr Wc := by rw [hWc]; exact ((Below.refl _ _).alloc (Nat.le_refl _) _).alloc (by simp) _
      have hg0 : Wc.heap[wr.heap.size]? = some (.cells (wrC (n, l)).toArray 75 (0, 0)) := by rw [hWc]; exact heap_alloc2_old _ _ _
      have hg1 : Wc.heap[wr.heap.size + 1]? = some (.cells (byC m).toArray 73 (0, 0)) := by rw [hWc]; exact heap_alloc2_new _ _ _
      have hzc : Wc.heap.size = wr.heap.size + 2 := by rw [hWc]; simp
      have hS0 : Wc.drew.cell? ⟨lg, k, none⟩ = some (.int .i64 cu) := (hbc.cell (p := ⟨lg, k, none⟩) HLB.out.lt).trans hlc
      have hsrc : Wc.drew.rangeAt wr.heap.size 1 (byC l) := by
        have := World.rangeAt_of_block hg0 1 256
        have e : ((wrC (n, l)).toArray.extract 1 (1 + 256)).toList = byC l := by
          simp [wrC, hbl]
          exact List.take_of_length_le (by omega)
        rw [e] at this
        exact this
      have hx0 : Wc.cell? ⟨wr.heap.size, 0, none⟩ = some (.int .i64 n) := (cell_of_row _ _ _ _ _ _ hg0).trans rfl
      rw [← hWc]
      have HSRC := Lib.hid hsrc
      have HG1 := Lib.hid hg1
      have HBC := Lib.hid hbc
      have HX0 := Lib.hid hx0
      have HZC := Lib.hid hzc
      clear hsrc hg1 hg0 hbc hx0 hWc hzc hxn hrg hrg0
      refine wp_region_noPanic ?_
      refine upto_start (fun w' => w'.cell? ⟨lg, k, none⟩ = some (.int .i64 cu)) 7 (by kernel_rfl) ?_
      change Upto _ _ _ _ _ 8 _ _ _
      refine Upto.take (i := 0) (v := ?_) rfl (by kernel_rfl) (fun _ _ _ h => h) rfl (fun w' hS => ?_) hS0 ?_
      rotate_left
      · (try dsimp only at hS); go_simp; (try with_reducible rfl)
      simp only [Act.put, List.setIfInBounds_toArray, List.set_cons_zero, List.set_cons_succ]
      refine Upto.take (i := 1) (v := ?_) rfl (by kernel_rfl) (fun _ _ _ h => h) rfl (fun w' hS => ?_) hS0 ?_
      rotate_left
      · (try dsimp only at hS); go_simp; (try with_reducible rfl)
      simp only [Act.put, List.setIfInBounds_toArray, List.set_cons_zero, List.set_cons_succ]
      refine Upto.take (i := 2) (v := ?_) rfl (by kernel_rfl) (fun _ _ _ h => h) rfl (fun w' hS => ?_) hS0 ?_
      rotate_left
      · (try dsimp only at hS); go_simp; (try with_reducible rfl)
      simp only [Act.put, List.setIfInBounds_toArray, List.set_cons_zero, List.set_cons_succ]
      refine Upto.take (i := 3) (v := ?_) rfl (by kernel_rfl) (fun _ _ _ h => h) rfl (fun w' hS => ?_) hS0 ?_
      rotate_left
      · (try dsimp only at hS); go_simp; (try with_reducible rfl)
      simp only [Act.put, List.setIfInBounds_toArray, List.set_cons_zero, List.set_cons_succ]
      refine Upto.take (i := 4) rfl (by kernel_rfl) (fun _ _ _ h => h) rfl (fun w' hS => exec_slice rfl (by exact slice_head _ _ cu hcl _)) hS0 ?_
      simp only [Act.put, List.setIfInBounds_toArray, List.set_cons_zero, List.set_cons_succ]
      refine Upto.take (i := 5) (v := ?_) rfl (by kernel_rfl) (fun _ _ _ h => h) rfl (fun w' hS => ?_) hS0 ?_
      rotate_left
      · (try dsimp only at hS); go_simp; (try with_reducible rfl)
      simp only [Act.put, List.setIfInBounds_toArray, List.set_cons_zero, List.set_cons_succ]
      refine Upto.take (i := 6) rfl (by kernel_rfl) (fun _ _ _ h => h) rfl (fun w' hS => exec_slice rfl (by exact slice_whole _ _ _)) hS0 ?_
      simp only [Act.put, List.setIfInBounds_toArray, List.set_cons_zero, List.set_cons_succ]
      refine Upto.tail rfl (by kernel_rfl) ?_
      simp only [List.drop_succ_cons, List.drop_zero]
      have htk : ((byC l).take cu).length = cu := by rw [List.length_take, hbl]; omega
      refine wpList_copy_splice rfl _ _ 32 32 rfl 5 Try.underlying32 (by kernel_rfl) (some ⟨wr.heap.size + 1, 0, none⟩) (some ⟨wr.heap.size, 1, none⟩) cu 256 256 256 (by rfl) (by rfl) (wr.heap.size + 1) 0 (byC m) 73 HG1.out ((byC l).take cu) (by rw [htk]; show cu = min 256 cu; omega)
        (fun _ => ⟨rfl, ⟨wr.heap.size, 1, none⟩, rfl, fun j v hv => by
          rw [Addr.add_mid]
          refine HSRC.out j v ?_
          rw [List.getElem?_take] at hv
          split at hv
          · exact hv
          · cases hv⟩)
        (by rw [htk, byC_len, hsecm.1]; omega) (fun v hv => byC_one l v (List.mem_of_mem_take hv)) (wr.heap.size + 1) Wc (Below.refl _ _).drew (Nat.le_refl _) ?_
      intro W4 hspl hb4
      have hspl' := hspl.out
      rw [splice_over l m cu hsec hsecm hcl] at hspl'
      have hov : Sec (over l m cu) := over_sec hsec hsecm cu hcl
      have hx4 : W4.cell? ⟨wr.heap.size, 0, none⟩ = some (.int .i64 n) := (hb4.cell (p := ⟨wr.heap.size, 0, none⟩) (by show wr.heap.size < _; omega)).trans HX0.out
      have hrg4 : W4.rangeAt (wr.heap.size + 1) 0 (byC (over l m cu)) := by
        have := World.rangeAt_of_block hspl' 0 256
        have e : ((byC (over l m cu)).toArray.extract 0 (0 + 256)).toList = byC (over l m cu) := by
          have : (byC (over l m cu)).length = 256 := by rw [byC_len, hov.1]
          simp
          exact List.take_of_length_le (by omega)
        rw [e] at this
        exact this
      have hb04 : Below wr.heap.size wr W4 := HBC.out.trans (hb4.mono (Nat.le_succ _))
      have hm4 := Lib.hid (HR.out.map.eq (hb04.block nm HR.out.map.lt))
      have HB04 := Lib.hid hb04
      have hio : (Try.prog.info? 73).map (·.size) = some (byC (over l m cu)).length := by rw [byC_len, hov.1]; exact size_sec
      have HSN := Lib.hid (fun w4 hm hf => HST.out W4 w4 HB04.out (by rw [HMM.out, HCU.out]; exact hm) hf)
      clear hspl hspl' hb4 hb04 htk hov HST HBC HG1 HSRC HX0 hS0 HMM HCU
      simp only [Act.put]
      go_wp2_with fail
      refine NoPanic.normal ?_
      go_wp2_with (first
        | (refine wpList_run rfl (exec_load rfl (by rfl) (by exact hrg4) hus rfl hio) ?_)
        | (refine wpList_update_fn rfl _ _ _ rfl huw hui nm _ _ hm4.out (by rfl) n (by rfl) (secV (over l m cu)) (by rfl) ?_; intro w5 hm5 hf5; have R := Lib.hid (HSN.out w5 hm5 hf5); clear hm5 hf5 hx4 hrg4; simp only [Act.put]))
      go_roundw
      case rel => exact ⟨k + 1, by omega, by go_num, R.out⟩
      case measure => simp [intOf]; omega
    · obtain rfl : k = s.pend.length := by omega
      have R := Lib.hid (hr.done HOK.out)
      have hb0 : wr.cell? ⟨b, 0, none⟩ = some (.int .i64 s.num) := hblk.cell 0
      clear hr hblk hlb hrow
      go_wp2_with fail
      refine (newDisk_any s.num nm _).mono ?_
      rintro e w' ⟨rfl, rfl⟩
      go_wp2_with fail
      go_ret
      exact R.out
end Go.Proofs.Ytlchikllgmkokaa
