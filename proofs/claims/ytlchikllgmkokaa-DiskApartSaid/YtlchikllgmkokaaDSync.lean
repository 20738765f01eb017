/- What it says: disk.Sync answers and leaves what the plain disk does. -/
import Derived.Test.YtlchikllgmkokaaDWrite
namespace Go.Proofs.Ytlchikllgmkokaa
open Go.RowKit

theorem wrC_one (p : Nat × List Int) : ∀ u ∈ wrC p, u.oneCell' = true := fun u hu => by
  rcases List.mem_cons.1 hu with rfl | hu
  · rfl
  · exact byC_one p.2 u hu

theorem range_cells {w : World} {b o : Nat} {cs : List Value} (h : w.rangeAt b o cs) {j : Nat} {v : Value} (hv : cs[j]? = some v) : w.cell? ⟨b, o + j, none⟩ = some v := h j v hv

/-- The pending writes in memory, one by one. -/
theorem pend_at {w : World} {A : Option Addr} {c : Nat} {s : St} (ok : s.Ok) (h : w.ownsRow 0 75 257 (.slice A s.pend.length c) s.pend.length (pdC s.pend)) (hp : 0 < s.pend.length) :
    ∃ pb, A = some ⟨pb, 0, none⟩ ∧ s.pend.length ≤ c ∧ c ≤ maxLen ∧ ∀ i, i < s.pend.length → w.rangeAt pb (i * 257) (wrC (s.at_ i)) := by
  rcases h.2 with ⟨_, hn⟩ | ⟨g, cap, cur, hv, _, hg, hnc, hm, hcs, htk⟩
  · omega
  · injection hv with e1 e2 e3
    subst e3
    refine ⟨g, e1, hnc, hm, fun i hi j v hv => ?_⟩
    have hl : ∀ y ∈ s.pend, (wrC y).length = 257 := fun p hp => wrC_len (ok.pend p hp).2
    have hx : s.pend[i]? = some (s.at_ i) := by simp [St.at_, List.getD, List.getElem?_eq_getElem hi]
    have hj : j < 257 := by
      have := (List.getElem?_eq_some_iff.1 hv).1
      rwa [wrC_len (ok.at_ i hi).2] at this
    have := flatMap_at wrC 257 s.pend i j _ hl hx hj
    have hc := h.cells (g := g) (by rw [e1]; rfl) (i * 257 + j) v (by unfold pdC; rw [this, hv])
    have hadd : (⟨g, 0, none⟩ : Addr).add (i * 257 + j) = ⟨g, i * 257 + j, none⟩ := by unfold Addr.add; split <;> simp_all
    rwa [hadd] at hc

/-- What Sync leaves. -/
def RetSync (F : Nat → Prop) (b : Nat) (e0 : Int) (s' : St) (w : World) (e : Ending) (w' : World) : Prop := e = .returned (.int .i64 e0) ∧ Turn (dsk b s') F w w'

set_option maxHeartbeats 1000000 in
theorem sync_down (w : World) (F : Nat → Prop) (b mb : Nat) (A : Option Addr) (c : Nat) (s : St) (h : DskB w F b mb A c s) (hc : s.can = false) :
    Calls Try.prog 16 #[.pointer (some ⟨b, 0, none⟩)] w (RetSync F b 40 s.step w) := by
  have C2 := Lib.hid (step_any h)
  have T := Lib.hid (fun w' (h' : DskB w' F b mb A c s.step) hf => h.turned h' hf)
  have HC := Lib.hid hc
  clear h hc
  go_enter Try.func16, Try.ntmps16
  go_wp2_with fail
  refine C2.out.mono ?_
  rintro e w' ⟨rfl, h1, h2⟩
  rw [HC.out]
  have R : Hid (RetSync F b 40 s.step w (.returned (.int .i64 40)) w') := Lib.hid ⟨rfl, T.out w' h1 h2⟩
  clear h1 h2
  go_wp2_with fail
  go_ret
  exact R.out

/-- While the writes are synchronized. -/
structure SyncRel (b mb : Nat) (cs : Array Value) (A : Option Addr) (c : Nat) (s : St) (w1 : World) (k : Nat) (wr : World) : Prop where
  blk : Bk wr b 71 cs
  map : MapFn wr mb (secV zeros) (fun n => secV (s.upTo k n))
  row : wr.ownsRow 0 75 257 (.slice A s.pend.length c) s.pend.length (pdC s.pend)
  fr : Fr (fun k => k = mb) w1 wr

theorem row_not_bk {w : World} {base e size n : Nat} {v : Value} {xs : List Value} {b : Nat} {t : TypeId} {cs : Array Value} (h : w.ownsRow base e size v n xs) (hb : Bk w b t cs) (hne : t ≠ e) : v.ownBlock ≠ some b := by
  rcases h.2 with ⟨rfl, _⟩ | ⟨g, cap, cur, rfl, _, hg, _⟩
  · simp [Value.ownBlock]
  · intro q
    simp [Value.ownBlock] at q
    subst q
    unfold Bk at hb
    rw [hb] at hg
    simp at hg
    exact hne hg.2

theorem SyncRel.step {b mb : Nat} {cs : Array Value} {A : Option Addr} {c : Nat} {s : St} {w1 wr w2 w3 : World} {k : Nat} (h : SyncRel b mb cs A c s w1 k wr) (hb : Below wr.heap.size wr w2)
    (hm : MapFn w3 mb (secV zeros) (fun m => if m = (s.at_ k).1 then secV (s.at_ k).2 else secV (s.upTo k m))) (hf : Fr (fun k => k = mb) w2 w3) : SyncRel b mb cs A c s w1 (k + 1) w3 := by
  have hne : mb ≠ b := h.map.not_bk h.blk
  have hpb : (Value.slice A s.pend.length c).ownBlock ≠ some mb := h.map.not_row h.row
  refine ⟨?_, ?_, ?_, ?_⟩
  · have h2 := h.blk.bel hb h.blk.lt
    exact h2.eq (hf.block b h2.lt (fun e => hne e.symm))
  · have e : (fun n => secV (s.upTo (k + 1) n)) = fun m => if m = (s.at_ k).1 then secV (s.at_ k).2 else secV (s.upTo k m) := by
      funext m
      show secV (upd (s.upTo k) (s.at_ k).1 (s.at_ k).2 m) = _
      unfold upd
      split <;> rfl
    rw [e]
    exact hm
  · refine owns_keep h.row (fun q hq => ?_)
    have hlt := (h.row.lt q hq).2
    exact (hf.block q (Nat.lt_of_lt_of_le hlt hb.size) (fun e => hpb (by rw [hq, e]))).trans (hb.block q hlt)
  · exact (h.fr.then (Fr.of_below hb)).then hf

theorem slice_none (A : Option Addr) (n c : Nat) (w : World) : (Instr.sliceAt 69 (.slice A n c) none (some (.int .i64 0)) none).run Try.prog w = .ok (.slice A 0 c) w := by
  obtain ⟨i0, hi, hz0, hz1, hz2⟩ := info_parts info_wr
  cases A with
  | none => by_cases h : c = 0 <;> simp [Instr.sliceAt, Instr.slice, Instr.sliceBounds, Instr.sliceBound, asIntOf, run_underlying (P := Try.prog) Try.underlying69, Result.andThen, sizeOf, typeInfo, hi, hz1, h]
  | some a => by_cases h : c = 0 <;> simp [Instr.sliceAt, Instr.slice, Instr.sliceBounds, Instr.sliceBound, asIntOf, run_underlying (P := Try.prog) Try.underlying69, Result.andThen, sizeOf, typeInfo, hi, hz1, h, Addr.add]

/-- Behind the loop: the list cleared, the two cells laid. -/
theorem SyncRel.done {w w1 wr w3 : World} {F : Nat → Prop} {b mb : Nat} {A : Option Addr} {c : Nat} {s : St} (h : DskB w F b mb A c s) (h1 : DskB w1 F b mb A c s.step) (hf1 : Fr (fun k => k = b) w w1) (hlim : s.syncs < 999999)
    (hr : SyncRel b mb #[.int .i64 s.step.num, .map (some mb), .slice A s.pend.length c, .int .i64 s.step.left, .bool s.step.gone, .int .i64 s.syncs] A c s w1 s.pend.length wr)
    (ho : w3.ownsRow 0 75 257 (.slice A 0 c) 0 []) (hg : wr.grownBy w3 (Value.slice A s.pend.length c).ownBlock) :
    (w3.cell? ⟨b, 2, none⟩ = some (.slice A s.pend.length c) ∧ w3.frozen? ⟨b, 2, none⟩ = false ∧ w3.cell? ⟨b, 5, none⟩ = some (.int .i64 s.syncs) ∧ w3.frozen? ⟨b, 5, none⟩ = false) ∧
    RetSync F b 0 s.synced w (.returned (.int .i64 0)) ((w3.setCell ⟨b, 2, none⟩ (.slice A 0 c)).setCell ⟨b, 5, none⟩ (.int .i64 (s.syncs + 1))) := by
  have hpb : (Value.slice A s.pend.length c).ownBlock ≠ some b := row_not_bk hr.row hr.blk (by decide)
  have hpm : (Value.slice A s.pend.length c).ownBlock ≠ some mb := hr.map.not_row hr.row
  have hob : (Value.slice A 0 c).ownBlock = (Value.slice A s.pend.length c).ownBlock := by cases A <;> rfl
  have e : s.step.pend = s.pend := St.step_pend s
  have hfp := h1.fp
  rw [e] at hfp
  have hblk3 := hr.blk.eq (hg.block b hr.blk.lt (fun q => hpb q.symm))
  have hne : mb ≠ b := hr.map.not_bk hr.blk
  refine ⟨⟨hblk3.cell 2, hblk3.frz 2, hblk3.cell 5, hblk3.frz 5⟩, rfl, ?_⟩
  have hfr3 : Fr F w w3 := ((hf1.mono (fun k q => (q ▸ h.fb : F k))).then (hr.fr.mono (fun k q => (q ▸ h.fm : F k)))).grown hg (fun k hk => .inl (hfp k hk))
  have hfr : Fr F w ((w3.setCell ⟨b, 2, none⟩ (.slice A 0 c)).setCell ⟨b, 5, none⟩ (.int .i64 (s.syncs + 1))) := (hfr3.setCell (a := ⟨b, 2, none⟩) h.fb _).setCell (a := ⟨b, 5, none⟩) h.fb _
  have hkeep : ∀ k, k ≠ b → ((w3.setCell ⟨b, 2, none⟩ (.slice A 0 c)).setCell ⟨b, 5, none⟩ (.int .i64 (s.syncs + 1))).heap[k]? = w3.heap[k]? := fun k hk => by
    rw [Below.heap_setCell _ _ _ _ hk, Below.heap_setCell _ _ _ _ hk]
  have D : DskB ((w3.setCell ⟨b, 2, none⟩ (.slice A 0 c)).setCell ⟨b, 5, none⟩ (.int .i64 (s.syncs + 1))) F b mb A c s.synced := by
    refine ⟨?_, ?_, ?_, h.fb, h.fm, ?_, ?_, ?_, ?_⟩
    · have := (hblk3.setc 2 (.slice A 0 c)).setc 5 (.int .i64 (s.syncs + 1))
      simpa [St.synced] using this
    · exact (hr.map.eq (hg.block mb hr.map.lt (fun q => hpm q.symm))).eq (hkeep mb hne)
    · refine owns_keep ho (fun k hk => hkeep k (fun q => ?_))
      have hk' : (Value.slice A 0 c).ownBlock = some k := hk
      rw [hob, q] at hk'
      exact hpb hk'
    · intro k hk
      have hk' : (Value.slice A 0 c).ownBlock = some k := hk
      rw [hob] at hk'
      exact hfp k hk'
    · exact fun k f => Nat.lt_of_lt_of_le (h.lt k f) hfr.size
    · have := h.ok.sync
      exact ⟨h.ok.step.num, h.ok.now, fun p hp => by simp [St.synced] at hp, h.ok.step.left⟩
    · exact ⟨by simp [St.synced], by show s.syncs + 1 < _; omega⟩
  exact (D.mono (fun _ f => .inl f) (fun k f => by
    rcases f with f | f
    · exact D.lt k f
    · exact f.2)).turn hfr

set_option maxRecDepth 100000 in
set_option maxHeartbeats 4000000 in
theorem sync_made (w : World) (F : Nat → Prop) (b mb : Nat) (A : Option Addr) (c : Nat) (s : St) (h : DskB w F b mb A c s) (hc : s.can = true) (hlim : s.syncs < 999999) :
    Calls Try.prog 16 #[.pointer (some ⟨b, 0, none⟩)] w (RetSync F b 0 s.synced w) := by
  obtain ⟨i0, hi, hz0, hz1, hz2⟩ := info_parts info_wr
  have C2 := Lib.hid (step_any h)
  have HC := Lib.hid hc
  have HD := Lib.hid (fun w1 wr w3 (h1 : DskB w1 F b mb A c s.step) hf1 hr ho hg => SyncRel.done (w3 := w3) (wr := wr) h h1 hf1 hlim hr ho hg)
  have hpl := h.lim
  have HOK := Lib.hid h.ok
  have hcmax : c ≤ 9223372036854775807 := by
    rcases h.row.2 with ⟨hv, _⟩ | ⟨g, cap, cur, hv, _, _, _, hm, _⟩
    · injection hv with _ _ e3; omega
    · injection hv with _ _ e3; unfold maxLen at hm; omega
  have HZ := Lib.hid (show ∀ w, (zeroValue 75).run Try.prog w = .ok (.agg (wrC (0, zeros)).toArray) w from fun w => by simp [zeroValue, typeInfo, hi, hz0])
  have hz257 : (Value.agg (wrC (0, zeros)).toArray).cells.size = 257 := by simp [Value.cells, wrC_len (p := (0, zeros)) zeros_sec]
  have HZ1 : Hid (∀ v ∈ (Value.agg (wrC (0, zeros)).toArray).cells.toList, v.oneCell' = true) := Lib.hid (fun v hv => wrC_one (0, zeros) v (by simpa [Value.cells] using hv))
  have HI : Hid ((Try.prog.info? 75).map (·.size) = some 257) := Lib.hid (by rw [hi]; simp [hz1])
  have hu := Try.underlying75
  have hus := Try.underlying73
  have huw := Try.underlying67
  have hui := Try.underlying3
  have hpl1 := hpl.1
  have hpl2 := hpl.2
  clear h hc hpl
  go_enter Try.func16, Try.ntmps16
  go_wp2_with fail
  refine C2.out.mono ?_
  rintro e w1 ⟨rfl, h1, h2⟩
  rw [HC.out]
  have hblk1 := h1.blk
  rw [St.step_pend, St.step_syncs] at hblk1
  have hrow1 := h1.row
  rw [St.step_pend] at hrow1
  have hmap1 := h1.map
  rw [St.step_syn] at hmap1
  have hc2 : w1.cell? ⟨b, 2, none⟩ = some (.slice A s.pend.length c) := hblk1.cell 2
  obtain ⟨cs, hcs⟩ : ∃ cs : Array Value, cs = #[.int .i64 s.step.num, .map (some mb), .slice A s.pend.length c, .int .i64 s.step.left, .bool s.step.gone, .int .i64 s.syncs] := ⟨_, rfl⟩
  have HD2 : Hid (∀ wr w3, SyncRel b mb cs A c s w1 s.pend.length wr → w3.ownsRow 0 75 257 (.slice A 0 c) 0 [] → wr.grownBy w3 (Value.slice A s.pend.length c).ownBlock → _) := Lib.hid (fun wr w3 hr ho hg => HD.out w1 wr w3 h1 h2 (by rw [hcs] at hr; exact hr) ho hg)
  have HCS := Lib.hid hcs
  have R0 : Hid (SyncRel b mb cs A c s w1 0 w1) := Lib.hid ⟨by rw [hcs]; exact hblk1, hmap1, hrow1, Fr.refl _ _⟩
  clear h1 h2 hblk1 hrow1 hmap1 hcs HD C2 HC
  go_wp2_with fail
  go_loopw [18] (fun q wr => ∃ k : Nat, k ≤ s.pend.length ∧ q = .int .i64 k ∧ SyncRel b mb cs A c s w1 k wr) (fun q _ => s.pend.length - (intOf q).toNat)
  case atStart => exact ⟨0, Nat.zero_le _, rfl, R0.out⟩
  case round =>
    obtain ⟨k, hk, rfl, hr⟩ := hrel
    have hblk := hr.blk
    rw [HCS.out] at hblk
    have hc1 : wr.cell? ⟨b, 1, none⟩ = some (.map (some mb)) := hblk.cell 1
    have hc2 : wr.cell? ⟨b, 2, none⟩ = some (.slice A s.pend.length c) := hblk.cell 2
    by_cases hlt : k < s.pend.length
    · obtain ⟨pb, rfl, hpc, hpm, hat⟩ := pend_at HOK.out hr.row (by omega)
      have hrg := hat k hlt
      have hrg0 : wr.rangeAt pb (0 + k * 257) (wrC (s.at_ k)) := by rw [Nat.zero_add]; exact hrg
      obtain ⟨n, l, hnl⟩ : ∃ n l, s.at_ k = (n, l) := ⟨_, _, rfl⟩
      have hsec : Sec l := by have := (HOK.out.at_ k hlt).2; rw [hnl] at this; exact this
      rw [hnl] at hrg hrg0
      have hwl : (wrC (n, l)).length = 257 := wrC_len (p := (n, l)) hsec
      have hbl : (byC l).length = 256 := by rw [byC_len, hsec.1]
      have hiw : (Try.prog.info? 75).map (·.size) = some (wrC (n, l)).length := by rw [hwl]; exact HI.out
      have his : (Try.prog.info? 73).map (·.size) = some (byC l).length := by rw [hbl]; exact size_sec
      have h1w : (wrC (n, l)).toArray.all (·.oneCell') = true := all_oneCell_toArray (wrC_one _)
      have HST := Lib.hid (fun w2 w3 hb hm hf => hr.step (w2 := w2) (w3 := w3) hb (by rw [hnl]; exact hm) hf)
      have HR := Lib.hid hr
      clear hr hat
      have hk0 : (0 : Int) ≤ (k : Int) := Int.natCast_nonneg _
      have hk1 : (k : Int) < (s.pend.length : Int) := by omega
      go_wp2_with (first
        | (refine wpList_run rfl (exec_load rfl (by rfl) (by first | exact hrg | exact hrg0) hu rfl hiw) ?_)
        | (refine wpList_run rfl (exec_alloc rfl HZ.out) ?_)
        | (refine wpList_store_new rfl rfl (W := wr) rfl (by rfl) (by rfl) (by rw [List.size_toArray]; exact hiw) (by rw [hz257, List.size_toArray, hwl]) h1w ?_))
      have hnb : (wr.alloc (.cells (wrC (n, l)).toArray 75)).heap[wr.heap.size]? = some (.cells (wrC (n, l)).toArray 75 (0, 0)) := heap_alloc_new wr _
      have hcb : (wr.alloc (.cells (wrC (n, l)).toArray 75)).cell? ⟨b, 1, none⟩ = some (.map (some mb)) := ((Below.refl _ wr).alloc (Nat.le_refl _) _).cell (p := ⟨b, 1, none⟩) hblk.lt |>.trans hc1
      have hS0 : (wr.alloc (.cells (wrC (n, l)).toArray 75)).drew.cell? ⟨b, 1, none⟩ = some (.map (some mb)) ∧ (wr.alloc (.cells (wrC (n, l)).toArray 75)).drew.cell? ⟨wr.heap.size, 0, none⟩ = some (.int .i64 n) ∧ (wr.alloc (.cells (wrC (n, l)).toArray 75)).drew.rangeAt wr.heap.size 1 (byC l) := by
        refine ⟨hcb, ?_, ?_⟩
        · exact (cell_of_row _ _ _ _ _ _ hnb).trans rfl
        · have := World.rangeAt_of_block hnb 1 256
          have e : ((wrC (n, l)).toArray.extract 1 (1 + 256)).toList = byC l := by
            simp [wrC, hbl]
            exact List.take_of_length_le (by omega)
          rw [e] at this
          exact this
      have HB2 := Lib.hid ((Below.refl _ wr).alloc (Nat.le_refl _) (.cells (wrC (n, l)).toArray 75)).drew
      have HM := Lib.hid (HR.out.map.eq (w' := (wr.alloc (.cells (wrC (n, l)).toArray 75)).drew) ((HB2.out).block mb HR.out.map.lt))
      obtain ⟨W2, hW2⟩ : ∃ W2, W2 = wr.alloc (.cells (wrC (n, l)).toArray 75) := ⟨_, rfl⟩
      rw [← hW2] at hS0 HB2 HM ⊢
      clear hnb hcb hW2
      refine wp_region_noPanic ?_
      refine upto_start (fun w' => w'.cell? ⟨b, 1, none⟩ = some (.map (some mb)) ∧ w'.cell? ⟨wr.heap.size, 0, none⟩ = some (.int .i64 n) ∧ w'.rangeAt wr.heap.size 1 (byC l)) 8 (by kernel_rfl) ?_
      change Upto _ _ _ _ _ 9 _ _ _
      refine Upto.take (i := 0) (v := ?_) rfl (by kernel_rfl) (fun _ _ _ h => h) rfl (fun w' hS => ?_) hS0 ?_
      rotate_left
      · (try dsimp only at hS); go_split_ands; go_simp; (try with_reducible rfl)
      simp only [Act.put, List.setIfInBounds_toArray, List.set_cons_zero, List.set_cons_succ]
      refine Upto.take (i := 1) (v := ?_) rfl (by kernel_rfl) (fun _ _ _ h => h) rfl (fun w' hS => ?_) hS0 ?_
      rotate_left
      · (try dsimp only at hS); go_split_ands; go_simp; (try with_reducible rfl)
      simp only [Act.put, List.setIfInBounds_toArray, List.set_cons_zero, List.set_cons_succ]
      refine Upto.take (i := 2) (v := ?_) rfl (by kernel_rfl) (fun _ _ _ h => h) rfl (fun w' hS => ?_) hS0 ?_
      rotate_left
      · (try dsimp only at hS); go_split_ands; go_simp; (try with_reducible rfl)
      simp only [Act.put, List.setIfInBounds_toArray, List.set_cons_zero, List.set_cons_succ]
      refine Upto.take (i := 3) (v := ?_) rfl (by kernel_rfl) (fun _ _ _ h => h) rfl (fun w' hS => ?_) hS0 ?_
      rotate_left
      · (try dsimp only at hS); go_split_ands; go_simp; (try with_reducible rfl)
      simp only [Act.put, List.setIfInBounds_toArray, List.set_cons_zero, List.set_cons_succ]
      refine Upto.take (i := 4) (v := ?_) rfl (by kernel_rfl) (fun _ _ _ h => h) rfl (fun w' hS => ?_) hS0 ?_
      rotate_left
      · (try dsimp only at hS); go_split_ands; go_simp; (try with_reducible rfl)
      simp only [Act.put, List.setIfInBounds_toArray, List.set_cons_zero, List.set_cons_succ]
      refine Upto.take (i := 5) (v := ?_) rfl (by kernel_rfl) (fun _ _ _ h => h) rfl (fun w' hS => ?_) hS0 ?_
      rotate_left
      · (try dsimp only at hS); go_split_ands; go_simp; (try with_reducible rfl)
      simp only [Act.put, List.setIfInBounds_toArray, List.set_cons_zero, List.set_cons_succ]
      refine Upto.take (i := 6) (v := ?_) rfl (by kernel_rfl) (fun _ _ _ h => h) rfl (fun w' hS => ?_) hS0 ?_
      rotate_left
      · (try dsimp only at hS); go_split_ands; go_simp; (try with_reducible rfl)
      simp only [Act.put, List.setIfInBounds_toArray, List.set_cons_zero, List.set_cons_succ]
      refine Upto.take (i := 7) rfl (by kernel_rfl) (fun _ _ _ h => h) rfl (fun w' hS => exec_load rfl (by rfl) (by exact hS.2.2) hus rfl his) hS0 ?_
      simp only [Act.put, List.setIfInBounds_toArray, List.set_cons_zero, List.set_cons_succ]
      refine Upto.tail rfl (by kernel_rfl) ?_
      simp only [List.drop_succ_cons, List.drop_zero]
      refine wpList_update_fn rfl _ _ _ rfl huw hui mb _ _ HM.out (by rfl) n (by rfl) (secV l) (by rfl) ?_
      intro w3 hm3 hf3
      have R := Lib.hid (HST.out _ w3 HB2.out hm3 hf3)
      clear hm3 hf3 HST HM HB2 hS0 HR hrg hrg0
      simp only [Act.put]
      go_wp2_with fail
      refine NoPanic.normal ?_
      go_wp2_with fail
      go_roundw
      case rel => exact ⟨k + 1, by omega, by go_num, R.out⟩
      case measure => simp [intOf]; omega
    · obtain rfl : k = s.pend.length := by omega
      have HR := Lib.hid hr
      have hsn := fun w => slice_none A s.pend.length c w
      have HSN := Lib.hid hsn
      clear hr hsn
      go_wp2_with (first
        | (refine wpList_clear rfl rfl Try.underlying69 hi hz0 hz257 HZ1.out (by rfl) HR.out.row ?_; intro w3 ho3 hg3; clear hc1 hc2 hblk; have hD := Lib.hid (HD2.out _ w3 HR.out ho3 hg3); clear ho3 hg3; obtain ⟨⟨hc2, hf2, hc5, hf5⟩, hRR⟩ := hD.out; have RR := Lib.hid hRR; clear hRR)
        | (refine wpList_run rfl (exec_slice rfl (HSN.out _)) ?_))
      go_ret
      exact RR.out
end Go.Proofs.Ytlchikllgmkokaa
