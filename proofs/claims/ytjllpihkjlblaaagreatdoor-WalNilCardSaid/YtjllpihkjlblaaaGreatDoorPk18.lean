/- What it says: contracts and plain mathematics that the laws' walks use, 18 of 32: each part's own remark says what; no condition. -/
import Derived.Test.YtjllpihkjlblaaaGreatDoorPk4
import Derived.Test.YtjllpihkjlblaaaGreatDoorPk5
import Derived.Test.YtjllpihkjlblaaaGreatDoorPk14
import Derived.Test.YtjllpihkjlblaaaGreatDoorPk15
import Derived.Test.YtjllpihkjlblaaaGreatDoorPk17
import Derived.Shelf.SlMaps.Clone
import Derived.Laws.CopyOwn

set_option linter.unusedSimpArgs false
set_option linter.unusedVariables false
set_option linter.deprecated false
set_option linter.unusedSectionVars false
set_option linter.all false
namespace Go.Proofs.YtjllpihkjlblaaaGreatDoor

/- disk.Sync answers and leaves what the plain disk does. -/
section
open Go.RowKit
theorem wrC_one (p : Nat × List Int) : ∀ u ∈ wrC p, u.oneCell' = true := fun u hu => by
  rcases List.mem_cons.1 hu with rfl | hu
  · rfl
  · exact byC_one p.2 u hu
theorem pend_at {w : World} {A : Option Addr} {c : Nat} {s : St} (ok : s.Ok) (h : w.ownsRow 0 87 257 (.slice A s.pend.length c) s.pend.length (pdC s.pend)) (hp : 0 < s.pend.length) :
    ∃ pb, A = some ⟨pb, 0, none⟩ ∧ s.pend.length ≤ c ∧ c ≤ maxLen ∧ ∀ i, i < s.pend.length → w.rangeAt pb (i * 257) (wrC (s.at_ i)) := by
  rcases h.2 with ⟨_, hn⟩ | ⟨g, cap, cur, hv, _, hg, hnc, hm, hcs, htk⟩
  · omega
  · injection hv with e1 e2 e3
    subst e3
    refine ⟨g, e1, hnc, hm, fun i hi j v hv => ?_⟩
    have hl : ∀ y ∈ s.pend, (wrC y).length = 257 := fun p hp => wrC_len (ok.pend p hp).2
    have hx : s.pend[i]? = some (s.at_ i) := by simp [St.at_, List.getD, List.getElem?_eq_getElem hi]
    have hj : j < 257 := by
      have := (List.getElem?_eq_some_iff.1 hv).1
      rwa [wrC_len (ok.at_ i hi).2] at this
    have := flatMap_at wrC 257 s.pend i j _ hl hx hj
    have hc := h.cells (g := g) (by rw [e1]; rfl) (i * 257 + j) v (by unfold pdC; rw [this, hv])
    have hadd : (⟨g, 0, none⟩ : Addr).add (i * 257 + j) = ⟨g, i * 257 + j, none⟩ := by unfold Addr.add; split <;> simp_all
    rwa [hadd] at hc
def RetSync (F : Nat → Prop) (b : Nat) (e0 : Int) (s' : St) (w : World) (e : Ending) (w' : World) : Prop := e = .returned (.int .i64 e0) ∧ Turn (dsk b s') F w w'
set_option maxHeartbeats 1000000 in
theorem sync_down (w : World) (F : Nat → Prop) (b mb : Nat) (A : Option Addr) (c : Nat) (s : St) (h : DskB w F b mb A c s) (hc : s.can = false) :
    Calls Tryz.prog 103 #[.pointer (some ⟨b, 0, none⟩)] w (RetSync F b 40 s.step w) := by
  have C2 := Lib.hid (step_any h)
  have T := Lib.hid (fun w' (h' : DskB w' F b mb A c s.step) hf => h.turned h' hf)
  have HC := Lib.hid hc
  clear h hc
  go_enter Tryz.func103, Tryz.ntmps103
  go_wp2_with fail
  refine C2.out.mono ?_
  rintro e w' ⟨rfl, h1, h2⟩
  rw [HC.out]
  have R : Hid (RetSync F b 40 s.step w (.returned (.int .i64 40)) w') := Lib.hid ⟨rfl, T.out w' h1 h2⟩
  clear h1 h2
  go_wp2_with fail
  go_ret
  exact R.out
structure SyncRel (b mb : Nat) (cs : Array Value) (A : Option Addr) (c : Nat) (s : St) (w1 : World) (k : Nat) (wr : World) : Prop where
  blk : Bk wr b 84 cs
  map : MapFn wr mb (secV zeros) (fun n => secV (s.upTo k n))
  row : wr.ownsRow 0 87 257 (.slice A s.pend.length c) s.pend.length (pdC s.pend)
  fr : Fr (fun k => k = mb) w1 wr
theorem row_not_bk {w : World} {base e size n : Nat} {v : Value} {xs : List Value} {b : Nat} {t : TypeId} {cs : Array Value} (h : w.ownsRow base e size v n xs) (hb : Bk w b t cs) (hne : t ≠ e) : v.ownBlock ≠ some b := by
  rcases h.2 with ⟨rfl, _⟩ | ⟨g, cap, cur, rfl, _, hg, _⟩
  · simp [Value.ownBlock]
  · intro q
    simp [Value.ownBlock] at q
    subst q
    unfold Bk at hb
    rw [hb] at hg
    simp at hg
    exact hne hg.2
theorem SyncRel.step {b mb : Nat} {cs : Array Value} {A : Option Addr} {c : Nat} {s : St} {w1 wr w2 w3 : World} {k : Nat} (h : SyncRel b mb cs A c s w1 k wr) (hb : Below wr.heap.size wr w2)
    (hm : MapFn w3 mb (secV zeros) (fun m => if m = (s.at_ k).1 then secV (s.at_ k).2 else secV (s.upTo k m))) (hf : Fr (fun k => k = mb) w2 w3) : SyncRel b mb cs A c s w1 (k + 1) w3 := by
  have hne : mb ≠ b := h.map.not_bk h.blk
  have hpb : (Value.slice A s.pend.length c).ownBlock ≠ some mb := h.map.not_row h.row
  refine ⟨?_, ?_, ?_, ?_⟩
  · have h2 := h.blk.bel hb h.blk.lt
    exact h2.eq (hf.block b h2.lt (fun e => hne e.symm))
  · have e : (fun n => secV (s.upTo (k + 1) n)) = fun m => if m = (s.at_ k).1 then secV (s.at_ k).2 else secV (s.upTo k m) := by
      funext m
      show secV (upd (s.upTo k) (s.at_ k).1 (s.at_ k).2 m) = _
      unfold upd
      split <;> rfl
    rw [e]
    exact hm
  · refine owns_keep h.row (fun q hq => ?_)
    have hlt := (h.row.lt q hq).2
    exact (hf.block q (Nat.lt_of_lt_of_le hlt hb.size) (fun e => hpb (by rw [hq, e]))).trans (hb.block q hlt)
  · exact (h.fr.then (Fr.of_below hb)).then hf
theorem slice_none (A : Option Addr) (n c : Nat) (w : World) : (Instr.sliceAt 82 (.slice A n c) none (some (.int .i64 0)) none).run Tryz.prog w = .ok (.slice A 0 c) w := by
  obtain ⟨i0, hi, hz0, hz1, hz2⟩ := info_parts info_wr
  cases A with
  | none => by_cases h : c = 0 <;> simp [Instr.sliceAt, Instr.slice, Instr.sliceBounds, Instr.sliceBound, asIntOf, run_underlying (P := Tryz.prog) Tryz.underlying82, Result.andThen, sizeOf, typeInfo, hi, hz1, h]
  | some a => by_cases h : c = 0 <;> simp [Instr.sliceAt, Instr.slice, Instr.sliceBounds, Instr.sliceBound, asIntOf, run_underlying (P := Tryz.prog) Tryz.underlying82, Result.andThen, sizeOf, typeInfo, hi, hz1, h, Addr.add]
theorem SyncRel.done {w w1 wr w3 : World} {F : Nat → Prop} {b mb : Nat} {A : Option Addr} {c : Nat} {s : St} (h : DskB w F b mb A c s) (h1 : DskB w1 F b mb A c s.step) (hf1 : Fr (fun k => k = b) w w1) (hlim : s.syncs < 999999)
    (hr : SyncRel b mb #[.int .i64 s.step.num, .map (some mb), .slice A s.pend.length c, .int .i64 s.step.left, .bool s.step.gone, .int .i64 s.syncs] A c s w1 s.pend.length wr)
    (ho : w3.ownsRow 0 87 257 (.slice A 0 c) 0 []) (hg : wr.grownBy w3 (Value.slice A s.pend.length c).ownBlock) :
    (w3.cell? ⟨b, 2, none⟩ = some (.slice A s.pend.length c) ∧ w3.frozen? ⟨b, 2, none⟩ = false ∧ w3.cell? ⟨b, 5, none⟩ = some (.int .i64 s.syncs) ∧ w3.frozen? ⟨b, 5, none⟩ = false) ∧
    RetSync F b 0 s.synced w (.returned (.int .i64 0)) ((w3.setCell ⟨b, 2, none⟩ (.slice A 0 c)).setCell ⟨b, 5, none⟩ (.int .i64 (s.syncs + 1))) := by
  have hpb : (Value.slice A s.pend.length c).ownBlock ≠ some b := row_not_bk hr.row hr.blk (by decide)
  have hpm : (Value.slice A s.pend.length c).ownBlock ≠ some mb := hr.map.not_row hr.row
  have hob : (Value.slice A 0 c).ownBlock = (Value.slice A s.pend.length c).ownBlock := by cases A <;> rfl
  have e : s.step.pend = s.pend := St.step_pend s
  have hfp := h1.fp
  rw [e] at hfp
  have hblk3 := hr.blk.eq (hg.block b hr.blk.lt (fun q => hpb q.symm))
  have hne : mb ≠ b := hr.map.not_bk hr.blk
  refine ⟨⟨hblk3.cell 2, hblk3.frz 2, hblk3.cell 5, hblk3.frz 5⟩, rfl, ?_⟩
  have hfr3 : Fr F w w3 := ((hf1.mono (fun k q => (q ▸ h.fb : F k))).then (hr.fr.mono (fun k q => (q ▸ h.fm : F k)))).grown hg (fun k hk => .inl (hfp k hk))
  have hfr : Fr F w ((w3.setCell ⟨b, 2, none⟩ (.slice A 0 c)).setCell ⟨b, 5, none⟩ (.int .i64 (s.syncs + 1))) := (hfr3.setCell (a := ⟨b, 2, none⟩) h.fb _).setCell (a := ⟨b, 5, none⟩) h.fb _
  have hkeep : ∀ k, k ≠ b → ((w3.setCell ⟨b, 2, none⟩ (.slice A 0 c)).setCell ⟨b, 5, none⟩ (.int .i64 (s.syncs + 1))).heap[k]? = w3.heap[k]? := fun k hk => by
    rw [Below.heap_setCell _ _ _ _ hk, Below.heap_setCell _ _ _ _ hk]
  have D : DskB ((w3.setCell ⟨b, 2, none⟩ (.slice A 0 c)).setCell ⟨b, 5, none⟩ (.int .i64 (s.syncs + 1))) F b mb A c s.synced := by
    refine ⟨?_, ?_, ?_, h.fb, h.fm, ?_, ?_, ?_, ?_⟩
    · have := (hblk3.setc 2 (.slice A 0 c)).setc 5 (.int .i64 (s.syncs + 1))
      simpa [St.synced] using this
    · exact (hr.map.eq (hg.block mb hr.map.lt (fun q => hpm q.symm))).eq (hkeep mb hne)
    · refine owns_keep ho (fun k hk => hkeep k (fun q => ?_))
      have hk' : (Value.slice A 0 c).ownBlock = some k := hk
      rw [hob, q] at hk'
      exact hpb hk'
    · intro k hk
      have hk' : (Value.slice A 0 c).ownBlock = some k := hk
      rw [hob] at hk'
      exact hfp k hk'
    · exact fun k f => Nat.lt_of_lt_of_le (h.lt k f) hfr.size
    · have := h.ok.sync
      exact ⟨h.ok.step.num, h.ok.now, fun p hp => by simp [St.synced] at hp, h.ok.step.left⟩
    · exact ⟨by simp [St.synced], by show s.syncs + 1 < _; omega⟩
  exact (D.mono (fun _ f => .inl f) (fun k f => by
    rcases f with f | f
    · exact D.lt k f
    · exact f.2)).turn hfr
set_option maxRecDepth 100000 in
set_option maxHeartbeats 4000000 in
theorem sync_made (w : World) (F : Nat → Prop) (b mb : Nat) (A : Option Addr) (c : Nat) (s : St) (h : DskB w F b mb A c s) (hc : s.can = true) (hlim : s.syncs < 999999) :
    Calls Tryz.prog 103 #[.pointer (some ⟨b, 0, none⟩)] w (RetSync F b 0 s.synced w) := by
  obtain ⟨i0, hi, hz0, hz1, hz2⟩ := info_parts info_wr
  have C2 := Lib.hid (step_any h)
  have HC := Lib.hid hc
  have HD := Lib.hid (fun w1 wr w3 (h1 : DskB w1 F b mb A c s.step) hf1 hr ho hg => SyncRel.done (w3 := w3) (wr := wr) h h1 hf1 hlim hr ho hg)
  have hpl := h.lim
  have HOK := Lib.hid h.ok
  have hcmax : c ≤ 9223372036854775807 := by
    rcases h.row.2 with ⟨hv, _⟩ | ⟨g, cap, cur, hv, _, _, _, hm, _⟩
    · injection hv with _ _ e3; omega
    · injection hv with _ _ e3; unfold maxLen at hm; omega
  have HZ := Lib.hid (show ∀ w, (zeroValue 87).run Tryz.prog w = .ok (.agg (wrC (0, zeros)).toArray) w from fun w => by simp [zeroValue, typeInfo, hi, hz0])
  have hz257 : (Value.agg (wrC (0, zeros)).toArray).cells.size = 257 := by simp [Value.cells, wrC_len (p := (0, zeros)) zeros_sec]
  have HZ1 : Hid (∀ v ∈ (Value.agg (wrC (0, zeros)).toArray).cells.toList, v.oneCell' = true) := Lib.hid (fun v hv => wrC_one (0, zeros) v (by simpa [Value.cells] using hv))
  have HI : Hid ((Tryz.prog.info? 87).map (·.size) = some 257) := Lib.hid (by rw [hi]; simp [hz1])
  have hu := Tryz.underlying87
  have hus := Tryz.underlying81
  have huw := Tryz.underlying78
  have hui := Tryz.underlying3
  have hpl1 := hpl.1
  have hpl2 := hpl.2
  clear h hc hpl
  go_enter Tryz.func103, Tryz.ntmps103
  go_wp2_with fail
  refine C2.out.mono ?_
  rintro e w1 ⟨rfl, h1, h2⟩
  rw [HC.out]
  have hblk1 := h1.blk
  rw [St.step_pend, St.step_syncs] at hblk1
  have hrow1 := h1.row
  rw [St.step_pend] at hrow1
  have hmap1 := h1.map
  rw [St.step_syn] at hmap1
  have hc2 : w1.cell? ⟨b, 2, none⟩ = some (.slice A s.pend.length c) := hblk1.cell 2
  obtain ⟨cs, hcs⟩ : ∃ cs : Array Value, cs = #[.int .i64 s.step.num, .map (some mb), .slice A s.pend.length c, .int .i64 s.step.left, .bool s.step.gone, .int .i64 s.syncs] := ⟨_, rfl⟩
  have HD2 : Hid (∀ wr w3, SyncRel b mb cs A c s w1 s.pend.length wr → w3.ownsRow 0 87 257 (.slice A 0 c) 0 [] → wr.grownBy w3 (Value.slice A s.pend.length c).ownBlock → _) := Lib.hid (fun wr w3 hr ho hg => HD.out w1 wr w3 h1 h2 (by rw [hcs] at hr; exact hr) ho hg)
  have HCS := Lib.hid hcs
  have R0 : Hid (SyncRel b mb cs A c s w1 0 w1) := Lib.hid ⟨by rw [hcs]; exact hblk1, hmap1, hrow1, Fr.refl _ _⟩
  clear h1 h2 hblk1 hrow1 hmap1 hcs HD C2 HC
  go_wp2_with fail
  go_loopw [18] (fun q wr => ∃ k : Nat, k ≤ s.pend.length ∧ q = .int .i64 k ∧ SyncRel b mb cs A c s w1 k wr) (fun q _ => s.pend.length - (intOf q).toNat)
  case atStart => exact ⟨0, Nat.zero_le _, rfl, R0.out⟩
  case round =>
    obtain ⟨k, hk, rfl, hr⟩ := hrel
    have hblk := hr.blk
    rw [HCS.out] at hblk
    have hc1 : wr.cell? ⟨b, 1, none⟩ = some (.map (some mb)) := hblk.cell 1
    have hc2 : wr.cell? ⟨b, 2, none⟩ = some (.slice A s.pend.length c) := hblk.cell 2
    by_cases hlt : k < s.pend.length
    · obtain ⟨pb, rfl, hpc, hpm, hat⟩ := pend_at HOK.out hr.row (by omega)
      have hrg := hat k hlt
      have hrg0 : wr.rangeAt pb (0 + k * 257) (wrC (s.at_ k)) := by rw [Nat.zero_add]; exact hrg
      obtain ⟨n, l, hnl⟩ : ∃ n l, s.at_ k = (n, l) := ⟨_, _, rfl⟩
      have hsec : Sec l := by have := (HOK.out.at_ k hlt).2; rw [hnl] at this; exact this
      rw [hnl] at hrg hrg0
      have hwl : (wrC (n, l)).length = 257 := wrC_len (p := (n, l)) hsec
      have hbl : (byC l).length = 256 := by rw [byC_len, hsec.1]
      have hiw : (Tryz.prog.info? 87).map (·.size) = some (wrC (n, l)).length := by rw [hwl]; exact HI.out
      have his : (Tryz.prog.info? 81).map (·.size) = some (byC l).length := by rw [hbl]; exact size_sec
      have h1w : (wrC (n, l)).toArray.all (·.oneCell') = true := all_oneCell_toArray (wrC_one _)
      have HST := Lib.hid (fun w2 w3 hb hm hf => hr.step (w2 := w2) (w3 := w3) hb (by rw [hnl]; exact hm) hf)
      have HR := Lib.hid hr
      clear hr hat
      have hk0 : (0 : Int) ≤ (k : Int) := Int.natCast_nonneg _
      have hk1 : (k : Int) < (s.pend.length : Int) := by omega
      go_wp2_with (first
        | (refine wpList_run rfl (exec_load rfl (by rfl) (by first | exact hrg | exact hrg0) hu rfl hiw) ?_)
        | (refine wpList_run rfl (exec_alloc rfl HZ.out) ?_)
        | (refine wpList_store_new rfl rfl (W := wr) rfl (by rfl) (by rfl) (by rw [List.size_toArray]; exact hiw) (by rw [hz257, List.size_toArray, hwl]) h1w ?_))
      have hnb : (wr.alloc (.cells (wrC (n, l)).toArray 87)).heap[wr.heap.size]? = some (.cells (wrC (n, l)).toArray 87 (0, 0)) := heap_alloc_new wr _
      have hcb : (wr.alloc (.cells (wrC (n, l)).toArray 87)).cell? ⟨b, 1, none⟩ = some (.map (some mb)) := ((Below.refl _ wr).alloc (Nat.le_refl _) _).cell (p := ⟨b, 1, none⟩) hblk.lt |>.trans hc1
      have hS0 : (wr.alloc (.cells (wrC (n, l)).toArray 87)).drew.cell? ⟨b, 1, none⟩ = some (.map (some mb)) ∧ (wr.alloc (.cells (wrC (n, l)).toArray 87)).drew.cell? ⟨wr.heap.size, 0, none⟩ = some (.int .i64 n) ∧ (wr.alloc (.cells (wrC (n, l)).toArray 87)).drew.rangeAt wr.heap.size 1 (byC l) := by
        refine ⟨hcb, ?_, ?_⟩
        · exact (cell_of_row _ _ _ _ _ _ hnb).trans rfl
        · have := World.rangeAt_of_block hnb 1 256
          have e : ((wrC (n, l)).toArray.extract 1 (1 + 256)).toList = byC l := by
            simp [wrC, hbl]
            exact List.take_of_length_le (by omega)
          rw [e] at this
          exact this
      have HB2 := Lib.hid ((Below.refl _ wr).alloc (Nat.le_refl _) (.cells (wrC (n, l)).toArray 87)).drew
      have HM := Lib.hid (HR.out.map.eq (w' := (wr.alloc (.cells (wrC (n, l)).toArray 87)).drew) ((HB2.out).block mb HR.out.map.lt))
      obtain ⟨W2, hW2⟩ : ∃ W2, W2 = wr.alloc (.cells (wrC (n, l)).toArray 87) := ⟨_, rfl⟩
      rw [← hW2] at hS0 HB2 HM ⊢
      clear hnb hcb hW2
      refine wp_region_noPanic ?_
      refine upto_start (fun w' => w'.cell? ⟨b, 1, none⟩ = some (.map (some mb)) ∧ w'.cell? ⟨wr.heap.size, 0, none⟩ = some (.int .i64 n) ∧ w'.rangeAt wr.heap.size 1 (byC l)) 8 (by kernel_rfl) ?_
      change Upto _ _ _ _ _ 9 _ _ _
      refine Upto.take (i := 0) (v := ?_) rfl (by kernel_rfl) (fun _ _ _ h => h) rfl (fun w' hS => ?_) hS0 ?_
      rotate_left
      · (try dsimp only at hS); go_split_ands; go_simp; (try with_reducible rfl)
      simp only [Act.put, List.setIfInBounds_toArray, List.set_cons_zero, List.set_cons_succ]
      refine Upto.take (i := 1) (v := ?_) rfl (by kernel_rfl) (fun _ _ _ h => h) rfl (fun w' hS => ?_) hS0 ?_
      rotate_left
      · (try dsimp only at hS); go_split_ands; go_simp; (try with_reducible rfl)
      simp only [Act.put, List.setIfInBounds_toArray, List.set_cons_zero, List.set_cons_succ]
      refine Upto.take (i := 2) (v := ?_) rfl (by kernel_rfl) (fun _ _ _ h => h) rfl (fun w' hS => ?_) hS0 ?_
      rotate_left
      · (try dsimp only at hS); go_split_ands; go_simp; (try with_reducible rfl)
      simp only [Act.put, List.setIfInBounds_toArray, List.set_cons_zero, List.set_cons_succ]
      refine Upto.take (i := 3) (v := ?_) rfl (by kernel_rfl) (fun _ _ _ h => h) rfl (fun w' hS => ?_) hS0 ?_
      rotate_left
      · (try dsimp only at hS); go_split_ands; go_simp; (try with_reducible rfl)
      simp only [Act.put, List.setIfInBounds_toArray, List.set_cons_zero, List.set_cons_succ]
      refine Upto.take (i := 4) (v := ?_) rfl (by kernel_rfl) (fun _ _ _ h => h) rfl (fun w' hS => ?_) hS0 ?_
      rotate_left
      · (try dsimp only at hS); go_split_ands; go_simp; (try with_reducible rfl)
      simp only [Act.put, List.setIfInBounds_toArray, List.set_cons_zero, List.set_cons_succ]
      refine Upto.take (i := 5) (v := ?_) rfl (by kernel_rfl) (fun _ _ _ h => h) rfl (fun w' hS => ?_) hS0 ?_
      rotate_left
      · (try dsimp only at hS); go_split_ands; go_simp; (try with_reducible rfl)
      simp only [Act.put, List.setIfInBounds_toArray, List.set_cons_zero, List.set_cons_succ]
      refine Upto.take (i := 6) (v := ?_) rfl (by kernel_rfl) (fun _ _ _ h => h) rfl (fun w' hS => ?_) hS0 ?_
      rotate_left
      · (try dsimp only at hS); go_split_ands; go_simp; (try with_reducible rfl)
      simp only [Act.put, List.setIfInBounds_toArray, List.set_cons_zero, List.set_cons_succ]
      refine Upto.take (i := 7) rfl (by kernel_rfl) (fun _ _ _ h => h) rfl (fun w' hS => exec_load rfl (by rfl) (by exact hS.2.2) hus rfl his) hS0 ?_
      simp only [Act.put, List.setIfInBounds_toArray, List.set_cons_zero, List.set_cons_succ]
      refine Upto.tail rfl (by kernel_rfl) ?_
      simp only [List.drop_succ_cons, List.drop_zero]
      refine wpList_update_fn rfl _ _ _ rfl huw hui mb _ _ HM.out (by rfl) n (by rfl) (secV l) (by rfl) ?_
      intro w3 hm3 hf3
      have R := Lib.hid (HST.out _ w3 HB2.out hm3 hf3)
      clear hm3 hf3 HST HM HB2 hS0 HR hrg hrg0
      simp only [Act.put]
      go_wp2_with fail
      refine NoPanic.normal ?_
      go_wp2_with fail
      go_roundw
      case rel => exact ⟨k + 1, by omega, by go_num, R.out⟩
      case measure => simp [intOf]; omega
    · obtain rfl : k = s.pend.length := by omega
      have HR := Lib.hid hr
      have hsn := fun w => slice_none A s.pend.length c w
      have HSN := Lib.hid hsn
      clear hr hsn
      go_wp2_with (first
        | (refine wpList_clear rfl rfl Tryz.underlying82 hi hz0 hz257 HZ1.out (by rfl) HR.out.row ?_; intro w3 ho3 hg3; clear hc1 hc2 hblk; have hD := Lib.hid (HD2.out _ w3 HR.out ho3 hg3); clear ho3 hg3; obtain ⟨⟨hc2, hf2, hc5, hf5⟩, hRR⟩ := hD.out; have RR := Lib.hid hRR; clear hRR)
        | (refine wpList_run rfl (exec_slice rfl (HSN.out _)) ?_))
      go_ret
      exact RR.out
end

/- disk.content and disk.Read answer what is there of a sector, in new memory. -/
section
open Go.RowKit
def RetSec (l : List Int) (w : World) (e : Ending) (w' : World) : Prop := e = .returned (secV l) ∧ Below w.heap.size w w'
theorem sec_end (l : List Int) (w : World) : (w.alloc (.cells (byC l).toArray 81)).heap[w.heap.size]? = some (.cells (byC l).toArray 81 (0, 0)) ∧ RetSec l w (.returned (secV l)) (w.alloc (.cells (byC l).toArray 81)) :=
  ⟨heap_alloc_new _ _, rfl, (Below.refl _ _).alloc (Nat.le_refl _) _⟩
theorem zeros_size : (byC zeros).toArray.size = 256 := secV_size zeros_sec
theorem zero_secA (w : World) : (zeroValue 81).run Tryz.prog w = .ok (.agg (byC zeros).toArray) w := zero_sec w
theorem range_tail {w : World} {b o : Nat} {v : Value} {cs : List Value} (h : w.rangeAt b o (v :: cs)) : w.rangeAt b (o + 1) cs := fun j u hu => by
  have := h (j + 1) u (by simpa using hu)
  rwa [show o + 1 + j = o + (j + 1) from by omega]
set_option maxRecDepth 100000 in
set_option maxHeartbeats 2000000 in
theorem content_any (w : World) (F : Nat → Prop) (b mb : Nat) (A : Option Addr) (c : Nat) (s : St) (h : DskB w F b mb A c s) (n : Nat) (hn : n < s.num) :
    Calls Tryz.prog 109 #[.pointer (some ⟨b, 0, none⟩), .int .i64 n] w (RetSec (s.now n) w) := by
  have hus := Tryz.underlying81
  have huw := Tryz.underlying78
  have hui := Tryz.underlying3
  have hpl1 := h.lim.1
  have hcmax : c ≤ 9223372036854775807 := by
    rcases h.row.2 with ⟨hv, _⟩ | ⟨g, cap, cur, hv, _, _, _, hm, _⟩
    · injection hv with _ _ e3; omega
    · injection hv with _ _ e3; unfold maxLen at hm; omega
  have hsyn := h.ok.syn n
  have hZ := Lib.hid (fun w => zero_secA w)
  have hbl : ∀ l, Sec l → (Tryz.prog.info? 81).map (·.size) = some (byC l).toArray.size := fun l hl => by rw [secV_size hl]; exact size_sec
  have hbl2 : ∀ l, Sec l → (byC zeros).toArray.size = (byC l).toArray.size := fun l hl => by rw [secV_size hl, zeros_size]
  have h1l : ∀ l, (byC l).toArray.all (·.oneCell') = true := fun l => all_oneCell_toArray (byC_one l)
  have HBL := Lib.hid hbl
  have HBL2 := Lib.hid hbl2
  have H1L := Lib.hid h1l
  have HOK := Lib.hid h.ok
  have hb1 : Below w.heap.size w (w.alloc (.cells (byC zeros).toArray 81)) := (Below.refl _ _).alloc (Nat.le_refl _) _
  have HM := Lib.hid (h.map.eq (hb1.block mb h.map.lt))
  have HROW := Lib.hid (owns_keep h.row (fun k hk => hb1.block k (h.row.lt k hk).2))
  have hblt := h.blk.lt
  have hcell1 : (w.alloc (.cells (byC zeros).toArray 81)).cell? ⟨b, 1, none⟩ = some (.map (some mb)) := (hb1.cell (p := ⟨b, 1, none⟩) hblt).trans (h.blk.cell 1)
  have hcell2 : (w.alloc (.cells (byC zeros).toArray 81)).cell? ⟨b, 2, none⟩ = some (.slice A s.pend.length c) := (hb1.cell (p := ⟨b, 2, none⟩) hblt).trans (h.blk.cell 2)
  clear h hbl hbl2 h1l hb1
  go_enter Tryz.func109, Tryz.ntmps109
  go_wp2_with (refine wpList_run rfl (exec_allocA rfl hZ.out) ?_)
  obtain ⟨W1, hW1⟩ : ∃ W1, W1 = w.alloc (.cells (byC zeros).toArray 81) := ⟨_, rfl⟩
  rw [← hW1] at hcell1 hcell2 HM HROW ⊢
  have HW1 := Lib.hid hW1
  clear hW1
  go_wp2_with fail
  go_loop [5] (fun q => ∃ i : Int, -1 ≤ i ∧ i < s.pend.length ∧ q = .int .i64 i ∧ ∀ j : Nat, i < j → j < s.pend.length → (s.at_ j).1 ≠ n) (fun q => (intOf q + 1).toNat)
  case atStart => exact ⟨(s.pend.length : Int) - 1, by omega, by omega, by go_num, fun j h1 h2 => by omega⟩
  case round =>
    obtain ⟨i, hi1, hi2, rfl, hall⟩ := hrel
    by_cases hi0 : i < 0
    · have hnow : s.now n = s.syn n := St.now_none s n (fun j hj => hall j (by omega) hj)
      have E := Lib.hid (sec_end (s.syn n) w)
      have HN := Lib.hid hnow
      clear hall hnow
      go_wp2_with (first
        | (refine wpList_lookup_fn rfl _ _ rfl huw hui mb _ _ (hZ.out _) HM.out (by rfl) n (by rfl) ?_)
        | (refine wpList_store_new rfl rfl (W := w) HW1.out (by rfl) (by rfl) (HBL.out _ hsyn) (HBL2.out _ hsyn) (H1L.out _) ?_))
      exact bodyPost_ret (v := secV (s.syn n)) (results_cell_row (p := 4) (ty := 81) Tryz.results109 _ _ w.heap.size 81 (byC (s.syn n)).toArray (0, 0) _ rfl E.out.1 hus rfl (HBL.out _ hsyn)) rfl (by rw [HN.out]; exact E.out.2)
    · obtain ⟨j, rfl⟩ := Int.eq_ofNat_of_zero_le (Int.not_lt.1 hi0)
      have hjl : j < s.pend.length := by omega
      obtain ⟨pb, rfl, hpc, hpm, hat⟩ := pend_at HOK.out HROW.out (by omega)
      have hrg := hat j hjl
      have hx0 : W1.cell? ⟨pb, j * 257, none⟩ = some (.int .i64 (s.at_ j).1) := by have := hrg 0 _ (show (wrC (s.at_ j))[0]? = some (.int .i64 (s.at_ j).1) from rfl); simpa using this
      have hrg1 := range_tail hrg
      have hsj := (HOK.out.at_ j hjl).2
      clear hat hrg
      have hk0 : (0 : Int) ≤ (j : Int) := Int.natCast_nonneg _
      by_cases he : (s.at_ j).1 = n
      · have hnow : s.now n = (s.at_ j).2 := St.now_last s n j hjl he (fun q h1 h2 => hall q (by omega) h2)
        have E := Lib.hid (sec_end (s.at_ j).2 w)
        have HN := Lib.hid hnow
        rw [he] at hx0
        clear hall hnow he
        obtain ⟨l, hl⟩ : ∃ l, (s.at_ j).2 = l := ⟨_, rfl⟩
        rw [hl] at E HN hrg1 hsj
        have hbl : (byC l).length = 256 := by rw [byC_len, hsj.1]
        clear hl
        go_wp2_with (first
          | (refine wpList_run rfl (exec_load rfl (by rfl) (by exact hrg1) hus rfl (by rw [hbl]; exact size_sec)) ?_)
          | (refine wpList_store_new rfl rfl (W := w) HW1.out (by rfl) (by rfl) (HBL.out _ hsj) (HBL2.out _ hsj) (H1L.out _) ?_))
        exact bodyPost_ret (v := secV l) (results_cell_row (p := 4) (ty := 81) Tryz.results109 _ _ w.heap.size 81 (byC l).toArray (0, 0) _ rfl E.out.1 hus rfl (HBL.out _ hsj)) rfl (by rw [HN.out]; exact E.out.2)
      · have HA : Hid (∀ q : Nat, (j : Int) - 1 < q → q < s.pend.length → (s.at_ q).1 ≠ n) := Lib.hid (fun q h1 h2 => by
          by_cases e : q = j
          · subst e; exact he
          · exact hall q (by omega) h2)
        obtain ⟨m, hm⟩ : ∃ m, (s.at_ j).1 = m := ⟨_, rfl⟩
        rw [hm] at hx0 he
        have hd : ((m : Int) == (n : Int)) = false := by simp; omega
        clear hall hrg1 hm he
        go_wp2_with fail
        go_round
        case rel => exact ⟨(j : Int) - 1, by omega, by omega, by go_num, HA.out⟩
        case measure => simp [intOf]
def RetRead (l : List Int) (w : World) (e : Ending) (w' : World) : Prop :=
  ∃ g, w.heap.size ≤ g ∧ e = .returned (.tuple #[.slice (some ⟨g, 0, none⟩) 256 256, .int .i64 0]) ∧ Bk w' g 81 (byC l).toArray ∧ Below w.heap.size w w'
def RetErr (e0 : Int) (w : World) (e : Ending) (w' : World) : Prop := e = .returned (.tuple #[.slice none 0 0, .int .i64 e0]) ∧ w = w'
theorem Byt.sec {w : World} {g : Nat} {t : TypeId} {l : List Int} (h : Bk w g t (byC l).toArray) (hl : Sec l) : Byt w (some ⟨g, 0, none⟩) 256 256 l :=
  Byt.of_bk h 0 256 256 l hl.1 (Nat.le_refl _) (by unfold maxLen; omega) hl.2 (fun i hi => by
    have : i < l.length := by rw [hl.1]; exact hi
    simp [byC, List.getElem?_eq_getElem this])
set_option maxHeartbeats 1000000 in
theorem read_bad (w : World) (F : Nat → Prop) (b mb : Nat) (A : Option Addr) (c : Nat) (s : St) (h : DskB w F b mb A c s) (n : Int) (hn : n < 0 ∨ (s.num : Int) ≤ n) :
    Calls Tryz.prog 86 #[.pointer (some ⟨b, 0, none⟩), .int .i64 n] w (RetErr 1 w) := by
  have C := Lib.hid (find_bad h n hn)
  clear h hn
  go_enter Tryz.func86, Tryz.ntmps86
  go_wp2_with fail
  refine C.out.mono ?_
  rintro e w' ⟨rfl, rfl⟩
  go_wp2_with fail
  go_ret2
  exact ⟨rfl, rfl⟩
set_option maxHeartbeats 1000000 in
theorem read_down (w : World) (F : Nat → Prop) (b mb : Nat) (A : Option Addr) (c : Nat) (s : St) (h : DskB w F b mb A c s) (n : Nat) (hn : n < s.num) (hg : s.gone = true) :
    Calls Tryz.prog 86 #[.pointer (some ⟨b, 0, none⟩), .int .i64 n] w (RetErr 40 w) := by
  have C := Lib.hid (find_ok h n hn)
  have c4 : w.cell? ⟨b, 4, none⟩ = some (.bool true) := by rw [← hg]; exact h.blk.cell 4
  clear h hn hg
  go_enter Tryz.func86, Tryz.ntmps86
  go_wp2_with fail
  refine C.out.mono ?_
  rintro e w' ⟨rfl, rfl⟩
  go_wp2_with fail
  go_ret2
  exact ⟨rfl, rfl⟩
set_option maxRecDepth 100000 in
set_option maxHeartbeats 1000000 in
theorem read_ok (w : World) (F : Nat → Prop) (b mb : Nat) (A : Option Addr) (c : Nat) (s : St) (h : DskB w F b mb A c s) (n : Nat) (hn : n < s.num) (hg : s.gone = false) :
    Calls Tryz.prog 86 #[.pointer (some ⟨b, 0, none⟩), .int .i64 n] w (RetRead (s.now n) w) := by
  have C := Lib.hid (find_ok h n hn)
  have C2 := Lib.hid (content_any w F b mb A c s h n hn)
  have c4 : w.cell? ⟨b, 4, none⟩ = some (.bool false) := by rw [← hg]; exact h.blk.cell 4
  have hsec := h.ok.now n
  have hZ := Lib.hid (fun w => zero_secA w)
  obtain ⟨l, hl⟩ : ∃ l, s.now n = l := ⟨_, rfl⟩
  rw [hl] at C2 hsec ⊢
  have HI : Hid ((Tryz.prog.info? 81).map (·.size) = some (byC l).toArray.size) := Lib.hid (by rw [secV_size hsec]; exact size_sec)
  have HS : Hid ((byC zeros).toArray.size = (byC l).toArray.size) := Lib.hid (by rw [secV_size hsec, zeros_size])
  have H1 : Hid ((byC l).toArray.all (·.oneCell') = true) := Lib.hid (all_oneCell_toArray (byC_one l))
  clear h hn hg hl
  go_enter Tryz.func86, Tryz.ntmps86
  go_wp2_with fail
  refine C.out.mono ?_
  rintro e w' ⟨rfl, rfl⟩
  go_wp2_with fail
  refine C2.out.mono ?_
  rintro e w1 ⟨rfl, hb⟩
  have R : Hid (RetRead l w (.returned (.tuple #[.slice (some ⟨w1.heap.size, 0, none⟩) 256 256, .int .i64 0])) (w1.alloc (.cells (byC l).toArray 81))) :=
    Lib.hid ⟨w1.heap.size, hb.size, rfl, heap_alloc_new _ _, hb.alloc hb.size _⟩
  clear hb
  go_wp2_with (first
    | (refine wpList_run rfl (exec_allocA rfl hZ.out) ?_)
    | (refine wpList_store_new rfl rfl (W := w1) rfl (by rfl) (by rfl) HI.out HS.out H1.out ?_))
  go_ret2
  exact R.out
end

/- disk.New hands back a new disk of noughts, or the error. -/
section
open Go.RowKit
def newC (n : Int) (mb : Nat) : Array Value := #[.int .i64 n, .map (some mb), .slice none 0 0, .int .i64 (-1), .bool false, .int .i64 0]
theorem newDisk_any (n : Int) (mb : Nat) (w : World) :
    Calls Tryz.prog 43 #[.int .i64 n, .map (some mb)] w (fun e w' => e = .returned (.pointer (some ⟨w.heap.size, 0, none⟩)) ∧ w' = w.alloc (.cells (newC n mb) 84)) := by
  unfold newC
  go_enter Tryz.func43, Tryz.ntmps43
  go_wp2_with fail
  go_ret
  exact ⟨rfl, rfl⟩
def St.still (s : St) : Prop := s.pend = [] ∧ s.left = -1 ∧ s.gone = false ∧ s.syncs = 0
theorem new_dsk {w w1 : World} {mb : Nat} {s : St} (hs : s.still) (ok : s.Ok) (hm : MapFn w1 mb (secV zeros) (fun n => secV (s.syn n))) (hlow : w.heap.size ≤ mb) (hb : Below w.heap.size w w1) :
    (dsk w1.heap.size s).is (w1.alloc (.cells (newC s.num mb) 84)) (fresh w (w1.alloc (.cells (newC s.num mb) 84))) ∧ Below w.heap.size w (w1.alloc (.cells (newC s.num mb) 84)) := by
  obtain ⟨h1, h2, h3, h4⟩ := hs
  have hsz : (w1.alloc (.cells (newC s.num mb) 84)).heap.size = w1.heap.size + 1 := by simp
  refine ⟨⟨mb, none, 0, ?_, ?_, ?_, ⟨hb.size, by omega⟩, ⟨hlow, by have := hm.lt; omega⟩, ?_, fun k f => f.2, ok, ?_⟩, hb.alloc hb.size _⟩
  · rw [h1, h2, h3, h4]
    exact heap_alloc_new _ _
  · exact hm.eq (Below.heap_alloc _ _ _ hm.lt)
  · rw [h1]
    exact World.ownsRow_nil _ _ _ _
  · intro k hk
    simp [Value.ownBlock] at hk
  · rw [h1, h4]
    simp
def RetNew (s : St) (w : World) (e : Ending) (w' : World) : Prop := ∃ b, e = .returned (.tuple #[.pointer (some ⟨b, 0, none⟩), .int .i64 0]) ∧ (dsk b s).is w' (fresh w w') ∧ Below w.heap.size w w'
set_option maxHeartbeats 1000000 in
theorem new_any (n : Nat) (hn : 1 ≤ n ∧ n ≤ 4096) (w : World) : Calls Tryz.prog 39 #[.int .i64 n] w (RetNew (St.new n) w) := by
  have hR := (new_dsk (w := w) (w1 := w.alloc (.map #[] 0)) (mb := w.heap.size) (s := St.new n) ⟨rfl, rfl, rfl, rfl⟩ (St.new_ok hn) (MapFn.new w _) (Nat.le_refl _) ((Below.refl _ _).alloc (Nat.le_refl _) _))
  rw [show (w.alloc (.map #[] 0)).heap.size = w.heap.size + 1 from by simp] at hR
  have R := Lib.hid hR
  obtain ⟨h1, h2⟩ := hn
  have hmm := @run_makeMap Tryz.prog
  clear hR
  go_enter Tryz.func39, Tryz.ntmps39
  go_wp2_with fail
  refine (newDisk_any n _ _).mono ?_
  rintro e w' ⟨rfl, rfl⟩
  go_wp2_with fail
  go_ret2
  exact ⟨_, rfl, R.out⟩
end

/- disk.lastingBytes tells how much a crash leaves of each pending write. -/
section
open Go.RowKit
def natC (f : Nat → Int) (m : Nat) : Array Value := ((List.range m).map fun i => Value.int .i64 (f i)).toArray
theorem natC_size (f : Nat → Int) (m : Nat) : (natC f m).size = m := by simp [natC]
theorem natC_at (f : Nat → Int) (m i : Nat) (h : i < m) : (natC f m)[i]? = some (.int .i64 (f i)) := by simp [natC, h]
theorem natC_set (f : Nat → Int) (m j : Nat) (v : Int) : (natC f m).setIfInBounds j (.int .i64 v) = natC (fun i => if i = j then v else f i) m := by
  apply Array.ext_getElem?
  intro i
  rw [Array.getElem?_setIfInBounds]
  by_cases hi : i < m
  · rw [natC_at _ m i hi, natC_at _ m i hi, natC_size]
    by_cases e : j = i
    · subst e; simp [hi]
    · rw [if_neg e]
      have : ¬ i = j := fun q => e q.symm
      simp [this]
  · have h1 : (natC f m)[i]? = none := Array.getElem?_eq_none (by rw [natC_size]; omega)
    have h2 : (natC (fun i => if i = j then v else f i) m)[i]? = none := Array.getElem?_eq_none (by rw [natC_size]; omega)
    rw [h1, h2]
    split <;> (try rfl)
    rw [if_neg (by rw [natC_size]; omega)]
def RetLast (f : Nat → Int) (m : Nat) (w : World) (e : Ending) (w' : World) : Prop :=
  ∃ g, w.heap.size ≤ g ∧ e = .returned (.slice (some ⟨g, 0, none⟩) m m) ∧ Bk w' g 3 (natC f m) ∧ Below w.heap.size w w'
def keptBy (l : List Int) (k i : Nat) : Int := if (i : Int) ∈ l.take k then 256 else 0
theorem natC_congr {f g : Nat → Int} {m : Nat} (h : ∀ i, i < m → f i = g i) : natC f m = natC g m := by
  unfold natC
  congr 1
  refine List.map_congr_left fun i hi => ?_
  rw [h i (by simpa using hi)]
theorem keptBy_next (l : List Int) (k : Nat) (hk : k < l.length) (i : Nat) : keptBy l (k + 1) i = if (i : Int) = l.getD k 0 then 256 else keptBy l k i := by
  have e : l.getD k 0 = l[k] := by simp [List.getD, List.getElem?_eq_getElem hk]
  unfold keptBy
  rw [e, List.take_succ_eq_append_getElem hk]
  simp only [List.mem_append, List.mem_singleton]
  by_cases h : (i : Int) = l[k]
  · rw [if_pos (.inr h), if_pos h]
  · rw [if_neg h]
    by_cases h2 : (i : Int) ∈ l.take k
    · rw [if_pos (.inl h2), if_pos h2]
    · rw [if_neg (fun q => q.elim h2 h), if_neg h2]
theorem of_kept (c : Crs) (m i : Nat) (h : ¬ (c.torn = true ∧ i + 1 = m)) : ((c.of m i : Nat) : Int) = keptBy c.keep c.keep.length i := by
  unfold Crs.of keptBy
  rw [if_neg h, List.take_length]
  split <;> rfl
structure LastRel (w : World) (cv : Array Value) (g m : Nat) (l : List Int) (k : Nat) (wr : World) : Prop where
  blk : Bk wr g 3 (natC (keptBy l k) m)
  box : Bk wr w.heap.size 41 cv
  low : w.heap.size < g
  bel : Below w.heap.size w wr
theorem LastRel.set {w wr : World} {cv : Array Value} {g m k j : Nat} {l : List Int} (h : LastRel w cv g m l k wr) (hk : k < l.length) (hx : l.getD k 0 = (j : Int)) : LastRel w cv g m l (k + 1) (wr.setCell ⟨g, j, none⟩ (.int .i64 256)) := by
  refine ⟨?_, h.box.eq (Below.heap_setCell _ _ _ _ (by have := h.low; show w.heap.size ≠ g; omega)), h.low, h.bel.setCell (Nat.le_of_lt h.low) _⟩
  have := h.blk.setc j (.int .i64 256)
  rw [natC_set] at this
  rw [natC_congr (g := fun i => if i = j then (256 : Int) else keptBy l k i) (fun i hi => by
    rw [keptBy_next l k hk, hx]
    by_cases q : i = j
    · subst q; simp
    · rw [if_neg q, if_neg (by omega)])]
  exact this
theorem LastRel.done {w wr : World} {cv : Array Value} {g m : Nat} {c : Crs} (h : LastRel w cv g m c.keep c.keep.length wr) (ht : c.torn = false ∨ m = 0) : RetLast (fun i => (c.of m i : Int)) m w (.returned (.slice (some ⟨g, 0, none⟩) m m)) wr := by
  refine ⟨g, Nat.le_of_lt h.low, rfl, ?_, h.bel⟩
  rw [natC_congr (g := keptBy c.keep c.keep.length) (fun i hi => of_kept c m i (by
    rintro ⟨q1, q2⟩
    rcases ht with ht | ht
    · rw [ht] at q1; cases q1
    · omega))]
  exact h.blk
end

/- maps.Clone of a map of sectors: a new map with the same entries. -/
section
open Go.RowKit
end

/- disk.Crash hands back the disk that the plain one's crash leaves, all of it new memory. -/
section
open Go.RowKit
structure CrashRel (w w3 : World) (nm : Nat) (s : St) (cut : Nat → Nat) (k : Nat) (wr : World) : Prop where
  map : MapFn wr nm (secV zeros) (fun n => secV (s.left_ cut k n))
  fr : Fr (fun q => q = nm) w3 wr
  low : w.heap.size ≤ nm
  bel : Below w.heap.size w w3
theorem CrashRel.below {w w3 wr : World} {nm : Nat} {s : St} {cut : Nat → Nat} {k : Nat} (h : CrashRel w w3 nm s cut k wr) : Below w.heap.size w wr := h.bel.trans (h.fr.below h.bel.size (fun q e => e ▸ h.low))
theorem CrashRel.step {w w3 wr w2 w4 : World} {nm : Nat} {s : St} {cut : Nat → Nat} {k : Nat} (h : CrashRel w w3 nm s cut k wr) (hb : Below wr.heap.size wr w2)
    (hm : MapFn w4 nm (secV zeros) (fun m => if m = (s.at_ k).1 then secV (over (s.at_ k).2 (s.left_ cut k (s.at_ k).1) (cut k)) else secV (s.left_ cut k m))) (hf : Fr (fun q => q = nm) w2 w4) : CrashRel w w3 nm s cut (k + 1) w4 := by
  refine ⟨?_, (h.fr.then (Fr.of_below hb)).then hf, h.low, h.bel⟩
  have e : (fun n => secV (s.left_ cut (k + 1) n)) = fun m => if m = (s.at_ k).1 then secV (over (s.at_ k).2 (s.left_ cut k (s.at_ k).1) (cut k)) else secV (s.left_ cut k m) := by
    funext m
    show secV (upd (s.left_ cut k) (s.at_ k).1 _ m) = _
    unfold upd
    split <;> rfl
  rw [e]
  exact hm
def RetCrash (s : St) (w : World) (e : Ending) (w' : World) : Prop := ∃ b, e = .returned (.pointer (some ⟨b, 0, none⟩)) ∧ (dsk b s).is w' (fresh w w') ∧ Below w.heap.size w w'
theorem CrashRel.done {w w3 wr : World} {nm : Nat} {s : St} {c : Crs} (h : CrashRel w w3 nm s (c.of s.pend.length) s.pend.length wr) (ok : s.Ok) :
    RetCrash (s.crash c) w (.returned (.pointer (some ⟨wr.heap.size, 0, none⟩))) (wr.alloc (.cells (newC s.num nm) 84)) :=
  ⟨_, rfl, new_dsk (s := s.crash c) ⟨rfl, rfl, rfl, rfl⟩ (ok.crash c) h.map h.low h.below⟩
end

/- the statements' Full hands back a sector of one byte, in new memory. -/
section
open Go.RowKit
def u8C (f : Nat → Int) : Array Value := ((List.range 256).map fun i => Value.int .u8 (f i)).toArray
theorem u8C_size (f : Nat → Int) : (u8C f).size = 256 := by unfold u8C; rw [List.size_toArray, List.length_map, List.length_range]
theorem u8C_at (f : Nat → Int) (i : Nat) (h : i < 256) : (u8C f)[i]? = some (.int .u8 (f i)) := by
  unfold u8C
  rw [List.getElem?_toArray, List.getElem?_map, List.getElem?_range h]
  rfl
theorem u8C_set (f : Nat → Int) (j : Nat) (v : Int) : (u8C f).setIfInBounds j (.int .u8 v) = u8C (fun i => if i = j then v else f i) := by
  apply Array.ext_getElem?
  intro i
  rw [Array.getElem?_setIfInBounds]
  by_cases hi : i < 256
  · rw [u8C_at _ i hi, u8C_at _ i hi, u8C_size]
    by_cases e : j = i
    · subst e; rw [if_pos rfl, if_pos hi, if_pos rfl]
    · rw [if_neg e, if_neg (fun q => e q.symm)]
  · have h1 : (u8C f)[i]? = none := Array.getElem?_eq_none (by rw [u8C_size]; omega)
    have h2 : (u8C (fun i => if i = j then v else f i))[i]? = none := Array.getElem?_eq_none (by rw [u8C_size]; omega)
    rw [h1, h2]
    split <;> (try rfl)
    rw [if_neg (by rw [u8C_size]; omega)]
theorem info_u8f : (Tryz.prog.info? 5).map (fun i => (i.zero, i.size, i.bytes)) = some (some (.int .u8 0), 1, 1) := by kernel_rfl
theorem make_256 (W : World) : (Instr.makeSlice 88 (.int .i64 256) (.int .i64 256)).run Tryz.prog W =
    .ok (.slice (some ⟨W.heap.size, 0, none⟩) 256 256) (W.alloc (.cells (u8C (fun _ => 0)) 5)) := by
  obtain ⟨i0, hi, hz0, hz1, hz2⟩ := info_parts info_u8f
  have := run_make (P := Tryz.prog) W 88 5 i0 (.int .u8 0) Tryz.underlying88 hi hz0 .i64 .i64 256 256 (by omega) (by omega) (by rw [hz2]; omega) (by omega)
  rw [this, hz1]
  show Result.ok _ (W.alloc (.cells (madeCells #[.int .u8 0] 256) _)) = _
  have e : madeCells #[.int .u8 0] 256 = u8C (fun _ => 0) := by
    apply Array.toList_inj.1
    rw [toList_madeCells_one]
    unfold u8C
    show _ = (List.range 256).map fun _ => Value.int .u8 0
    rw [List.map_const', List.length_range]
  rw [e]
  rfl
def RetFull (l : List Int) (w : World) (e : Ending) (w' : World) : Prop :=
  ∃ g, w.heap.size ≤ g ∧ e = .returned (.slice (some ⟨g, 0, none⟩) 256 256) ∧ Bk w' g 5 (byC l).toArray ∧ Below w.heap.size w w'
theorem RetFull.byt {l : List Int} {w w' : World} {g : Nat} (hb : Bk w' g 5 (byC l).toArray) (hl : Sec l) : Byt w' (some ⟨g, 0, none⟩) 256 256 l := Byt.sec hb hl
end

/- a disk among other things in memory: what each call answers, what becomes of the disk, and that the other things stay. -/
section
open Go.RowKit
def emp : Res where
  is w F := ∀ k, F k → k < w.heap.size
  lt _ _ h := h
  keep _ _ _ h hs _ := fun k f => Nat.lt_of_lt_of_le (h k f) hs
theorem Has.emp (B : Nat) (w : World) : Has B emp w := ⟨fun _ => False, fun _ f => f.elim, fun _ f => f.elim⟩
theorem Has.sw {B : Nat} {R S T : Res} {w : World} (h : Has B (R.star (S.star T)) w) : Has B (S.star (T.star R)) w := h.comm.assoc
theorem Has.map2 {B : Nat} {R S S' : Res} {w : World} (h : Has B (R.star S) w) (hm : ∀ F, S.is w F → S'.is w F) : Has B (R.star S') w := by
  obtain ⟨F, ⟨F1, F2, h1, h2, h3, h4, h5, h6⟩, h7⟩ := h
  exact ⟨F, ⟨F1, F2, h1, hm F2 h2, h3, h4, h5, h6⟩, h7⟩
theorem Has.swap {B : Nat} {R S T : Res} {w : World} (h : Has B (R.star (S.star T)) w) : Has B (S.star (R.star T)) w := h.sw.map2 (fun _ => Res.star_comm)
def blkR (g : Nat) (t : TypeId) (cs : Array Value) : Res where
  is w F := Bk w g t cs ∧ F g ∧ ∀ k, F k → k < w.heap.size
  lt _ _ h := h.2.2
  keep w w' F := fun h hs hk => ⟨h.1.eq (hk g h.2.1), h.2.1, fun k f => Nat.lt_of_lt_of_le (h.2.2 k f) hs⟩
theorem blkR_new {B : Nat} {S : Res} {w : World} (t : TypeId) (cs : Array Value) (h : Has B S w) (hB : B ≤ w.heap.size) : Has B ((blkR w.heap.size t cs).star S) (w.alloc (.cells cs t)) :=
  h.new hB ((Below.refl _ _).alloc (Nat.le_refl _) _) ⟨Bk.new w t cs, ⟨Nat.le_refl _, (Bk.new w t cs).lt⟩, fun _ f => f.2⟩
def RetHas (v : Value) (B : Nat) (R : Res) (w : World) (e : Ending) (w' : World) : Prop := e = .returned v ∧ Has B R w' ∧ Below B w w'
section
variable {B : Nat} {R : Res} {w0 w : World} {b : Nat} {s : St}
theorem hasD_writeO (h : Has B ((dsk b s).star R) w0) (hb : Below w0.heap.size w0 w) (hB : B ≤ w0.heap.size) {A : Option Addr} {m c : Nat} {l : List Int} (hl : Byt w A m c l) (hA : ∀ k, (Value.slice A m c).ownBlock = some k → w0.heap.size ≤ k ∨ k < B)
    (n : Int) (hn : -9223372036854775808 ≤ n ∧ n ≤ 9223372036854775807) (hlim : s.pend.length < 999999) :
    Calls Tryz.prog 135 #[.pointer (some ⟨b, 0, none⟩), .int .i64 n, .slice A m c] w (RetHas (.int .i64 (s.wErr n l)) B ((dsk b (s.write n l)).star R) w) := by
  have hBw : B ≤ w.heap.size := Nat.le_trans hB hb.size
  have hlen := hl.len
  have hw := h.below hb
  obtain ⟨F0, hF0, hF0B⟩ := h
  obtain ⟨F, hF, hturn⟩ := Res.star_turn hF0
  have hF' : (dsk b s).is w F := (dsk b s).keep w0 w F hF hb.size (fun k f => hb.block k ((dsk b s).lt w0 F hF k f))
  have hkeep : ((dsk b s).star R).is w F0 := ((dsk b s).star R).keep w0 w F0 hF0 hb.size (fun k f => hb.block k (((dsk b s).star R).lt w0 F0 hF0 k f))
  clear hturn
  obtain ⟨F1, F2, a1, a2, a3, a4, a5, a6⟩ := hkeep
  have hF1 : ∀ k, F1 k → k < w0.heap.size := fun k f => ((dsk b s).star R).lt w0 F0 hF0 k (a4 k f)
  have hnot : ∀ k, (Value.slice A m c).ownBlock = some k → ¬ F1 k := fun k hk f => by have := hA k hk; have := hF1 k f; have := hF0B k (a4 k f); omega
  have done : ∀ s' w', Turn (dsk b s') F1 w w' → Has B ((dsk b s').star R) w' ∧ Below B w w' := by
    intro s' w' t
    have hh : ((dsk b s).star R).is w F0 := ⟨F1, F2, a1, a2, a3, a4, a5, a6⟩
    have key : Turn ((dsk b s').star R) F0 w w' := by
      obtain ⟨t1, t2⟩ := t
      refine ⟨⟨grow F1 w w', F2, t1, R.keep w w' F2 a2 t2.size (fun k f => t2.block k (R.lt w F2 a2 k f) (fun g => a3 k g f)), ?_, ?_, fun k f => .inl (a5 k f), ?_⟩, t2.mono a4⟩
      · intro k f g
        rcases f with f | f
        · exact a3 k f g
        · have := R.lt w F2 a2 k g; omega
      · intro k f
        rcases f with f | f
        · exact .inl (a4 k f)
        · exact .inr f
      · intro k f
        rcases f with f | f
        · exact Nat.lt_of_lt_of_le (a6 k f) t2.size
        · exact f.2
    refine ⟨⟨_, key.1, fun k f => ?_⟩, key.2.below hBw hF0B⟩
    rcases f with f | f
    · exact hF0B k f
    · omega
  obtain ⟨mb, A1, c1, hd⟩ := a1
  by_cases h1 : n < 0 ∨ (s.num : Int) ≤ n
  · have e1 : s.wErr n l = 1 := by unfold St.wErr; rw [if_pos h1]
    have e2 : s.write n l = s := by unfold St.write; rw [if_pos h1]
    rw [e1, e2]
    exact (write_bad w F1 b mb A1 c1 s hd n h1 _).mono fun e w' ⟨he, ht⟩ => ⟨he, done s w' ht⟩
  · obtain ⟨j, rfl⟩ := Int.eq_ofNat_of_zero_le (show 0 ≤ n by omega)
    have hj : j < s.num := by omega
    by_cases h2 : m = 256
    · subst h2
      by_cases h3 : s.can = true
      · have e1 : s.wErr j l = 0 := by unfold St.wErr; rw [if_neg h1, if_neg (by omega), if_pos h3]
        have e2 : s.write j l = s.wrote j l := by unfold St.write; rw [if_neg h1, if_neg (by omega), if_pos h3]; rfl
        rw [e1, e2]
        exact (write_made w F1 b mb A1 c1 s hd j hj A c l hl hnot h3 hlim).mono fun e w' ⟨he, ht⟩ => ⟨he, done _ w' ht⟩
      · have h3' : s.can = false := by simpa using h3
        have e1 : s.wErr j l = 40 := by unfold St.wErr; rw [if_neg h1, if_neg (by omega), if_neg h3]
        have e2 : s.write j l = s.step := by unfold St.write; rw [if_neg h1, if_neg (by omega), if_neg h3]
        rw [e1, e2]
        exact (write_down w F1 b mb A1 c1 s hd j hj A c h3').mono fun e w' ⟨he, ht⟩ => ⟨he, done _ w' ht⟩
    · have e1 : s.wErr j l = 12 := by unfold St.wErr; rw [if_neg h1, if_pos (by omega)]
      have e2 : s.write j l = s := by unfold St.write; rw [if_neg h1, if_pos (by omega)]
      rw [e1, e2]
      exact (write_len w F1 b mb A1 c1 s hd j hj A m c h2).mono fun e w' ⟨he, ht⟩ => ⟨he, done s w' ht⟩
theorem hasD_write (h : Has B ((dsk b s).star R) w0) (hb : Below w0.heap.size w0 w) (hB : B ≤ w0.heap.size) {A : Option Addr} {m c : Nat} {l : List Int} (hl : Byt w A m c l) (hA : ∀ k, (Value.slice A m c).ownBlock = some k → w0.heap.size ≤ k)
    (n : Int) (hn : -9223372036854775808 ≤ n ∧ n ≤ 9223372036854775807) (hlim : s.pend.length < 999999) :
    Calls Tryz.prog 135 #[.pointer (some ⟨b, 0, none⟩), .int .i64 n, .slice A m c] w (RetHas (.int .i64 (s.wErr n l)) B ((dsk b (s.write n l)).star R) w) :=
  hasD_writeO h hb hB hl (fun k hk => .inl (hA k hk)) n hn hlim
theorem hasD_sync (h : Has B ((dsk b s).star R) w) (hB : B ≤ w.heap.size) (hlim : s.syncs < 999999) :
    Calls Tryz.prog 103 #[.pointer (some ⟨b, 0, none⟩)] w (RetHas (.int .i64 s.sErr) B ((dsk b s.sync).star R) w) := by
  obtain ⟨F, ⟨mb, A1, c1, hd⟩, hturn⟩ := h.turn1 hB
  by_cases h3 : s.can = true
  · have e1 : s.sErr = 0 := by unfold St.sErr; rw [if_pos h3]
    have e2 : s.sync = s.synced := by unfold St.sync; rw [if_pos h3]
    rw [e1, e2]
    exact (sync_made w F b mb A1 c1 s hd h3 hlim).mono fun e w' ⟨he, ht⟩ => ⟨he, hturn _ w' ht⟩
  · have h3' : s.can = false := by simpa using h3
    have e1 : s.sErr = 40 := by unfold St.sErr; rw [if_neg h3]
    have e2 : s.sync = s.step := by unfold St.sync; rw [if_neg h3]
    rw [e1, e2]
    exact (sync_down w F b mb A1 c1 s hd h3').mono fun e w' ⟨he, ht⟩ => ⟨he, hturn _ w' ht⟩
theorem hasD_fuse (h : Has B ((dsk b s).star R) w) (hB : B ≤ w.heap.size) (n : Int) (hn : -9223372036854775808 ≤ n ∧ n ≤ 9223372036854775807) :
    Calls Tryz.prog 20 #[.pointer (some ⟨b, 0, none⟩), .int .i64 n] w (RetHas (.tuple #[]) B ((dsk b (s.fuse n)).star R) w) := by
  obtain ⟨F, ⟨mb, A1, c1, hd⟩, hturn⟩ := h.turn1 hB
  exact (fuse_any hd n hn).mono fun e w' ⟨he, ht⟩ => ⟨he, hturn _ w' ht⟩
theorem Has.one (h : Has B ((dsk b s).star R) w) : ∃ F mb A c, DskB w F b mb A c s := by
  obtain ⟨F, mb, A, c, hd⟩ := h.fst.ex
  exact ⟨F, mb, A, c, hd⟩
theorem hasD_sectors (h : Has B ((dsk b s).star R) w) : Calls Tryz.prog 84 #[.pointer (some ⟨b, 0, none⟩)] w (Same (.int .i64 s.num) w) := by
  obtain ⟨F, mb, A, c, hd⟩ := h.one
  exact sectors_any hd
theorem hasD_ok (h : Has B ((dsk b s).star R) w) : s.Ok := by
  obtain ⟨F, mb, A, c, hd⟩ := h.one
  exact hd.ok
def St.rBytes (s : St) (n : Int) : List Int := if s.rErr n = 0 then s.now n.toNat else []
def RetRd (l : List Int) (e0 : Int) (w : World) (e : Ending) (w' : World) : Prop :=
  ∃ A n c, e = .returned (.tuple #[.slice A n c, .int .i64 e0]) ∧ Byt w' A n c l ∧ (∀ g off, A = some ⟨g, off, none⟩ → w.heap.size ≤ g ∧ w'.frozen? ⟨g, off, none⟩ = false) ∧ Below w.heap.size w w'
theorem hasD_read (h : Has B ((dsk b s).star R) w) (n : Int) : Calls Tryz.prog 86 #[.pointer (some ⟨b, 0, none⟩), .int .i64 n] w (RetRd (s.rBytes n) (s.rErr n) w) := by
  obtain ⟨F, mb, A, c, hd⟩ := h.one
  by_cases h1 : n < 0 ∨ (s.num : Int) ≤ n
  · have e1 : s.rErr n = 1 := by unfold St.rErr; rw [if_pos h1]
    have e2 : s.rBytes n = [] := by unfold St.rBytes; rw [e1]; rfl
    rw [e1, e2]
    exact (read_bad w F b mb A c s hd n h1).mono fun e w' ⟨he, hw⟩ => ⟨none, 0, 0, he, Byt.nil _, (fun _ _ q => nomatch q), by rw [← hw]; exact Below.refl _ _⟩
  · obtain ⟨j, rfl⟩ := Int.eq_ofNat_of_zero_le (show 0 ≤ n by omega)
    have hj : j < s.num := by omega
    by_cases h2 : s.gone = true
    · have e1 : s.rErr j = 40 := by unfold St.rErr; rw [if_neg h1, if_pos h2]
      have e2 : s.rBytes j = [] := by unfold St.rBytes; rw [e1]; rfl
      rw [e1, e2]
      exact (read_down w F b mb A c s hd j hj h2).mono fun e w' ⟨he, hw⟩ => ⟨none, 0, 0, he, Byt.nil _, (fun _ _ q => nomatch q), by rw [← hw]; exact Below.refl _ _⟩
    · have h2' : s.gone = false := by simpa using h2
      have e1 : s.rErr j = 0 := by unfold St.rErr; rw [if_neg h1, if_neg h2]
      have e2 : s.rBytes j = s.now j := by unfold St.rBytes; rw [if_pos e1]; rfl
      rw [e1, e2]
      refine (read_ok w F b mb A c s hd j hj h2').mono fun e w' ⟨g, hg, he, hb, hbel⟩ => ⟨some ⟨g, 0, none⟩, 256, 256, he, Byt.sec hb (hd.ok.now j), fun g' off' q => ?_, hbel⟩
      injection q with q
      injection q with q1 q2
      subst q1 q2
      exact ⟨hg, hb.frz 0⟩
theorem hasD_new (hS : Has B R w) (hB : B ≤ w.heap.size) (n : Nat) (hn : 1 ≤ n ∧ n ≤ 4096) :
    Calls Tryz.prog 39 #[.int .i64 n] w (fun e w' => ∃ b, e = .returned (.tuple #[.pointer (some ⟨b, 0, none⟩), .int .i64 0]) ∧ Has B ((dsk b (St.new n)).star R) w' ∧ Below w.heap.size w w') :=
  (new_any n hn w).mono fun e w' ⟨b', he, his, hbel⟩ => ⟨b', he, hS.new hB hbel his, hbel⟩
end
end

/- a log as a thing in memory: its blocks, what reads where, and how it stands where these do. -/
section
open Go.RowKit
def rcC (x : Xr × Int) : List Value := x.1.cells.toList ++ [.int .i64 x.2]
theorem rcC_len (x : Xr × Int) : (rcC x).length = 17 := by simp [rcC, Xr.cells]
def rcR (x : Xr × Int) : Rc × Int := (x.1.read, x.2)
structure LgAt (w : World) (F : Nat → Prop) (b d : Nat) (L : Lg) (A : Option Addr) (n c : Nat) (xs : List (Xr × Int)) (Q : Option Addr) (p q : Nat) (vs : List (Option Addr × Nat × Nat)) (G : Nat → Prop) : Prop where
  bk : Bk w b 103 (lgC d L (.slice A n c) (.slice Q p q))
  recs : w.ownsRow 0 123 17 (.slice A n c) n (xs.flatMap rcC)
  read : xs.map rcR = L.recs
  len : xs.length = n
  each : ∀ x ∈ xs, XrIn w.heap.size w x.1 ∧ (∀ k, x.1.owns k → G k) ∧ (-9223372036854775808 ≤ x.2 ∧ x.2 ≤ 9223372036854775807)
  wait : w.ownsRow 0 88 1 (.slice Q p q) p (vs.flatMap slV)
  wlen : vs.length = p
  llen : L.wait.length = p
  weach : ∀ i, i < p → Bty w (vs.getD i sl0).1 (vs.getD i sl0).2.1 (vs.getD i sl0).2.2 (L.wait.getD i []) ∧ ∀ a, (vs.getD i sl0).1 = some a → G a.block
  sub : ∀ k, G k → F k
  fb : F b
  fr : ∀ k, (Value.slice A n c).ownBlock = some k → F k
  fw : ∀ k, (Value.slice Q p q).ownBlock = some k → F k
  gb : ¬ G b
  gr : ∀ k, (Value.slice A n c).ownBlock = some k → ¬ G k
  gw : ∀ k, (Value.slice Q p q).ownBlock = some k → ¬ G k
  lt : ∀ k, F k → k < w.heap.size
section
variable {w w' w0 w1 w2 : World} {F F' G : Nat → Prop} {b d n c p q : Nat} {L L' : Lg} {A Q : Option Addr} {xs : List (Xr × Int)} {vs : List (Option Addr × Nat × Nat)}
theorem LgAt.mono (h : LgAt w F b d L A n c xs Q p q vs G) (hF : ∀ k, F k → F' k) (hl : ∀ k, F' k → k < w.heap.size) : LgAt w F' b d L A n c xs Q p q vs G :=
  ⟨h.bk, h.recs, h.read, h.len, h.each, h.wait, h.wlen, h.llen, h.weach, fun k g => hF k (h.sub k g), hF _ h.fb, fun k e => hF k (h.fr k e), fun k e => hF k (h.fw k e), h.gb, h.gr, h.gw, hl⟩
theorem LgAt.keep (h : LgAt w F b d L A n c xs Q p q vs G) (hs : w.heap.size ≤ w'.heap.size) (hk : ∀ k, F k → w'.heap[k]? = w.heap[k]?) : LgAt w' F b d L A n c xs Q p q vs G :=
  ⟨h.bk.eq (hk b h.fb), owns_keep h.recs (fun k e => hk k (h.fr k e)), h.read, h.len, fun x hx => by
    obtain ⟨h1, h2, h3⟩ := h.each x hx
    exact ⟨h1.same hs (fun k q => hk k (h.sub k (h2 k q))), h2, h3⟩, owns_keep h.wait (fun k e => hk k (h.fw k e)), h.wlen, h.llen, fun i hi => by
    obtain ⟨h1, h2⟩ := h.weach i hi
    exact ⟨h1.stay (fun a ha => hk _ (h.sub _ (h2 a ha))), h2⟩, h.sub, h.fb, h.fr, h.fw, h.gb, h.gr, h.gw, fun k f => Nat.lt_of_lt_of_le (h.lt k f) hs⟩
theorem LgAt.rb (h : LgAt w F b d L A n c xs Q p q vs G) (k : Nat) (e : (Value.slice A n c).ownBlock = some k) : k ≠ b := fun q' => by
  obtain ⟨cur, hc⟩ := own_ty h.recs e
  have hb := h.bk
  unfold Bk at hb
  rw [q', hb] at hc
  injection hc with hc
  injection hc with _ hc
  cases hc
theorem LgAt.wb (h : LgAt w F b d L A n c xs Q p q vs G) (k : Nat) (e : (Value.slice Q p q).ownBlock = some k) : k ≠ b := fun q' => by
  obtain ⟨cur, hc⟩ := own_ty h.wait e
  have hb := h.bk
  unfold Bk at hb
  rw [q', hb] at hc
  injection hc with hc
  injection hc with _ hc
  cases hc
theorem LgAt.rw_ (h : LgAt w F b d L A n c xs Q p q vs G) (k : Nat) (e : (Value.slice A n c).ownBlock = some k) : (Value.slice Q p q).ownBlock ≠ some k := fun e' => by
  obtain ⟨cur, hc⟩ := own_ty h.recs e
  obtain ⟨cur', hc'⟩ := own_ty h.wait e'
  rw [hc] at hc'
  injection hc' with hc'
  injection hc' with _ hc'
  cases hc'
theorem LgAt.cells (h : LgAt w F b d L A n c xs Q p q vs G) (hb : Bk w' b 103 (lgC d L' (.slice A n c) (.slice Q p q))) (hs : w'.heap.size = w.heap.size) (hk : ∀ k, k ≠ b → w'.heap[k]? = w.heap[k]?) (hr : L'.recs = L.recs) (hw : L'.wait = L.wait) :
    LgAt w' F b d L' A n c xs Q p q vs G :=
  ⟨hb, owns_keep h.recs (fun k e => hk k (h.rb k e)), by rw [hr]; exact h.read, h.len, fun x hx => by
    obtain ⟨h1, h2, h3⟩ := h.each x hx
    exact ⟨h1.same (by omega) (fun k q => hk k (fun e => h.gb (e ▸ h2 k q))), h2, h3⟩, owns_keep h.wait (fun k e => hk k (h.wb k e)), h.wlen, by rw [hw]; exact h.llen, fun i hi => by
    obtain ⟨h1, h2⟩ := h.weach i hi
    rw [hw]
    exact ⟨h1.stay (fun a ha => hk _ (fun e => h.gb (e ▸ h2 a ha))), h2⟩, h.sub, h.fb, h.fr, h.fw, h.gb, h.gr, h.gw, fun k f => by rw [hs]; exact h.lt k f⟩
theorem LgAt.done (h : LgAt w F b d L A n c xs Q p q vs G) (hb : Bk w' b 103 (lgC d L' (.slice A n c) (.slice none 0 0))) (hs : w'.heap.size = w.heap.size) (hk : ∀ k, k ≠ b → w'.heap[k]? = w.heap[k]?) (hr : L'.recs = L.recs) (hw : L'.wait = []) :
    LgAt w' F b d L' A n c xs none 0 0 [] G :=
  ⟨hb, owns_keep h.recs (fun k e => hk k (h.rb k e)), by rw [hr]; exact h.read, h.len, fun x hx => by
    obtain ⟨h1, h2, h3⟩ := h.each x hx
    exact ⟨h1.same (by omega) (fun k q => hk k (fun e => h.gb (e ▸ h2 k q))), h2, h3⟩, World.ownsRow_nil _ _ _ _, rfl, by rw [hw]; rfl, fun i hi => absurd hi (by omega), h.sub, h.fb, h.fr, (fun k e => by cases e), h.gb, h.gr, (fun k e => by cases e), fun k f => by rw [hs]; exact h.lt k f⟩
end
def lgR (b d : Nat) (L : Lg) : Res where
  is w F := ∃ A n c xs Q p q vs G, LgAt w F b d L A n c xs Q p q vs G
  lt _ _ := fun ⟨_, _, _, _, _, _, _, _, _, h⟩ => h.lt
  keep _ _ _ := fun ⟨A, n, c, xs, Q, p, q, vs, G, h⟩ hs hk => ⟨A, n, c, xs, Q, p, q, vs, G, h.keep hs hk⟩
section
variable {B : Nat} {R : Res} {w : World} {b d : Nat} {L : Lg}
theorem lgR_open (h : Has B ((lgR b d L).star R) w) (hB : B ≤ w.heap.size) : ∃ F A n c xs Q p q vs G, LgAt w F b d L A n c xs Q p q vs G ∧ ∀ L' w', Turn (lgR b d L') F w w' → Has B ((lgR b d L').star R) w' ∧ Below B w w' := by
  obtain ⟨F0, h1, h2⟩ := h.turn hB
  obtain ⟨F, h3, h4⟩ := Res.star_turn h1
  have h5 := h3
  obtain ⟨A, n, c, xs, Q, p, q, vs, G, ha⟩ := h5
  exact ⟨F, A, n, c, xs, Q, p, q, vs, G, ha, fun L' w' t => h2 _ _ (h4 _ w' t)⟩
theorem lgR_at (h : Has B ((lgR b d L).star R) w) : ∃ F A n c xs Q p q vs G, LgAt w F b d L A n c xs Q p q vs G := by
  obtain ⟨F, hF⟩ := h.fst.ex
  exact ⟨F, hF⟩
end
end
end Go.Proofs.YtjllpihkjlblaaaGreatDoor
