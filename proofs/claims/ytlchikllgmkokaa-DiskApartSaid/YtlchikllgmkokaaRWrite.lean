/- What it says: the document's Write answers and leaves what the plain disk does. -/
import Derived.Test.YtlchikllgmkokaaRef
namespace Go.Proofs.Ytlchikllgmkokaa
open Go.RowKit

theorem info_rw : (Try.prog.info? 60).map (fun i => (i.zero, i.size, i.bytes)) = some (some (.agg #[.int .i64 0, .slice none 0 0]), 2, 32) := by kernel_rfl

/-- What Write leaves. -/
def RetRWrite (F : Nat → Prop) (g : Nat) (e0 : Int) (s' : St) (w : World) (e : Ending) (w' : World) : Prop := e = .returned (.int .i64 e0) ∧ Turn (rfd g s') F w w'

section
variable {w : World} {F : Nat → Prop} {g : Nat} {SA LA : Option Addr} {sc lc : Nat} {sl : List Value} {rl : List (Nat × Value)} {s : St}

set_option maxHeartbeats 1000000 in
theorem rwrite_bad (h : RfdB w F g SA sc LA lc sl rl s) (n : Int) (hn : n < 0 ∨ (s.num : Int) ≤ n) (v : Value) :
    Calls Try.prog 15 #[.pointer (some ⟨g, 0, none⟩), .int .i64 n, v] w (RetRWrite F g 1 s w) := by
  have C := Lib.hid (ris_bad h n hn)
  have R : Hid (RetRWrite F g 1 s w (.returned (.int .i64 1)) w) := Lib.hid ⟨rfl, h.same⟩
  clear h hn
  go_enter Try.func15, Try.ntmps15
  go_wp2_with fail
  refine C.out.mono ?_
  rintro e w' ⟨rfl, rfl⟩
  go_wp2_with fail
  go_ret
  exact R.out

set_option maxHeartbeats 1000000 in
theorem rwrite_len (h : RfdB w F g SA sc LA lc sl rl s) (n : Nat) (hn : n < s.num) (A' : Option Addr) (m c' : Nat) (hm : m ≠ 256) :
    Calls Try.prog 15 #[.pointer (some ⟨g, 0, none⟩), .int .i64 n, .slice A' m c'] w (RetRWrite F g 12 s w) := by
  have C := Lib.hid (ris_ok h n hn)
  have R : Hid (RetRWrite F g 12 s w (.returned (.int .i64 12)) w) := Lib.hid ⟨rfl, h.same⟩
  have hne : ((m : Int) != 256) = true := by simp; omega
  clear h hn hm
  go_enter Try.func15, Try.ntmps15
  go_wp2_with fail
  refine C.out.mono ?_
  rintro e w' ⟨rfl, rfl⟩
  go_wp2_with fail
  go_ret
  exact R.out

set_option maxHeartbeats 1000000 in
theorem rwrite_down (h : RfdB w F g SA sc LA lc sl rl s) (n : Nat) (hn : n < s.num) (A' : Option Addr) (c' : Nat) (hc : s.can = false) :
    Calls Try.prog 15 #[.pointer (some ⟨g, 0, none⟩), .int .i64 n, .slice A' 256 c'] w (RetRWrite F g 40 s.step w) := by
  have C := Lib.hid (ris_ok h n hn)
  have C2 := Lib.hid (rstep_any h)
  have T := Lib.hid (fun w' (h' : RfdB w' F g SA sc LA lc sl rl s.step) hf => h.turned h' hf)
  have HC := Lib.hid hc
  clear h hn hc
  go_enter Try.func15, Try.ntmps15
  go_wp2_with fail
  refine C.out.mono ?_
  rintro e w' ⟨rfl, rfl⟩
  go_wp2_with fail
  refine C2.out.mono ?_
  rintro e w' ⟨rfl, h1, h2⟩
  rw [HC.out]
  have R : Hid (RetRWrite F g 40 s.step w (.returned (.int .i64 40)) w') := Lib.hid ⟨rfl, T.out w' h1 h2⟩
  clear h1 h2
  go_wp2_with fail
  go_ret
  exact R.out
end

/-- What is left when the write has been appended. -/
theorem RfdB.appended {w w1 w2 w3 : World} {F : Nat → Prop} {g : Nat} {SA LA LA' : Option Addr} {sc lc lc' : Nat} {sl : List Value} {rl : List (Nat × Value)} {s : St} {n : Nat} {l : List Int} {v : Value}
    (h : RfdB w F g SA sc LA lc sl rl s) (h1 : RfdB w1 F g SA sc LA lc sl rl s.step) (hf : Fr (fun k => k = g) w w1) (hn : n < s.num) (hl : Sec l) (hlim : s.pend.length < 999999)
    (hb : Below w1.heap.size w1 w2) (hv : w2.ownsRow w1.heap.size 5 1 v 256 (byC l))
    (ho : w3.ownsRow 0 60 2 (.slice LA' (s.pend.length + 1) lc') (s.pend.length + 1) (rlC rl ++ [.int .i64 n, v])) (hg : w2.grownBy w3 (Value.slice LA s.pend.length lc).ownBlock)
    (hw : (Value.slice LA s.pend.length lc).ownBlock = (Value.slice LA' (s.pend.length + 1) lc').ownBlock ∨ ∀ k, (Value.slice LA' (s.pend.length + 1) lc').ownBlock = some k → w1.heap.size ≤ k) :
    w3.cell? ⟨g, 1, none⟩ = some (.slice LA s.pend.length lc) ∧ w3.frozen? ⟨g, 1, none⟩ = false ∧
    RetRWrite F g 0 (s.wrote n l) w (.returned (.int .i64 0)) (w3.setCell ⟨g, 1, none⟩ (.slice LA' (s.pend.length + 1) lc')) := by
  have e : s.step.pend = s.pend := St.step_pend s
  have en : s.step.num = s.num := St.step_num s
  have hblk := h1.blk
  have hlrow := h1.lrow
  have hsrow := h1.srow
  have hfl := h1.fl
  have hfs := h1.fs
  have hlen := h1.rlen
  rw [e] at hblk hlrow hfl hlen
  rw [en] at hblk hsrow hfs
  have hlg := row_not_bk hlrow hblk (by decide)
  have hblk2 := hblk.bel hb h1.blk.lt
  have hblk3 := hblk2.eq (hg.block g hblk2.lt (fun q => hlg q.symm))
  refine ⟨hblk3.cell 1, hblk3.frz 1, rfl, ?_⟩
  have hsz : w1.heap.size ≤ w3.heap.size := Nat.le_trans hb.size hg.size
  -- what is kept: all old blocks but g and the list's row
  have hkeep : ∀ k, k < w1.heap.size → k ≠ g → (∀ q, (Value.slice LA s.pend.length lc).ownBlock = some q → k ≠ q) → (w3.setCell ⟨g, 1, none⟩ (.slice LA' (s.pend.length + 1) lc')).heap[k]? = w1.heap[k]? := by
    intro k hk hkg hkq
    rw [Below.heap_setCell _ _ _ _ hkg]
    exact (hg.block k (Nat.lt_of_lt_of_le hk hb.size) (fun q => hkq k q.symm rfl)).trans (hb.block k hk)
  have hfr : Fr F w (w3.setCell ⟨g, 1, none⟩ (.slice LA' (s.pend.length + 1) lc')) := by
    have f1 : Fr F w w2 := (hf.mono (fun k q => (q ▸ h.fg : F k))).trans (Fr.of_below hb)
    exact (f1.grown hg (fun k hk => .inl (hfl k hk))).setCell (a := ⟨g, 1, none⟩) h.fg _
  have hog : ∀ k, (Value.slice LA' (s.pend.length + 1) lc').ownBlock = some k → k ≠ g := fun k hk q => row_not_bk ho hblk3 (by decide) (q ▸ hk)
  have hgrow : ∀ k, F k → grow F w (w3.setCell ⟨g, 1, none⟩ (.slice LA' (s.pend.length + 1) lc')) k := fun k f => .inl f
  have hdat : ∀ {x m}, Dat w1 F x m → Dat (w3.setCell ⟨g, 1, none⟩ (.slice LA' (s.pend.length + 1) lc')) (grow F w (w3.setCell ⟨g, 1, none⟩ (.slice LA' (s.pend.length + 1) lc'))) x m := fun {x m} hd =>
    ⟨owns_keep hd.1 (fun k hk => hkeep k (h1.lt k (hd.2 k hk)) (fun q => row_not_bk hd.1 hblk (by decide) (q ▸ hk)) (fun q hq => fun q2 => row_not_row hd.1 hlrow (by decide) k hk (q2 ▸ hq))), fun k hk => .inl (hd.2 k hk)⟩
  have hnew : ∀ k, v.ownBlock = some k → w1.heap.size ≤ k ∧ k < w2.heap.size := fun k hk => hv.lt k hk
  have hvd : Dat (w3.setCell ⟨g, 1, none⟩ (.slice LA' (s.pend.length + 1) lc')) (grow F w (w3.setCell ⟨g, 1, none⟩ (.slice LA' (s.pend.length + 1) lc'))) v l := by
    refine ⟨owns_keep (owns_low hv (Nat.zero_le _)) (fun k hk => ?_), fun k hk => .inr ?_⟩
    · have hk' := hnew k hk
      have hgl := h1.blk.lt
      rw [Below.heap_setCell _ _ _ _ (show k ≠ g by omega)]
      exact hg.block k hk'.2 (fun q => by have := (hlrow.lt k q.symm).2; omega)
    · have hk' := hnew k hk
      have := hg.size
      have := hf.size
      refine ⟨by omega, ?_⟩
      simp [World.setCell]; omega
  have hplen : (s.wrote n l).pend.length = s.pend.length + 1 := by simp [St.wrote]
  have hat : ∀ i, i < s.pend.length → (s.wrote n l).at_ i = s.step.at_ i := fun i hi => by
    unfold St.at_
    rw [e]
    show (s.pend ++ [(n, l)]).getD i _ = _
    simp [List.getD, List.getElem?_append_left hi]
  have hat2 : (s.wrote n l).at_ s.pend.length = (n, l) := by
    unfold St.at_
    show (s.pend ++ [(n, l)]).getD s.pend.length _ = _
    simp
  refine ⟨⟨SA, sc, LA', lc', sl, rl ++ [(n, v)], ?_⟩, hfr⟩
  refine ⟨?_, ?_, ?_, by rw [hplen]; simp [hlen], fun m hm => ?_, fun i hi => ?_, .inl h.fg, fun k hk => .inl (hfs k (by have e3 : (s.wrote n l).num = s.num := en; rwa [e3] at hk)), fun k hk => ?_, fun k f => ?_, h.ok.wrote hn hl, ?_⟩
  · have := hblk3.setc 1 (.slice LA' (s.pend.length + 1) lc')
    rw [hplen]
    simpa [St.wrote, en] using this
  · have e3 : (s.wrote n l).num = s.num := en
    rw [e3]
    exact owns_keep hsrow (fun k hk => hkeep k (h1.lt k (hfs k hk)) (fun q => row_not_bk hsrow hblk (by decide) (q ▸ hk)) (fun q hq => fun q2 => row_not_row hsrow hlrow (by decide) k hk (q2 ▸ hq)))
  · rw [hplen]
    have hp : rlC (rl ++ [(n, v)]) = rlC rl ++ [.int .i64 n, v] := by simp [rlC, List.flatMap_append]
    rw [hp]
    exact owns_keep ho (fun k hk => Below.heap_setCell _ _ _ _ (hog k hk))
  · obtain ⟨x, a1, a2⟩ := h1.syn m (by have e3 : (s.wrote n l).num = s.step.num := rfl; rwa [e3] at hm)
    exact ⟨x, a1, hdat a2⟩
  · rw [hplen] at hi
    by_cases hlt : i < s.pend.length
    · obtain ⟨x, a1, a2⟩ := h1.pnd i (by rw [e]; exact hlt)
      refine ⟨x, ?_, ?_⟩
      · rw [List.getElem?_append_left (by omega), hat i hlt]; exact a1
      · rw [hat i hlt]; exact hdat a2
    · obtain rfl : i = s.pend.length := by omega
      refine ⟨v, ?_, ?_⟩
      · rw [List.getElem?_append_right (by omega), hlen, hat2]; simp
      · rw [hat2]; exact hvd
  · rw [hplen] at hk
    rcases hw with hw | hw
    · exact .inl (hfl k (hw.trans hk))
    · refine .inr ⟨Nat.le_trans hf.size (hw k hk), ?_⟩
      have := (ho.lt k hk).2
      simpa [World.setCell] using this
  · rcases f with f | f
    · exact Nat.lt_of_lt_of_le (h.lt k f) hfr.size
    · exact f.2
  · rw [hplen]
    have e4 : (s.wrote n l).syncs = s.syncs := St.step_syncs s
    rw [e4]
    exact ⟨by omega, h.lim.2⟩

theorem bslice_none (w : World) : (Instr.buildSlice 32 0 #[]).run Try.prog w = .ok (.slice (some ⟨w.heap.size, 0, none⟩) 0 0) (w.alloc (.cells #[] 5)) := by
  obtain ⟨i0, hi, hz0, hz1, hz2⟩ := info_parts info_u8r
  simp [Instr.buildSlice, run_underlying (P := Try.prog) Try.underlying32, sizeOf, typeInfo, hi, Instr.fill, newRow, Result.andThen, range_none]

/-- 'T{x}' of one element: a new block of its cells. -/
theorem bslice_one {P : Program} {t e : TypeId} {i0 : TypeInfo} {z : Value} (hu : P.underlying t = some (.slice e)) (hi : P.info? e = some i0) (hz : i0.zero = some z) (v : Value) (cells : List Value) (hv : v.cells = cells.toArray) (hs : i0.size = cells.length) (h0 : 0 < cells.length) (hsm : cells.length ≤ 1000) (w : World) :
    (Instr.buildSlice t 1 #[(0, v)]).run P w = .ok (.slice (some ⟨w.heap.size, 0, none⟩) 1 1) (w.alloc (.cells cells.toArray e)) := by
  refine Go.run_buildSlice w t e 1 _ _ i0 z hu hi hz (by rw [hs]; omega) (by rw [hs]; omega) ?_
  have hzz : ((Array.range (1 * i0.size)).map (z.cells[· % z.cells.size]!)).size = cells.length := by simp [hs]
  generalize (Array.range (1 * i0.size)).map (z.cells[· % z.cells.size]!) = Z at hzz
  rw [hs, fill_cons (off := 0) (size := cells.length) (by simp) (by rw [hv]; simp) (by omega)]
  refine congrArg some ?_
  rw [hv]
  have he : cells.toArray.zipIdx.foldl (fun cs (x : Value × Nat) => cs.setIfInBounds (0 + x.2) x.1) Z = (cells.zipIdx 0).foldl (fun cs (x : Value × Nat) => cs.setIfInBounds (0 + x.2) x.1) Z := by
    simp
  rw [he]
  obtain ⟨h1, h2⟩ := Great.foldl_set 0 cells 0 Z
  apply arr_eq
  · rw [h1, hzz]
  · intro k hk
    rw [h2 k, if_pos ⟨by omega, by omega, by omega⟩]
    simp

theorem bslice_rw (n : Nat) (v : Value) (w : World) : (Instr.buildSlice 53 1 #[(0, .agg #[.int .i64 n, v])]).run Try.prog w =
    .ok (.slice (some ⟨w.heap.size, 0, none⟩) 1 1) (w.alloc (.cells #[.int .i64 n, v] 60)) := by
  obtain ⟨i0, hi, hz0, hz1, hz2⟩ := info_parts info_rw
  exact bslice_one Try.underlying53 hi hz0 _ [.int .i64 n, v] rfl hz1 (by simp) (by simp) w

theorem build_rw (n : Nat) (A : Option Addr) (m c : Nat) : Try.prog.built 60 [(0, .int .i64 n), (1, .slice A m c)] = some #[.int .i64 n, .slice A m c] := by
  generalize (n : Int) = x
  kernel_rfl

set_option maxRecDepth 100000 in
set_option maxHeartbeats 4000000 in
theorem rwrite_made {w : World} {F : Nat → Prop} {g : Nat} {SA LA : Option Addr} {sc lc : Nat} {sl : List Value} {rl : List (Nat × Value)} {s : St} (h : RfdB w F g SA sc LA lc sl rl s) (n : Nat) (hn : n < s.num) (A' : Option Addr) (c' : Nat) (l : List Int) (hl : Byt w A' 256 c' l) (hc : s.can = true) (hlim : s.pend.length < 999999) :
    Calls Try.prog 15 #[.pointer (some ⟨g, 0, none⟩), .int .i64 n, .slice A' 256 c'] w (RetRWrite F g 0 (s.wrote n l) w) := by
  have hsec : Sec l := ⟨hl.len, hl.rng⟩
  have C := Lib.hid (ris_ok h n hn)
  have C2 := Lib.hid (rstep_any h)
  obtain ⟨i0, hi, hz0, hz1, hz2⟩ := info_parts info_rw
  obtain ⟨j0, ji, jz0, jz1, jz2⟩ := info_parts info_u8r
  have X : Hid (∀ w1, Fr (fun k => k = g) w w1 → Byt w1 A' 256 c' l) := Lib.hid (fun w1 hf => hl.keep_block (fun q off e => hf.block q (hl.block_lt (by omega) q off e) (hl.not_bk h.blk (by simp) q off e)))
  have Y := Lib.hid (fun w1 w2 w3 v LA' lc' (h1 : RfdB w1 F g SA sc LA lc sl rl s.step) (hf : Fr (fun k => k = g) w w1) => @RfdB.appended w w1 w2 w3 F g SA LA LA' sc lc lc' sl rl s n l v h h1 hf hn hsec hlim)
  have HC := Lib.hid hc
  have HRL := Lib.hid h.rlen
  have hcp : c' ≤ 9223372036854775807 := by have := hl.max; unfold maxLen at this; omega
  clear h hn hl hc
  go_enter Try.func15, Try.ntmps15
  go_wp2_with fail
  refine C.out.mono ?_
  rintro e w' ⟨rfl, rfl⟩
  go_wp2_with fail
  refine C2.out.mono ?_
  rintro e w1 ⟨rfl, h1, h2⟩
  rw [HC.out]
  have hbt := Lib.hid (X.out w1 h2)
  have hcl : w1.cell? ⟨g, 1, none⟩ = some (.slice LA s.pend.length lc) := by have := h1.blk.cell 1; rw [St.step_pend] at this; exact this
  have hlr : w1.ownsRow 0 60 2 (.slice LA s.pend.length lc) s.pend.length (rlC rl) := by have := h1.lrow; rwa [St.step_pend] at this
  have hlg : (Value.slice LA s.pend.length lc).ownBlock ≠ some g := row_not_bk hlr h1.blk (by decide)
  have hgl := h1.blk.lt
  have H1 := Lib.hid h1
  have H2 := Lib.hid h2
  have HR := Lib.hid hlr
  have HG := Lib.hid hlg
  clear h1 h2 hlr hlg C2 X
  go_wp2_with fail
  have hS0 : w1.drew.cell? ⟨g, 1, none⟩ = some (.slice LA s.pend.length lc) := hcl
  have KS : Hid (∀ W, Below w1.heap.size w1 W → W.cell? ⟨g, 1, none⟩ = some (.slice LA s.pend.length lc)) := Lib.hid (fun W hb => (hb.cell (p := ⟨g, 1, none⟩) hgl).trans hcl)
  refine wp_region_noPanic ?_
  refine upto_start (fun w' => w'.cell? ⟨g, 1, none⟩ = some (.slice LA s.pend.length lc)) 12 (by kernel_rfl) ?_
  change Upto _ _ _ _ _ 15 _ _ _
  refine Upto.take (i := 0) (v := ?_) rfl (by kernel_rfl) (fun _ _ _ h => h) rfl (fun w' hS => ?_) hS0 ?_
  rotate_left
  · (try dsimp only at hS); go_simp; (try with_reducible rfl)
  simp only [Act.put, List.setIfInBounds_toArray, List.set_cons_zero, List.set_cons_succ]
  refine Upto.take (i := 1) (v := ?_) rfl (by kernel_rfl) (fun _ _ _ h => h) rfl (fun w' hS => ?_) hS0 ?_
  rotate_left
  · (try dsimp only at hS); go_simp; (try with_reducible rfl)
  simp only [Act.put, List.setIfInBounds_toArray, List.set_cons_zero, List.set_cons_succ]
  refine Upto.take (i := 2) (v := ?_) rfl (by kernel_rfl) (fun _ _ _ h => h) rfl (fun w' hS => ?_) hS0 ?_
  rotate_left
  · (try dsimp only at hS); go_simp; (try with_reducible rfl)
  simp only [Act.put, List.setIfInBounds_toArray, List.set_cons_zero, List.set_cons_succ]
  refine Upto.take (i := 3) (v := ?_) rfl (by kernel_rfl) (fun _ _ _ h => h) rfl (fun w' hS => ?_) hS0 ?_
  rotate_left
  · (try dsimp only at hS); go_simp; (try with_reducible rfl)
  simp only [Act.put, List.setIfInBounds_toArray, List.set_cons_zero, List.set_cons_succ]
  refine Upto.take (i := 4) (v := ?_) rfl (by kernel_rfl) (fun _ _ _ h => h) rfl (fun w' hS => ?_) hS0 ?_
  rotate_left
  · (try dsimp only at hS); go_simp; (try with_reducible rfl)
  simp only [Act.put, List.setIfInBounds_toArray, List.set_cons_zero, List.set_cons_succ]
  refine Upto.take (i := 5) (v := ?_) rfl (by kernel_rfl) (fun _ _ _ h => h) rfl (fun w' hS => ?_) hS0 ?_
  rotate_left
  · (try dsimp only at hS); go_simp; (try with_reducible rfl)
  simp only [Act.put, List.setIfInBounds_toArray, List.set_cons_zero, List.set_cons_succ]
  refine Upto.take (i := 7) (v := ?_) rfl (by kernel_rfl) (fun _ _ _ h => h) rfl (fun w' hS => ?_) hS0 ?_
  rotate_left
  · (try dsimp only at hS); go_simp; (try with_reducible rfl)
  simp only [Act.put, List.setIfInBounds_toArray, List.set_cons_zero, List.set_cons_succ]
  refine Upto.only (i := 6) rfl (by kernel_rfl) rfl (exec_buildSlice rfl [] (by rfl) (bslice_none _)) ?_ ?_
  · exact KS.out _ ((Below.refl _ w1).drew.alloc (Nat.le_refl _) _)
  simp only [Act.put, List.setIfInBounds_toArray, List.set_cons_zero, List.set_cons_succ]
  have hown0 := World.ownsRow_made (base := w1.heap.size) (e := 5) (size := 1) w1.drew #[] 0 (Nat.le_refl _) (Nat.zero_le _) rfl
  have hbA : Below w1.heap.size w1 (w1.drew.alloc (.cells #[] 5)) := (Below.refl _ w1).drew.alloc (Nat.le_refl _) _
  refine Upto.law (i := 8) rfl (by kernel_rfl) rfl (fun K hK => ?_)
  refine wp_append_byt _ _ 32 (by rfl) w1.heap.size 5 j0 Try.underlying32 ji jz0 jz1 jz2 _ 0 [] (by rfl) hown0 A' 256 c' l (by rfl) (hbt.out.below hbA) (by omega) hbA.size ?_
  intro vA vc W2 hv2 hg2
  have hbB : Below w1.heap.size w1 W2 := hbA.grown hg2 hbA.size (fun k hk => by simp [Value.ownBlock] at hk; omega)
  refine hK _ _ (KS.out _ hbB) ?_
  clear hK hown0 hg2
  have HV : Hid (W2.ownsRow w1.heap.size 5 1 (.slice vA 256 vc) 256 (byC l)) := Lib.hid (by simpa [byC] using hv2)
  clear hv2
  simp only [Act.put, List.setIfInBounds_toArray, List.set_cons_zero, List.set_cons_succ, Nat.zero_add]
  refine Upto.only (i := 9) rfl (by kernel_rfl) rfl (exec_build rfl [(0, .int .i64 n), (1, .slice vA 256 vc)] (by rfl) (build_rw n vA 256 vc)) (KS.out _ hbB) ?_
  simp only [Act.put, List.setIfInBounds_toArray, List.set_cons_zero, List.set_cons_succ]
  refine Upto.only (i := 10) rfl (by kernel_rfl) rfl (exec_buildSlice rfl [(0, .agg #[.int .i64 n, .slice vA 256 vc])] (by rfl) (bslice_rw n _ _)) (KS.out _ (hbB.alloc hbB.size _)) ?_
  simp only [Act.put, List.setIfInBounds_toArray, List.set_cons_zero, List.set_cons_succ]
  have hbC := hbB.alloc hbB.size (.cells #[.int .i64 n, .slice vA 256 vc] 60)
  refine Upto.law (i := 11) rfl (by kernel_rfl) rfl (fun K hK => ?_)
  refine wp_append_lies _ _ _ 53 (by rfl) 0 60 i0 _ 2 32 Try.underlying53 hi hz0 hz1 hz2 rfl (by omega) (.slice LA s.pend.length lc) s.pend.length (rlC rl) (by rfl)
    (owns_keep HR.out (fun k hk => hbC.block k (HR.out.lt k hk).2))
    ⟨W2.heap.size, 0, none⟩ 1 1 [.int .i64 n, .slice vA 256 vc] (by rfl) rfl (World.news_of_block (cs := #[.int .i64 n, .slice vA 256 vc]) (t := 60) (fr := (0, 0)) (heap_alloc_new W2 _)) (by simp [Value.oneCell'])
    (by omega) (by unfold maxLen; omega) (by omega) (Nat.zero_le _) (W2.heap.size + 1) (by simp) ?_
  intro gg cap W3 hown3 hgrow hat hltt
  have hkW2 : ∀ k, (Value.slice vA 256 vc).ownBlock = some k → (W2.alloc (.cells #[.int .i64 n, .slice vA 256 vc] 60)).heap[k]? = W2.heap[k]? := fun k hk => Below.heap_alloc _ _ _ (HV.out.lt k hk).2
  obtain ⟨hc3, hf3, R⟩ := Y.out w1 _ W3 (.slice vA 256 vc) (some ⟨gg, 0, none⟩) cap H1.out H2.out hbC (owns_keep HV.out hkW2) hown3 hgrow (by
    rcases hat with h | h
    · exact .inl h
    · refine .inr (fun k hk => ?_)
      have : gg = k := by simpa [Value.ownBlock] using hk
      have := hbB.size
      omega)
  have R := Lib.hid R
  refine hK _ _ hc3 ?_
  clear hown3 hgrow hat hK H1 H2 HR Y KS HV hbA hbB hbC hkW2 hcl hS0
  simp only [Act.put, List.setIfInBounds_toArray, List.set_cons_zero, List.set_cons_succ]
  refine Upto.tail rfl (by kernel_rfl) ?_
  simp only [List.drop_succ_cons, List.drop_zero]
  go_wp2_with fail
  refine NoPanic.normal ?_
  go_wp2_with fail
  go_ret
  exact R.out
end Go.Proofs.Ytlchikllgmkokaa
