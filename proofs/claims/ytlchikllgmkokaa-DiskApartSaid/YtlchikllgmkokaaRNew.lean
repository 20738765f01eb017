/- What it says: the document's New hands back a new disk of noughts, or the error. -/
import Derived.Test.YtlchikllgmkokaaRRead
namespace Go.Proofs.Ytlchikllgmkokaa
open Go.RowKit

theorem info_rows : (Try.prog.info? 32).map (fun i => (i.zero, i.size, i.bytes)) = some (some (.slice none 0 0), 1, 24) := by kernel_rfl

/-- A disk that is being filled: its first k sectors hold f 0, f 1, .. -/
structure SynRel (w : World) (g : Nat) (f : Nat → List Int) (k : Nat) (SA : Option Addr) (sc : Nat) (sl : List Value) (wr : World) : Prop where
  blk : Bk wr g 55 #[.slice SA k sc, .slice none 0 0, .int .i64 (-1), .bool false, .int .i64 0]
  srow : wr.ownsRow w.heap.size 32 1 (.slice SA k sc) k sl
  each : ∀ j, j < k → ∃ v, sl[j]? = some v ∧ wr.ownsRow w.heap.size 5 1 v 256 (byC (f j))
  dist : ∀ (i j : Nat) (v u : Value), i < j → sl[i]? = some v → sl[j]? = some u → v.ownBlock ≠ u.ownBlock
  low : w.heap.size ≤ g
  bel : Below w.heap.size w wr

theorem dat_some {w : World} {base : Nat} {v : Value} {l : List Int} (h : w.ownsRow base 5 1 v 256 (byC l)) : ∃ q, v.ownBlock = some q ∧ base ≤ q ∧ q < w.heap.size := by
  rcases h.2 with ⟨_, h0⟩ | ⟨g, cap, cur, rfl, hb, hg, _⟩
  · omega
  · exact ⟨g, rfl, hb, (Array.getElem?_eq_some_iff.1 hg).1⟩

theorem SynRel.step {w wr w2 w3 : World} {g k : Nat} {f : Nat → List Int} {SA SA' : Option Addr} {sc sc' : Nat} {sl : List Value} {v : Value} (h : SynRel w g f k SA sc sl wr) (hb : Below wr.heap.size wr w2)
    (hv : w2.ownsRow wr.heap.size 5 1 v 256 (byC (f k))) (ho : w3.ownsRow w.heap.size 32 1 (.slice SA' (k + 1) sc') (k + 1) (sl ++ [v])) (hg : w2.grownBy w3 (Value.slice SA k sc).ownBlock) :
    w3.cell? ⟨g, 0, none⟩ = some (.slice SA k sc) ∧ w3.frozen? ⟨g, 0, none⟩ = false ∧ SynRel w g f (k + 1) SA' sc' (sl ++ [v]) (w3.setCell ⟨g, 0, none⟩ (.slice SA' (k + 1) sc')) := by
  have hsg := row_not_bk h.srow h.blk (by decide)
  have hblk2 := h.blk.bel hb h.blk.lt
  have hblk3 := hblk2.eq (hg.block g hblk2.lt (fun q => hsg q.symm))
  have hog : ∀ q, (Value.slice SA' (k + 1) sc').ownBlock = some q → q ≠ g := fun q hq e => row_not_bk ho hblk3 (by decide) (e ▸ hq)
  have hlen : sl.length = k := by simpa using h.srow.1
  refine ⟨hblk3.cell 0, hblk3.frz 0, ?_, ?_, fun j hj => ?_, ?_, h.low, ?_⟩
  · have := hblk3.setc 0 (.slice SA' (k + 1) sc')
    simpa using this
  · exact owns_keep ho (fun q hq => Below.heap_setCell _ _ _ _ (hog q hq))
  · by_cases hlt : j < k
    · obtain ⟨x, a1, a2⟩ := h.each j hlt
      refine ⟨x, by rw [List.getElem?_append_left (by omega)]; exact a1, owns_keep a2 (fun q hq => ?_)⟩
      have hql := (a2.lt q hq).2
      rw [Below.heap_setCell _ _ _ _ (show q ≠ g from fun e => row_not_bk a2 h.blk (by decide) (e ▸ hq))]
      exact (hg.block q (Nat.lt_of_lt_of_le hql hb.size) (fun e => row_not_row a2 h.srow (by decide) q hq e.symm)).trans (hb.block q hql)
    · obtain rfl : j = k := by omega
      refine ⟨v, by rw [List.getElem?_append_right (by omega), hlen]; simp, owns_keep (owns_low hv h.bel.size) (fun q hq => ?_)⟩
      have hq' := hv.lt q hq
      have hgl := h.blk.lt
      rw [Below.heap_setCell _ _ _ _ (show q ≠ g by omega)]
      exact hg.block q hq'.2 (fun e => by have := (h.srow.lt q e.symm).2; omega)
  · intro i j x u hij hx hu
    by_cases hj : j < k
    · exact h.dist i j x u hij (by rwa [List.getElem?_append_left (by omega)] at hx) (by rwa [List.getElem?_append_left (by omega)] at hu)
    · have hjl : j < (sl ++ [v]).length := (List.getElem?_eq_some_iff.1 hu).1
      have hjk : j = k := by rw [List.length_append] at hjl; simp at hjl; omega
      subst hjk
      rw [List.getElem?_append_right (by omega), hlen] at hu
      simp at hu
      subst hu
      rw [List.getElem?_append_left (by omega)] at hx
      obtain ⟨x', a1, a2⟩ := h.each i hij
      rw [a1] at hx
      injection hx with hx
      subst hx
      obtain ⟨q1, b1, _, b3⟩ := dat_some a2
      obtain ⟨q2, d1, d2, _⟩ := dat_some hv
      rw [b1, d1]
      intro e
      injection e with e
      omega
  · have h3 : Below w.heap.size w w3 := (h.bel.trans (hb.mono h.bel.size)).grown hg (Nat.le_trans h.bel.size hb.size) (fun q hq => (h.srow.lt q hq).1)
    exact h3.setCell (show w.heap.size ≤ g from h.low) _

/-- All sectors are there. -/
theorem SynRel.done {w wr : World} {g : Nat} {SA : Option Addr} {sc : Nat} {sl : List Value} {s : St} (h : SynRel w g s.syn s.num SA sc sl wr) (hs : s.still) (ok : s.Ok) : (rfd g s).is wr (fresh w wr) := by
  obtain ⟨h1, h2, h3, h4⟩ := hs
  have hd : ∀ {x l}, wr.ownsRow w.heap.size 5 1 x 256 (byC l) → Dat wr (fresh w wr) x l := fun {x l} hx => ⟨owns_low hx (Nat.zero_le _), fun q hq => hx.lt q hq⟩
  refine ⟨SA, sc, none, 0, sl, [], ?_, owns_low h.srow (Nat.zero_le _), ?_, by rw [h1]; rfl, fun n hn => ?_, fun i hi => ?_, ⟨h.low, h.blk.lt⟩, fun q hq => h.srow.lt q hq, fun q hq => ?_, fun q f => f.2, ok, by rw [h1, h4]; simp⟩
  · rw [h1, h2, h3, h4]
    exact h.blk
  · rw [h1]
    exact World.ownsRow_nil _ _ _ _
  · obtain ⟨v, a1, a2⟩ := h.each n hn
    exact ⟨v, a1, hd a2⟩
  · rw [h1] at hi
    simp at hi
  · simp [Value.ownBlock] at hq

/-- A new disk of the document's, all of it new memory. -/
def RetRNew (s : St) (w : World) (e : Ending) (w' : World) : Prop := ∃ g, e = .returned (.tuple #[.pointer (some ⟨g, 0, none⟩), .int .i64 0]) ∧ (rfd g s).is w' (fresh w w') ∧ Below w.heap.size w w'

theorem bslice_rows (A : Option Addr) (m c : Nat) (w : World) : (Instr.buildSlice 52 1 #[(0, .slice A m c)]).run Try.prog w =
    .ok (.slice (some ⟨w.heap.size, 0, none⟩) 1 1) (w.alloc (.cells #[.slice A m c] 32)) := by
  obtain ⟨i0, hi, hz0, hz1, hz2⟩ := info_parts info_rows
  exact bslice_one Try.underlying52 hi hz0 _ [.slice A m c] rfl hz1 (by simp) (by simp) w

/-- 256 noughts in a new block. -/
theorem own_noughts (w : World) : (w.alloc (.cells (u8C (fun _ => 0)) 5)).ownsRow w.heap.size 5 1 (.slice (some ⟨w.heap.size, 0, none⟩) 256 256) 256 (byC zeros) := by
  have e : u8C (fun _ => 0) = (byC zeros).toArray := u8C_full 0
  refine ⟨by rw [byC_len]; exact zeros_sec.1, .inr ⟨w.heap.size, 256, _, rfl, Nat.le_refl _, heap_alloc_new w _, Nat.le_refl _, by unfold maxLen; omega, by rw [u8C_size], ?_⟩⟩
  rw [e]
  exact List.take_of_length_le (by rw [byC_len, zeros_sec.1]; omega)

theorem rnew_bad (n : Int) (hn : n < 1 ∨ 4096 < n) (w : World) : Calls Try.prog 12 #[.int .i64 n] w (Same (.tuple #[.pointer none, .int .i64 1]) w) := by
  by_cases h1 : n < 1
  · go_enter Try.func12, Try.ntmps12
    go_wp2_with fail
    go_ret2
    exact ⟨rfl, rfl⟩
  · have h2 : 4096 < n := by omega
    clear hn
    go_enter Try.func12, Try.ntmps12
    go_wp2_with fail
    go_ret2
    exact ⟨rfl, rfl⟩

set_option maxRecDepth 100000 in
set_option maxHeartbeats 4000000 in
theorem rnew_any (n : Nat) (hn : 1 ≤ n ∧ n ≤ 4096) (w : World) : Calls Try.prog 12 #[.int .i64 n] w (RetRNew (St.new n) w) := by
  obtain ⟨i0, hi, hz0, hz1, hz2⟩ := info_parts info_rows
  have HOK := Lib.hid (St.new_ok hn)
  obtain ⟨hn1, hn2⟩ := hn
  have HM := Lib.hid make_256
  have R0 : Hid (SynRel w w.heap.size (fun _ => zeros) 0 none 0 [] (w.alloc (.cells #[.slice none 0 0, .slice none 0 0, .int .i64 (-1), .bool false, .int .i64 0] 55))) :=
    Lib.hid ⟨heap_alloc_new _ _, World.ownsRow_nil _ _ _ _, fun j hj => absurd hj (by omega), fun i j v u _ hv => by simp at hv, Nat.le_refl _, (Below.refl _ _).alloc (Nat.le_refl _) _⟩
  go_enter Try.func12, Try.ntmps12
  go_wp2_with fail
  go_loopw [5] (fun q wr => ∃ k SA sc sl, k ≤ n ∧ q = .int .i64 (k : Nat) ∧ SynRel w w.heap.size (fun _ => zeros) k SA sc sl wr) (fun q _ => n - (intOf q).toNat)
  case atStart => exact ⟨0, none, 0, [], Nat.zero_le _, rfl, R0.out⟩
  case round =>
    obtain ⟨k, SA, sc, sl, hk, rfl, hr⟩ := hrel
    have HR := Lib.hid hr
    have hc0 : wr.cell? ⟨w.heap.size, 0, none⟩ = some (.slice SA k sc) := hr.blk.cell 0
    have hgl := hr.blk.lt
    clear hr
    by_cases hlt : k < n
    · go_wp2_with fail
      have hS0 : wr.drew.cell? ⟨w.heap.size, 0, none⟩ = some (.slice SA k sc) := hc0
      have KS : Hid (∀ W, Below wr.heap.size wr W → W.cell? ⟨w.heap.size, 0, none⟩ = some (.slice SA k sc)) := Lib.hid (fun W hb => (hb.cell (p := ⟨w.heap.size, 0, none⟩) hgl).trans hc0)
      refine wp_region_noPanic ?_
      refine upto_start (fun w' => w'.cell? ⟨w.heap.size, 0, none⟩ = some (.slice SA k sc)) 8 (by kernel_rfl) ?_
      change Upto _ _ _ _ _ 11 _ _ _
      refine Upto.take (i := 0) (v := ?_) rfl (by kernel_rfl) (fun _ _ _ h => h) rfl (fun w' hS => ?_) hS0 ?_
      rotate_left
      · (try dsimp only at hS); go_simp; (try with_reducible rfl)
      simp only [Act.put, List.setIfInBounds_toArray, List.set_cons_zero, List.set_cons_succ]
      refine Upto.take (i := 1) (v := ?_) rfl (by kernel_rfl) (fun _ _ _ h => h) rfl (fun w' hS => ?_) hS0 ?_
      rotate_left
      · (try dsimp only at hS); go_simp; (try with_reducible rfl)
      simp only [Act.put, List.setIfInBounds_toArray, List.set_cons_zero, List.set_cons_succ]
      refine Upto.take (i := 2) (v := ?_) rfl (by kernel_rfl) (fun _ _ _ h => h) rfl (fun w' hS => ?_) hS0 ?_
      rotate_left
      · (try dsimp only at hS); go_simp; (try with_reducible rfl)
      simp only [Act.put, List.setIfInBounds_toArray, List.set_cons_zero, List.set_cons_succ]
      refine Upto.take (i := 3) (v := ?_) rfl (by kernel_rfl) (fun _ _ _ h => h) rfl (fun w' hS => ?_) hS0 ?_
      rotate_left
      · (try dsimp only at hS); go_simp; (try with_reducible rfl)
      simp only [Act.put, List.setIfInBounds_toArray, List.set_cons_zero, List.set_cons_succ]
      refine Upto.take (i := 4) (v := ?_) rfl (by kernel_rfl) (fun _ _ _ h => h) rfl (fun w' hS => ?_) hS0 ?_
      rotate_left
      · (try dsimp only at hS); go_simp; (try with_reducible rfl)
      simp only [Act.put, List.setIfInBounds_toArray, List.set_cons_zero, List.set_cons_succ]
      have hbA : Below wr.heap.size wr (wr.drew.alloc (.cells (u8C (fun _ => 0)) 5)) := (Below.refl _ wr).drew.alloc (Nat.le_refl _) _
      refine Upto.only (i := 5) rfl (by kernel_rfl) rfl (exec_makeSlice rfl (HM.out _)) (KS.out _ hbA) ?_
      simp only [Act.put, List.setIfInBounds_toArray, List.set_cons_zero, List.set_cons_succ]
      have hv : (wr.drew.alloc (.cells (u8C (fun _ => 0)) 5)).ownsRow wr.heap.size 5 1 (.slice (some ⟨wr.heap.size, 0, none⟩) 256 256) 256 (byC zeros) := own_noughts wr.drew
      have hbC := hbA.alloc hbA.size (.cells #[.slice (some ⟨wr.heap.size, 0, none⟩) 256 256] 32)
      refine Upto.only (i := 6) rfl (by kernel_rfl) rfl (exec_buildSlice rfl [(0, .slice (some ⟨wr.heap.size, 0, none⟩) 256 256)] (by rfl) (bslice_rows _ _ _ _)) (KS.out _ hbC) ?_
      simp only [Act.put, List.setIfInBounds_toArray, List.set_cons_zero, List.set_cons_succ]
      refine Upto.law (i := 7) rfl (by kernel_rfl) rfl (fun K hK => ?_)
      refine wp_append_lies _ _ _ 52 (by rfl) w.heap.size 32 i0 _ 1 24 Try.underlying52 hi hz0 hz1 hz2 rfl (by omega) (.slice SA k sc) k sl (by rfl)
        (owns_keep HR.out.srow (fun q hq => hbC.block q (HR.out.srow.lt q hq).2))
        ⟨(wr.drew.alloc (.cells (u8C (fun _ => 0)) 5)).heap.size, 0, none⟩ 1 1 [.slice (some ⟨wr.heap.size, 0, none⟩) 256 256] (by rfl) rfl (World.news_of_block (cs := #[.slice (some ⟨wr.heap.size, 0, none⟩) 256 256]) (t := 32) (fr := (0, 0)) (heap_alloc_new _ _)) (by simp [Value.oneCell'])
        (by omega) (by unfold maxLen; omega) (by omega) (Nat.le_trans HR.out.bel.size hbC.size) _ rfl ?_
      intro gg cap W3 hown3 hgrow hat hltt
      have hvC := owns_keep (w' := (wr.drew.alloc (.cells (u8C (fun _ => 0)) 5)).alloc (.cells #[.slice (some ⟨wr.heap.size, 0, none⟩) 256 256] 32)) hv (fun q hq => Below.heap_alloc _ _ _ (hv.lt q hq).2)
      obtain ⟨hc3, hf3, R⟩ := HR.out.step hbC hvC hown3 hgrow
      have R := Lib.hid R
      refine hK _ _ hc3 ?_
      clear hown3 hgrow hat hK HR KS hbA hbC hv hvC hc0 hS0
      simp only [Act.put, List.setIfInBounds_toArray, List.set_cons_zero, List.set_cons_succ]
      refine Upto.tail rfl (by kernel_rfl) ?_
      simp only [List.drop_succ_cons, List.drop_zero]
      go_wp2_with fail
      refine NoPanic.normal ?_
      go_wp2_with fail
      go_roundw
      case rel => exact ⟨k + 1, _, _, _, by omega, by go_num, R.out⟩
      case measure => simp [intOf]; omega
    · obtain rfl : k = n := by omega
      have R : Hid (RetRNew (St.new k) w (.returned (.tuple #[.pointer (some ⟨w.heap.size, 0, none⟩), .int .i64 0])) wr) := Lib.hid ⟨_, rfl, SynRel.done (s := St.new k) HR.out ⟨rfl, rfl, rfl, rfl⟩ HOK.out, HR.out.bel⟩
      clear HR
      go_wp2_with fail
      go_ret2
      exact R.out
end Go.Proofs.Ytlchikllgmkokaa
