/- What it says: disk.Write answers and leaves what the plain disk does. -/
import Derived.Test.YtlchikllgmkokaaDisk2
import Derived.Test.YtlchikllgmkokaaSec
import Derived.Deep.RegionHeld3
import Derived.Deep.MidRow
import Derived.Deep.AppendLies
import Derived.Deep.DrawnRows
import Derived.Test.YtlchikllgmkokaaHead
namespace Go.Proofs.Ytlchikllgmkokaa
open Go.RowKit

theorem Byt.not_bk {w : World} {A : Option Addr} {n c : Nat} {l : List Int} {b : Nat} {t : TypeId} {cs : Array Value} (h : Byt w A n c l) (hb : Bk w b t cs) (hs : cs.size < n) : ∀ g off, A = some ⟨g, off, none⟩ → g ≠ b := by
  rintro g off rfl rfl
  obtain ⟨g', off', e, hc⟩ := h.at_ (by omega)
  injection e with e
  injection e with e1 e2
  subst e1 e2
  have := hc (n - 1) (by omega)
  rw [hb.cell, Array.getElem?_eq_none (by omega)] at this
  cases this

theorem Byt.keep_block {w w' : World} {A : Option Addr} {n c : Nat} {l : List Int} (h : Byt w A n c l) (hk : ∀ g off, A = some ⟨g, off, none⟩ → w'.heap[g]? = w.heap[g]?) : Byt w' A n c l :=
  ⟨h.len, h.cap, h.max, h.rng, h.nil_, fun hn => by
    obtain ⟨g, off, e, hc⟩ := h.at_ hn
    exact ⟨g, off, e, fun i hi => (World.cell?_of_block (hk g off e)).trans (hc i hi)⟩⟩

theorem Byt.block_lt {w : World} {A : Option Addr} {n c : Nat} {l : List Int} (h : Byt w A n c l) (hn : 0 < n) : ∀ g off, A = some ⟨g, off, none⟩ → g < w.heap.size := by
  rintro g off rfl
  obtain ⟨g', off', e, hc⟩ := h.at_ hn
  injection e with e
  injection e with e1 e2
  subst e1 e2
  exact World.block_lt_of_cell? w _ (hc 0 hn)

theorem Byt.range {w : World} {g off c : Nat} {l : List Int} (h : Byt w (some ⟨g, off, none⟩) 256 c l) : w.rangeAt g off (byC l) := by
  obtain ⟨g', off', e, hc⟩ := h.at_ (by omega)
  injection e with e
  injection e with e1 e2
  subst e1 e2
  intro j v hv
  have hj : j < l.length := by
    have := (List.getElem?_eq_some_iff.1 hv).1
    rwa [byC_len] at this
  rw [hc j (by rw [← h.len]; exact hj), ← hv]
  simp [byC, List.getElem?_eq_getElem hj, List.getD]

/-- What Write leaves. -/
def RetWrite (F : Nat → Prop) (b : Nat) (e0 : Int) (s' : St) (w : World) (e : Ending) (w' : World) : Prop := e = .returned (.int .i64 e0) ∧ Turn (dsk b s') F w w'

theorem DskB.same {w : World} {F : Nat → Prop} {b mb : Nat} {A : Option Addr} {c : Nat} {s : St} (h : DskB w F b mb A c s) : Turn (dsk b s) F w w :=
  (h.mono (fun _ f => .inl f) (fun k f => by
    rcases f with f | f
    · exact h.lt k f
    · exact f.2)).turn (Fr.refl _ _)

theorem DskB.turned {w w' : World} {F : Nat → Prop} {b mb : Nat} {A : Option Addr} {c : Nat} {s s' : St} (h : DskB w F b mb A c s) (h' : DskB w' F b mb A c s') (hf : Fr (fun k => k = b) w w') : Turn (dsk b s') F w w' :=
  (h'.mono (fun _ f => .inl f) (fun k f => by
    rcases f with f | f
    · exact h'.lt k f
    · exact f.2)).turn (hf.mono fun k e => e ▸ h.fb)

theorem pdC_len {s : St} (h : s.Ok) : (pdC s.pend).length = s.pend.length * 257 := flatMap_len wrC 257 _ (fun p hp => wrC_len (h.pend p hp).2)

/-- What is left when the write has been appended. -/
theorem DskB.appended {w w1 w2 w3 : World} {F : Nat → Prop} {b mb : Nat} {A A' : Option Addr} {c c' : Nat} {s : St} {n : Nat} {l : List Int} (h : DskB w F b mb A c s) (h1 : DskB w1 F b mb A c s.step) (hf : Fr (fun k => k = b) w w1) (hn : n < s.num) (hl : Sec l) (hlim : s.pend.length < 999999)
    (hb : Below w1.heap.size w1 w2) (ho : w3.ownsRow 0 75 257 (.slice A' (s.pend.length + 1) c') (s.pend.length + 1) (pdC s.pend ++ wrC (n, l))) (hg : w2.grownBy w3 (Value.slice A s.pend.length c).ownBlock)
    (hw : (Value.slice A s.pend.length c).ownBlock = (Value.slice A' (s.pend.length + 1) c').ownBlock ∨ ∀ k, (Value.slice A' (s.pend.length + 1) c').ownBlock = some k → w1.heap.size ≤ k) :
    w3.cell? ⟨b, 2, none⟩ = some (.slice A s.pend.length c) ∧ w3.frozen? ⟨b, 2, none⟩ = false ∧
    RetWrite F b 0 (s.wrote n l) w (.returned (.int .i64 0)) (w3.setCell ⟨b, 2, none⟩ (.slice A' (s.pend.length + 1) c')) := by
  have e : s.step.pend = s.pend := St.step_pend s
  have hblk := h1.blk
  have hrow := h1.row
  have hfp := h1.fp
  rw [e] at hblk hrow hfp
  have hpb : ∀ k, (Value.slice A s.pend.length c).ownBlock = some k → k ≠ b ∧ k ≠ mb := by
    intro k hk
    constructor
    · rintro rfl
      rcases hrow.2 with ⟨q, _⟩ | ⟨g, cap, cur, q, _, hg, _⟩
      · rw [q] at hk; simp [Value.ownBlock] at hk
      · rw [q] at hk
        simp [Value.ownBlock] at hk
        subst hk
        unfold Bk at hblk
        rw [hblk] at hg
        simp at hg
    · rintro rfl
      exact h1.map.not_row hrow hk
  have hblk2 : Bk w2 b 71 #[.int .i64 s.step.num, .map (some mb), .slice A s.pend.length c, .int .i64 s.step.left, .bool s.step.gone, .int .i64 s.step.syncs] := hblk.bel hb h1.blk.lt
  have hblk3 : Bk w3 b 71 #[.int .i64 s.step.num, .map (some mb), .slice A s.pend.length c, .int .i64 s.step.left, .bool s.step.gone, .int .i64 s.step.syncs] :=
    hblk2.eq (hg.block b hblk2.lt (fun q => (hpb b q.symm).1 rfl))
  refine ⟨hblk3.cell 2, hblk3.frz 2, rfl, ?_⟩
  have hmb1 := h1.map.lt
  have hsz : w1.heap.size ≤ w3.heap.size := Nat.le_trans hb.size hg.size
  have hfr : Fr F w (w3.setCell ⟨b, 2, none⟩ (.slice A' (s.pend.length + 1) c')) := by
    have f1 : Fr F w w2 := (hf.mono (fun k q => (q ▸ h.fb : F k))).trans (Fr.of_below hb)
    exact (f1.grown hg (fun k hk => .inl (hfp k hk))).setCell h.fb _
  have hkeep : ∀ k, k < w1.heap.size → k ≠ b → (∀ q, (Value.slice A s.pend.length c).ownBlock = some q → k ≠ q) → (w3.setCell ⟨b, 2, none⟩ (.slice A' (s.pend.length + 1) c')).heap[k]? = w1.heap[k]? := by
    intro k hk hkb hkq
    rw [Below.heap_setCell _ _ _ _ hkb]
    exact (hg.block k (Nat.lt_of_lt_of_le hk hb.size) (fun q => hkq k q.symm rfl)).trans (hb.block k hk)
  have hbne : ∀ k, (Value.slice A' (s.pend.length + 1) c').ownBlock = some k → k ≠ b := by
    rintro k hk rfl
    rcases ho.2 with ⟨q, _⟩ | ⟨g, cap, cur, q, _, hg', _⟩
    · rw [q] at hk; simp [Value.ownBlock] at hk
    · rw [q] at hk
      simp [Value.ownBlock] at hk
      subst hk
      unfold Bk at hblk3
      rw [hblk3] at hg'
      simp at hg'
  have D : DskB (w3.setCell ⟨b, 2, none⟩ (.slice A' (s.pend.length + 1) c')) (grow F w (w3.setCell ⟨b, 2, none⟩ (.slice A' (s.pend.length + 1) c'))) b mb A' c' (s.wrote n l) := by
    have hlen : (s.wrote n l).pend.length = s.pend.length + 1 := by simp [St.wrote]
    refine ⟨?_, ?_, ?_, .inl h.fb, .inl h.fm, ?_, ?_, h.ok.wrote hn hl, ?_⟩
    · have := hblk3.setc 2 (.slice A' (s.pend.length + 1) c')
      rw [hlen]
      simpa [St.wrote] using this
    · have := h1.map.eq (hkeep mb hmb1 (h1.map.not_bk h1.blk) (fun q hq => fun e => (hpb q hq).2 e.symm))
      exact this
    · rw [hlen]
      have hp : pdC (s.wrote n l).pend = pdC s.pend ++ wrC (n, l) := by simp [pdC, St.wrote, List.flatMap_append]
      rw [hp]
      exact owns_keep ho (fun k hk => Below.heap_setCell _ _ _ _ (hbne k hk))
    · rw [hlen]
      intro k hk
      rcases hw with hw | hw
      · exact .inl (hfp k (hw.trans hk))
      · refine .inr ⟨Nat.le_trans hf.size (hw k hk), ?_⟩
        have := (ho.lt k hk).2
        simpa [World.setCell] using this
    · intro k f
      rcases f with f | f
      · exact Nat.lt_of_lt_of_le (h.lt k f) hfr.size
      · exact f.2
    · rw [hlen]
      have e2 : (s.wrote n l).syncs = s.syncs := St.step_syncs s
      rw [e2]
      exact ⟨by omega, h.lim.2⟩
  exact D.turn hfr

set_option maxHeartbeats 1000000 in
theorem write_bad (w : World) (F : Nat → Prop) (b mb : Nat) (A : Option Addr) (c : Nat) (s : St) (h : DskB w F b mb A c s) (n : Int) (hn : n < 0 ∨ (s.num : Int) ≤ n) (v : Value) :
    Calls Try.prog 13 #[.pointer (some ⟨b, 0, none⟩), .int .i64 n, v] w (RetWrite F b 1 s w) := by
  have C := Lib.hid (find_bad h n hn)
  have R : Hid (RetWrite F b 1 s w (.returned (.int .i64 1)) w) := Lib.hid ⟨rfl, h.same⟩
  clear h hn
  go_enter Try.func13, Try.ntmps13
  go_wp2_with fail
  refine C.out.mono ?_
  rintro e w' ⟨rfl, rfl⟩
  go_wp2_with fail
  go_ret
  exact R.out

set_option maxHeartbeats 1000000 in
theorem write_len (w : World) (F : Nat → Prop) (b mb : Nat) (A : Option Addr) (c : Nat) (s : St) (h : DskB w F b mb A c s) (n : Nat) (hn : n < s.num) (A' : Option Addr) (m c' : Nat) (hm : m ≠ 256) :
    Calls Try.prog 13 #[.pointer (some ⟨b, 0, none⟩), .int .i64 n, .slice A' m c'] w (RetWrite F b 12 s w) := by
  have C := Lib.hid (find_ok h n hn)
  have R : Hid (RetWrite F b 12 s w (.returned (.int .i64 12)) w) := Lib.hid ⟨rfl, h.same⟩
  have hne : ((m : Int) != 256) = true := by simp; omega
  clear h hn hm
  go_enter Try.func13, Try.ntmps13
  go_wp2_with fail
  refine C.out.mono ?_
  rintro e w' ⟨rfl, rfl⟩
  go_wp2_with fail
  go_ret
  exact R.out

set_option maxHeartbeats 1000000 in
theorem write_down (w : World) (F : Nat → Prop) (b mb : Nat) (A : Option Addr) (c : Nat) (s : St) (h : DskB w F b mb A c s) (n : Nat) (hn : n < s.num) (A' : Option Addr) (c' : Nat) (hc : s.can = false) :
    Calls Try.prog 13 #[.pointer (some ⟨b, 0, none⟩), .int .i64 n, .slice A' 256 c'] w (RetWrite F b 40 s.step w) := by
  have C := Lib.hid (find_ok h n hn)
  have C2 := Lib.hid (step_any h)
  have T := Lib.hid (fun w' (h' : DskB w' F b mb A c s.step) hf => h.turned h' hf)
  have HC := Lib.hid hc
  clear h hn hc
  go_enter Try.func13, Try.ntmps13
  go_wp2_with fail
  refine C.out.mono ?_
  rintro e w' ⟨rfl, rfl⟩
  go_wp2_with fail
  refine C2.out.mono ?_
  rintro e w' ⟨rfl, h1, h2⟩
  rw [HC.out]
  have R : Hid (RetWrite F b 40 s.step w (.returned (.int .i64 40)) w') := Lib.hid ⟨rfl, T.out w' h1 h2⟩
  clear h1 h2
  go_wp2_with fail
  go_ret
  exact R.out

set_option maxRecDepth 100000 in
set_option maxHeartbeats 4000000 in
theorem write_made (w : World) (F : Nat → Prop) (b mb : Nat) (A : Option Addr) (c : Nat) (s : St) (h : DskB w F b mb A c s) (n : Nat) (hn : n < s.num) (A' : Option Addr) (c' : Nat) (l : List Int) (hl : Byt w A' 256 c' l) (hA : ∀ k, (Value.slice A' 256 c').ownBlock = some k → ¬ F k) (hc : s.can = true) (hlim : s.pend.length < 999999) :
    Calls Try.prog 13 #[.pointer (some ⟨b, 0, none⟩), .int .i64 n, .slice A' 256 c'] w (RetWrite F b 0 (s.wrote n l) w) := by
  have hsec : Sec l := ⟨hl.len, hl.rng⟩
  obtain ⟨g, off, rfl, _⟩ := hl.at_ (by omega)
  have C := Lib.hid (find_ok h n hn)
  have C2 := Lib.hid (step_any h)
  obtain ⟨i0, hi, hz0, hz1, hz2⟩ := info_parts info_wr
  have X : Hid (∀ w1, DskB w1 F b mb A c s.step → Fr (fun k => k = b) w w1 → w1.rangeAt g off (byC l) ∧ g < w1.heap.size ∧ g ≠ b) := Lib.hid (fun w1 h1 hf => by
    have hgb : g ≠ b := hl.not_bk h.blk (by simp) g off rfl
    have hgl := hl.block_lt (by omega) g off rfl
    exact ⟨(hl.keep_block (fun g' off' e => by injection e with e; injection e with e1 e2; subst e1; exact hf.block _ hgl hgb)).range, Nat.lt_of_lt_of_le hgl hf.size, hgb⟩)
  have Y := Lib.hid (fun w1 w2 w3 A' c' (h1 : DskB w1 F b mb A c s.step) (hf : Fr (fun k => k = b) w w1) => @DskB.appended w w1 w2 w3 F b mb A A' c c' s n l h h1 hf hn hsec hlim)
  have KB : Hid (∀ w1 w2 w3, DskB w1 F b mb A c s.step → Fr (fun k => k = b) w w1 → Below w1.heap.size w1 w2 → w2.grownBy w3 (Value.slice A s.pend.length c).ownBlock →
      w3.cell? ⟨b, 2, none⟩ = some (.slice A s.pend.length c) ∧ w3.frozen? ⟨b, 2, none⟩ = false ∧ w3.rangeAt g off (byC l)) := Lib.hid (fun w1 w2 w3 h1 hf hb hg => by
    obtain ⟨hrg, hg1, hg2⟩ := X.out w1 h1 hf
    have hrow : w1.ownsRow 0 75 257 (.slice A s.pend.length c) s.pend.length (pdC s.pend) := by have := h1.row; rwa [St.step_pend] at this
    have hfp : ∀ k, (Value.slice A s.pend.length c).ownBlock = some k → F k := by have := h1.fp; rwa [St.step_pend] at this
    have hblk := h1.blk
    rw [St.step_pend] at hblk
    have hpb : (Value.slice A s.pend.length c).ownBlock ≠ some b := by
      intro hk
      rcases hrow.2 with ⟨q, _⟩ | ⟨g', cap, cur, q, _, hg', _⟩
      · rw [q] at hk; simp [Value.ownBlock] at hk
      · rw [q] at hk
        simp [Value.ownBlock] at hk
        subst hk
        unfold Bk at hblk
        rw [hblk] at hg'
        simp at hg'
    have e1 : w3.heap[b]? = w1.heap[b]? := (hg.block b (Nat.lt_of_lt_of_le hblk.lt hb.size) (fun q => hpb q.symm)).trans (hb.block b hblk.lt)
    have e2 : w3.heap[g]? = w1.heap[g]? := (hg.block g (Nat.lt_of_lt_of_le hg1 hb.size) (fun q => hA g rfl (hfp g q.symm))).trans (hb.block g hg1)
    have hblk3 := hblk.eq e1
    exact ⟨hblk3.cell 2, hblk3.frz 2, fun j v hv => (World.cell?_of_block e2).trans (hrg j v hv)⟩)
  have hone1 : Hid (∀ u ∈ wrC (n, l), u.oneCell' = true) := Lib.hid (fun u hu => by
    rcases List.mem_cons.1 hu with rfl | hu
    · rfl
    · exact byC_one l u hu)
  have HC := Lib.hid hc
  have harr := fun w => arrayAt_sec (some ⟨g, off, none⟩) c' w
  have hu := Try.underlying73
  have hlen : (byC l).length = 256 := by rw [byC_len, hl.len]
  have hsz : (Try.prog.info? 73).map (·.size) = some (byC l).length := by rw [hlen]; exact size_sec
  have hone := byC_one l
  have hwl : (wrC (n, l)).length = 257 := wrC_len (p := (n, l)) hsec
  have hcp : c' ≤ 9223372036854775807 := by have := hl.max; unfold maxLen at this; omega
  clear h hn hl hc hA
  go_enter Try.func13, Try.ntmps13
  go_wp2_with fail
  refine C.out.mono ?_
  rintro e w' ⟨rfl, rfl⟩
  go_wp2_with fail
  refine C2.out.mono ?_
  rintro e w1 ⟨rfl, h1, h2⟩
  rw [HC.out]
  obtain ⟨hrg, hg1, hg2⟩ := X.out w1 h1 h2
  have hc2 : w1.cell? ⟨b, 2, none⟩ = some (.slice A s.pend.length c) := by have := h1.blk.cell 2; rw [St.step_pend] at this; exact this
  have hf2 : w1.frozen? ⟨b, 2, none⟩ = false := h1.blk.frz 2
  have hrow : w1.ownsRow 0 75 257 (.slice A s.pend.length c) s.pend.length (pdC s.pend) := by have := h1.row; rwa [St.step_pend] at this
  have H1 := Lib.hid h1
  have H2 := Lib.hid h2
  have HR := Lib.hid hrow
  clear h1 h2 hrow
  go_wp2_with fail
  have hbs := bslice_wr (n, l) hsec
  have hbl := built_wr n l hsec
  have HK := Lib.hid (fun w2 w3 hb hg => KB.out w1 w2 w3 H1.out H2.out hb hg)
  have hS0 : w1.drew.cell? ⟨b, 2, none⟩ = some (.slice A s.pend.length c) ∧ w1.drew.rangeAt g off (byC l) := ⟨hc2, hrg⟩
  refine wp_region_noPanic ?_
  refine upto_start (fun w' => w'.cell? ⟨b, 2, none⟩ = some (.slice A s.pend.length c) ∧ w'.rangeAt g off (byC l)) 12 (by kernel_rfl) ?_
  change Upto _ _ _ _ _ 15 _ _ _
  refine Upto.take (i := 0) (v := ?_) rfl (by kernel_rfl) (fun _ _ _ h => h) rfl (fun w' hS => ?_) hS0 ?_
  rotate_left
  · (try dsimp only at hS); go_split_ands; go_simp; (try with_reducible rfl)
  simp only [Act.put, List.setIfInBounds_toArray, List.set_cons_zero, List.set_cons_succ]
  refine Upto.take (i := 1) (v := ?_) rfl (by kernel_rfl) (fun _ _ _ h => h) rfl (fun w' hS => ?_) hS0 ?_
  rotate_left
  · (try dsimp only at hS); go_split_ands; go_simp; (try with_reducible rfl)
  simp only [Act.put, List.setIfInBounds_toArray, List.set_cons_zero, List.set_cons_succ]
  refine Upto.take (i := 2) (v := ?_) rfl (by kernel_rfl) (fun _ _ _ h => h) rfl (fun w' hS => ?_) hS0 ?_
  rotate_left
  · (try dsimp only at hS); go_split_ands; go_simp; (try with_reducible rfl)
  simp only [Act.put, List.setIfInBounds_toArray, List.set_cons_zero, List.set_cons_succ]
  refine Upto.take (i := 3) (v := ?_) rfl (by kernel_rfl) (fun _ _ _ h => h) rfl (fun w' hS => ?_) hS0 ?_
  rotate_left
  · (try dsimp only at hS); go_split_ands; go_simp; (try with_reducible rfl)
  simp only [Act.put, List.setIfInBounds_toArray, List.set_cons_zero, List.set_cons_succ]
  refine Upto.take (i := 4) (v := ?_) rfl (by kernel_rfl) (fun _ _ _ h => h) rfl (fun w' hS => ?_) hS0 ?_
  rotate_left
  · (try dsimp only at hS); go_split_ands; go_simp; (try with_reducible rfl)
  simp only [Act.put, List.setIfInBounds_toArray, List.set_cons_zero, List.set_cons_succ]
  refine Upto.take (i := 5) (v := ?_) rfl (by kernel_rfl) (fun _ _ _ h => h) rfl (fun w' hS => ?_) hS0 ?_
  rotate_left
  · (try dsimp only at hS); go_split_ands; go_simp; (try with_reducible rfl)
  simp only [Act.put, List.setIfInBounds_toArray, List.set_cons_zero, List.set_cons_succ]
  refine Upto.take (i := 6) (v := ?_) rfl (by kernel_rfl) (fun _ _ _ h => h) rfl (fun w' hS => ?_) hS0 ?_
  rotate_left
  · (try dsimp only at hS); go_split_ands; go_simp; (try with_reducible rfl)
  simp only [Act.put, List.setIfInBounds_toArray, List.set_cons_zero, List.set_cons_succ]
  refine Upto.take (i := 7) rfl (by kernel_rfl) (fun _ _ _ h => h) rfl (fun w' hS => exec_arrayAt rfl (by exact harr _)) hS0 ?_
  simp only [Act.put, List.setIfInBounds_toArray, List.set_cons_zero, List.set_cons_succ]
  refine Upto.take (i := 8) rfl (by kernel_rfl) (fun _ _ _ h => h) rfl (fun w' hS => exec_load rfl (by rfl) (by exact hS.2) hu rfl hsz) hS0 ?_
  simp only [Act.put, List.setIfInBounds_toArray, List.set_cons_zero, List.set_cons_succ]
  refine Upto.take (i := 9) rfl (by kernel_rfl) (fun _ _ _ h => h) rfl (fun w' hS => exec_build rfl [(0, .int .i64 n), (1, secV l)] (by rfl) hbl) hS0 ?_
  simp only [Act.put, List.setIfInBounds_toArray, List.set_cons_zero, List.set_cons_succ]
  refine Upto.only (i := 10) rfl (by kernel_rfl) rfl (exec_buildSlice rfl [(0, .agg (wrC (n, l)).toArray)] (by rfl) (hbs _)) ?_ ?_
  · have := HK.out (w1.drew.alloc (.cells (wrC (n, l)).toArray 75)) _ ((Below.refl _ w1).drew.alloc (Nat.le_refl _) _) ⟨rfl, rfl, rfl, Nat.le_refl _, fun _ _ _ => rfl⟩
    exact ⟨this.1, this.2.2⟩
  simp only [Act.put, List.setIfInBounds_toArray, List.set_cons_zero, List.set_cons_succ]
  refine Upto.law (i := 11) rfl (by kernel_rfl) rfl (fun K hK => ?_)
  have hz257 : (Value.agg (wrC (0, zeros)).toArray).cells.size = 257 := by simp [Value.cells, wrC_len (p := (0, zeros)) zeros_sec]
  refine wp_append_lies _ _ _ 69 (by rfl) 0 75 i0 _ 257 264 Try.underlying69 hi hz0 hz1 hz2 hz257 (by omega) (.slice A s.pend.length c) s.pend.length (pdC s.pend) (by rfl) (HR.out.alloc _)
    ⟨w1.heap.size, 0, none⟩ 1 1 (wrC (n, l)) (by rfl) (by rw [hwl]) (World.news_of_block (cs := (wrC (n, l)).toArray) (t := 75) (fr := (0, 0)) (heap_alloc_new w1.drew _)) hone1.out
    (by omega) (by unfold maxLen; omega) (by omega) (Nat.zero_le _) (w1.heap.size + 1) (by simp) ?_
  intro gg cap w3 hown3 hgrow hat hltt
  have hb1 : Below w1.heap.size w1 (w1.drew.alloc (.cells (wrC (n, l)).toArray 75)) := (Below.refl _ w1).drew.alloc (Nat.le_refl _) _
  have hS3 := HK.out _ w3 hb1 hgrow
  obtain ⟨hc3, hf3, R⟩ := Y.out w1 _ w3 (some ⟨gg, 0, none⟩) cap H1.out H2.out hb1 hown3 hgrow (by
    rcases hat with h | h
    · exact .inl h
    · refine .inr (fun k hk => ?_)
      have : gg = k := by simpa [Value.ownBlock] using hk
      omega)
  have R := Lib.hid R
  refine hK _ _ ⟨hS3.1, hS3.2.2⟩ ?_
  clear hS3 hown3 hgrow hat hK HK H1 H2 HR Y KB hbl hbs harr
  simp only [Act.put, List.setIfInBounds_toArray, List.set_cons_zero, List.set_cons_succ]
  refine Upto.tail rfl (by kernel_rfl) ?_
  simp only [List.drop_succ_cons, List.drop_zero]
  go_wp2_with fail
  refine NoPanic.normal ?_
  go_wp2_with fail
  go_ret
  exact R.out
end Go.Proofs.Ytlchikllgmkokaa
