/- What it says: contracts and plain mathematics that the laws' walks use, 2 of 10: each part's own remark says what; no condition. -/
import Derived.Test.YtomhofppcogojaaPs1
import Derived.Deep.RegionHeld3
import Derived.Deep.MidRow
import Derived.Deep.AppendLies
import Derived.Deep.DrawnRows
import Derived.Test.YtomhofppcogojaaRows
import Derived.Lib.SliceRun
import Derived.Laws.CopyOwn
import Derived.BigQuiet
import Derived.Deep.QuietTactic
import Derived.Deep.Slices
import Derived.ProofKit
import Derived.OpenShut
import Derived.SizedLaws
import Derived.Shelf.SlMaps.Clone

set_option linter.unusedSimpArgs false
set_option linter.unusedVariables false
set_option linter.deprecated false
set_option linter.unusedSectionVars false
set_option linter.all false

/- disk.Write answers and leaves what the plain disk does. -/
namespace Go.Proofs.Ytomhofppcogojaa
open Go.RowKit

theorem Byt.not_bk {w : World} {A : Option Addr} {n c : Nat} {l : List Int} {b : Nat} {t : TypeId} {cs : Array Value} (h : Byt w A n c l) (hb : Bk w b t cs) (hs : cs.size < n) : ∀ g off, A = some ⟨g, off, none⟩ → g ≠ b := by
  rintro g off rfl rfl
  obtain ⟨g', off', e, hc⟩ := h.at_ (by omega)
  injection e with e
  injection e with e1 e2
  subst e1 e2
  have := hc (n - 1) (by omega)
  rw [hb.cell, Array.getElem?_eq_none (by omega)] at this
  cases this

theorem Byt.keep_block {w w' : World} {A : Option Addr} {n c : Nat} {l : List Int} (h : Byt w A n c l) (hk : ∀ g off, A = some ⟨g, off, none⟩ → w'.heap[g]? = w.heap[g]?) : Byt w' A n c l :=
  ⟨h.len, h.cap, h.max, h.rng, h.nil_, fun hn => by
    obtain ⟨g, off, e, hc⟩ := h.at_ hn
    exact ⟨g, off, e, fun i hi => (World.cell?_of_block (hk g off e)).trans (hc i hi)⟩⟩

theorem Byt.block_lt {w : World} {A : Option Addr} {n c : Nat} {l : List Int} (h : Byt w A n c l) (hn : 0 < n) : ∀ g off, A = some ⟨g, off, none⟩ → g < w.heap.size := by
  rintro g off rfl
  obtain ⟨g', off', e, hc⟩ := h.at_ hn
  injection e with e
  injection e with e1 e2
  subst e1 e2
  exact World.block_lt_of_cell? w _ (hc 0 hn)

theorem Byt.range {w : World} {g off c : Nat} {l : List Int} (h : Byt w (some ⟨g, off, none⟩) 256 c l) : w.rangeAt g off (byC l) := by
  obtain ⟨g', off', e, hc⟩ := h.at_ (by omega)
  injection e with e
  injection e with e1 e2
  subst e1 e2
  intro j v hv
  have hj : j < l.length := by
    have := (List.getElem?_eq_some_iff.1 hv).1
    rwa [byC_len] at this
  rw [hc j (by rw [← h.len]; exact hj), ← hv]
  simp [byC, List.getElem?_eq_getElem hj, List.getD]

/-- What Write leaves. -/
def RetWrite (F : Nat → Prop) (b : Nat) (e0 : Int) (s' : St) (w : World) (e : Ending) (w' : World) : Prop := e = .returned (.int .i64 e0) ∧ Turn (dsk b s') F w w'

theorem DskB.same {w : World} {F : Nat → Prop} {b mb : Nat} {A : Option Addr} {c : Nat} {s : St} (h : DskB w F b mb A c s) : Turn (dsk b s) F w w :=
  (h.mono (fun _ f => .inl f) (fun k f => by
    rcases f with f | f
    · exact h.lt k f
    · exact f.2)).turn (Fr.refl _ _)

theorem DskB.turned {w w' : World} {F : Nat → Prop} {b mb : Nat} {A : Option Addr} {c : Nat} {s s' : St} (h : DskB w F b mb A c s) (h' : DskB w' F b mb A c s') (hf : Fr (fun k => k = b) w w') : Turn (dsk b s') F w w' :=
  (h'.mono (fun _ f => .inl f) (fun k f => by
    rcases f with f | f
    · exact h'.lt k f
    · exact f.2)).turn (hf.mono fun k e => e ▸ h.fb)

theorem pdC_len {s : St} (h : s.Ok) : (pdC s.pend).length = s.pend.length * 257 := flatMap_len wrC 257 _ (fun p hp => wrC_len (h.pend p hp).2)

/-- What is left when the write has been appended. -/
theorem DskB.appended {w w1 w2 w3 : World} {F : Nat → Prop} {b mb : Nat} {A A' : Option Addr} {c c' : Nat} {s : St} {n : Nat} {l : List Int} (h : DskB w F b mb A c s) (h1 : DskB w1 F b mb A c s.step) (hf : Fr (fun k => k = b) w w1) (hn : n < s.num) (hl : Sec l) (hlim : s.pend.length < 999999)
    (hb : Below w1.heap.size w1 w2) (ho : w3.ownsRow 0 86 257 (.slice A' (s.pend.length + 1) c') (s.pend.length + 1) (pdC s.pend ++ wrC (n, l))) (hg : w2.grownBy w3 (Value.slice A s.pend.length c).ownBlock)
    (hw : (Value.slice A s.pend.length c).ownBlock = (Value.slice A' (s.pend.length + 1) c').ownBlock ∨ ∀ k, (Value.slice A' (s.pend.length + 1) c').ownBlock = some k → w1.heap.size ≤ k) :
    w3.cell? ⟨b, 2, none⟩ = some (.slice A s.pend.length c) ∧ w3.frozen? ⟨b, 2, none⟩ = false ∧
    RetWrite F b 0 (s.wrote n l) w (.returned (.int .i64 0)) (w3.setCell ⟨b, 2, none⟩ (.slice A' (s.pend.length + 1) c')) := by
  have e : s.step.pend = s.pend := St.step_pend s
  have hblk := h1.blk
  have hrow := h1.row
  have hfp := h1.fp
  rw [e] at hblk hrow hfp
  have hpb : ∀ k, (Value.slice A s.pend.length c).ownBlock = some k → k ≠ b ∧ k ≠ mb := by
    intro k hk
    constructor
    · rintro rfl
      rcases hrow.2 with ⟨q, _⟩ | ⟨g, cap, cur, q, _, hg, _⟩
      · rw [q] at hk; simp [Value.ownBlock] at hk
      · rw [q] at hk
        simp [Value.ownBlock] at hk
        subst hk
        unfold Bk at hblk
        rw [hblk] at hg
        simp at hg
    · rintro rfl
      exact h1.map.not_row hrow hk
  have hblk2 : Bk w2 b 79 #[.int .i64 s.step.num, .map (some mb), .slice A s.pend.length c, .int .i64 s.step.left, .bool s.step.gone, .int .i64 s.step.syncs] := hblk.bel hb h1.blk.lt
  have hblk3 : Bk w3 b 79 #[.int .i64 s.step.num, .map (some mb), .slice A s.pend.length c, .int .i64 s.step.left, .bool s.step.gone, .int .i64 s.step.syncs] :=
    hblk2.eq (hg.block b hblk2.lt (fun q => (hpb b q.symm).1 rfl))
  refine ⟨hblk3.cell 2, hblk3.frz 2, rfl, ?_⟩
  have hmb1 := h1.map.lt
  have hsz : w1.heap.size ≤ w3.heap.size := Nat.le_trans hb.size hg.size
  have hfr : Fr F w (w3.setCell ⟨b, 2, none⟩ (.slice A' (s.pend.length + 1) c')) := by
    have f1 : Fr F w w2 := (hf.mono (fun k q => (q ▸ h.fb : F k))).trans (Fr.of_below hb)
    exact (f1.grown hg (fun k hk => .inl (hfp k hk))).setCell h.fb _
  have hkeep : ∀ k, k < w1.heap.size → k ≠ b → (∀ q, (Value.slice A s.pend.length c).ownBlock = some q → k ≠ q) → (w3.setCell ⟨b, 2, none⟩ (.slice A' (s.pend.length + 1) c')).heap[k]? = w1.heap[k]? := by
    intro k hk hkb hkq
    rw [Below.heap_setCell _ _ _ _ hkb]
    exact (hg.block k (Nat.lt_of_lt_of_le hk hb.size) (fun q => hkq k q.symm rfl)).trans (hb.block k hk)
  have hbne : ∀ k, (Value.slice A' (s.pend.length + 1) c').ownBlock = some k → k ≠ b := by
    rintro k hk rfl
    rcases ho.2 with ⟨q, _⟩ | ⟨g, cap, cur, q, _, hg', _⟩
    · rw [q] at hk; simp [Value.ownBlock] at hk
    · rw [q] at hk
      simp [Value.ownBlock] at hk
      subst hk
      unfold Bk at hblk3
      rw [hblk3] at hg'
      simp at hg'
  have D : DskB (w3.setCell ⟨b, 2, none⟩ (.slice A' (s.pend.length + 1) c')) (grow F w (w3.setCell ⟨b, 2, none⟩ (.slice A' (s.pend.length + 1) c'))) b mb A' c' (s.wrote n l) := by
    have hlen : (s.wrote n l).pend.length = s.pend.length + 1 := by simp [St.wrote]
    refine ⟨?_, ?_, ?_, .inl h.fb, .inl h.fm, ?_, ?_, h.ok.wrote hn hl, ?_⟩
    · have := hblk3.setc 2 (.slice A' (s.pend.length + 1) c')
      rw [hlen]
      simpa [St.wrote] using this
    · have := h1.map.eq (hkeep mb hmb1 (h1.map.not_bk h1.blk) (fun q hq => fun e => (hpb q hq).2 e.symm))
      exact this
    · rw [hlen]
      have hp : pdC (s.wrote n l).pend = pdC s.pend ++ wrC (n, l) := by simp [pdC, St.wrote, List.flatMap_append]
      rw [hp]
      exact owns_keep ho (fun k hk => Below.heap_setCell _ _ _ _ (hbne k hk))
    · rw [hlen]
      intro k hk
      rcases hw with hw | hw
      · exact .inl (hfp k (hw.trans hk))
      · refine .inr ⟨Nat.le_trans hf.size (hw k hk), ?_⟩
        have := (ho.lt k hk).2
        simpa [World.setCell] using this
    · intro k f
      rcases f with f | f
      · exact Nat.lt_of_lt_of_le (h.lt k f) hfr.size
      · exact f.2
    · rw [hlen]
      have e2 : (s.wrote n l).syncs = s.syncs := St.step_syncs s
      rw [e2]
      exact ⟨by omega, h.lim.2⟩
  exact D.turn hfr

set_option maxHeartbeats 1000000 in
theorem write_bad (w : World) (F : Nat → Prop) (b mb : Nat) (A : Option Addr) (c : Nat) (s : St) (h : DskB w F b mb A c s) (n : Int) (hn : n < 0 ∨ (s.num : Int) ≤ n) (v : Value) :
    Calls Try.prog 19 #[.pointer (some ⟨b, 0, none⟩), .int .i64 n, v] w (RetWrite F b 1 s w) := by
  have C := Lib.hid (find_bad h n hn)
  have R : Hid (RetWrite F b 1 s w (.returned (.int .i64 1)) w) := Lib.hid ⟨rfl, h.same⟩
  clear h hn
  go_enter Try.func19, Try.ntmps19
  go_wp2_with fail
  refine C.out.mono ?_
  rintro e w' ⟨rfl, rfl⟩
  go_wp2_with fail
  go_ret
  exact R.out

set_option maxHeartbeats 1000000 in
theorem write_len (w : World) (F : Nat → Prop) (b mb : Nat) (A : Option Addr) (c : Nat) (s : St) (h : DskB w F b mb A c s) (n : Nat) (hn : n < s.num) (A' : Option Addr) (m c' : Nat) (hm : m ≠ 256) :
    Calls Try.prog 19 #[.pointer (some ⟨b, 0, none⟩), .int .i64 n, .slice A' m c'] w (RetWrite F b 12 s w) := by
  have C := Lib.hid (find_ok h n hn)
  have R : Hid (RetWrite F b 12 s w (.returned (.int .i64 12)) w) := Lib.hid ⟨rfl, h.same⟩
  have hne : ((m : Int) != 256) = true := by simp; omega
  clear h hn hm
  go_enter Try.func19, Try.ntmps19
  go_wp2_with fail
  refine C.out.mono ?_
  rintro e w' ⟨rfl, rfl⟩
  go_wp2_with fail
  go_ret
  exact R.out

set_option maxHeartbeats 1000000 in
theorem write_down (w : World) (F : Nat → Prop) (b mb : Nat) (A : Option Addr) (c : Nat) (s : St) (h : DskB w F b mb A c s) (n : Nat) (hn : n < s.num) (A' : Option Addr) (c' : Nat) (hc : s.can = false) :
    Calls Try.prog 19 #[.pointer (some ⟨b, 0, none⟩), .int .i64 n, .slice A' 256 c'] w (RetWrite F b 40 s.step w) := by
  have C := Lib.hid (find_ok h n hn)
  have C2 := Lib.hid (step_any h)
  have T := Lib.hid (fun w' (h' : DskB w' F b mb A c s.step) hf => h.turned h' hf)
  have HC := Lib.hid hc
  clear h hn hc
  go_enter Try.func19, Try.ntmps19
  go_wp2_with fail
  refine C.out.mono ?_
  rintro e w' ⟨rfl, rfl⟩
  go_wp2_with fail
  refine C2.out.mono ?_
  rintro e w' ⟨rfl, h1, h2⟩
  rw [HC.out]
  have R : Hid (RetWrite F b 40 s.step w (.returned (.int .i64 40)) w') := Lib.hid ⟨rfl, T.out w' h1 h2⟩
  clear h1 h2
  go_wp2_with fail
  go_ret
  exact R.out

set_option maxRecDepth 100000 in
set_option maxHeartbeats 4000000 in
theorem write_made (w : World) (F : Nat → Prop) (b mb : Nat) (A : Option Addr) (c : Nat) (s : St) (h : DskB w F b mb A c s) (n : Nat) (hn : n < s.num) (A' : Option Addr) (c' : Nat) (l : List Int) (hl : Byt w A' 256 c' l) (hA : ∀ k, (Value.slice A' 256 c').ownBlock = some k → ¬ F k) (hc : s.can = true) (hlim : s.pend.length < 999999) :
    Calls Try.prog 19 #[.pointer (some ⟨b, 0, none⟩), .int .i64 n, .slice A' 256 c'] w (RetWrite F b 0 (s.wrote n l) w) := by
  have hsec : Sec l := ⟨hl.len, hl.rng⟩
  obtain ⟨g, off, rfl, _⟩ := hl.at_ (by omega)
  have C := Lib.hid (find_ok h n hn)
  have C2 := Lib.hid (step_any h)
  obtain ⟨i0, hi, hz0, hz1, hz2⟩ := info_parts info_wr
  have X : Hid (∀ w1, DskB w1 F b mb A c s.step → Fr (fun k => k = b) w w1 → w1.rangeAt g off (byC l) ∧ g < w1.heap.size ∧ g ≠ b) := Lib.hid (fun w1 h1 hf => by
    have hgb : g ≠ b := hl.not_bk h.blk (by simp) g off rfl
    have hgl := hl.block_lt (by omega) g off rfl
    exact ⟨(hl.keep_block (fun g' off' e => by injection e with e; injection e with e1 e2; subst e1; exact hf.block _ hgl hgb)).range, Nat.lt_of_lt_of_le hgl hf.size, hgb⟩)
  have Y := Lib.hid (fun w1 w2 w3 A' c' (h1 : DskB w1 F b mb A c s.step) (hf : Fr (fun k => k = b) w w1) => @DskB.appended w w1 w2 w3 F b mb A A' c c' s n l h h1 hf hn hsec hlim)
  have KB : Hid (∀ w1 w2 w3, DskB w1 F b mb A c s.step → Fr (fun k => k = b) w w1 → Below w1.heap.size w1 w2 → w2.grownBy w3 (Value.slice A s.pend.length c).ownBlock →
      w3.cell? ⟨b, 2, none⟩ = some (.slice A s.pend.length c) ∧ w3.frozen? ⟨b, 2, none⟩ = false ∧ w3.rangeAt g off (byC l)) := Lib.hid (fun w1 w2 w3 h1 hf hb hg => by
    obtain ⟨hrg, hg1, hg2⟩ := X.out w1 h1 hf
    have hrow : w1.ownsRow 0 86 257 (.slice A s.pend.length c) s.pend.length (pdC s.pend) := by have := h1.row; rwa [St.step_pend] at this
    have hfp : ∀ k, (Value.slice A s.pend.length c).ownBlock = some k → F k := by have := h1.fp; rwa [St.step_pend] at this
    have hblk := h1.blk
    rw [St.step_pend] at hblk
    have hpb : (Value.slice A s.pend.length c).ownBlock ≠ some b := by
      intro hk
      rcases hrow.2 with ⟨q, _⟩ | ⟨g', cap, cur, q, _, hg', _⟩
      · rw [q] at hk; simp [Value.ownBlock] at hk
      · rw [q] at hk
        simp [Value.ownBlock] at hk
        subst hk
        unfold Bk at hblk
        rw [hblk] at hg'
        simp at hg'
    have e1 : w3.heap[b]? = w1.heap[b]? := (hg.block b (Nat.lt_of_lt_of_le hblk.lt hb.size) (fun q => hpb q.symm)).trans (hb.block b hblk.lt)
    have e2 : w3.heap[g]? = w1.heap[g]? := (hg.block g (Nat.lt_of_lt_of_le hg1 hb.size) (fun q => hA g rfl (hfp g q.symm))).trans (hb.block g hg1)
    have hblk3 := hblk.eq e1
    exact ⟨hblk3.cell 2, hblk3.frz 2, fun j v hv => (World.cell?_of_block e2).trans (hrg j v hv)⟩)
  have hone1 : Hid (∀ u ∈ wrC (n, l), u.oneCell' = true) := Lib.hid (fun u hu => by
    rcases List.mem_cons.1 hu with rfl | hu
    · rfl
    · exact byC_one l u hu)
  have HC := Lib.hid hc
  have harr := fun w => arrayAt_sec (some ⟨g, off, none⟩) c' w
  have hu := Try.underlying81
  have hlen : (byC l).length = 256 := by rw [byC_len, hl.len]
  have hsz : (Try.prog.info? 81).map (·.size) = some (byC l).length := by rw [hlen]; exact size_sec
  have hone := byC_one l
  have hwl : (wrC (n, l)).length = 257 := wrC_len (p := (n, l)) hsec
  have hcp : c' ≤ 9223372036854775807 := by have := hl.max; unfold maxLen at this; omega
  clear h hn hl hc hA
  go_enter Try.func19, Try.ntmps19
  go_wp2_with fail
  refine C.out.mono ?_
  rintro e w' ⟨rfl, rfl⟩
  go_wp2_with fail
  refine C2.out.mono ?_
  rintro e w1 ⟨rfl, h1, h2⟩
  rw [HC.out]
  obtain ⟨hrg, hg1, hg2⟩ := X.out w1 h1 h2
  have hc2 : w1.cell? ⟨b, 2, none⟩ = some (.slice A s.pend.length c) := by have := h1.blk.cell 2; rw [St.step_pend] at this; exact this
  have hf2 : w1.frozen? ⟨b, 2, none⟩ = false := h1.blk.frz 2
  have hrow : w1.ownsRow 0 86 257 (.slice A s.pend.length c) s.pend.length (pdC s.pend) := by have := h1.row; rwa [St.step_pend] at this
  have H1 := Lib.hid h1
  have H2 := Lib.hid h2
  have HR := Lib.hid hrow
  clear h1 h2 hrow
  go_wp2_with fail
  have hbs := bslice_wr (n, l) hsec
  have hbl := built_wr n l hsec
  have HK := Lib.hid (fun w2 w3 hb hg => KB.out w1 w2 w3 H1.out H2.out hb hg)
  have hS0 : w1.drew.cell? ⟨b, 2, none⟩ = some (.slice A s.pend.length c) ∧ w1.drew.rangeAt g off (byC l) := ⟨hc2, hrg⟩
  refine wp_region_noPanic ?_
  refine upto_start (fun w' => w'.cell? ⟨b, 2, none⟩ = some (.slice A s.pend.length c) ∧ w'.rangeAt g off (byC l)) 12 (by kernel_rfl) ?_
  change Upto _ _ _ _ _ 15 _ _ _
  refine Upto.take (i := 0) (v := ?_) rfl (by kernel_rfl) (fun _ _ _ h => h) rfl (fun w' hS => ?_) hS0 ?_
  rotate_left
  · (try dsimp only at hS); go_split_ands; go_simp; (try with_reducible rfl)
  simp only [Act.put, List.setIfInBounds_toArray, List.set_cons_zero, List.set_cons_succ]
  refine Upto.take (i := 1) (v := ?_) rfl (by kernel_rfl) (fun _ _ _ h => h) rfl (fun w' hS => ?_) hS0 ?_
  rotate_left
  · (try dsimp only at hS); go_split_ands; go_simp; (try with_reducible rfl)
  simp only [Act.put, List.setIfInBounds_toArray, List.set_cons_zero, List.set_cons_succ]
  refine Upto.take (i := 2) (v := ?_) rfl (by kernel_rfl) (fun _ _ _ h => h) rfl (fun w' hS => ?_) hS0 ?_
  rotate_left
  · (try dsimp only at hS); go_split_ands; go_simp; (try with_reducible rfl)
  simp only [Act.put, List.setIfInBounds_toArray, List.set_cons_zero, List.set_cons_succ]
  refine Upto.take (i := 3) (v := ?_) rfl (by kernel_rfl) (fun _ _ _ h => h) rfl (fun w' hS => ?_) hS0 ?_
  rotate_left
  · (try dsimp only at hS); go_split_ands; go_simp; (try with_reducible rfl)
  simp only [Act.put, List.setIfInBounds_toArray, List.set_cons_zero, List.set_cons_succ]
  refine Upto.take (i := 4) (v := ?_) rfl (by kernel_rfl) (fun _ _ _ h => h) rfl (fun w' hS => ?_) hS0 ?_
  rotate_left
  · (try dsimp only at hS); go_split_ands; go_simp; (try with_reducible rfl)
  simp only [Act.put, List.setIfInBounds_toArray, List.set_cons_zero, List.set_cons_succ]
  refine Upto.take (i := 5) (v := ?_) rfl (by kernel_rfl) (fun _ _ _ h => h) rfl (fun w' hS => ?_) hS0 ?_
  rotate_left
  · (try dsimp only at hS); go_split_ands; go_simp; (try with_reducible rfl)
  simp only [Act.put, List.setIfInBounds_toArray, List.set_cons_zero, List.set_cons_succ]
  refine Upto.take (i := 6) (v := ?_) rfl (by kernel_rfl) (fun _ _ _ h => h) rfl (fun w' hS => ?_) hS0 ?_
  rotate_left
  · (try dsimp only at hS); go_split_ands; go_simp; (try with_reducible rfl)
  simp only [Act.put, List.setIfInBounds_toArray, List.set_cons_zero, List.set_cons_succ]
  refine Upto.take (i := 7) rfl (by kernel_rfl) (fun _ _ _ h => h) rfl (fun w' hS => exec_arrayAt rfl (by exact harr _)) hS0 ?_
  simp only [Act.put, List.setIfInBounds_toArray, List.set_cons_zero, List.set_cons_succ]
  refine Upto.take (i := 8) rfl (by kernel_rfl) (fun _ _ _ h => h) rfl (fun w' hS => exec_load rfl (by rfl) (by exact hS.2) hu rfl hsz) hS0 ?_
  simp only [Act.put, List.setIfInBounds_toArray, List.set_cons_zero, List.set_cons_succ]
  refine Upto.take (i := 9) rfl (by kernel_rfl) (fun _ _ _ h => h) rfl (fun w' hS => exec_build rfl [(0, .int .i64 n), (1, secV l)] (by rfl) hbl) hS0 ?_
  simp only [Act.put, List.setIfInBounds_toArray, List.set_cons_zero, List.set_cons_succ]
  refine Upto.only (i := 10) rfl (by kernel_rfl) rfl (exec_buildSlice rfl [(0, .agg (wrC (n, l)).toArray)] (by rfl) (hbs _)) ?_ ?_
  · have := HK.out (w1.drew.alloc (.cells (wrC (n, l)).toArray 86)) _ ((Below.refl _ w1).drew.alloc (Nat.le_refl _) _) ⟨rfl, rfl, rfl, Nat.le_refl _, fun _ _ _ => rfl⟩
    exact ⟨this.1, this.2.2⟩
  simp only [Act.put, List.setIfInBounds_toArray, List.set_cons_zero, List.set_cons_succ]
  refine Upto.law (i := 11) rfl (by kernel_rfl) rfl (fun K hK => ?_)
  have hz257 : (Value.agg (wrC (0, zeros)).toArray).cells.size = 257 := by simp [Value.cells, wrC_len (p := (0, zeros)) zeros_sec]
  refine wp_append_lies _ _ _ 77 (by rfl) 0 86 i0 _ 257 264 Try.underlying77 hi hz0 hz1 hz2 hz257 (by omega) (.slice A s.pend.length c) s.pend.length (pdC s.pend) (by rfl) (HR.out.alloc _)
    ⟨w1.heap.size, 0, none⟩ 1 1 (wrC (n, l)) (by rfl) (by rw [hwl]) (World.news_of_block (cs := (wrC (n, l)).toArray) (t := 86) (fr := (0, 0)) (heap_alloc_new w1.drew _)) hone1.out
    (by omega) (by unfold maxLen; omega) (by omega) (Nat.zero_le _) (w1.heap.size + 1) (by simp) ?_
  intro gg cap w3 hown3 hgrow hat hltt
  have hb1 : Below w1.heap.size w1 (w1.drew.alloc (.cells (wrC (n, l)).toArray 86)) := (Below.refl _ w1).drew.alloc (Nat.le_refl _) _
  have hS3 := HK.out _ w3 hb1 hgrow
  obtain ⟨hc3, hf3, R⟩ := Y.out w1 _ w3 (some ⟨gg, 0, none⟩) cap H1.out H2.out hb1 hown3 hgrow (by
    rcases hat with h | h
    · exact .inl h
    · refine .inr (fun k hk => ?_)
      have : gg = k := by simpa [Value.ownBlock] using hk
      omega)
  have R := Lib.hid R
  refine hK _ _ ⟨hS3.1, hS3.2.2⟩ ?_
  clear hS3 hown3 hgrow hat hK HK H1 H2 HR Y KB hbl hbs harr
  simp only [Act.put, List.setIfInBounds_toArray, List.set_cons_zero, List.set_cons_succ]
  refine Upto.tail rfl (by kernel_rfl) ?_
  simp only [List.drop_succ_cons, List.drop_zero]
  go_wp2_with fail
  refine NoPanic.normal ?_
  go_wp2_with fail
  go_ret
  exact R.out
end Go.Proofs.Ytomhofppcogojaa

/- disk.Sync answers and leaves what the plain disk does. -/
namespace Go.Proofs.Ytomhofppcogojaa
open Go.RowKit

theorem wrC_one (p : Nat × List Int) : ∀ u ∈ wrC p, u.oneCell' = true := fun u hu => by
  rcases List.mem_cons.1 hu with rfl | hu
  · rfl
  · exact byC_one p.2 u hu

theorem range_cells {w : World} {b o : Nat} {cs : List Value} (h : w.rangeAt b o cs) {j : Nat} {v : Value} (hv : cs[j]? = some v) : w.cell? ⟨b, o + j, none⟩ = some v := h j v hv

/-- The pending writes in memory, one by one. -/
theorem pend_at {w : World} {A : Option Addr} {c : Nat} {s : St} (ok : s.Ok) (h : w.ownsRow 0 86 257 (.slice A s.pend.length c) s.pend.length (pdC s.pend)) (hp : 0 < s.pend.length) :
    ∃ pb, A = some ⟨pb, 0, none⟩ ∧ s.pend.length ≤ c ∧ c ≤ maxLen ∧ ∀ i, i < s.pend.length → w.rangeAt pb (i * 257) (wrC (s.at_ i)) := by
  rcases h.2 with ⟨_, hn⟩ | ⟨g, cap, cur, hv, _, hg, hnc, hm, hcs, htk⟩
  · omega
  · injection hv with e1 e2 e3
    subst e3
    refine ⟨g, e1, hnc, hm, fun i hi j v hv => ?_⟩
    have hl : ∀ y ∈ s.pend, (wrC y).length = 257 := fun p hp => wrC_len (ok.pend p hp).2
    have hx : s.pend[i]? = some (s.at_ i) := by simp [St.at_, List.getD, List.getElem?_eq_getElem hi]
    have hj : j < 257 := by
      have := (List.getElem?_eq_some_iff.1 hv).1
      rwa [wrC_len (ok.at_ i hi).2] at this
    have := flatMap_at wrC 257 s.pend i j _ hl hx hj
    have hc := h.cells (g := g) (by rw [e1]; rfl) (i * 257 + j) v (by unfold pdC; rw [this, hv])
    have hadd : (⟨g, 0, none⟩ : Addr).add (i * 257 + j) = ⟨g, i * 257 + j, none⟩ := by unfold Addr.add; split <;> simp_all
    rwa [hadd] at hc

/-- What Sync leaves. -/
def RetSync (F : Nat → Prop) (b : Nat) (e0 : Int) (s' : St) (w : World) (e : Ending) (w' : World) : Prop := e = .returned (.int .i64 e0) ∧ Turn (dsk b s') F w w'

set_option maxHeartbeats 1000000 in
theorem sync_down (w : World) (F : Nat → Prop) (b mb : Nat) (A : Option Addr) (c : Nat) (s : St) (h : DskB w F b mb A c s) (hc : s.can = false) :
    Calls Try.prog 24 #[.pointer (some ⟨b, 0, none⟩)] w (RetSync F b 40 s.step w) := by
  have C2 := Lib.hid (step_any h)
  have T := Lib.hid (fun w' (h' : DskB w' F b mb A c s.step) hf => h.turned h' hf)
  have HC := Lib.hid hc
  clear h hc
  go_enter Try.func24, Try.ntmps24
  go_wp2_with fail
  refine C2.out.mono ?_
  rintro e w' ⟨rfl, h1, h2⟩
  rw [HC.out]
  have R : Hid (RetSync F b 40 s.step w (.returned (.int .i64 40)) w') := Lib.hid ⟨rfl, T.out w' h1 h2⟩
  clear h1 h2
  go_wp2_with fail
  go_ret
  exact R.out

/-- While the writes are synchronized. -/
structure SyncRel (b mb : Nat) (cs : Array Value) (A : Option Addr) (c : Nat) (s : St) (w1 : World) (k : Nat) (wr : World) : Prop where
  blk : Bk wr b 79 cs
  map : MapFn wr mb (secV zeros) (fun n => secV (s.upTo k n))
  row : wr.ownsRow 0 86 257 (.slice A s.pend.length c) s.pend.length (pdC s.pend)
  fr : Fr (fun k => k = mb) w1 wr

theorem row_not_bk {w : World} {base e size n : Nat} {v : Value} {xs : List Value} {b : Nat} {t : TypeId} {cs : Array Value} (h : w.ownsRow base e size v n xs) (hb : Bk w b t cs) (hne : t ≠ e) : v.ownBlock ≠ some b := by
  rcases h.2 with ⟨rfl, _⟩ | ⟨g, cap, cur, rfl, _, hg, _⟩
  · simp [Value.ownBlock]
  · intro q
    simp [Value.ownBlock] at q
    subst q
    unfold Bk at hb
    rw [hb] at hg
    simp at hg
    exact hne hg.2

theorem SyncRel.step {b mb : Nat} {cs : Array Value} {A : Option Addr} {c : Nat} {s : St} {w1 wr w2 w3 : World} {k : Nat} (h : SyncRel b mb cs A c s w1 k wr) (hb : Below wr.heap.size wr w2)
    (hm : MapFn w3 mb (secV zeros) (fun m => if m = (s.at_ k).1 then secV (s.at_ k).2 else secV (s.upTo k m))) (hf : Fr (fun k => k = mb) w2 w3) : SyncRel b mb cs A c s w1 (k + 1) w3 := by
  have hne : mb ≠ b := h.map.not_bk h.blk
  have hpb : (Value.slice A s.pend.length c).ownBlock ≠ some mb := h.map.not_row h.row
  refine ⟨?_, ?_, ?_, ?_⟩
  · have h2 := h.blk.bel hb h.blk.lt
    exact h2.eq (hf.block b h2.lt (fun e => hne e.symm))
  · have e : (fun n => secV (s.upTo (k + 1) n)) = fun m => if m = (s.at_ k).1 then secV (s.at_ k).2 else secV (s.upTo k m) := by
      funext m
      show secV (upd (s.upTo k) (s.at_ k).1 (s.at_ k).2 m) = _
      unfold upd
      split <;> rfl
    rw [e]
    exact hm
  · refine owns_keep h.row (fun q hq => ?_)
    have hlt := (h.row.lt q hq).2
    exact (hf.block q (Nat.lt_of_lt_of_le hlt hb.size) (fun e => hpb (by rw [hq, e]))).trans (hb.block q hlt)
  · exact (h.fr.then (Fr.of_below hb)).then hf

theorem slice_none (A : Option Addr) (n c : Nat) (w : World) : (Instr.sliceAt 77 (.slice A n c) none (some (.int .i64 0)) none).run Try.prog w = .ok (.slice A 0 c) w := by
  obtain ⟨i0, hi, hz0, hz1, hz2⟩ := info_parts info_wr
  cases A with
  | none => by_cases h : c = 0 <;> simp [Instr.sliceAt, Instr.slice, Instr.sliceBounds, Instr.sliceBound, asIntOf, run_underlying (P := Try.prog) Try.underlying77, Result.andThen, sizeOf, typeInfo, hi, hz1, h]
  | some a => by_cases h : c = 0 <;> simp [Instr.sliceAt, Instr.slice, Instr.sliceBounds, Instr.sliceBound, asIntOf, run_underlying (P := Try.prog) Try.underlying77, Result.andThen, sizeOf, typeInfo, hi, hz1, h, Addr.add]

/-- Behind the loop: the list cleared, the two cells laid. -/
theorem SyncRel.done {w w1 wr w3 : World} {F : Nat → Prop} {b mb : Nat} {A : Option Addr} {c : Nat} {s : St} (h : DskB w F b mb A c s) (h1 : DskB w1 F b mb A c s.step) (hf1 : Fr (fun k => k = b) w w1) (hlim : s.syncs < 999999)
    (hr : SyncRel b mb #[.int .i64 s.step.num, .map (some mb), .slice A s.pend.length c, .int .i64 s.step.left, .bool s.step.gone, .int .i64 s.syncs] A c s w1 s.pend.length wr)
    (ho : w3.ownsRow 0 86 257 (.slice A 0 c) 0 []) (hg : wr.grownBy w3 (Value.slice A s.pend.length c).ownBlock) :
    (w3.cell? ⟨b, 2, none⟩ = some (.slice A s.pend.length c) ∧ w3.frozen? ⟨b, 2, none⟩ = false ∧ w3.cell? ⟨b, 5, none⟩ = some (.int .i64 s.syncs) ∧ w3.frozen? ⟨b, 5, none⟩ = false) ∧
    RetSync F b 0 s.synced w (.returned (.int .i64 0)) ((w3.setCell ⟨b, 2, none⟩ (.slice A 0 c)).setCell ⟨b, 5, none⟩ (.int .i64 (s.syncs + 1))) := by
  have hpb : (Value.slice A s.pend.length c).ownBlock ≠ some b := row_not_bk hr.row hr.blk (by decide)
  have hpm : (Value.slice A s.pend.length c).ownBlock ≠ some mb := hr.map.not_row hr.row
  have hob : (Value.slice A 0 c).ownBlock = (Value.slice A s.pend.length c).ownBlock := by cases A <;> rfl
  have e : s.step.pend = s.pend := St.step_pend s
  have hfp := h1.fp
  rw [e] at hfp
  have hblk3 := hr.blk.eq (hg.block b hr.blk.lt (fun q => hpb q.symm))
  have hne : mb ≠ b := hr.map.not_bk hr.blk
  refine ⟨⟨hblk3.cell 2, hblk3.frz 2, hblk3.cell 5, hblk3.frz 5⟩, rfl, ?_⟩
  have hfr3 : Fr F w w3 := ((hf1.mono (fun k q => (q ▸ h.fb : F k))).then (hr.fr.mono (fun k q => (q ▸ h.fm : F k)))).grown hg (fun k hk => .inl (hfp k hk))
  have hfr : Fr F w ((w3.setCell ⟨b, 2, none⟩ (.slice A 0 c)).setCell ⟨b, 5, none⟩ (.int .i64 (s.syncs + 1))) := (hfr3.setCell (a := ⟨b, 2, none⟩) h.fb _).setCell (a := ⟨b, 5, none⟩) h.fb _
  have hkeep : ∀ k, k ≠ b → ((w3.setCell ⟨b, 2, none⟩ (.slice A 0 c)).setCell ⟨b, 5, none⟩ (.int .i64 (s.syncs + 1))).heap[k]? = w3.heap[k]? := fun k hk => by
    rw [Below.heap_setCell _ _ _ _ hk, Below.heap_setCell _ _ _ _ hk]
  have D : DskB ((w3.setCell ⟨b, 2, none⟩ (.slice A 0 c)).setCell ⟨b, 5, none⟩ (.int .i64 (s.syncs + 1))) F b mb A c s.synced := by
    refine ⟨?_, ?_, ?_, h.fb, h.fm, ?_, ?_, ?_, ?_⟩
    · have := (hblk3.setc 2 (.slice A 0 c)).setc 5 (.int .i64 (s.syncs + 1))
      simpa [St.synced] using this
    · exact (hr.map.eq (hg.block mb hr.map.lt (fun q => hpm q.symm))).eq (hkeep mb hne)
    · refine owns_keep ho (fun k hk => hkeep k (fun q => ?_))
      have hk' : (Value.slice A 0 c).ownBlock = some k := hk
      rw [hob, q] at hk'
      exact hpb hk'
    · intro k hk
      have hk' : (Value.slice A 0 c).ownBlock = some k := hk
      rw [hob] at hk'
      exact hfp k hk'
    · exact fun k f => Nat.lt_of_lt_of_le (h.lt k f) hfr.size
    · have := h.ok.sync
      exact ⟨h.ok.step.num, h.ok.now, fun p hp => by simp [St.synced] at hp, h.ok.step.left⟩
    · exact ⟨by simp [St.synced], by show s.syncs + 1 < _; omega⟩
  exact (D.mono (fun _ f => .inl f) (fun k f => by
    rcases f with f | f
    · exact D.lt k f
    · exact f.2)).turn hfr

set_option maxRecDepth 100000 in
set_option maxHeartbeats 4000000 in
theorem sync_made (w : World) (F : Nat → Prop) (b mb : Nat) (A : Option Addr) (c : Nat) (s : St) (h : DskB w F b mb A c s) (hc : s.can = true) (hlim : s.syncs < 999999) :
    Calls Try.prog 24 #[.pointer (some ⟨b, 0, none⟩)] w (RetSync F b 0 s.synced w) := by
  obtain ⟨i0, hi, hz0, hz1, hz2⟩ := info_parts info_wr
  have C2 := Lib.hid (step_any h)
  have HC := Lib.hid hc
  have HD := Lib.hid (fun w1 wr w3 (h1 : DskB w1 F b mb A c s.step) hf1 hr ho hg => SyncRel.done (w3 := w3) (wr := wr) h h1 hf1 hlim hr ho hg)
  have hpl := h.lim
  have HOK := Lib.hid h.ok
  have hcmax : c ≤ 9223372036854775807 := by
    rcases h.row.2 with ⟨hv, _⟩ | ⟨g, cap, cur, hv, _, _, _, hm, _⟩
    · injection hv with _ _ e3; omega
    · injection hv with _ _ e3; unfold maxLen at hm; omega
  have HZ := Lib.hid (show ∀ w, (zeroValue 86).run Try.prog w = .ok (.agg (wrC (0, zeros)).toArray) w from fun w => by simp [zeroValue, typeInfo, hi, hz0])
  have hz257 : (Value.agg (wrC (0, zeros)).toArray).cells.size = 257 := by simp [Value.cells, wrC_len (p := (0, zeros)) zeros_sec]
  have HZ1 : Hid (∀ v ∈ (Value.agg (wrC (0, zeros)).toArray).cells.toList, v.oneCell' = true) := Lib.hid (fun v hv => wrC_one (0, zeros) v (by simpa [Value.cells] using hv))
  have HI : Hid ((Try.prog.info? 86).map (·.size) = some 257) := Lib.hid (by rw [hi]; simp [hz1])
  have hu := Try.underlying86
  have hus := Try.underlying81
  have huw := Try.underlying65
  have hui := Try.underlying3
  have hpl1 := hpl.1
  have hpl2 := hpl.2
  clear h hc hpl
  go_enter Try.func24, Try.ntmps24
  go_wp2_with fail
  refine C2.out.mono ?_
  rintro e w1 ⟨rfl, h1, h2⟩
  rw [HC.out]
  have hblk1 := h1.blk
  rw [St.step_pend, St.step_syncs] at hblk1
  have hrow1 := h1.row
  rw [St.step_pend] at hrow1
  have hmap1 := h1.map
  rw [St.step_syn] at hmap1
  have hc2 : w1.cell? ⟨b, 2, none⟩ = some (.slice A s.pend.length c) := hblk1.cell 2
  obtain ⟨cs, hcs⟩ : ∃ cs : Array Value, cs = #[.int .i64 s.step.num, .map (some mb), .slice A s.pend.length c, .int .i64 s.step.left, .bool s.step.gone, .int .i64 s.syncs] := ⟨_, rfl⟩
  have HD2 : Hid (∀ wr w3, SyncRel b mb cs A c s w1 s.pend.length wr → w3.ownsRow 0 86 257 (.slice A 0 c) 0 [] → wr.grownBy w3 (Value.slice A s.pend.length c).ownBlock → _) := Lib.hid (fun wr w3 hr ho hg => HD.out w1 wr w3 h1 h2 (by rw [hcs] at hr; exact hr) ho hg)
  have HCS := Lib.hid hcs
  have R0 : Hid (SyncRel b mb cs A c s w1 0 w1) := Lib.hid ⟨by rw [hcs]; exact hblk1, hmap1, hrow1, Fr.refl _ _⟩
  clear h1 h2 hblk1 hrow1 hmap1 hcs HD C2 HC
  go_wp2_with fail
  go_loopw [18] (fun q wr => ∃ k : Nat, k ≤ s.pend.length ∧ q = .int .i64 k ∧ SyncRel b mb cs A c s w1 k wr) (fun q _ => s.pend.length - (intOf q).toNat)
  case atStart => exact ⟨0, Nat.zero_le _, rfl, R0.out⟩
  case round =>
    obtain ⟨k, hk, rfl, hr⟩ := hrel
    have hblk := hr.blk
    rw [HCS.out] at hblk
    have hc1 : wr.cell? ⟨b, 1, none⟩ = some (.map (some mb)) := hblk.cell 1
    have hc2 : wr.cell? ⟨b, 2, none⟩ = some (.slice A s.pend.length c) := hblk.cell 2
    by_cases hlt : k < s.pend.length
    · obtain ⟨pb, rfl, hpc, hpm, hat⟩ := pend_at HOK.out hr.row (by omega)
      have hrg := hat k hlt
      have hrg0 : wr.rangeAt pb (0 + k * 257) (wrC (s.at_ k)) := by rw [Nat.zero_add]; exact hrg
      obtain ⟨n, l, hnl⟩ : ∃ n l, s.at_ k = (n, l) := ⟨_, _, rfl⟩
      have hsec : Sec l := by have := (HOK.out.at_ k hlt).2; rw [hnl] at this; exact this
      rw [hnl] at hrg hrg0
      have hwl : (wrC (n, l)).length = 257 := wrC_len (p := (n, l)) hsec
      have hbl : (byC l).length = 256 := by rw [byC_len, hsec.1]
      have hiw : (Try.prog.info? 86).map (·.size) = some (wrC (n, l)).length := by rw [hwl]; exact HI.out
      have his : (Try.prog.info? 81).map (·.size) = some (byC l).length := by rw [hbl]; exact size_sec
      have h1w : (wrC (n, l)).toArray.all (·.oneCell') = true := all_oneCell_toArray (wrC_one _)
      have HST := Lib.hid (fun w2 w3 hb hm hf => hr.step (w2 := w2) (w3 := w3) hb (by rw [hnl]; exact hm) hf)
      have HR := Lib.hid hr
      clear hr hat
      have hk0 : (0 : Int) ≤ (k : Int) := Int.natCast_nonneg _
      have hk1 : (k : Int) < (s.pend.length : Int) := by omega
      go_wp2_with (first
        | (refine wpList_run rfl (exec_load rfl (by rfl) (by first | exact hrg | exact hrg0) hu rfl hiw) ?_)
        | (refine wpList_run rfl (exec_alloc rfl HZ.out) ?_)
        | (refine wpList_store_new rfl rfl (W := wr) rfl (by rfl) (by rfl) (by rw [List.size_toArray]; exact hiw) (by rw [hz257, List.size_toArray, hwl]) h1w ?_))
      have hnb : (wr.alloc (.cells (wrC (n, l)).toArray 86)).heap[wr.heap.size]? = some (.cells (wrC (n, l)).toArray 86 (0, 0)) := heap_alloc_new wr _
      have hcb : (wr.alloc (.cells (wrC (n, l)).toArray 86)).cell? ⟨b, 1, none⟩ = some (.map (some mb)) := ((Below.refl _ wr).alloc (Nat.le_refl _) _).cell (p := ⟨b, 1, none⟩) hblk.lt |>.trans hc1
      have hS0 : (wr.alloc (.cells (wrC (n, l)).toArray 86)).drew.cell? ⟨b, 1, none⟩ = some (.map (some mb)) ∧ (wr.alloc (.cells (wrC (n, l)).toArray 86)).drew.cell? ⟨wr.heap.size, 0, none⟩ = some (.int .i64 n) ∧ (wr.alloc (.cells (wrC (n, l)).toArray 86)).drew.rangeAt wr.heap.size 1 (byC l) := by
        refine ⟨hcb, ?_, ?_⟩
        · exact (cell_of_row _ _ _ _ _ _ hnb).trans rfl
        · have := World.rangeAt_of_block hnb 1 256
          have e : ((wrC (n, l)).toArray.extract 1 (1 + 256)).toList = byC l := by
            simp [wrC, hbl]
            exact List.take_of_length_le (by omega)
          rw [e] at this
          exact this
      have HB2 := Lib.hid ((Below.refl _ wr).alloc (Nat.le_refl _) (.cells (wrC (n, l)).toArray 86)).drew
      have HM := Lib.hid (HR.out.map.eq (w' := (wr.alloc (.cells (wrC (n, l)).toArray 86)).drew) ((HB2.out).block mb HR.out.map.lt))
      obtain ⟨W2, hW2⟩ : ∃ W2, W2 = wr.alloc (.cells (wrC (n, l)).toArray 86) := ⟨_, rfl⟩
      rw [← hW2] at hS0 HB2 HM ⊢
      clear hnb hcb hW2
      refine wp_region_noPanic ?_
      refine upto_start (fun w' => w'.cell? ⟨b, 1, none⟩ = some (.map (some mb)) ∧ w'.cell? ⟨wr.heap.size, 0, none⟩ = some (.int .i64 n) ∧ w'.rangeAt wr.heap.size 1 (byC l)) 8 (by kernel_rfl) ?_
      change Upto _ _ _ _ _ 9 _ _ _
      refine Upto.take (i := 0) (v := ?_) rfl (by kernel_rfl) (fun _ _ _ h => h) rfl (fun w' hS => ?_) hS0 ?_
      rotate_left
      · (try dsimp only at hS); go_split_ands; go_simp; (try with_reducible rfl)
      simp only [Act.put, List.setIfInBounds_toArray, List.set_cons_zero, List.set_cons_succ]
      refine Upto.take (i := 1) (v := ?_) rfl (by kernel_rfl) (fun _ _ _ h => h) rfl (fun w' hS => ?_) hS0 ?_
      rotate_left
      · (try dsimp only at hS); go_split_ands; go_simp; (try with_reducible rfl)
      simp only [Act.put, List.setIfInBounds_toArray, List.set_cons_zero, List.set_cons_succ]
      refine Upto.take (i := 2) (v := ?_) rfl (by kernel_rfl) (fun _ _ _ h => h) rfl (fun w' hS => ?_) hS0 ?_
      rotate_left
      · (try dsimp only at hS); go_split_ands; go_simp; (try with_reducible rfl)
      simp only [Act.put, List.setIfInBounds_toArray, List.set_cons_zero, List.set_cons_succ]
      refine Upto.take (i := 3) (v := ?_) rfl (by kernel_rfl) (fun _ _ _ h => h) rfl (fun w' hS => ?_) hS0 ?_
      rotate_left
      · (try dsimp only at hS); go_split_ands; go_simp; (try with_reducible rfl)
      simp only [Act.put, List.setIfInBounds_toArray, List.set_cons_zero, List.set_cons_succ]
      refine Upto.take (i := 4) (v := ?_) rfl (by kernel_rfl) (fun _ _ _ h => h) rfl (fun w' hS => ?_) hS0 ?_
      rotate_left
      · (try dsimp only at hS); go_split_ands; go_simp; (try with_reducible rfl)
      simp only [Act.put, List.setIfInBounds_toArray, List.set_cons_zero, List.set_cons_succ]
      refine Upto.take (i := 5) (v := ?_) rfl (by kernel_rfl) (fun _ _ _ h => h) rfl (fun w' hS => ?_) hS0 ?_
      rotate_left
      · (try dsimp only at hS); go_split_ands; go_simp; (try with_reducible rfl)
      simp only [Act.put, List.setIfInBounds_toArray, List.set_cons_zero, List.set_cons_succ]
      refine Upto.take (i := 6) (v := ?_) rfl (by kernel_rfl) (fun _ _ _ h => h) rfl (fun w' hS => ?_) hS0 ?_
      rotate_left
      · (try dsimp only at hS); go_split_ands; go_simp; (try with_reducible rfl)
      simp only [Act.put, List.setIfInBounds_toArray, List.set_cons_zero, List.set_cons_succ]
      refine Upto.take (i := 7) rfl (by kernel_rfl) (fun _ _ _ h => h) rfl (fun w' hS => exec_load rfl (by rfl) (by exact hS.2.2) hus rfl his) hS0 ?_
      simp only [Act.put, List.setIfInBounds_toArray, List.set_cons_zero, List.set_cons_succ]
      refine Upto.tail rfl (by kernel_rfl) ?_
      simp only [List.drop_succ_cons, List.drop_zero]
      refine wpList_update_fn rfl _ _ _ rfl huw hui mb _ _ HM.out (by rfl) n (by rfl) (secV l) (by rfl) ?_
      intro w3 hm3 hf3
      have R := Lib.hid (HST.out _ w3 HB2.out hm3 hf3)
      clear hm3 hf3 HST HM HB2 hS0 HR hrg hrg0
      simp only [Act.put]
      go_wp2_with fail
      refine NoPanic.normal ?_
      go_wp2_with fail
      go_roundw
      case rel => exact ⟨k + 1, by omega, by go_num, R.out⟩
      case measure => simp [intOf]; omega
    · obtain rfl : k = s.pend.length := by omega
      have HR := Lib.hid hr
      have hsn := fun w => slice_none A s.pend.length c w
      have HSN := Lib.hid hsn
      clear hr hsn
      go_wp2_with (first
        | (refine wpList_clear rfl rfl Try.underlying77 hi hz0 hz257 HZ1.out (by rfl) HR.out.row ?_; intro w3 ho3 hg3; clear hc1 hc2 hblk; have hD := Lib.hid (HD2.out _ w3 HR.out ho3 hg3); clear ho3 hg3; obtain ⟨⟨hc2, hf2, hc5, hf5⟩, hRR⟩ := hD.out; have RR := Lib.hid hRR; clear hRR)
        | (refine wpList_run rfl (exec_slice rfl (HSN.out _)) ?_))
      go_ret
      exact RR.out
end Go.Proofs.Ytomhofppcogojaa

/- disk.content and disk.Read answer what is there of a sector, in new memory. -/
namespace Go.Proofs.Ytomhofppcogojaa
open Go.RowKit

/-- A call hands back a sector by value; what was there reads as before. -/
def RetSec (l : List Int) (w : World) (e : Ending) (w' : World) : Prop := e = .returned (secV l) ∧ Below w.heap.size w w'

theorem sec_end (l : List Int) (w : World) : (w.alloc (.cells (byC l).toArray 81)).heap[w.heap.size]? = some (.cells (byC l).toArray 81 (0, 0)) ∧ RetSec l w (.returned (secV l)) (w.alloc (.cells (byC l).toArray 81)) :=
  ⟨heap_alloc_new _ _, rfl, (Below.refl _ _).alloc (Nat.le_refl _) _⟩

theorem zeros_size : (byC zeros).toArray.size = 256 := secV_size zeros_sec
theorem zero_secA (w : World) : (zeroValue 81).run Try.prog w = .ok (.agg (byC zeros).toArray) w := zero_sec w

theorem range_tail {w : World} {b o : Nat} {v : Value} {cs : List Value} (h : w.rangeAt b o (v :: cs)) : w.rangeAt b (o + 1) cs := fun j u hu => by
  have := h (j + 1) u (by simpa using hu)
  rwa [show o + 1 + j = o + (j + 1) from by omega]

set_option maxRecDepth 100000 in
set_option maxHeartbeats 2000000 in
theorem content_any (w : World) (F : Nat → Prop) (b mb : Nat) (A : Option Addr) (c : Nat) (s : St) (h : DskB w F b mb A c s) (n : Nat) (hn : n < s.num) :
    Calls Try.prog 36 #[.pointer (some ⟨b, 0, none⟩), .int .i64 n] w (RetSec (s.now n) w) := by
  have hus := Try.underlying81
  have huw := Try.underlying65
  have hui := Try.underlying3
  have hpl1 := h.lim.1
  have hcmax : c ≤ 9223372036854775807 := by
    rcases h.row.2 with ⟨hv, _⟩ | ⟨g, cap, cur, hv, _, _, _, hm, _⟩
    · injection hv with _ _ e3; omega
    · injection hv with _ _ e3; unfold maxLen at hm; omega
  have hsyn := h.ok.syn n
  have hZ := Lib.hid (fun w => zero_secA w)
  have hbl : ∀ l, Sec l → (Try.prog.info? 81).map (·.size) = some (byC l).toArray.size := fun l hl => by rw [secV_size hl]; exact size_sec
  have hbl2 : ∀ l, Sec l → (byC zeros).toArray.size = (byC l).toArray.size := fun l hl => by rw [secV_size hl, zeros_size]
  have h1l : ∀ l, (byC l).toArray.all (·.oneCell') = true := fun l => all_oneCell_toArray (byC_one l)
  have HBL := Lib.hid hbl
  have HBL2 := Lib.hid hbl2
  have H1L := Lib.hid h1l
  have HOK := Lib.hid h.ok
  have hb1 : Below w.heap.size w (w.alloc (.cells (byC zeros).toArray 81)) := (Below.refl _ _).alloc (Nat.le_refl _) _
  have HM := Lib.hid (h.map.eq (hb1.block mb h.map.lt))
  have HROW := Lib.hid (owns_keep h.row (fun k hk => hb1.block k (h.row.lt k hk).2))
  have hblt := h.blk.lt
  have hcell1 : (w.alloc (.cells (byC zeros).toArray 81)).cell? ⟨b, 1, none⟩ = some (.map (some mb)) := (hb1.cell (p := ⟨b, 1, none⟩) hblt).trans (h.blk.cell 1)
  have hcell2 : (w.alloc (.cells (byC zeros).toArray 81)).cell? ⟨b, 2, none⟩ = some (.slice A s.pend.length c) := (hb1.cell (p := ⟨b, 2, none⟩) hblt).trans (h.blk.cell 2)
  clear h hbl hbl2 h1l hb1
  go_enter Try.func36, Try.ntmps36
  go_wp2_with (refine wpList_run rfl (exec_allocA rfl hZ.out) ?_)
  obtain ⟨W1, hW1⟩ : ∃ W1, W1 = w.alloc (.cells (byC zeros).toArray 81) := ⟨_, rfl⟩
  rw [← hW1] at hcell1 hcell2 HM HROW ⊢
  have HW1 := Lib.hid hW1
  clear hW1
  go_wp2_with fail
  go_loop [5] (fun q => ∃ i : Int, -1 ≤ i ∧ i < s.pend.length ∧ q = .int .i64 i ∧ ∀ j : Nat, i < j → j < s.pend.length → (s.at_ j).1 ≠ n) (fun q => (intOf q + 1).toNat)
  case atStart => exact ⟨(s.pend.length : Int) - 1, by omega, by omega, by go_num, fun j h1 h2 => by omega⟩
  case round =>
    obtain ⟨i, hi1, hi2, rfl, hall⟩ := hrel
    by_cases hi0 : i < 0
    · have hnow : s.now n = s.syn n := St.now_none s n (fun j hj => hall j (by omega) hj)
      have E := Lib.hid (sec_end (s.syn n) w)
      have HN := Lib.hid hnow
      clear hall hnow
      go_wp2_with (first
        | (refine wpList_lookup_fn rfl _ _ rfl huw hui mb _ _ (hZ.out _) HM.out (by rfl) n (by rfl) ?_)
        | (refine wpList_store_new rfl rfl (W := w) HW1.out (by rfl) (by rfl) (HBL.out _ hsyn) (HBL2.out _ hsyn) (H1L.out _) ?_))
      exact bodyPost_ret (v := secV (s.syn n)) (results_cell_row (p := 4) (ty := 81) Try.results36 _ _ w.heap.size 81 (byC (s.syn n)).toArray (0, 0) _ rfl E.out.1 hus rfl (HBL.out _ hsyn)) rfl (by rw [HN.out]; exact E.out.2)
    · obtain ⟨j, rfl⟩ := Int.eq_ofNat_of_zero_le (Int.not_lt.1 hi0)
      have hjl : j < s.pend.length := by omega
      obtain ⟨pb, rfl, hpc, hpm, hat⟩ := pend_at HOK.out HROW.out (by omega)
      have hrg := hat j hjl
      have hx0 : W1.cell? ⟨pb, j * 257, none⟩ = some (.int .i64 (s.at_ j).1) := by have := hrg 0 _ (show (wrC (s.at_ j))[0]? = some (.int .i64 (s.at_ j).1) from rfl); simpa using this
      have hrg1 := range_tail hrg
      have hsj := (HOK.out.at_ j hjl).2
      clear hat hrg
      have hk0 : (0 : Int) ≤ (j : Int) := Int.natCast_nonneg _
      by_cases he : (s.at_ j).1 = n
      · have hnow : s.now n = (s.at_ j).2 := St.now_last s n j hjl he (fun q h1 h2 => hall q (by omega) h2)
        have E := Lib.hid (sec_end (s.at_ j).2 w)
        have HN := Lib.hid hnow
        rw [he] at hx0
        clear hall hnow he
        obtain ⟨l, hl⟩ : ∃ l, (s.at_ j).2 = l := ⟨_, rfl⟩
        rw [hl] at E HN hrg1 hsj
        have hbl : (byC l).length = 256 := by rw [byC_len, hsj.1]
        clear hl
        go_wp2_with (first
          | (refine wpList_run rfl (exec_load rfl (by rfl) (by exact hrg1) hus rfl (by rw [hbl]; exact size_sec)) ?_)
          | (refine wpList_store_new rfl rfl (W := w) HW1.out (by rfl) (by rfl) (HBL.out _ hsj) (HBL2.out _ hsj) (H1L.out _) ?_))
        exact bodyPost_ret (v := secV l) (results_cell_row (p := 4) (ty := 81) Try.results36 _ _ w.heap.size 81 (byC l).toArray (0, 0) _ rfl E.out.1 hus rfl (HBL.out _ hsj)) rfl (by rw [HN.out]; exact E.out.2)
      · have HA : Hid (∀ q : Nat, (j : Int) - 1 < q → q < s.pend.length → (s.at_ q).1 ≠ n) := Lib.hid (fun q h1 h2 => by
          by_cases e : q = j
          · subst e; exact he
          · exact hall q (by omega) h2)
        obtain ⟨m, hm⟩ : ∃ m, (s.at_ j).1 = m := ⟨_, rfl⟩
        rw [hm] at hx0 he
        have hd : ((m : Int) == (n : Int)) = false := by simp; omega
        clear hall hrg1 hm he
        go_wp2_with fail
        go_round
        case rel => exact ⟨(j : Int) - 1, by omega, by omega, by go_num, HA.out⟩
        case measure => simp [intOf]

/-- What Read hands back: bytes in new memory. -/
def RetRead (l : List Int) (w : World) (e : Ending) (w' : World) : Prop :=
  ∃ g, w.heap.size ≤ g ∧ e = .returned (.tuple #[.slice (some ⟨g, 0, none⟩) 256 256, .int .i64 0]) ∧ Bk w' g 81 (byC l).toArray ∧ Below w.heap.size w w'
/-- Read's errors. -/
def RetErr (e0 : Int) (w : World) (e : Ending) (w' : World) : Prop := e = .returned (.tuple #[.slice none 0 0, .int .i64 e0]) ∧ w = w'

theorem Byt.sec {w : World} {g : Nat} {t : TypeId} {l : List Int} (h : Bk w g t (byC l).toArray) (hl : Sec l) : Byt w (some ⟨g, 0, none⟩) 256 256 l :=
  Byt.of_bk h 0 256 256 l hl.1 (Nat.le_refl _) (by unfold maxLen; omega) hl.2 (fun i hi => by
    have : i < l.length := by rw [hl.1]; exact hi
    simp [byC, List.getElem?_eq_getElem this])

set_option maxHeartbeats 1000000 in
theorem read_bad (w : World) (F : Nat → Prop) (b mb : Nat) (A : Option Addr) (c : Nat) (s : St) (h : DskB w F b mb A c s) (n : Int) (hn : n < 0 ∨ (s.num : Int) ≤ n) :
    Calls Try.prog 14 #[.pointer (some ⟨b, 0, none⟩), .int .i64 n] w (RetErr 1 w) := by
  have C := Lib.hid (find_bad h n hn)
  clear h hn
  go_enter Try.func14, Try.ntmps14
  go_wp2_with fail
  refine C.out.mono ?_
  rintro e w' ⟨rfl, rfl⟩
  go_wp2_with fail
  go_ret2
  exact ⟨rfl, rfl⟩

set_option maxHeartbeats 1000000 in
theorem read_down (w : World) (F : Nat → Prop) (b mb : Nat) (A : Option Addr) (c : Nat) (s : St) (h : DskB w F b mb A c s) (n : Nat) (hn : n < s.num) (hg : s.gone = true) :
    Calls Try.prog 14 #[.pointer (some ⟨b, 0, none⟩), .int .i64 n] w (RetErr 40 w) := by
  have C := Lib.hid (find_ok h n hn)
  have c4 : w.cell? ⟨b, 4, none⟩ = some (.bool true) := by rw [← hg]; exact h.blk.cell 4
  clear h hn hg
  go_enter Try.func14, Try.ntmps14
  go_wp2_with fail
  refine C.out.mono ?_
  rintro e w' ⟨rfl, rfl⟩
  go_wp2_with fail
  go_ret2
  exact ⟨rfl, rfl⟩

set_option maxRecDepth 100000 in
set_option maxHeartbeats 1000000 in
theorem read_ok (w : World) (F : Nat → Prop) (b mb : Nat) (A : Option Addr) (c : Nat) (s : St) (h : DskB w F b mb A c s) (n : Nat) (hn : n < s.num) (hg : s.gone = false) :
    Calls Try.prog 14 #[.pointer (some ⟨b, 0, none⟩), .int .i64 n] w (RetRead (s.now n) w) := by
  have C := Lib.hid (find_ok h n hn)
  have C2 := Lib.hid (content_any w F b mb A c s h n hn)
  have c4 : w.cell? ⟨b, 4, none⟩ = some (.bool false) := by rw [← hg]; exact h.blk.cell 4
  have hsec := h.ok.now n
  have hZ := Lib.hid (fun w => zero_secA w)
  obtain ⟨l, hl⟩ : ∃ l, s.now n = l := ⟨_, rfl⟩
  rw [hl] at C2 hsec ⊢
  have HI : Hid ((Try.prog.info? 81).map (·.size) = some (byC l).toArray.size) := Lib.hid (by rw [secV_size hsec]; exact size_sec)
  have HS : Hid ((byC zeros).toArray.size = (byC l).toArray.size) := Lib.hid (by rw [secV_size hsec, zeros_size])
  have H1 : Hid ((byC l).toArray.all (·.oneCell') = true) := Lib.hid (all_oneCell_toArray (byC_one l))
  clear h hn hg hl
  go_enter Try.func14, Try.ntmps14
  go_wp2_with fail
  refine C.out.mono ?_
  rintro e w' ⟨rfl, rfl⟩
  go_wp2_with fail
  refine C2.out.mono ?_
  rintro e w1 ⟨rfl, hb⟩
  have R : Hid (RetRead l w (.returned (.tuple #[.slice (some ⟨w1.heap.size, 0, none⟩) 256 256, .int .i64 0])) (w1.alloc (.cells (byC l).toArray 81))) :=
    Lib.hid ⟨w1.heap.size, hb.size, rfl, heap_alloc_new _ _, hb.alloc hb.size _⟩
  clear hb
  go_wp2_with (first
    | (refine wpList_run rfl (exec_allocA rfl hZ.out) ?_)
    | (refine wpList_store_new rfl rfl (W := w1) rfl (by rfl) (by rfl) HI.out HS.out H1.out ?_))
  go_ret2
  exact R.out
end Go.Proofs.Ytomhofppcogojaa

/- the statements' Full hands back a sector of one byte, in new memory. -/
namespace Go.Proofs.Ytomhofppcogojaa
open Go.RowKit

/-- The bytes f 0 .. f 255, as cells. -/
def u8C (f : Nat → Int) : Array Value := ((List.range 256).map fun i => Value.int .u8 (f i)).toArray
theorem u8C_size (f : Nat → Int) : (u8C f).size = 256 := by unfold u8C; rw [List.size_toArray, List.length_map, List.length_range]
theorem u8C_at (f : Nat → Int) (i : Nat) (h : i < 256) : (u8C f)[i]? = some (.int .u8 (f i)) := by
  unfold u8C
  rw [List.getElem?_toArray, List.getElem?_map, List.getElem?_range h]
  rfl
theorem u8C_set (f : Nat → Int) (j : Nat) (v : Int) : (u8C f).setIfInBounds j (.int .u8 v) = u8C (fun i => if i = j then v else f i) := by
  apply Array.ext_getElem?
  intro i
  rw [Array.getElem?_setIfInBounds]
  by_cases hi : i < 256
  · rw [u8C_at _ i hi, u8C_at _ i hi, u8C_size]
    by_cases e : j = i
    · subst e; rw [if_pos rfl, if_pos hi, if_pos rfl]
    · rw [if_neg e, if_neg (fun q => e q.symm)]
  · have h1 : (u8C f)[i]? = none := Array.getElem?_eq_none (by rw [u8C_size]; omega)
    have h2 : (u8C (fun i => if i = j then v else f i))[i]? = none := Array.getElem?_eq_none (by rw [u8C_size]; omega)
    rw [h1, h2]
    split <;> (try rfl)
    rw [if_neg (by rw [u8C_size]; omega)]
theorem u8C_congr {f g : Nat → Int} (h : ∀ i, i < 256 → f i = g i) : u8C f = u8C g := by
  unfold u8C
  congr 1
  refine List.map_congr_left fun i hi => ?_
  rw [h i (by simpa using hi)]

/-- A sector of one byte. -/
def fullL (x : Int) : List Int := List.replicate 256 x
theorem fullL_sec {x : Int} (h : 0 ≤ x ∧ x < 256) : Sec (fullL x) := ⟨List.length_replicate, fun y hy => by
  obtain ⟨_, rfl⟩ := List.mem_replicate.1 hy
  exact h⟩
theorem u8C_full (x : Int) : u8C (fun _ => x) = (byC (fullL x)).toArray := by
  unfold u8C byC fullL
  rw [List.map_const', List.length_range, List.map_replicate]
theorem info_u8f : (Try.prog.info? 5).map (fun i => (i.zero, i.size, i.bytes)) = some (some (.int .u8 0), 1, 1) := by kernel_rfl
theorem make_256 (W : World) : (Instr.makeSlice 35 (.int .i64 256) (.int .i64 256)).run Try.prog W =
    .ok (.slice (some ⟨W.heap.size, 0, none⟩) 256 256) (W.alloc (.cells (u8C (fun _ => 0)) 5)) := by
  obtain ⟨i0, hi, hz0, hz1, hz2⟩ := info_parts info_u8f
  have := run_make (P := Try.prog) W 35 5 i0 (.int .u8 0) Try.underlying35 hi hz0 .i64 .i64 256 256 (by omega) (by omega) (by rw [hz2]; omega) (by omega)
  rw [this, hz1]
  show Result.ok _ (W.alloc (.cells (madeCells #[.int .u8 0] 256) _)) = _
  have e : madeCells #[.int .u8 0] 256 = u8C (fun _ => 0) := by
    apply Array.toList_inj.1
    rw [toList_madeCells_one]
    unfold u8C
    show _ = (List.range 256).map fun _ => Value.int .u8 0
    rw [List.map_const', List.length_range]
  rw [e]
  rfl

/-- What Full hands back: bytes in a new block. -/
def RetFull (l : List Int) (w : World) (e : Ending) (w' : World) : Prop :=
  ∃ g, w.heap.size ≤ g ∧ e = .returned (.slice (some ⟨g, 0, none⟩) 256 256) ∧ Bk w' g 5 (byC l).toArray ∧ Below w.heap.size w w'

theorem RetFull.byt {l : List Int} {w w' : World} {g : Nat} (hb : Bk w' g 5 (byC l).toArray) (hl : Sec l) : Byt w' (some ⟨g, 0, none⟩) 256 256 l := Byt.sec hb hl

end Go.Proofs.Ytomhofppcogojaa

/- the statements' own() hands back the same bytes in new memory; the slice that comes in holds at most 2^47 bytes. -/
namespace Go.Proofs.Ytomhofppcogojaa
open Go.RowKit

theorem info_u8 : (Try.prog.info? 5).map (fun i => (i.zero, i.size, i.bytes)) = some (some (.int .u8 0), 1, 1) := by kernel_rfl

/-- A call hands back a row of its own that reads as l. -/
def RetOwn (l : List Int) (w : World) (e : Ending) (w' : World) : Prop :=
  ∃ A n c, e = .returned (.slice A n c) ∧ w'.ownsRow w.heap.size 5 1 (.slice A n c) n (l.map (Value.int .u8)) ∧ (∀ x ∈ l, 0 ≤ x ∧ x < 256) ∧ Below w.heap.size w w'

theorem RetOwn.byt {l : List Int} {w : World} {e : Ending} {w' : World} (h : RetOwn l w e w') : RetByt l w e w' := by
  obtain ⟨A, n, c, he, ho, hr, hb⟩ := h
  exact ⟨A, n, c, he, Byt.of_own ho hr, hb⟩

theorem own_end {w w' : World} {A' : Option Addr} {n c' : Nat} {l : List Int} (hr : ∀ x ∈ l, 0 ≤ x ∧ x < 256)
    (h1 : w'.ownsRow w.heap.size 5 1 (.slice A' n c') n (l.map (Value.int .u8))) (h2 : (w.alloc (.cells #[] 5)).grownBy w' (Value.ownBlock (.slice (some ⟨w.heap.size, 0, none⟩) 0 0))) :
    RetOwn l w (.returned (.slice A' n c')) w' :=
  ⟨A', n, c', rfl, h1, hr, ((Below.refl _ _).alloc (Nat.le_refl _) _).grown h2 (by simp) (by intro k hk; simp [Value.ownBlock] at hk; omega)⟩

/- What an append onto a row of one's own leaves. -/
theorem app_below {w1 w2 w3 : World} {v : Value} {k : Nat} {e : TypeId} {xs : List Value} (b2 : Below w1.heap.size w1 w2) (ho : w2.ownsRow w1.heap.size e 1 v k xs) (hg : w2.grownBy w3 v.ownBlock) : Below w1.heap.size w1 w3 :=
  b2.grown hg b2.size (fun i hi => (ho.lt i hi).1)

theorem app_byt {B : Nat} {w : World} {e : TypeId} {A : Option Addr} {m c : Nat} {xs ys : List Int} (h : w.ownsRow B e 1 (.slice A m c) m (xs.map (Value.int .u8) ++ ys.map (Value.int .u8))) (hx : ∀ x ∈ xs, 0 ≤ x ∧ x < 256) (hy : ∀ x ∈ ys, 0 ≤ x ∧ x < 256) : Byt w A m c (xs ++ ys) := by
  rw [← List.map_append] at h
  exact Byt.of_own h (fun x hx' => by
    rcases List.mem_append.1 hx' with h | h
    · exact hx x h
    · exact hy x h)

/-- n noughts. -/
def noughts (n : Nat) : Array Value := madeCells #[.int .u8 0] n
theorem noughts_size (n : Nat) : (noughts n).size = n := size_madeCells _ _

theorem make_bytes (n : Nat) (hn : n ≤ 281474976710656) (W : World) : (Instr.makeSlice 35 (.int .i64 (n : Int)) (.int .i64 (n : Int))).run Try.prog W =
    .ok (.slice (some ⟨W.heap.size, 0, none⟩) n n) (W.alloc (.cells (noughts n) 5)) := by
  obtain ⟨i0, hi, hz0, hz1, hz2⟩ := info_parts info_u8
  have := run_make (P := Try.prog) W 35 5 i0 (.int .u8 0) Try.underlying35 hi hz0 .i64 .i64 n n (by omega) (by omega) (by rw [hz2]; omega) (by omega)
  rw [this, hz1, Int.toNat_natCast, Nat.mul_one]
  rfl
end Go.Proofs.Ytomhofppcogojaa

/- bytes.Clone hands back the same bytes in new memory. -/
namespace Go.Proofs.Ytomhofppcogojaa
open Go.RowKit

/-- The same, of bytes.Clone, the slice not nil. -/
theorem clone_own (ad : Addr) (n c : Nat) (l : List Int) (w : World) (h : Byt w (some ad) n c l) (hn : n ≤ 140737488355328) :
    Calls Try.prog 66 #[.slice (some ad) n c] w (RetOwn l w) := by
  obtain ⟨i0, hi, hz0, hz1, hz2⟩ := info_parts info_u8
  have hown0 := World.ownsRow_made (base := w.heap.size) (e := 5) (size := 1) w #[] 0 (Nat.le_refl _) (Nat.zero_le _) rfl
  have q := fun w : World => Lib.run_eql_slice_nil (P := Try.prog) w 35 5 (some ad) n c 0 0 Try.underlying35
  go_enter Try.func66, Try.ntmps66
  go_wp2_with (at_builtin; refine wpList_append_byt rfl _ _ 35 rfl w.heap.size 5 i0 Try.underlying35 hi hz0 hz1 hz2 _ 0 [] rfl (by exact hown0) (some ad) n c l rfl (h.alloc _) (by omega) (by simp) ?_)
  intro A' c' w' h1 h2
  have R := Lib.hid (own_end h.rng h1 h2)
  clear h1 h2 h hown0 q
  go_wp2
  go_ret
  exact R.out

/-- The same, told of the bytes alone. -/
theorem bclone_any (ad : Addr) (n c : Nat) (l : List Int) (w : World) (h : Byt w (some ad) n c l) (hn : n ≤ 140737488355328) :
    Calls Try.prog 66 #[.slice (some ad) n c] w (RetByt l w) := (clone_own ad n c l w h hn).mono fun _ _ h => h.byt
end Go.Proofs.Ytomhofppcogojaa

/- stamp.stamped, Wrap and Open answer what the plain mathematics says, in new memory. -/
namespace Go.Proofs.Ytomhofppcogojaa
open Go.RowKit

theorem wrap_none (m : Int) : u8C (fun i => if i = 255 then m else if i = 0 then m else 0) = (byC (wrapL m [])).toArray := by
  apply Array.ext_getElem?
  intro i
  have hs : (wrapL m []).length = 256 := by
    unfold wrapL
    rw [List.length_cons, List.length_append, padL_len (by simp)]
    rfl
  by_cases hi : i < 256
  · rw [u8C_at _ i hi, List.getElem?_toArray]
    unfold byC
    rw [List.getElem?_map]
    have : (wrapL m [])[i]? = some (if i = 255 then m else if i = 0 then m else 0) := by
      unfold wrapL padL
      by_cases h0 : i = 0
      · subst h0; rfl
      · obtain ⟨j, rfl⟩ : ∃ j, i = j + 1 := ⟨i - 1, by omega⟩
        rw [List.getElem?_cons_succ]
        by_cases h1 : j + 1 = 255
        · obtain rfl : j = 254 := by omega
          rfl
        · rw [if_neg h1, if_neg h0, List.nil_append, List.getElem?_append_left (by rw [List.length_replicate]; show j < 254; omega), List.getElem?_replicate]
          rw [if_pos (by show j < 254; omega)]
    rw [this]
    rfl
  · have h1 : (u8C (fun i => if i = 255 then m else if i = 0 then m else 0))[i]? = none := Array.getElem?_eq_none (by rw [u8C_size]; omega)
    have h2 : ((byC (wrapL m [])).toArray)[i]? = none := Array.getElem?_eq_none (by rw [List.size_toArray, byC_len, hs]; omega)
    rw [h1, h2]

theorem splice_wrap (m : Int) (p : List Int) (h : p.length ≤ 254) : splice (byC (wrapL m [])) 1 (byC p) = byC (wrapL m p) := by
  unfold splice byC wrapL
  rw [List.length_map]
  simp only [List.map_cons, List.take_succ_cons, List.take_zero]
  rw [show 1 + p.length = p.length + 1 from by omega, List.drop_succ_cons]
  simp only [List.cons_append, List.nil_append]
  congr 1
  unfold padL
  simp only [List.nil_append, List.map_append, List.map_replicate, List.map_cons, List.map_nil, List.length_nil, Nat.sub_zero, List.append_assoc]
  rw [List.drop_append_of_le_length (by rw [List.length_replicate]; omega), List.drop_replicate]

set_option maxRecDepth 100000 in
set_option maxHeartbeats 2000000 in
theorem stamped_any (m : Int) (hm : 0 ≤ m ∧ m < 256) (A : Option Addr) (n c : Nat) (p : List Int) (w : World) (h : Byt w A n c p) (hn : n ≤ 254) :
    Calls Try.prog 47 #[.int .u8 m, .slice A n c] w (RetFull (wrapL m p) w) := by
  have HM := Lib.hid make_256
  have hcap := h.cap
  have hmax := h.max
  unfold maxLen at hmax
  have hpl := h.len
  obtain ⟨W1, hW1⟩ : ∃ W1, W1 = w.alloc (.cells (u8C (fun _ => 0)) 5) := ⟨_, rfl⟩
  have hB1 : Bk W1 w.heap.size 5 (u8C (fun _ => 0)) := by rw [hW1]; exact heap_alloc_new _ _
  have hb1 : Below w.heap.size w W1 := by rw [hW1]; exact (Below.refl _ _).alloc (Nat.le_refl _) _
  have hB2 := hB1.setc 0 (.int .u8 m)
  rw [u8C_set] at hB2
  have hb2 : Below w.heap.size w (W1.setCell ⟨w.heap.size, 0, none⟩ (.int .u8 m)) := hb1.setCell (Nat.le_refl _) _
  have hB3 := hB2.setc 255 (.int .u8 m)
  rw [u8C_set, wrap_none] at hB3
  have hb3 : Below w.heap.size w ((W1.setCell ⟨w.heap.size, 0, none⟩ (.int .u8 m)).setCell ⟨w.heap.size, 255, none⟩ (.int .u8 m)) := hb2.setCell (Nat.le_refl _) _
  have hc0 : W1.cell? ⟨w.heap.size, 0, none⟩ = some (.int .u8 0) := by rw [hB1.cell]; exact u8C_at _ 0 (by omega)
  have hf0 : W1.frozen? ⟨w.heap.size, 0, none⟩ = false := hB1.frz 0
  have hc1 : W1.cell? ⟨w.heap.size, 255, none⟩ = some (.int .u8 0) := by rw [hB1.cell]; exact u8C_at _ 255 (by omega)
  have hf1 : W1.frozen? ⟨w.heap.size, 255, none⟩ = false := hB1.frz 255
  have hc2 : (W1.setCell ⟨w.heap.size, 0, none⟩ (.int .u8 m)).cell? ⟨w.heap.size, 255, none⟩ = some (.int .u8 0) := by rw [hB2.cell]; exact (u8C_at _ 255 (by omega)).trans (by simp)
  have hf2 : (W1.setCell ⟨w.heap.size, 0, none⟩ (.int .u8 m)).frozen? ⟨w.heap.size, 255, none⟩ = false := hB2.frz 255
  have HP := Lib.hid h
  have HS : Hid ((wrapL m []).length = 256) := Lib.hid (wrapL_sec hm (by simp) (by simp)).1
  have HB3 := Lib.hid hB3
  have Hb3 := Lib.hid hb3
  have HW := Lib.hid hW1
  have HMK : Hid ((Instr.makeSlice 35 (.int .i64 256) (.int .i64 256)).run Try.prog w = .ok (.slice (some ⟨w.heap.size, 0, none⟩) 256 256) W1) := by
    rw [hW1]; exact Lib.hid (HM.out w)
  clear h hB1 hB2 hB3 hb1 hb2 hb3 HM hW1
  go_enter Try.func47, Try.ntmps47
  go_wp2_with (first
    | (refine wpList_run rfl (exec_makeSlice rfl HMK.out) ?_)
    | (refine wpList_copy_splice rfl _ _ 35 35 rfl 5 Try.underlying35 (by kernel_rfl) (some ⟨w.heap.size, 1, none⟩) A 254 255 n c (by rfl) (by rfl) w.heap.size 1 (byC (wrapL m [])) 5 HB3.out (byC p) (by rw [byC_len, hpl]; show n = min n 254; omega)
              (fun hq => ⟨rfl, by
                obtain ⟨g, off, e, hc⟩ := HP.out.at_ (by rw [byC_len, hpl] at hq; exact hq)
                exact ⟨_, e, (HP.out.below Hb3.out).cells _ e⟩⟩)
              (by rw [byC_len, byC_len, hpl, HS.out]; omega) (byC_one p) w.heap.size w Hb3.out (Nat.le_refl _) ?_))
  intro W2 hg hb
  have hg' := hg.out
  rw [splice_wrap m p (by omega)] at hg'
  have R : Hid (RetFull (wrapL m p) w (.returned (.slice (some ⟨w.heap.size, 0, none⟩) 256 256)) W2) := Lib.hid ⟨_, Nat.le_refl _, rfl, hg', hb⟩
  clear hg hg' hb HP HB3 Hb3 HMK HW
  go_wp2_with fail
  go_ret
  exact R.out

/-- A row of the call's own that reads as l, and a number beside it. -/
def RetOwnE (l : List Int) (x : Int) (w : World) (e : Ending) (w' : World) : Prop :=
  ∃ A n c, e = .returned (.tuple #[.slice A n c, .int .i64 x]) ∧ w'.ownsRow w.heap.size 5 1 (.slice A n c) n (l.map (Value.int .u8)) ∧ (∀ x ∈ l, 0 ≤ x ∧ x < 256) ∧ Below w.heap.size w w'
theorem RetOwnE.byt {l : List Int} {x : Int} {w : World} {e : Ending} {w' : World} (h : RetOwnE l x w e w') : RetByt2 l .i64 x w e w' := by
  obtain ⟨A, n, c, he, ho, hr, hb⟩ := h
  exact ⟨A, n, c, he, Byt.of_own ho hr, hb⟩
theorem RetOwnE.no (x : Int) {w w' : World} (h : Below w.heap.size w w') : RetOwnE [] x w (.returned (.tuple #[.slice none 0 0, .int .i64 x])) w' :=
  ⟨none, 0, 0, rfl, World.ownsRow_nil _ _ _ _, by simp, h⟩

theorem Byt.body {w : World} {g off c : Nat} {l : List Int} (h : Byt w (some ⟨g, off, none⟩) 256 c l) : Byt w (some ⟨g, off + 1, none⟩) 254 (c - 1) (bodyL l) := by
  have hcap := h.cap
  have hmax := h.max
  refine ⟨bodyL_len h.len, by omega, by omega, bodyL_rng h.rng, (fun q => nomatch q), fun _ => ⟨g, off + 1, rfl, fun i hi => ?_⟩⟩
  obtain ⟨g1, o1, e, hc⟩ := h.at_ (by omega)
  injection e with e
  injection e with e1 e2
  subst e1 e2
  have := hc (i + 1) (by omega)
  rw [show off + 1 + i = off + (i + 1) from by omega, this]
  congr 2
  unfold bodyL
  simp only [List.getD_eq_getElem?_getD, List.getElem?_take, hi, if_true, List.getElem?_drop]
  rw [show 1 + i = i + 1 from by omega]

set_option maxHeartbeats 4000000 in
theorem stOpen_own (A : Option Addr) (n c : Nat) (l : List Int) (w : World) (h : Byt w A n c l) :
    Calls Try.prog 50 #[.slice A n c] w (RetOwnE (openB l) (openE l) w) := by
  have hl := h.len
  have hcap := h.cap
  have hmax := h.max
  unfold maxLen at hmax
  by_cases hn : n = 256
  · subst hn
    obtain ⟨g, off, rfl, h0, h1⟩ := h.ends
    have ra := h.lt_ 0 (by omega)
    have rb := h.lt_ 255 (by omega)
    have HB := Lib.hid h
    have HR : Hid (rightL l ↔ l.getD 0 0 = l.getD 255 0 ∧ 1 ≤ l.getD 0 0 ∧ l.getD 0 0 ≤ 3) := Lib.hid Iff.rfl
    have HL := Lib.hid hl
    obtain ⟨a, ha⟩ : ∃ a, l.getD 0 0 = a := ⟨_, rfl⟩
    obtain ⟨b, hb⟩ : ∃ b, l.getD 255 0 = b := ⟨_, rfl⟩
    rw [ha, hb] at HR
    rw [ha] at h0 ra
    rw [hb] at h1 rb
    clear ha hb h hl
    have CI : Hid (∀ W, Calls Try.prog 67 #[.int .u8 a] W (Same (.bool (decide (1 ≤ a ∧ a ≤ 3))) W)) := Lib.hid (isStamp_any a ra)
    by_cases hab : a = b
    · subst hab
      have d1 : (a != a) = false := by simp
      by_cases hs : 1 ≤ a ∧ a ≤ 3
      · have E : Hid (openE l = 0 ∧ openB l = bodyL l) := Lib.hid ⟨openE_right HL.out (HR.out.2 ⟨rfl, hs⟩), openB_right HL.out (HR.out.2 ⟨rfl, hs⟩)⟩
        rw [E.out.1, E.out.2]
        rw [show decide (1 ≤ a ∧ a ≤ 3) = true from by simp; omega] at CI
        have CC : Hid (∀ k, Calls Try.prog 66 #[.slice (some ⟨g, off + 1, none⟩) 254 (c - 1)] (w.drewN k) (RetOwn (bodyL l) (w.drewN k))) := Lib.hid (fun k => clone_own _ 254 (c - 1) (bodyL l) (w.drewN k) (HB.out.body.drewN k) (by omega))
        clear hs E HR HL
        go_enter Try.func50, Try.ntmps50
        go_wp2_with fail
        go_quiet (first | (go_at_call 67; exact Calls.quiet_of_same ((CI.out _).mono fun _ _ h => ⟨h.1, h.2.symm⟩)))
        go_wp2_with fail
        refine (CC.out _).mono ?_
        rintro e w2 ⟨A2, n2, c2, rfl, hb2, hr2, hbel2⟩
        have R : Hid (w2.ownsRow w.heap.size 5 1 (.slice A2 n2 c2) n2 ((bodyL l).map (Value.int .u8)) ∧ (∀ x ∈ bodyL l, 0 ≤ x ∧ x < 256) ∧ Below w.heap.size w w2) := Lib.hid ⟨hb2, hr2, (below_drewN (Below.refl _ _) _).trans hbel2⟩
        clear hb2 hr2 hbel2 CC CI
        go_wp2_with fail
        go_ret2
        exact ⟨_, _, _, rfl, R.out.1, R.out.2.1, R.out.2.2⟩
      · have E : Hid (openE l = 50 ∧ openB l = []) := Lib.hid ⟨openE_torn HL.out (fun q => hs (HR.out.1 q).2), openB_bad (by rw [openE_torn HL.out (fun q => hs (HR.out.1 q).2)]; omega)⟩
        rw [E.out.1, E.out.2]
        rw [show decide (1 ≤ a ∧ a ≤ 3) = false from by simp; omega] at CI
        clear hs E HR HL
        go_enter Try.func50, Try.ntmps50
        go_wp2_with fail
        go_quiet (first | (go_at_call 67; exact Calls.quiet_of_same ((CI.out _).mono fun _ _ h => ⟨h.1, h.2.symm⟩)))
        go_wp2_with fail
        go_ret2
        exact RetOwnE.no _ (below_drewN (Below.refl _ _) _)
    · have d1 : (a != b) = true := by simpa using hab
      have E : Hid (openE l = 50 ∧ openB l = []) := Lib.hid ⟨openE_torn HL.out (fun q => hab (HR.out.1 q).1), openB_bad (by rw [openE_torn HL.out (fun q => hab (HR.out.1 q).1)]; omega)⟩
      rw [E.out.1, E.out.2]
      clear E HR HL CI
      go_enter Try.func50, Try.ntmps50
      go_wp2_with fail
      go_quiet (fail)
      go_wp2_with fail
      go_ret2
      exact RetOwnE.no _ (below_drewN (Below.refl _ _) _)
  · have E : Hid (openE l = 12 ∧ openB l = []) := Lib.hid ⟨openE_len (by omega), openB_bad (by rw [openE_len (by omega)]; omega)⟩
    have hd : ((n : Int) != 256) = true := by simp; omega
    rw [E.out.1, E.out.2]
    clear h hl E
    go_enter Try.func50, Try.ntmps50
    go_wp2_with fail
    go_ret2
    exact RetOwnE.no _ (Below.refl _ _)

theorem stOpen_any (A : Option Addr) (n c : Nat) (l : List Int) (w : World) (h : Byt w A n c l) :
    Calls Try.prog 50 #[.slice A n c] w (RetByt2 (openB l) .i64 (openE l) w) := (stOpen_own A n c l w h).mono fun _ _ h => h.byt
end Go.Proofs.Ytomhofppcogojaa

/- disk.New hands back a new disk of noughts, or the error. -/
namespace Go.Proofs.Ytomhofppcogojaa
open Go.RowKit

/-- A new disk's cells. -/
def newC (n : Int) (mb : Nat) : Array Value := #[.int .i64 n, .map (some mb), .slice none 0 0, .int .i64 (-1), .bool false, .int .i64 0]

theorem newDisk_any (n : Int) (mb : Nat) (w : World) :
    Calls Try.prog 25 #[.int .i64 n, .map (some mb)] w (fun e w' => e = .returned (.pointer (some ⟨w.heap.size, 0, none⟩)) ∧ w' = w.alloc (.cells (newC n mb) 79)) := by
  unfold newC
  go_enter Try.func25, Try.ntmps25
  go_wp2_with fail
  go_ret
  exact ⟨rfl, rfl⟩

/-- A disk on which everything is synchronized. -/
def St.still (s : St) : Prop := s.pend = [] ∧ s.left = -1 ∧ s.gone = false ∧ s.syncs = 0

theorem new_dsk {w w1 : World} {mb : Nat} {s : St} (hs : s.still) (ok : s.Ok) (hm : MapFn w1 mb (secV zeros) (fun n => secV (s.syn n))) (hlow : w.heap.size ≤ mb) (hb : Below w.heap.size w w1) :
    (dsk w1.heap.size s).is (w1.alloc (.cells (newC s.num mb) 79)) (fresh w (w1.alloc (.cells (newC s.num mb) 79))) ∧ Below w.heap.size w (w1.alloc (.cells (newC s.num mb) 79)) := by
  obtain ⟨h1, h2, h3, h4⟩ := hs
  have hsz : (w1.alloc (.cells (newC s.num mb) 79)).heap.size = w1.heap.size + 1 := by simp
  refine ⟨⟨mb, none, 0, ?_, ?_, ?_, ⟨hb.size, by omega⟩, ⟨hlow, by have := hm.lt; omega⟩, ?_, fun k f => f.2, ok, ?_⟩, hb.alloc hb.size _⟩
  · rw [h1, h2, h3, h4]
    exact heap_alloc_new _ _
  · exact hm.eq (Below.heap_alloc _ _ _ hm.lt)
  · rw [h1]
    exact World.ownsRow_nil _ _ _ _
  · intro k hk
    simp [Value.ownBlock] at hk
  · rw [h1, h4]
    simp

/-- A new disk, all of it new memory. -/
def RetNew (s : St) (w : World) (e : Ending) (w' : World) : Prop := ∃ b, e = .returned (.tuple #[.pointer (some ⟨b, 0, none⟩), .int .i64 0]) ∧ (dsk b s).is w' (fresh w w') ∧ Below w.heap.size w w'

set_option maxHeartbeats 1000000 in
theorem new_any (n : Nat) (hn : 1 ≤ n ∧ n ≤ 4096) (w : World) : Calls Try.prog 9 #[.int .i64 n] w (RetNew (St.new n) w) := by
  have hR := (new_dsk (w := w) (w1 := w.alloc (.map #[] 0)) (mb := w.heap.size) (s := St.new n) ⟨rfl, rfl, rfl, rfl⟩ (St.new_ok hn) (MapFn.new w _) (Nat.le_refl _) ((Below.refl _ _).alloc (Nat.le_refl _) _))
  rw [show (w.alloc (.map #[] 0)).heap.size = w.heap.size + 1 from by simp] at hR
  have R := Lib.hid hR
  obtain ⟨h1, h2⟩ := hn
  have hmm := @run_makeMap Try.prog
  clear hR
  go_enter Try.func9, Try.ntmps9
  go_wp2_with fail
  refine (newDisk_any n _ _).mono ?_
  rintro e w' ⟨rfl, rfl⟩
  go_wp2_with fail
  go_ret2
  exact ⟨_, rfl, R.out⟩

theorem new_bad (n : Int) (hn : n < 1 ∨ 4096 < n) (w : World) : Calls Try.prog 9 #[.int .i64 n] w (Same (.tuple #[.pointer none, .int .i64 1]) w) := by
  by_cases h1 : n < 1
  · go_enter Try.func9, Try.ntmps9
    go_wp2_with fail
    go_ret2
    exact ⟨rfl, rfl⟩
  · have h2 : 4096 < n := by omega
    clear hn
    go_enter Try.func9, Try.ntmps9
    go_wp2_with fail
    go_ret2
    exact ⟨rfl, rfl⟩
end Go.Proofs.Ytomhofppcogojaa

/- a slice of ints that came in: what it reads as. -/
namespace Go.Proofs.Ytomhofppcogojaa
open Go.ChangeShapes Go.WideShapes Go.ChangeAt Go.RowKit

/-- The slice reads as these ints. -/
structure Nts (w : World) (A : Option Addr) (n c : Nat) (l : List Int) : Prop where
  len : l.length = n
  cap : n ≤ c
  max : c ≤ maxLen
  rng : ∀ i, i < n → -9223372036854775808 ≤ l.getD i 0 ∧ l.getD i 0 ≤ 9223372036854775807
  at_ : 0 < n → ∃ g off, A = some ⟨g, off, none⟩ ∧ ∀ i, i < n → w.cell? ⟨g, off + i, none⟩ = some (.int .i64 (l.getD i 0))

theorem Nts.below {w w' : World} {A : Option Addr} {n c : Nat} {l : List Int} (h : Nts w A n c l) (hb : Below w.heap.size w w') : Nts w' A n c l :=
  ⟨h.len, h.cap, h.max, h.rng, fun hn => by
    obtain ⟨g, off, e, hc⟩ := h.at_ hn
    exact ⟨g, off, e, fun i hi => (hb.cell (World.block_lt_of_cell? w _ (hc i hi))).trans (hc i hi)⟩⟩

theorem cells_int : Try.prog.cellsOf 3 = 1 := by kernel_rfl

theorem wf_i64 {x : Int} (h : (Lit.int .i64 x).wf = true) : -9223372036854775808 ≤ x ∧ x ≤ 9223372036854775807 := by
  simp [Lit.wf, IntKind.min, IntKind.max, IntKind.signed, IntKind.bits] at h
  exact ⟨by omega, by omega⟩

theorem open_i64s {H : Type} {enc : TypeId × Value → H} {W : World} {a : Option Addr} {n c : Nat} {d : DataW H} {p : List MemPlace} (h : DataW.Trod enc Try.prog W 0 (fun _ => true) true 50 (.slice a n c) d p) :
    ∃ l, Nts W a n c l := by
  obtain ⟨fuel, hf⟩ := h
  rcases open_ints Try.underlying50 Try.underlying3 cells_int hf with ⟨hcs, _⟩ | ⟨x, len, cap, zs, hcs, _, hl, hm, hz, hx, hcell, hwz⟩
  · simp [Value.cells] at hcs
    obtain ⟨rfl, rfl, rfl⟩ := hcs
    exact ⟨[], rfl, Nat.le_refl _, Nat.zero_le _, fun i hi => absurd hi (by omega), fun h => absurd h (by omega)⟩
  · simp [Value.cells] at hcs
    obtain ⟨rfl, rfl, rfl⟩ := hcs
    have hzl : zs.length = c := by simpa using hz
    have hget : ∀ i, i < n → (zs.take n).getD i 0 = zs.getD i 0 := fun i hi => by simp [List.getD, hi]
    refine ⟨zs.take n, by simp; omega, hl, hm, fun i hi => ?_, fun hn => ?_⟩
    · rw [hget i hi]
      have hi' : i < zs.length := by omega
      have e : zs.getD i 0 = zs[i] := by simp [List.getD, List.getElem?_eq_getElem hi']
      rw [e]
      exact wf_i64 (hwz _ (List.getElem_mem hi'))
    obtain ⟨g, off, spot⟩ := x
    have hspot : spot = none := by simpa [Addr.add] using World.cell?_spot (hcell 0 (by omega))
    subst hspot
    refine ⟨g, off, rfl, fun i hi => ?_⟩
    have h1 := hcell i (by omega)
    have hadd : (⟨g, off, none⟩ : Addr).add i = ⟨g, off + i, none⟩ := by unfold Addr.add; split <;> simp_all
    rw [hadd] at h1
    rw [h1, hget i hi]
end Go.Proofs.Ytomhofppcogojaa

/- disk.lastingBytes tells how much a crash leaves of each pending write. -/
namespace Go.Proofs.Ytomhofppcogojaa
open Go.RowKit

/-- The ints f 0 .. f (m - 1), as cells. -/
def natC (f : Nat → Int) (m : Nat) : Array Value := ((List.range m).map fun i => Value.int .i64 (f i)).toArray
theorem natC_size (f : Nat → Int) (m : Nat) : (natC f m).size = m := by simp [natC]
theorem natC_at (f : Nat → Int) (m i : Nat) (h : i < m) : (natC f m)[i]? = some (.int .i64 (f i)) := by simp [natC, h]
theorem natC_set (f : Nat → Int) (m j : Nat) (v : Int) : (natC f m).setIfInBounds j (.int .i64 v) = natC (fun i => if i = j then v else f i) m := by
  apply Array.ext_getElem?
  intro i
  rw [Array.getElem?_setIfInBounds]
  by_cases hi : i < m
  · rw [natC_at _ m i hi, natC_at _ m i hi, natC_size]
    by_cases e : j = i
    · subst e; simp [hi]
    · rw [if_neg e]
      have : ¬ i = j := fun q => e q.symm
      simp [this]
  · have h1 : (natC f m)[i]? = none := Array.getElem?_eq_none (by rw [natC_size]; omega)
    have h2 : (natC (fun i => if i = j then v else f i) m)[i]? = none := Array.getElem?_eq_none (by rw [natC_size]; omega)
    rw [h1, h2]
    split <;> (try rfl)
    rw [if_neg (by rw [natC_size]; omega)]
theorem natC_zero (m : Nat) : madeCells #[.int .i64 0] m = natC (fun _ => 0) m := by
  apply Array.toList_inj.1
  rw [toList_madeCells_one]
  show List.replicate m (Value.int .i64 0) = (List.range m).map fun _ => Value.int .i64 0
  rw [List.map_const']
  simp

theorem info_int : (Try.prog.info? 3).map (fun i => (i.zero, i.size, i.bytes)) = some (some (.int .i64 0), 1, 8) := by kernel_rfl

theorem make_ints (n : Nat) (hn : n ≤ 1000000) (W : World) : (Instr.makeSlice 50 (.int .i64 (n : Int)) (.int .i64 (n : Int))).run Try.prog W =
    .ok (.slice (some ⟨W.heap.size, 0, none⟩) n n) (W.alloc (.cells (natC (fun _ => 0) n) 3)) := by
  obtain ⟨i0, hi, hz0, hz1, hz2⟩ := info_parts info_int
  have := run_make (P := Try.prog) W 50 3 i0 (.int .i64 0) Try.underlying50 hi hz0 .i64 .i64 n n (by omega) (by omega) (by rw [hz2]; omega) (by omega)
  rw [this, hz1, Int.toNat_natCast, Nat.mul_one]
  show Result.ok _ (W.alloc (.cells (madeCells #[.int .i64 0] n) _)) = _
  rw [natC_zero]

/-- A crash as a value. -/
def crsV (KA : Option Addr) (kn kc : Nat) (c : Crs) : Array Value := #[.slice KA kn kc, .bool c.torn, .int .i64 c.cut]

/-- What lastingBytes hands back. -/
def RetLast (f : Nat → Int) (m : Nat) (w : World) (e : Ending) (w' : World) : Prop :=
  ∃ g, w.heap.size ≤ g ∧ e = .returned (.slice (some ⟨g, 0, none⟩) m m) ∧ Bk w' g 3 (natC f m) ∧ Below w.heap.size w w'

/-- Kept by the first k. -/
def keptBy (l : List Int) (k i : Nat) : Int := if (i : Int) ∈ l.take k then 256 else 0

theorem natC_congr {f g : Nat → Int} {m : Nat} (h : ∀ i, i < m → f i = g i) : natC f m = natC g m := by
  unfold natC
  congr 1
  refine List.map_congr_left fun i hi => ?_
  rw [h i (by simpa using hi)]

theorem keptBy_next (l : List Int) (k : Nat) (hk : k < l.length) (i : Nat) : keptBy l (k + 1) i = if (i : Int) = l.getD k 0 then 256 else keptBy l k i := by
  have e : l.getD k 0 = l[k] := by simp [List.getD, List.getElem?_eq_getElem hk]
  unfold keptBy
  rw [e, List.take_succ_eq_append_getElem hk]
  simp only [List.mem_append, List.mem_singleton]
  by_cases h : (i : Int) = l[k]
  · rw [if_pos (.inr h), if_pos h]
  · rw [if_neg h]
    by_cases h2 : (i : Int) ∈ l.take k
    · rw [if_pos (.inl h2), if_pos h2]
    · rw [if_neg (fun q => q.elim h2 h), if_neg h2]

theorem of_kept (c : Crs) (m i : Nat) (h : ¬ (c.torn = true ∧ i + 1 = m)) : ((c.of m i : Nat) : Int) = keptBy c.keep c.keep.length i := by
  unfold Crs.of keptBy
  rw [if_neg h, List.take_length]
  split <;> rfl

theorem of_torn (c : Crs) (m : Nat) (h : c.torn = true) (hm : 0 < m) : c.of m (m - 1) = clamp c.cut := by
  unfold Crs.of
  rw [if_pos ⟨h, by omega⟩]

/-- In the first loop. -/
structure LastRel (w : World) (cv : Array Value) (g m : Nat) (l : List Int) (k : Nat) (wr : World) : Prop where
  blk : Bk wr g 3 (natC (keptBy l k) m)
  box : Bk wr w.heap.size 52 cv
  low : w.heap.size < g
  bel : Below w.heap.size w wr

theorem LastRel.skip {w wr : World} {cv : Array Value} {g m k : Nat} {l : List Int} (h : LastRel w cv g m l k wr) (hk : k < l.length) (hx : l.getD k 0 < 0 ∨ (m : Int) ≤ l.getD k 0) : LastRel w cv g m l (k + 1) wr := by
  refine ⟨?_, h.box, h.low, h.bel⟩
  rw [natC_congr (g := keptBy l k) (fun i hi => by rw [keptBy_next l k hk, if_neg (by omega)])]
  exact h.blk

theorem LastRel.set {w wr : World} {cv : Array Value} {g m k j : Nat} {l : List Int} (h : LastRel w cv g m l k wr) (hk : k < l.length) (hx : l.getD k 0 = (j : Int)) : LastRel w cv g m l (k + 1) (wr.setCell ⟨g, j, none⟩ (.int .i64 256)) := by
  refine ⟨?_, h.box.eq (Below.heap_setCell _ _ _ _ (by have := h.low; show w.heap.size ≠ g; omega)), h.low, h.bel.setCell (Nat.le_of_lt h.low) _⟩
  have := h.blk.setc j (.int .i64 256)
  rw [natC_set] at this
  rw [natC_congr (g := fun i => if i = j then (256 : Int) else keptBy l k i) (fun i hi => by
    rw [keptBy_next l k hk, hx]
    by_cases q : i = j
    · subst q; simp
    · rw [if_neg q, if_neg (by omega)])]
  exact this

theorem LastRel.done {w wr : World} {cv : Array Value} {g m : Nat} {c : Crs} (h : LastRel w cv g m c.keep c.keep.length wr) (ht : c.torn = false ∨ m = 0) : RetLast (fun i => (c.of m i : Int)) m w (.returned (.slice (some ⟨g, 0, none⟩) m m)) wr := by
  refine ⟨g, Nat.le_of_lt h.low, rfl, ?_, h.bel⟩
  rw [natC_congr (g := keptBy c.keep c.keep.length) (fun i hi => of_kept c m i (by
    rintro ⟨q1, q2⟩
    rcases ht with ht | ht
    · rw [ht] at q1; cases q1
    · omega))]
  exact h.blk

theorem LastRel.torn {w wr : World} {cv : Array Value} {g m : Nat} {c : Crs} (h : LastRel w cv g m c.keep c.keep.length wr) (ht : c.torn = true) (hm : 0 < m) (v : Int) (hv : v = (clamp c.cut : Nat)) : RetLast (fun i => (c.of m i : Int)) m w (.returned (.slice (some ⟨g, 0, none⟩) m m)) (wr.setCell ⟨g, m - 1, none⟩ (.int .i64 v)) := by
  subst hv
  refine ⟨g, Nat.le_of_lt h.low, rfl, ?_, h.bel.setCell (Nat.le_of_lt h.low) _⟩
  have := h.blk.setc (m - 1) (.int .i64 (clamp c.cut : Nat))
  rw [natC_set] at this
  rw [natC_congr (g := fun i => if i = m - 1 then ((clamp c.cut : Nat) : Int) else keptBy c.keep c.keep.length i) (fun i hi => by
    by_cases q : i = m - 1
    · subst q
      rw [if_pos rfl, of_torn c m ht hm]
    · rw [if_neg q]
      exact of_kept c m i (by rintro ⟨_, q2⟩; omega))]
  exact this

theorem clamp_eq (c : Int) : ((clamp c : Nat) : Int) = min (max c 0) 256 := by unfold clamp; omega

set_option maxRecDepth 100000 in
set_option maxHeartbeats 2000000 in
theorem last_any (m : Nat) (KA : Option Addr) (kn kc : Nat) (c : Crs) (w : World) (hm : m < 1000000) (hk : Nts w KA kn kc c.keep) (hcut : -9223372036854775808 ≤ c.cut ∧ c.cut ≤ 9223372036854775807) :
    Calls Try.prog 42 #[.int .i64 m, .agg (crsV KA kn kc c)] w (RetLast (fun i => (c.of m i : Int)) m w) := by
  obtain ⟨keep, torn, cut⟩ := c
  unfold crsV
  have hmk := fun W => make_ints m (by omega) W
  have hkmax := hk.max
  have hkcap := hk.cap
  unfold maxLen at hkmax
  have hb1 : Below w.heap.size w ((w.alloc (.cells #[.slice KA kn kc, .bool torn, .int .i64 cut] 52)).alloc (.cells (natC (fun _ => 0) m) 3)) := ((Below.refl _ _).alloc (Nat.le_refl _) _).alloc (by simp) _
  have HB := Lib.hid hb1
  have R0 : Hid (LastRel w #[.slice KA kn kc, .bool torn, .int .i64 cut] (w.heap.size + 1) m keep 0 ((w.alloc (.cells #[.slice KA kn kc, .bool torn, .int .i64 cut] 52)).alloc (.cells (natC (fun _ => 0) m) 3))) :=
    Lib.hid ⟨by
      have h := heap_alloc_new (w.alloc (.cells #[.slice KA kn kc, .bool torn, .int .i64 cut] 52)) (.cells (natC (fun _ => 0) m) 3)
      have e : natC (keptBy keep 0) m = natC (fun _ => 0) m := by
        unfold natC keptBy
        simp
      unfold Bk
      rw [e]
      simpa using h, heap_alloc2_old _ _ _, by omega, hb1⟩
  have HK := Lib.hid hk
  obtain ⟨mx, hmx⟩ : ∃ mx, max cut 0 = mx := ⟨_, rfl⟩
  clear hb1 hk
  go_enter Try.func42, Try.ntmps42
  go_wp2_with fail
  go_loopw [13] (fun q wr => ∃ k : Nat, k ≤ kn ∧ q = .int .i64 k ∧ LastRel w #[.slice KA kn kc, .bool torn, .int .i64 cut] (w.heap.size + 1) m keep k wr) (fun q _ => kn - (intOf q).toNat)
  case atStart => exact ⟨0, Nat.zero_le _, rfl, R0.out⟩
  case round =>
    obtain ⟨k, hkn, rfl, hr⟩ := hrel
    have HR := Lib.hid hr
    clear hr
    by_cases hlt : k < kn
    · obtain ⟨kg, koff, rfl, hc⟩ := HK.out.at_ (by omega)
      have hl : k < keep.length := by have : keep.length = kn := HK.out.len; omega
      have hx : wr.cell? ⟨kg, koff + k, none⟩ = some (.int .i64 (keep.getD k 0)) := (HR.out.bel.cell (World.block_lt_of_cell? w _ (hc k hlt))).trans (hc k hlt)
      have hrng : -9223372036854775808 ≤ keep.getD k 0 ∧ keep.getD k 0 ≤ 9223372036854775807 := HK.out.rng k hlt
      obtain ⟨x, ex⟩ : ∃ x, keep.getD k 0 = x := ⟨_, rfl⟩
      rw [ex] at hx hrng
      clear hc
      by_cases hx0 : x < 0
      · have R := Lib.hid (HR.out.skip hl (by rw [ex]; exact .inl hx0))
        clear ex hl
        go_wp2_with fail
        go_roundw
        case rel => exact ⟨k + 1, by omega, by go_num, R.out⟩
        case measure => simp [intOf]; omega
      · by_cases hxm : (m : Int) ≤ x
        · have R := Lib.hid (HR.out.skip hl (by rw [ex]; exact .inr hxm))
          clear ex hl
          go_wp2_with fail
          go_roundw
          case rel => exact ⟨k + 1, by omega, by go_num, R.out⟩
          case measure => simp [intOf]; omega
        · obtain ⟨j, rfl⟩ := Int.eq_ofNat_of_zero_le (Int.not_lt.1 hx0)
          have R := Lib.hid (HR.out.set hl ex)
          have hjc : wr.cell? ⟨w.heap.size + 1, j, none⟩ = some (.int .i64 (keptBy keep k j)) := by rw [HR.out.blk.cell]; exact natC_at _ _ _ (by omega)
          have hjf : wr.frozen? ⟨w.heap.size + 1, j, none⟩ = false := HR.out.blk.frz j
          have hj0 : (0 : Int) ≤ (j : Int) := Int.natCast_nonneg _
          have hjm : (j : Int) < (m : Int) := by omega
          clear ex hl hxm hx0
          go_wp2_with fail
          go_roundw
          case rel => exact ⟨k + 1, by omega, by go_num, R.out⟩
          case measure => simp [intOf]; omega
    · have hlen : keep.length = k := by have : keep.length = kn := HK.out.len; omega
      have hb1 : wr.cell? ⟨w.heap.size, 1, none⟩ = some (.bool torn) := HR.out.box.cell 1
      have hb2 : wr.cell? ⟨w.heap.size, 2, none⟩ = some (.int .i64 cut) := HR.out.box.cell 2
      have HD : Hid (torn = false ∨ m = 0 → RetLast (fun i => (Crs.of ⟨keep, torn, cut⟩ m i : Int)) m w (.returned (.slice (some ⟨w.heap.size + 1, 0, none⟩) m m)) wr) := Lib.hid (fun ht => LastRel.done (c := ⟨keep, torn, cut⟩) (by show LastRel _ _ _ _ keep keep.length _; rw [hlen]; exact HR.out) ht)
      have HT : Hid (torn = true → 0 < m → ∀ v : Int, v = (clamp cut : Nat) → RetLast (fun i => (Crs.of ⟨keep, torn, cut⟩ m i : Int)) m w (.returned (.slice (some ⟨w.heap.size + 1, 0, none⟩) m m)) (wr.setCell ⟨w.heap.size + 1, m - 1, none⟩ (.int .i64 v))) := Lib.hid (fun ht hm0 v hv => LastRel.torn (c := ⟨keep, torn, cut⟩) (by show LastRel _ _ _ _ keep keep.length _; rw [hlen]; exact HR.out) ht hm0 v hv)
      cases torn with
      | false =>
        have R := Lib.hid (HD.out (.inl rfl))
        clear HD HT hlen
        go_wp2_with fail
        go_ret
        exact R.out
      | true =>
        by_cases hm0 : m = 0
        · subst hm0
          have R := Lib.hid (HD.out (.inr rfl))
          clear HD HT hlen
          go_wp2_with fail
          go_ret
          exact R.out
        · obtain ⟨m', rfl⟩ : ∃ m', m = m' + 1 := ⟨m - 1, by omega⟩
          have hjc : wr.cell? ⟨w.heap.size + 1, m', none⟩ = some (.int .i64 (keptBy keep k m')) := by rw [HR.out.blk.cell]; exact natC_at _ _ _ (by omega)
          have hjf : wr.frozen? ⟨w.heap.size + 1, m', none⟩ = false := HR.out.blk.frz m'
          clear hlen hm0
          by_cases h1 : cut < 0
          · have R := Lib.hid (HT.out rfl (by omega) 0 (by unfold clamp; omega))
            clear HD HT
            go_wp2_with fail
            all_goals first | omega | skip
            go_ret
            exact R.out
          · by_cases h2 : 256 < cut
            · have R := Lib.hid (HT.out rfl (by omega) 256 (by unfold clamp; omega))
              clear HD HT
              go_wp2_with fail
              all_goals first | omega | skip
              go_ret
              exact R.out
            · have R := Lib.hid (HT.out rfl (by omega) cut (by unfold clamp; omega))
              clear HD HT
              go_wp2_with fail
              all_goals first | omega | skip
              go_ret
              exact R.out
end Go.Proofs.Ytomhofppcogojaa

/- maps.Clone of a map of sectors: a new map with the same entries. -/
namespace Go.Proofs.Ytomhofppcogojaa
open Go.RowKit

set_option maxRecDepth 100000 in
set_option maxHeartbeats 2000000 in
theorem clone_any (b : Nat) (es : Array MapEntry) (clock : Nat) (w : World) (hb : w.heap[b]? = some (.map es clock)) :
    Calls Try.prog 41 #[.map (some b)] w (fun e w' => e = .returned (.map (some w.heap.size)) ∧ w' = w.alloc (.map es clock)) := by
  have hq := fun w => run_eql_map_nil_sl (P := Try.prog) w 65 _ _ (some b) Try.underlying65
  go_enter Try.func41, Try.ntmps41
  go_wp2
  rw [run_callFunc_extern (fn := Try.f60) (by rfl) (by kernel_rfl) (by kernel_rfl) (by kernel_rfl) (e := Extern.MapsClone.clone) (by kernel_rfl), run_maps_clone_sl w 65 hb]
  simp only [Result.andThen]
  rw [Oper.upon_value]
  go_wp2
  rw [run_typeAssert_map_sl _ 65 20 _ _ _ Try.underlying65]
  simp only [Result.andThen]
  rw [Oper.upon_value]
  go_wp2
  go_ret
  exact ⟨rfl, rfl⟩
end Go.Proofs.Ytomhofppcogojaa

/- disk.Crash hands back the disk that the plain one's crash leaves, all of it new memory. -/
namespace Go.Proofs.Ytomhofppcogojaa
open Go.RowKit

/-- In the loop over the pending writes. -/
structure CrashRel (w w3 : World) (nm : Nat) (s : St) (cut : Nat → Nat) (k : Nat) (wr : World) : Prop where
  map : MapFn wr nm (secV zeros) (fun n => secV (s.left_ cut k n))
  fr : Fr (fun q => q = nm) w3 wr
  low : w.heap.size ≤ nm
  bel : Below w.heap.size w w3

theorem CrashRel.below {w w3 wr : World} {nm : Nat} {s : St} {cut : Nat → Nat} {k : Nat} (h : CrashRel w w3 nm s cut k wr) : Below w.heap.size w wr := h.bel.trans (h.fr.below h.bel.size (fun q e => e ▸ h.low))

theorem CrashRel.step {w w3 wr w2 w4 : World} {nm : Nat} {s : St} {cut : Nat → Nat} {k : Nat} (h : CrashRel w w3 nm s cut k wr) (hb : Below wr.heap.size wr w2)
    (hm : MapFn w4 nm (secV zeros) (fun m => if m = (s.at_ k).1 then secV (over (s.at_ k).2 (s.left_ cut k (s.at_ k).1) (cut k)) else secV (s.left_ cut k m))) (hf : Fr (fun q => q = nm) w2 w4) : CrashRel w w3 nm s cut (k + 1) w4 := by
  refine ⟨?_, (h.fr.then (Fr.of_below hb)).then hf, h.low, h.bel⟩
  have e : (fun n => secV (s.left_ cut (k + 1) n)) = fun m => if m = (s.at_ k).1 then secV (over (s.at_ k).2 (s.left_ cut k (s.at_ k).1) (cut k)) else secV (s.left_ cut k m) := by
    funext m
    show secV (upd (s.left_ cut k) (s.at_ k).1 _ m) = _
    unfold upd
    split <;> rfl
  rw [e]
  exact hm

/-- What Crash hands back. -/
def RetCrash (s : St) (w : World) (e : Ending) (w' : World) : Prop := ∃ b, e = .returned (.pointer (some ⟨b, 0, none⟩)) ∧ (dsk b s).is w' (fresh w w') ∧ Below w.heap.size w w'

theorem CrashRel.done {w w3 wr : World} {nm : Nat} {s : St} {c : Crs} (h : CrashRel w w3 nm s (c.of s.pend.length) s.pend.length wr) (ok : s.Ok) :
    RetCrash (s.crash c) w (.returned (.pointer (some ⟨wr.heap.size, 0, none⟩))) (wr.alloc (.cells (newC s.num nm) 79)) :=
  ⟨_, rfl, new_dsk (s := s.crash c) ⟨rfl, rfl, rfl, rfl⟩ (ok.crash c) h.map h.low h.below⟩

theorem splice_over (l m : List Int) (k : Nat) (hl : Sec l) (hm : Sec m) (hk : k ≤ 256) : splice (byC m) 0 ((byC l).take k) = byC (over l m k) := by
  have h1 : ((byC l).take k).length = k := by simp [byC_len, hl.1]; omega
  unfold splice over byC
  simp only [List.take_zero, List.nil_append, Nat.zero_add, List.map_append, List.map_take, List.map_drop]
  have h2 : ((l.map (Value.int .u8)).take k).length = k := h1
  rw [h2]

theorem info_byte : (Try.prog.info? 5).map (fun i => (i.zero, i.size, i.bytes)) = some (some (.int .u8 0), 1, 1) := by kernel_rfl
theorem slice_head (g o k : Nat) (hk : k ≤ 256) (w : World) : (Instr.sliceAt 81 (.pointer (some ⟨g, o, none⟩)) none (some (.int .i64 (k : Int))) none).run Try.prog w = .ok (.slice (some ⟨g, o, none⟩) k 256) w := by
  obtain ⟨i0, hi, hz0, hz1, hz2⟩ := info_parts info_byte
  have h1 : (0 ≤ (k : Int) ∧ (k : Int) ≤ ((256 : Nat) : Int)) := by omega
  simp [Instr.sliceAt, Instr.sureAddr, Instr.sliceBounds, Instr.sliceBound, asIntOf, run_underlying (P := Try.prog) Try.underlying81, Result.andThen, sizeOf, typeInfo, hi, hz1, Addr.add]
  rw [if_pos hk]
theorem slice_whole (g o : Nat) (w : World) : (Instr.sliceAt 81 (.pointer (some ⟨g, o, none⟩)) none none none).run Try.prog w = .ok (.slice (some ⟨g, o, none⟩) 256 256) w := by
  obtain ⟨i0, hi, hz0, hz1, hz2⟩ := info_parts info_byte
  simp [Instr.sliceAt, Instr.sureAddr, Instr.sliceBounds, run_underlying (P := Try.prog) Try.underlying81, Result.andThen, sizeOf, typeInfo, hi, hz1, Addr.add]

set_option maxRecDepth 100000 in
set_option maxHeartbeats 4000000 in
theorem crash_any (w : World) (F : Nat → Prop) (b mb : Nat) (A : Option Addr) (ca : Nat) (s : St) (h : DskB w F b mb A ca s) (KA : Option Addr) (kn kc : Nat) (c : Crs) (hk : Nts w KA kn kc c.keep) (hcut : -9223372036854775808 ≤ c.cut ∧ c.cut ≤ 9223372036854775807) :
    Calls Try.prog 23 #[.pointer (some ⟨b, 0, none⟩), .agg (crsV KA kn kc c)] w (RetCrash (s.crash c) w) := by
  obtain ⟨i0, hi, hz0, hz1, hz2⟩ := info_parts info_wr
  have hpl1 := h.lim.1
  have HOK := Lib.hid h.ok
  have hcmax : ca ≤ 9223372036854775807 := by
    rcases h.row.2 with ⟨hv, _⟩ | ⟨g, cap, cur, hv, _, _, _, hm, _⟩
    · injection hv with _ _ e3; omega
    · injection hv with _ _ e3; unfold maxLen at hm; omega
  have hu := Try.underlying86
  have hus := Try.underlying81
  have huw := Try.underlying65
  have hui := Try.underlying3
  have HZ := Lib.hid (show ∀ w, (zeroValue 86).run Try.prog w = .ok (.agg (wrC (0, zeros)).toArray) w from fun w => by simp [zeroValue, typeInfo, hi, hz0])
  have HZS := Lib.hid (fun w => zero_secA w)
  have HZM := Lib.hid (fun w => zero_sec w)
  have hz257 : (wrC (0, zeros)).toArray.size = 257 := by simp [wrC_len (p := (0, zeros)) zeros_sec]
  have HI : Hid ((Try.prog.info? 86).map (·.size) = some 257) := Lib.hid (by rw [hi]; simp [hz1])
  obtain ⟨es, clock, hes, hkeys, hgets⟩ := h.map
  -- behind the box
  have hB1 : Below w.heap.size w (w.alloc (.cells (crsV KA kn kc c) 52)) := (Below.refl _ _).alloc (Nat.le_refl _) _
  have h1 := h.below hB1
  obtain ⟨W1, hW1⟩ : ∃ W1, W1 = w.alloc (.cells (crsV KA kn kc c) 52) := ⟨_, rfl⟩
  have hbox : W1.heap[w.heap.size]? = some (.cells (crsV KA kn kc c) 52 (0, 0)) := by rw [hW1]; exact heap_alloc_new _ _
  have hsz1 : W1.heap.size = w.heap.size + 1 := by rw [hW1]; simp
  rw [← hW1] at h1 hB1
  have hes1 : W1.heap[mb]? = some (.map es clock) := (hB1.block mb h.map.lt).trans hes
  -- behind the clone
  have hB2 : Below w.heap.size w (W1.alloc (.map es clock)) := hB1.alloc (by omega) _
  have h2 := h1.below ((Below.refl W1.heap.size W1).alloc (Nat.le_refl _) (.map es clock))
  have hm2 : MapFn (W1.alloc (.map es clock)) W1.heap.size (secV zeros) (fun n => secV (s.syn n)) := ⟨es, clock, heap_alloc_new _ _, hkeys, hgets⟩
  have hbox2 : (W1.alloc (.map es clock)).heap[w.heap.size]? = some (.cells (crsV KA kn kc c) 52 (0, 0)) := (Below.heap_alloc W1 _ w.heap.size (by omega)).trans hbox
  obtain ⟨W2, hW2⟩ : ∃ W2, W2 = W1.alloc (.map es clock) := ⟨_, rfl⟩
  rw [← hW2] at hB2 h2 hm2 hbox2
  have C1 := Lib.hid (clone_any mb es clock W1 hes1)
  have hk2 : Nts W2.drew KA kn kc c.keep := hk.below hB2.drew
  have C2 := Lib.hid (last_any s.pend.length KA kn kc c W2.drew h.lim.1 hk2 hcut)
  have hW1c1 : W1.cell? ⟨b, 1, none⟩ = some (.map (some mb)) := h1.blk.cell 1
  have hW2c2 : W2.cell? ⟨b, 2, none⟩ = some (.slice A s.pend.length ca) := h2.blk.cell 2
  have hW2b0 : W2.cell? ⟨w.heap.size, 0, none⟩ = some (.slice KA kn kc) := (cell_of_row _ _ _ _ _ _ hbox2).trans rfl
  have hW2b1 : W2.cell? ⟨w.heap.size, 1, none⟩ = some (.bool c.torn) := (cell_of_row _ _ _ _ _ _ hbox2).trans rfl
  have hW2b2 : W2.cell? ⟨w.heap.size, 2, none⟩ = some (.int .i64 c.cut) := (cell_of_row _ _ _ _ _ _ hbox2).trans rfl
  have H2 := Lib.hid h2
  have HNM : Hid (w.heap.size < W1.heap.size) := Lib.hid (by omega)
  obtain ⟨nm, hnm⟩ : ∃ nm, W1.heap.size = nm := ⟨_, rfl⟩
  rw [hnm] at hm2 C1 HNM
  have HM2 := Lib.hid hm2
  have HB2 := Lib.hid hB2
  clear h h1 hes hkeys hgets hes1 hk hk2 h2 hm2 hB1 hB2 hbox hbox2
  have HW1 := Lib.hid hW1
  have HW2 := Lib.hid hW2
  clear hW1 hW2
  have HCV : Hid (∃ cv, cv = crsV KA kn kc c) := Lib.hid ⟨_, rfl⟩
  obtain ⟨cv, hcv⟩ := HCV.out
  have HCVE := Lib.hid hcv
  rw [← hcv] at C2 HW1 ⊢
  clear hcv HCV
  go_enter Try.func23, Try.ntmps23
  go_wp2_with (refine wpList_box rfl rfl (by rfl) HW1.out ?_)
  refine C1.out.mono ?_
  rintro e w' ⟨rfl, hw'⟩
  rw [← HW2.out] at hw'
  have hw2 := hw'.symm
  subst hw2
  clear C1 hW1c1 hsz1 HW1 HW2 hnm
  go_wp2_with fail
  have hS0 : W2.drew.cell? ⟨b, 2, none⟩ = some (.slice A s.pend.length ca) ∧ W2.drew.cell? ⟨w.heap.size, 0, none⟩ = some (.slice KA kn kc) ∧ W2.drew.cell? ⟨w.heap.size, 1, none⟩ = some (.bool c.torn) ∧ W2.drew.cell? ⟨w.heap.size, 2, none⟩ = some (.int .i64 c.cut) := ⟨hW2c2, hW2b0, hW2b1, hW2b2⟩
  clear hW2b0 hW2b1 hW2b2
  refine wp_region_noPanic ?_
  refine upto_start (fun w' => w'.cell? ⟨b, 2, none⟩ = some (.slice A s.pend.length ca) ∧ w'.cell? ⟨w.heap.size, 0, none⟩ = some (.slice KA kn kc) ∧ w'.cell? ⟨w.heap.size, 1, none⟩ = some (.bool c.torn) ∧ w'.cell? ⟨w.heap.size, 2, none⟩ = some (.int .i64 c.cut)) 7 (by kernel_rfl) ?_
  change Upto _ _ _ _ _ 8 _ _ _
  refine Upto.take (i := 0) (v := ?_) rfl (by kernel_rfl) (fun _ _ _ h => h) rfl (fun w' hS => ?_) hS0 ?_
  rotate_left
  · (try dsimp only at hS); go_split_ands; go_simp; (try with_reducible rfl)
  simp only [Act.put, List.setIfInBounds_toArray, List.set_cons_zero, List.set_cons_succ]
  refine Upto.take (i := 1) (v := ?_) rfl (by kernel_rfl) (fun _ _ _ h => h) rfl (fun w' hS => ?_) hS0 ?_
  rotate_left
  · (try dsimp only at hS); go_split_ands; go_simp; (try with_reducible rfl)
  simp only [Act.put, List.setIfInBounds_toArray, List.set_cons_zero, List.set_cons_succ]
  refine Upto.take (i := 2) (v := ?_) rfl (by kernel_rfl) (fun _ _ _ h => h) rfl (fun w' hS => ?_) hS0 ?_
  rotate_left
  · (try dsimp only at hS); go_split_ands; go_simp; (try with_reducible rfl)
  simp only [Act.put, List.setIfInBounds_toArray, List.set_cons_zero, List.set_cons_succ]
  refine Upto.take (i := 3) (v := ?_) rfl (by kernel_rfl) (fun _ _ _ h => h) rfl (fun w' hS => ?_) hS0 ?_
  rotate_left
  · (try dsimp only at hS); go_split_ands; go_simp; (try with_reducible rfl)
  simp only [Act.put, List.setIfInBounds_toArray, List.set_cons_zero, List.set_cons_succ]
  refine Upto.take (i := 4) (v := ?_) rfl (by kernel_rfl) (fun _ _ _ h => h) rfl (fun w' hS => ?_) hS0 ?_
  rotate_left
  · (try dsimp only at hS); go_split_ands; go_simp; (try with_reducible rfl)
  simp only [Act.put, List.setIfInBounds_toArray, List.set_cons_zero, List.set_cons_succ]
  refine Upto.take (i := 5) (v := ?_) rfl (by kernel_rfl) (fun _ _ _ h => h) rfl (fun w' hS => ?_) hS0 ?_
  rotate_left
  · (try dsimp only at hS); go_split_ands; go_simp; (try with_reducible rfl)
  simp only [Act.put, List.setIfInBounds_toArray, List.set_cons_zero, List.set_cons_succ]
  refine Upto.law (i := 6) rfl (by kernel_rfl) rfl (fun K hK => ?_)
  refine wp_enter (f := 42) (args := #[.int .i64 s.pend.length, .agg (crsV KA kn kc c)]) (by unfold crsV; go_simp) (by rw [← HCVE.out]; exact C2.out) ?_
  rintro e W3 ⟨lg, hlg, rfl, hblk, hb3⟩
  have hb23 : Below W2.heap.size W2 W3 := ⟨hb3.os, hb3.tape, hb3.output, hb3.size, hb3.block⟩
  have h3 := H2.out.below hb23
  have hm3 := HM2.out.eq (hb23.block _ HM2.out.lt)
  have hS3 : W3.cell? ⟨b, 2, none⟩ = some (.slice A s.pend.length ca) ∧ W3.cell? ⟨w.heap.size, 0, none⟩ = some (.slice KA kn kc) ∧ W3.cell? ⟨w.heap.size, 1, none⟩ = some (.bool c.torn) ∧ W3.cell? ⟨w.heap.size, 2, none⟩ = some (.int .i64 c.cut) := by
    have hlt : w.heap.size < W2.heap.size := by have := HM2.out.lt; have := HNM.out; omega
    exact ⟨h3.blk.cell 2, (hb23.cell (p := ⟨w.heap.size, 0, none⟩) hlt).trans hS0.2.1, (hb23.cell (p := ⟨w.heap.size, 1, none⟩) hlt).trans hS0.2.2.1, (hb23.cell (p := ⟨w.heap.size, 2, none⟩) hlt).trans hS0.2.2.2⟩
  refine ⟨_, rfl, hK _ _ hS3 ?_⟩
  have hc2 := hS3.1
  have hBW : Below w.heap.size w W3 := HB2.out.trans (hb23.mono HB2.out.size)
  have H3 := Lib.hid h3
  have HL := Lib.hid hblk
  have R0 : Hid (CrashRel w W3 nm s (c.of s.pend.length) 0 W3) := Lib.hid ⟨hm3, Fr.refl _ _, Nat.le_of_lt HNM.out, hBW⟩
  clear hS3 hS0 hb23 h3 hm3 hb3 hblk C2 HCVE HB2 HM2 H2 hK hW2c2 hBW hlg
  simp only [Act.put, List.setIfInBounds_toArray, List.set_cons_zero, List.set_cons_succ]
  refine Upto.tail rfl (by kernel_rfl) ?_
  simp only [List.drop_succ_cons, List.drop_zero]
  go_wp2_with fail
  refine NoPanic.normal ?_
  go_wp2_with fail
  go_loopw [29] (fun q wr => ∃ k : Nat, k ≤ s.pend.length ∧ q = .int .i64 k ∧ CrashRel w W3 nm s (c.of s.pend.length) k wr) (fun q _ => s.pend.length - (intOf q).toNat)
  case atStart => exact ⟨0, Nat.zero_le _, rfl, R0.out⟩
  case round =>
    obtain ⟨k, hkl, rfl, hr⟩ := hrel
    have hnb : nm ≠ b := R0.out.map.not_bk H3.out.blk
    have hnl : nm ≠ lg := R0.out.map.not_bk HL.out
    have hnp : (Value.slice A s.pend.length ca).ownBlock ≠ some nm := R0.out.map.not_row H3.out.row
    have hblk := H3.out.blk.eq (hr.fr.block b H3.out.blk.lt (fun e => hnb e.symm))
    have hlb := HL.out.eq (hr.fr.block lg HL.out.lt (fun e => hnl e.symm))
    have hrow := owns_keep H3.out.row (fun q hq => hr.fr.block q (H3.out.row.lt q hq).2 (fun e => hnp (by rw [hq, e])))
    by_cases hlt : k < s.pend.length
    · obtain ⟨pb, rfl, hpc, hpm, hat⟩ := pend_at HOK.out hrow (by omega)
      have hrg := hat k hlt
      have hrg0 : wr.rangeAt pb (0 + k * 257) (wrC (s.at_ k)) := by rw [Nat.zero_add]; exact hrg
      obtain ⟨n, l, hnl⟩ : ∃ n l, s.at_ k = (n, l) := ⟨_, _, rfl⟩
      have hsec : Sec l := by have := (HOK.out.at_ k hlt).2; rw [hnl] at this; exact this
      have hsecm : Sec (s.left_ (c.of s.pend.length) k n) := HOK.out.left_ (c.of_le _) k (by omega) n
      rw [hnl] at hrg hrg0
      have hwl : (wrC (n, l)).length = 257 := wrC_len (p := (n, l)) hsec
      have hbl : (byC l).length = 256 := by rw [byC_len, hsec.1]
      have hiw : (Try.prog.info? 86).map (·.size) = some (wrC (n, l)).length := by rw [hwl]; exact HI.out
      have h1w : (wrC (n, l)).toArray.all (·.oneCell') = true := all_oneCell_toArray (wrC_one _)
      have HST := Lib.hid (fun w2 w4 hb hm hf => hr.step (w2 := w2) (w4 := w4) hb (by rw [hnl]; exact hm) hf)
      have hlc : wr.cell? ⟨lg, k, none⟩ = some (.int .i64 (c.of s.pend.length k : Nat)) := by rw [hlb.cell]; exact natC_at _ _ _ hlt
      have hcl := c.of_le s.pend.length k
      have HMW : Hid (MapFn (wr.alloc (.cells (wrC (n, l)).toArray 86)) nm (secV zeros) (fun n => secV (s.left_ (c.of s.pend.length) k n))) := Lib.hid (hr.map.eq (Below.heap_alloc _ _ _ hr.map.lt))
      have hxn : (wr.alloc (.cells (wrC (n, l)).toArray 86)).cell? ⟨wr.heap.size, 0, none⟩ = some (.int .i64 n) := (cell_of_row _ _ _ _ _ _ (heap_alloc_new wr _)).trans rfl
      obtain ⟨m, hmm⟩ : ∃ m, s.left_ (c.of s.pend.length) k n = m := ⟨_, rfl⟩
      obtain ⟨cu, hcu⟩ : ∃ cu, c.of s.pend.length k = cu := ⟨_, rfl⟩
      rw [hmm] at hsecm
      rw [hcu] at hlc hcl
      have HI2 : Hid ((Try.prog.info? 81).map (·.size) = some (byC m).toArray.size) := Lib.hid (by rw [secV_size hsecm]; exact size_sec)
      have HS2 : Hid ((byC zeros).toArray.size = (byC m).toArray.size) := Lib.hid (by rw [secV_size hsecm, zeros_size])
      have H12 : Hid ((byC m).toArray.all (·.oneCell') = true) := Lib.hid (all_oneCell_toArray (byC_one m))
      have HMM := Lib.hid hmm
      have HCU := Lib.hid hcu
      have HR := Lib.hid hr
      have HBLK := Lib.hid hblk
      have HLB := Lib.hid hlb
      clear hr hat hmm hcu hblk hlb hrow hnl
      have hk0 : (0 : Int) ≤ (k : Int) := Int.natCast_nonneg _
      have hk1 : (k : Int) < (s.pend.length : Int) := by omega
      go_wp2_with (first
        | (refine wpList_run rfl (exec_load rfl (by rfl) (by first | exact hrg | exact hrg0) hu rfl hiw) ?_)
        | (refine wpList_run rfl (exec_allocA (t := 86) rfl HZ.out) ?_)
        | (refine wpList_store_new rfl (ty := 86) rfl (W := wr) rfl (by rfl) (by rfl) (by rw [List.size_toArray]; exact hiw) (by rw [hz257, List.size_toArray, hwl]) h1w ?_)
        | (refine wpList_lookup_fn rfl _ _ rfl huw hui nm _ _ (HZM.out _) HMW.out (by rfl) n (by rfl) ?_; rw [HMM.out])
        | (refine wpList_run rfl (exec_allocA (t := 81) rfl HZS.out) ?_)
        | (refine wpList_store_new rfl (ty := 81) rfl (W := wr.alloc (.cells (wrC (n, l)).toArray 86)) rfl (by rfl) (by rfl) HI2.out HS2.out H12.out ?_))
      obtain ⟨Wc, hWc⟩ : ∃ Wc, Wc = (wr.alloc (.cells (wrC (n, l)).toArray 86)).alloc (.cells (byC m).toArray 81) := ⟨_, rfl⟩
      have hbc : Below wr.heap.size wr Wc := by rw [hWc]; exact ((Below.refl _ _).alloc (Nat.le_refl _) _).alloc (by simp) _
      have hg0 : Wc.heap[wr.heap.size]? = some (.cells (wrC (n, l)).toArray 86 (0, 0)) := by rw [hWc]; exact heap_alloc2_old _ _ _
      have hg1 : Wc.heap[wr.heap.size + 1]? = some (.cells (byC m).toArray 81 (0, 0)) := by rw [hWc]; exact heap_alloc2_new _ _ _
      have hzc : Wc.heap.size = wr.heap.size + 2 := by rw [hWc]; simp
      have hS0 : Wc.drew.cell? ⟨lg, k, none⟩ = some (.int .i64 cu) := (hbc.cell (p := ⟨lg, k, none⟩) HLB.out.lt).trans hlc
      have hsrc : Wc.drew.rangeAt wr.heap.size 1 (byC l) := by
        have := World.rangeAt_of_block hg0 1 256
        have e : ((wrC (n, l)).toArray.extract 1 (1 + 256)).toList = byC l := by
          simp [wrC, hbl]
          exact List.take_of_length_le (by omega)
        rw [e] at this
        exact this
      have hx0 : Wc.cell? ⟨wr.heap.size, 0, none⟩ = some (.int .i64 n) := (cell_of_row _ _ _ _ _ _ hg0).trans rfl
      rw [← hWc]
      have HSRC := Lib.hid hsrc
      have HG1 := Lib.hid hg1
      have HBC := Lib.hid hbc
      have HX0 := Lib.hid hx0
      have HZC := Lib.hid hzc
      clear hsrc hg1 hg0 hbc hx0 hWc hzc hxn hrg hrg0
      refine wp_region_noPanic ?_
      refine upto_start (fun w' => w'.cell? ⟨lg, k, none⟩ = some (.int .i64 cu)) 7 (by kernel_rfl) ?_
      change Upto _ _ _ _ _ 8 _ _ _
      refine Upto.take (i := 0) (v := ?_) rfl (by kernel_rfl) (fun _ _ _ h => h) rfl (fun w' hS => ?_) hS0 ?_
      rotate_left
      · (try dsimp only at hS); go_simp; (try with_reducible rfl)
      simp only [Act.put, List.setIfInBounds_toArray, List.set_cons_zero, List.set_cons_succ]
      refine Upto.take (i := 1) (v := ?_) rfl (by kernel_rfl) (fun _ _ _ h => h) rfl (fun w' hS => ?_) hS0 ?_
      rotate_left
      · (try dsimp only at hS); go_simp; (try with_reducible rfl)
      simp only [Act.put, List.setIfInBounds_toArray, List.set_cons_zero, List.set_cons_succ]
      refine Upto.take (i := 2) (v := ?_) rfl (by kernel_rfl) (fun _ _ _ h => h) rfl (fun w' hS => ?_) hS0 ?_
      rotate_left
      · (try dsimp only at hS); go_simp; (try with_reducible rfl)
      simp only [Act.put, List.setIfInBounds_toArray, List.set_cons_zero, List.set_cons_succ]
      refine Upto.take (i := 3) (v := ?_) rfl (by kernel_rfl) (fun _ _ _ h => h) rfl (fun w' hS => ?_) hS0 ?_
      rotate_left
      · (try dsimp only at hS); go_simp; (try with_reducible rfl)
      simp only [Act.put, List.setIfInBounds_toArray, List.set_cons_zero, List.set_cons_succ]
      refine Upto.take (i := 4) rfl (by kernel_rfl) (fun _ _ _ h => h) rfl (fun w' hS => exec_slice rfl (by exact slice_head _ _ cu hcl _)) hS0 ?_
      simp only [Act.put, List.setIfInBounds_toArray, List.set_cons_zero, List.set_cons_succ]
      refine Upto.take (i := 5) (v := ?_) rfl (by kernel_rfl) (fun _ _ _ h => h) rfl (fun w' hS => ?_) hS0 ?_
      rotate_left
      · (try dsimp only at hS); go_simp; (try with_reducible rfl)
      simp only [Act.put, List.setIfInBounds_toArray, List.set_cons_zero, List.set_cons_succ]
      refine Upto.take (i := 6) rfl (by kernel_rfl) (fun _ _ _ h => h) rfl (fun w' hS => exec_slice rfl (by exact slice_whole _ _ _)) hS0 ?_
      simp only [Act.put, List.setIfInBounds_toArray, List.set_cons_zero, List.set_cons_succ]
      refine Upto.tail rfl (by kernel_rfl) ?_
      simp only [List.drop_succ_cons, List.drop_zero]
      have htk : ((byC l).take cu).length = cu := by rw [List.length_take, hbl]; omega
      refine wpList_copy_splice rfl _ _ 35 35 rfl 5 Try.underlying35 (by kernel_rfl) (some ⟨wr.heap.size + 1, 0, none⟩) (some ⟨wr.heap.size, 1, none⟩) cu 256 256 256 (by rfl) (by rfl) (wr.heap.size + 1) 0 (byC m) 81 HG1.out ((byC l).take cu) (by rw [htk]; show cu = min 256 cu; omega)
        (fun _ => ⟨rfl, ⟨wr.heap.size, 1, none⟩, rfl, fun j v hv => by
          rw [Addr.add_mid]
          refine HSRC.out j v ?_
          rw [List.getElem?_take] at hv
          split at hv
          · exact hv
          · cases hv⟩)
        (by rw [htk, byC_len, hsecm.1]; omega) (fun v hv => byC_one l v (List.mem_of_mem_take hv)) (wr.heap.size + 1) Wc (Below.refl _ _).drew (Nat.le_refl _) ?_
      intro W4 hspl hb4
      have hspl' := hspl.out
      rw [splice_over l m cu hsec hsecm hcl] at hspl'
      have hov : Sec (over l m cu) := over_sec hsec hsecm cu hcl
      have hx4 : W4.cell? ⟨wr.heap.size, 0, none⟩ = some (.int .i64 n) := (hb4.cell (p := ⟨wr.heap.size, 0, none⟩) (by show wr.heap.size < _; omega)).trans HX0.out
      have hrg4 : W4.rangeAt (wr.heap.size + 1) 0 (byC (over l m cu)) := by
        have := World.rangeAt_of_block hspl' 0 256
        have e : ((byC (over l m cu)).toArray.extract 0 (0 + 256)).toList = byC (over l m cu) := by
          have : (byC (over l m cu)).length = 256 := by rw [byC_len, hov.1]
          simp
          exact List.take_of_length_le (by omega)
        rw [e] at this
        exact this
      have hb04 : Below wr.heap.size wr W4 := HBC.out.trans (hb4.mono (Nat.le_succ _))
      have hm4 := Lib.hid (HR.out.map.eq (hb04.block nm HR.out.map.lt))
      have HB04 := Lib.hid hb04
      have hio : (Try.prog.info? 81).map (·.size) = some (byC (over l m cu)).length := by rw [byC_len, hov.1]; exact size_sec
      have HSN := Lib.hid (fun w4 hm hf => HST.out W4 w4 HB04.out (by rw [HMM.out, HCU.out]; exact hm) hf)
      clear hspl hspl' hb4 hb04 htk hov HST HBC HG1 HSRC HX0 hS0 HMM HCU
      simp only [Act.put]
      go_wp2_with fail
      refine NoPanic.normal ?_
      go_wp2_with (first
        | (refine wpList_run rfl (exec_load rfl (by rfl) (by exact hrg4) hus rfl hio) ?_)
        | (refine wpList_update_fn rfl _ _ _ rfl huw hui nm _ _ hm4.out (by rfl) n (by rfl) (secV (over l m cu)) (by rfl) ?_; intro w5 hm5 hf5; have R := Lib.hid (HSN.out w5 hm5 hf5); clear hm5 hf5 hx4 hrg4; simp only [Act.put]))
      go_roundw
      case rel => exact ⟨k + 1, by omega, by go_num, R.out⟩
      case measure => simp [intOf]; omega
    · obtain rfl : k = s.pend.length := by omega
      have R := Lib.hid (hr.done HOK.out)
      have hb0 : wr.cell? ⟨b, 0, none⟩ = some (.int .i64 s.num) := hblk.cell 0
      clear hr hblk hlb hrow
      go_wp2_with fail
      refine (newDisk_any s.num nm _).mono ?_
      rintro e w' ⟨rfl, rfl⟩
      go_wp2_with fail
      go_ret
      exact R.out
end Go.Proofs.Ytomhofppcogojaa
