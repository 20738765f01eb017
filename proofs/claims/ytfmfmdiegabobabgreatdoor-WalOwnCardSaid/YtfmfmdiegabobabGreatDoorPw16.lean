/- What it says: contracts and plain mathematics that the laws' walks use, 16 of 33: each part's own remark says what; no condition. -/
import Derived.Test.YtfmfmdiegabobabGreatDoorPw1
import Derived.Test.YtfmfmdiegabobabGreatDoorPw6
import Derived.Test.YtfmfmdiegabobabGreatDoorPw15
import Derived.Test.YtfmfmdiegabobabGreatDoorRows
import Derived.Deep.WholeRow
import Derived.BigQuiet
import Derived.Deep.QuietTactic
import Derived.Great.FillDense
import Derived.Laws.Tables
import Derived.Great.BuildSlice
import Derived.Deep.RegionHeld3
import Derived.Deep.MidRow
import Derived.Deep.AppendLies
import Derived.Deep.DrawnRows

set_option linter.unusedSimpArgs false
set_option linter.unusedVariables false
set_option linter.deprecated false
set_option linter.unusedSectionVars false
set_option linter.all false
set_option maxRecDepth 100000
set_option maxHeartbeats 16000000
namespace Go.Proofs.YtfmfmdiegabobabGreatDoor
theorem q1Pw16 {α : Type} (l : List α) (i : Nat) (x : α) : l.toArray.setIfInBounds i x = (l.set i x).toArray := by simp
theorem q2Pw16 {α : Type} (a : α) (l : List α) (x : α) : (a :: l).set 0 x = x :: l := rfl
theorem q3Pw16 {α : Type} (a : α) (l : List α) (i : Nat) (x : α) : (a :: l).set (i + 1) x = a :: l.set i x := rfl

/- a disk in memory: its block, its map of sectors, its list of writes; find, step and the methods that tell or lay a number. -/
section
open Go.RowKit
def byC (l : List Int) : List Value := l.map (Value.int .u8)
def secV (l : List Int) : Value := .agg (byC l).toArray
theorem byC_len (l : List Int) : (byC l).length = l.length := by simp [byC]
theorem byC_one (l : List Int) : ∀ v ∈ byC l, v.oneCell' = true := u8_one l
def wrC (p : Nat × List Int) : List Value := .int .i64 p.1 :: byC p.2
theorem wrC_len {p : Nat × List Int} (h : Sec p.2) : (wrC p).length = 257 := by simp [wrC, byC_len, h.1]
def pdC (l : List (Nat × List Int)) : List Value := l.flatMap wrC
theorem info_sec : (Tryz.prog.info? 142).map (fun i => (i.zero, i.size)) = some (some (secV zeros), 256) := by kernel_rfl
theorem zero_sec (w : World) : (zeroValue 142).run Tryz.prog w = .ok (secV zeros) w := (zero_of_info info_sec).1 w
theorem size_sec : (Tryz.prog.info? 142).map (·.size) = some 256 := (zero_of_info info_sec).2
theorem info_wr : (Tryz.prog.info? 144).map (fun i => (i.zero, i.size, i.bytes)) = some (some (.agg (wrC (0, zeros)).toArray), 257, 264) := by kernel_rfl
structure DskB (w : World) (F : Nat → Prop) (b mb : Nat) (A : Option Addr) (c : Nat) (s : St) : Prop where
 blk : Bk w b 108 #[.int .i64 s.num, .map (some mb), .slice A s.pend.length c, .int .i64 s.left, .bool s.gone, .int .i64 s.syncs]
 map : MapFn w mb (secV zeros) (fun n => secV (s.syn n))
 row : w.ownsRow 0 144 257 (.slice A s.pend.length c) s.pend.length (pdC s.pend)
 fb : F b
 fm : F mb
 fp : ∀ k, (Value.slice A s.pend.length c).ownBlock = some k → F k
 lt : ∀ k, F k → k < w.heap.size
 ok : s.Ok
 lim : s.pend.length < 1000000 ∧ s.syncs < 1000000
section
variable {w w' : World} {F G : Nat → Prop} {b mb : Nat} {A : Option Addr} {c : Nat} {s : St}
theorem DskB.keep (h : DskB w F b mb A c s) (hs : w.heap.size ≤ w'.heap.size) (hk : ∀ k, F k → w'.heap[k]? = w.heap[k]?) : DskB w' F b mb A c s :=
 ⟨h.blk.eq (hk b h.fb), h.map.eq (hk mb h.fm), owns_keep h.row (fun k hk' => hk k (h.fp k hk')), h.fb, h.fm, h.fp, fun k f => Nat.lt_of_lt_of_le (h.lt k f) hs, h.ok, h.lim⟩
theorem DskB.mono (h : DskB w F b mb A c s) (hF : ∀ k, F k → G k) (hG : ∀ k, G k → k < w.heap.size) : DskB w G b mb A c s :=
 ⟨h.blk, h.map, h.row, hF b h.fb, hF mb h.fm, fun k hk => hF k (h.fp k hk), hG, h.ok, h.lim⟩
end
def dsk (b : Nat) (s : St) : Res where
 is w F := ∃ mb A c, DskB w F b mb A c s
 lt _ _ := fun ⟨_, _, _, h⟩ => h.lt
 keep _ _ _ := fun ⟨mb, A, c, h⟩ hs hk => ⟨mb, A, c, h.keep hs hk⟩
section
variable {w w' : World} {F : Nat → Prop} {b mb : Nat} {A : Option Addr} {c : Nat} {s : St}
theorem DskB.turn {s' : St} {mb' : Nat} {A' : Option Addr} {c' : Nat} (h : DskB w' (grow F w w') b mb' A' c' s') (hf : Fr F w w') : Turn (dsk b s') F w w' := ⟨⟨mb', A', c', h⟩, hf⟩
theorem DskB.set {cs : Array Value} {s' : St} (h : DskB w F b mb A c s) (hb : Bk w' b 108 #[.int .i64 s'.num, .map (some mb), .slice A s'.pend.length c, .int .i64 s'.left, .bool s'.gone, .int .i64 s'.syncs])
  (hf : Fr (fun k => k = b) w w') (h1 : s'.syn = s.syn) (h2 : s'.pend = s.pend) (h3 : s'.Ok) (h4 : s'.syncs < 1000000) : DskB w' F b mb A c s' := by
 have hne : mb ≠ b := h.map.not_bk h.blk
 have hpe : ∀ k, (Value.slice A s.pend.length c).ownBlock = some k → k ≠ b := by
  rintro k hk rfl
  rcases h.row.2 with ⟨q, _⟩ | ⟨g, cap, cur, q, _, hg, _⟩
  ·rw [q] at hk; simp [Value.ownBlock] at hk
  ·rw [q] at hk
   simp [Value.ownBlock] at hk
   subst hk
   have := h.blk
   unfold Bk at this
   rw [this] at hg
   simp at hg
 refine ⟨hb, ?_, ?_, h.fb, h.fm, ?_, fun k f => Nat.lt_of_lt_of_le (h.lt k f) hf.size, h3, by rw [h2]; exact ⟨h.lim.1, h4⟩⟩
 ·rw [h1]
  exact h.map.eq (hf.block mb h.map.lt hne)
 ·rw [h2]
  exact owns_keep h.row (fun k hk => hf.block k (h.lt k (h.fp k hk)) (hpe k hk))
 ·rw [h2]
  exact h.fp
end
def RetStep (F : Nat → Prop) (b mb : Nat) (A : Option Addr) (c : Nat) (s : St) (w : World) (e : Ending) (w' : World) : Prop :=
 e = .returned (.int .i64 (if s.can then 0 else 40)) ∧ DskB w' F b mb A c s.step ∧ Fr (fun k => k = b) w w'
theorem step_any {w : World} {F : Nat → Prop} {b mb : Nat} {A : Option Addr} {c : Nat} {s : St} (h : DskB w F b mb A c s) :
  Calls Tryz.prog 80 #[.pointer (some ⟨b, 0, none⟩)] w (RetStep F b mb A c s w) := by
 obtain ⟨num, syn, pend, left, gone, syncs⟩ := s
 have hl := h.ok.left
 have hb := h.blk
 have c3 : w.cell? ⟨b, 3, none⟩ = some (.int .i64 left) := hb.cell 3
 have c4 : w.cell? ⟨b, 4, none⟩ = some (.bool gone) := hb.cell 4
 have f3 : w.frozen? ⟨b, 3, none⟩ = false := hb.frz 3
 have f4 : w.frozen? ⟨b, 4, none⟩ = false := hb.frz 4
 simp only at hl
 have E : ∀ w' s', s' = (St.mk num syn pend left gone syncs).step → Bk w' b 108 #[.int .i64 s'.num, .map (some mb), .slice A s'.pend.length c, .int .i64 s'.left, .bool s'.gone, .int .i64 s'.syncs] → Fr (fun k => k = b) w w' →
   DskB w' F b mb A c (St.mk num syn pend left gone syncs).step ∧ Fr (fun k => k = b) w w' := by
  intro w' s' e hb' hf
  subst e
  exact ⟨h.set (cs := #[]) hb' hf (St.step_syn _) (St.step_pend _) h.ok.step (by rw [St.step_syncs]; exact h.lim.2), hf⟩
 have E := Lib.hid E
 have HB := Lib.hid hb
 clear h hb
 cases gone with
 | true =>
  by_cases h0 : left = 0
  ·subst h0
   have R : Hid (RetStep F b mb A c ⟨num, syn, pend, 0, true, syncs⟩ w (.returned (.int .i64 40)) (w.setCell ⟨b, 4, none⟩ (.bool true))) :=
    Lib.hid ⟨rfl, E.out _ _ rfl (by have := HB.out.setc 4 (.bool true); simpa [St.step] using this) (Fr.cell1 _ _ _ _)⟩
   clear E HB
   go_enter Tryz.func80, Tryz.ntmps80
   go_wp2_with fail
   go_ret
   exact R.out
  ·have R : Hid (RetStep F b mb A c ⟨num, syn, pend, left, true, syncs⟩ w (.returned (.int .i64 40)) w) :=
    Lib.hid ⟨rfl, E.out _ _ rfl (by simpa [St.step] using HB.out) (Fr.refl _ _)⟩
   have hd : (left == 0) = false := by simpa using h0
   clear E HB
   go_enter Tryz.func80, Tryz.ntmps80
   go_wp2_with fail
   go_ret
   exact R.out
 | false =>
  by_cases h0 : left = 0
  ·subst h0
   have R : Hid (RetStep F b mb A c ⟨num, syn, pend, 0, false, syncs⟩ w (.returned (.int .i64 40)) (w.setCell ⟨b, 4, none⟩ (.bool true))) :=
    Lib.hid ⟨rfl, E.out _ _ rfl (by have := HB.out.setc 4 (.bool true); simpa [St.step] using this) (Fr.cell1 _ _ _ _)⟩
   clear E HB
   go_enter Tryz.func80, Tryz.ntmps80
   go_wp2_with fail
   go_ret
   exact R.out
  ·have hd : (left == 0) = false := by simpa using h0
   by_cases h1 : left = -1
   ·subst h1
    have R : Hid (RetStep F b mb A c ⟨num, syn, pend, -1, false, syncs⟩ w (.returned (.int .i64 0)) w) :=
     Lib.hid ⟨rfl, E.out _ _ rfl (by simpa [St.step] using HB.out) (Fr.refl _ _)⟩
    clear E HB
    go_enter Tryz.func80, Tryz.ntmps80
    go_wp2_with fail
    go_ret
    exact R.out
   ·have hd1 : (left != -1) = true := by simpa using h1
    have hp : 0 < left := by omega
    have R : Hid (RetStep F b mb A c ⟨num, syn, pend, left, false, syncs⟩ w (.returned (.int .i64 0)) (w.setCell ⟨b, 3, none⟩ (.int .i64 (left - 1)))) :=
     Lib.hid ⟨by simp [St.can, hd], E.out _ _ rfl (by have := HB.out.setc 3 (.int .i64 (left - 1)); simpa [St.step, h0, hp] using this) (Fr.cell1 _ _ _ _)⟩
    clear E HB
    go_enter Tryz.func80, Tryz.ntmps80
    go_wp2_with fail
    go_ret
    exact R.out
end

/- what Down, Pending, Syncs, Sectors and find answer; what Fuse lays; a nil disk's. -/
section
open Go.RowKit
def Same (v : Value) (w : World) (e : Ending) (w' : World) : Prop := e = .returned v ∧ w = w'
section
variable {w : World} {F : Nat → Prop} {b mb : Nat} {A : Option Addr} {c : Nat} {s : St}
theorem sectors_any (h : DskB w F b mb A c s) : Calls Tryz.prog 55 #[.pointer (some ⟨b, 0, none⟩)] w (Same (.int .i64 s.num) w) := by
 have c2 : w.cell? ⟨b, 0, none⟩ = some (.int .i64 s.num) := h.blk.cell 0
 clear h
 go_enter Tryz.func55, Tryz.ntmps55
 go_wp2_with fail
 go_ret
 exact ⟨rfl, rfl⟩
theorem find_bad (h : DskB w F b mb A c s) (n : Int) (hn : n < 0 ∨ (s.num : Int) ≤ n) : Calls Tryz.prog 83 #[.pointer (some ⟨b, 0, none⟩), .int .i64 n] w (Same (.int .i64 1) w) := by
 have c2 : w.cell? ⟨b, 0, none⟩ = some (.int .i64 s.num) := h.blk.cell 0
 clear h
 by_cases h0 : n < 0
 ·go_enter Tryz.func83, Tryz.ntmps83
  go_wp2_with fail
  go_ret
  exact ⟨rfl, rfl⟩
 ·have h1 : (s.num : Int) ≤ n := by omega
  clear hn
  go_enter Tryz.func83, Tryz.ntmps83
  go_wp2_with fail
  go_ret
  exact ⟨rfl, rfl⟩
theorem find_ok (h : DskB w F b mb A c s) (n : Nat) (hn : n < s.num) : Calls Tryz.prog 83 #[.pointer (some ⟨b, 0, none⟩), .int .i64 n] w (Same (.int .i64 0) w) := by
 have c2 : w.cell? ⟨b, 0, none⟩ = some (.int .i64 s.num) := h.blk.cell 0
 clear h
 go_enter Tryz.func83, Tryz.ntmps83
 go_wp2_with fail
 go_ret
 exact ⟨rfl, rfl⟩
end
section
variable (w : World)
end
end

/- a write as a value: built of its number and its sector; a new block of one write; a slice of 256 bytes as a sector. -/
section
open Go.RowKit
theorem one_set (z : Array Value) (x : Value) (hx : x.oneCell' = true) (hz : 0 < z.size) : (x.cells.zipIdx.foldl (fun cs (y : Value × Nat) => cs.setIfInBounds (0 + y.2) y.1) z) = z.setIfInBounds 0 x := by
 have : x.cells = #[x] := by
  cases x <;> simp_all [Value.cells, Value.oneCell']
 rw [this]
 rfl
theorem arr_eq {a : Array Value} {l : List Value} (hs : a.size = l.length) (h : ∀ k, k < l.length → a[k]? = l[k]?) : a = l.toArray := by
 apply Array.ext_getElem?
 intro k
 by_cases hk : k < l.length
 ·rw [h k hk]; simp
 ·rw [Array.getElem?_eq_none (by omega), Array.getElem?_eq_none (by simp; omega)]
theorem wr_fill (z : Array Value) (hz : z.size = 257) (n : Nat) (l : List Int) (hl : Sec l) :
  (byC l).toArray.zipIdx.foldl (fun cs (x : Value × Nat) => cs.setIfInBounds (1 + x.2) x.1) (z.setIfInBounds 0 (.int .i64 n)) = (wrC (n, l)).toArray := by
 have hlen : (byC l).length = 256 := by rw [byC_len, hl.1]
 have he : (byC l).toArray.zipIdx.foldl (fun cs (x : Value × Nat) => cs.setIfInBounds (1 + x.2) x.1) (z.setIfInBounds 0 (.int .i64 n)) = ((byC l).zipIdx 0).foldl (fun cs (x : Value × Nat) => cs.setIfInBounds (1 + x.2) x.1) (z.setIfInBounds 0 (.int .i64 n)) := by
  simp
 rw [he]
 obtain ⟨h1, h2⟩ := Great.foldl_set 1 (byC l) 0 (z.setIfInBounds 0 (.int .i64 n))
 apply arr_eq
 ·rw [h1, wrC_len (p := (n, l)) hl]
  simp [hz]
 ·intro k hk
  rw [wrC_len (p := (n, l)) hl] at hk
  rw [h2 k]
  by_cases h0 : k = 0
  ·subst h0
   rw [if_neg (by omega)]
   simp [wrC, hz]
  ·rw [if_pos ⟨by omega, by omega, by simp; omega⟩]
   obtain ⟨j, rfl⟩ : ∃ j, k = j + 1 := ⟨k - 1, by omega⟩
   simp [wrC]
theorem secV_size {l : List Int} (hl : Sec l) : (byC l).toArray.size = 256 := by simp [byC_len, hl.1]
theorem fill_cons {place : Nat → Option (Nat × Nat)} {cells : Array Value} {i off size : Nat} {v : Value} {rest : List (Nat × Value)} (hp : place i = some (off, size)) (hs : v.cells.size = size) (ho : off + size ≤ cells.size) :
  Instr.fill place cells ((i, v) :: rest) = Instr.fill place (v.cells.zipIdx.foldl (fun cs (x : Value × Nat) => cs.setIfInBounds (off + x.2) x.1) cells) rest := by
 rw [Instr.fill, hp]
 simp only
 rw [if_neg (by simp; omega)]
theorem built_wr (n : Nat) (l : List Int) (hl : Sec l) : Tryz.prog.built 144 [(0, .int .i64 n), (1, secV l)] = some (wrC (n, l)).toArray := by
 have hp : Tryz.prog.built 144 [(0, .int .i64 n), (1, secV l)] = Instr.fill (fun i => ([(0, 1), (1, 256)] : List (Nat × Nat)).toArray[i]?) (wrC (0, zeros)).toArray [(0, .int .i64 n), (1, secV l)] := by
  generalize secV l = v
  generalize (n : Int) = m
  kernel_rfl
 rw [hp]
 have hw : (wrC (0, zeros)).toArray.size = 257 := by simp [wrC_len (p := (0, zeros)) zeros_sec]
 generalize (wrC (0, zeros)).toArray = Z at hw
 rw [fill_cons (off := 0) (size := 1) rfl rfl (by omega), one_set Z _ rfl (by omega), fill_cons (off := 1) (size := 256) rfl (show (secV l).cells.size = 256 from secV_size hl) (by rw [Array.size_setIfInBounds]; omega)]
 exact congrArg some (wr_fill Z hw n l hl)
theorem bslice_wr (p : Nat × List Int) (hp : Sec p.2) (w : World) : (Instr.buildSlice 106 1 #[(0, .agg (wrC p).toArray)]).run Tryz.prog w =
  .ok (.slice (some ⟨w.heap.size, 0, none⟩) 1 1) (w.alloc (.cells (wrC p).toArray 144)) := by
 obtain ⟨i0, hi, hz0, hz1, hz2⟩ := info_parts info_wr
 have hl := wrC_len hp
 refine Go.run_buildSlice w 106 144 1 _ _ i0 (.agg (wrC (0, zeros)).toArray) Tryz.underlying106 hi hz0 (by rw [hz1]; omega) (by rw [hz1]; omega) ?_
 have hz : ((Array.range (1 * i0.size)).map ((Value.agg (wrC (0, zeros)).toArray).cells[· % (Value.agg (wrC (0, zeros)).toArray).cells.size]!)).size = 257 := by simp [hz1]
 rw [hz1] at hz ⊢
 rw [fill_cons (off := 0) (size := 257) rfl (by show (wrC p).toArray.size = 257; simp [hl]) (by omega)]
 refine congrArg some ?_
 generalize hZ : (Array.range (1 * 257)).map ((Value.agg (wrC (0, zeros)).toArray).cells[· % (Value.agg (wrC (0, zeros)).toArray).cells.size]!) = Z at hz
 have he : (Value.agg (wrC p).toArray).cells.zipIdx.foldl (fun cs (x : Value × Nat) => cs.setIfInBounds (0 + x.2) x.1) Z = ((wrC p).zipIdx 0).foldl (fun cs (x : Value × Nat) => cs.setIfInBounds (0 + x.2) x.1) Z := by
  simp [Value.cells]
 rw [he]
 obtain ⟨h1, h2⟩ := Great.foldl_set 0 (wrC p) 0 Z
 apply arr_eq
 ·rw [h1, hz, hl]
 ·intro k hk
  rw [h2 k, if_pos ⟨by omega, by omega, by omega⟩]
  simp
theorem arrayAt_sec (A : Option Addr) (c : Nat) (w : World) : (Instr.arrayAt 142 (.slice A 256 c)).run Tryz.prog w = .ok (.pointer A) w := by
 simp [Instr.arrayAt, run_underlying (P := Tryz.prog) Tryz.underlying142, Result.andThen]
end

/- disk.Write answers and leaves what the plain disk does. -/
section
open Go.RowKit
theorem Byt.not_bk {w : World} {A : Option Addr} {n c : Nat} {l : List Int} {b : Nat} {t : TypeId} {cs : Array Value} (h : Byt w A n c l) (hb : Bk w b t cs) (hs : cs.size < n) : ∀ g off, A = some ⟨g, off, none⟩ → g ≠ b := by
 rintro g off rfl rfl
 obtain ⟨g', off', e, hc⟩ := h.at_ (by omega)
 injection e with e
 injection e with e1 e2
 subst e1 e2
 have := hc (n - 1) (by omega)
 rw [hb.cell, Array.getElem?_eq_none (by omega)] at this
 cases this
theorem Byt.keep_block {w w' : World} {A : Option Addr} {n c : Nat} {l : List Int} (h : Byt w A n c l) (hk : ∀ g off, A = some ⟨g, off, none⟩ → w'.heap[g]? = w.heap[g]?) : Byt w' A n c l :=
 ⟨h.len, h.cap, h.max, h.rng, h.nil_, fun hn => by
  obtain ⟨g, off, e, hc⟩ := h.at_ hn
  exact ⟨g, off, e, fun i hi => (World.cell?_of_block (hk g off e)).trans (hc i hi)⟩⟩
theorem Byt.block_lt {w : World} {A : Option Addr} {n c : Nat} {l : List Int} (h : Byt w A n c l) (hn : 0 < n) : ∀ g off, A = some ⟨g, off, none⟩ → g < w.heap.size := by
 rintro g off rfl
 obtain ⟨g', off', e, hc⟩ := h.at_ hn
 injection e with e
 injection e with e1 e2
 subst e1 e2
 exact World.block_lt_of_cell? w _ (hc 0 hn)
theorem Byt.range {w : World} {g off c : Nat} {l : List Int} (h : Byt w (some ⟨g, off, none⟩) 256 c l) : w.rangeAt g off (byC l) := by
 obtain ⟨g', off', e, hc⟩ := h.at_ (by omega)
 injection e with e
 injection e with e1 e2
 subst e1 e2
 intro j v hv
 have hj : j < l.length := by
  have := (List.getElem?_eq_some_iff.1 hv).1
  rwa [byC_len] at this
 rw [hc j (by rw [← h.len]; exact hj), ← hv]
 simp [byC, List.getElem?_eq_getElem hj, List.getD]
def RetWrite (F : Nat → Prop) (b : Nat) (e0 : Int) (s' : St) (w : World) (e : Ending) (w' : World) : Prop := e = .returned (.int .i64 e0) ∧ Turn (dsk b s') F w w'
theorem DskB.same {w : World} {F : Nat → Prop} {b mb : Nat} {A : Option Addr} {c : Nat} {s : St} (h : DskB w F b mb A c s) : Turn (dsk b s) F w w :=
 (h.mono (fun _ f => .inl f) (fun k f => by
  rcases f with f | f
  ·exact h.lt k f
  ·exact f.2)).turn (Fr.refl _ _)
theorem DskB.turned {w w' : World} {F : Nat → Prop} {b mb : Nat} {A : Option Addr} {c : Nat} {s s' : St} (h : DskB w F b mb A c s) (h' : DskB w' F b mb A c s') (hf : Fr (fun k => k = b) w w') : Turn (dsk b s') F w w' :=
 (h'.mono (fun _ f => .inl f) (fun k f => by
  rcases f with f | f
  ·exact h'.lt k f
  ·exact f.2)).turn (hf.mono fun k e => e ▸ h.fb)
theorem DskB.appended {w w1 w2 w3 : World} {F : Nat → Prop} {b mb : Nat} {A A' : Option Addr} {c c' : Nat} {s : St} {n : Nat} {l : List Int} (h : DskB w F b mb A c s) (h1 : DskB w1 F b mb A c s.step) (hf : Fr (fun k => k = b) w w1) (hn : n < s.num) (hl : Sec l) (hlim : s.pend.length < 999999)
  (hb : Below w1.heap.size w1 w2) (ho : w3.ownsRow 0 144 257 (.slice A' (s.pend.length + 1) c') (s.pend.length + 1) (pdC s.pend ++ wrC (n, l))) (hg : w2.grownBy w3 (Value.slice A s.pend.length c).ownBlock)
  (hw : (Value.slice A s.pend.length c).ownBlock = (Value.slice A' (s.pend.length + 1) c').ownBlock ∨ ∀ k, (Value.slice A' (s.pend.length + 1) c').ownBlock = some k → w1.heap.size ≤ k) :
  w3.cell? ⟨b, 2, none⟩ = some (.slice A s.pend.length c) ∧ w3.frozen? ⟨b, 2, none⟩ = false ∧
  RetWrite F b 0 (s.wrote n l) w (.returned (.int .i64 0)) (w3.setCell ⟨b, 2, none⟩ (.slice A' (s.pend.length + 1) c')) := by
 have e : s.step.pend = s.pend := St.step_pend s
 have hblk := h1.blk
 have hrow := h1.row
 have hfp := h1.fp
 rw [e] at hblk hrow hfp
 have hpb : ∀ k, (Value.slice A s.pend.length c).ownBlock = some k → k ≠ b ∧ k ≠ mb := by
  intro k hk
  constructor
  ·rintro rfl
   rcases hrow.2 with ⟨q, _⟩ | ⟨g, cap, cur, q, _, hg, _⟩
   ·rw [q] at hk; simp [Value.ownBlock] at hk
   ·rw [q] at hk
    simp [Value.ownBlock] at hk
    subst hk
    unfold Bk at hblk
    rw [hblk] at hg
    simp at hg
  ·rintro rfl
   exact h1.map.not_row hrow hk
 have hblk2 : Bk w2 b 108 #[.int .i64 s.step.num, .map (some mb), .slice A s.pend.length c, .int .i64 s.step.left, .bool s.step.gone, .int .i64 s.step.syncs] := hblk.bel hb h1.blk.lt
 have hblk3 : Bk w3 b 108 #[.int .i64 s.step.num, .map (some mb), .slice A s.pend.length c, .int .i64 s.step.left, .bool s.step.gone, .int .i64 s.step.syncs] :=
  hblk2.eq (hg.block b hblk2.lt (fun q => (hpb b q.symm).1 rfl))
 refine ⟨hblk3.cell 2, hblk3.frz 2, rfl, ?_⟩
 have hmb1 := h1.map.lt
 have hsz : w1.heap.size ≤ w3.heap.size := Nat.le_trans hb.size hg.size
 have hfr : Fr F w (w3.setCell ⟨b, 2, none⟩ (.slice A' (s.pend.length + 1) c')) := by
  have f1 : Fr F w w2 := (hf.mono (fun k q => (q ▸ h.fb : F k))).trans (Fr.of_below hb)
  exact (f1.grown hg (fun k hk => .inl (hfp k hk))).setCell h.fb _
 have hkeep : ∀ k, k < w1.heap.size → k ≠ b → (∀ q, (Value.slice A s.pend.length c).ownBlock = some q → k ≠ q) → (w3.setCell ⟨b, 2, none⟩ (.slice A' (s.pend.length + 1) c')).heap[k]? = w1.heap[k]? := by
  intro k hk hkb hkq
  rw [Below.heap_setCell _ _ _ _ hkb]
  exact (hg.block k (Nat.lt_of_lt_of_le hk hb.size) (fun q => hkq k q.symm rfl)).trans (hb.block k hk)
 have hbne : ∀ k, (Value.slice A' (s.pend.length + 1) c').ownBlock = some k → k ≠ b := by
  rintro k hk rfl
  rcases ho.2 with ⟨q, _⟩ | ⟨g, cap, cur, q, _, hg', _⟩
  ·rw [q] at hk; simp [Value.ownBlock] at hk
  ·rw [q] at hk
   simp [Value.ownBlock] at hk
   subst hk
   unfold Bk at hblk3
   rw [hblk3] at hg'
   simp at hg'
 have D : DskB (w3.setCell ⟨b, 2, none⟩ (.slice A' (s.pend.length + 1) c')) (grow F w (w3.setCell ⟨b, 2, none⟩ (.slice A' (s.pend.length + 1) c'))) b mb A' c' (s.wrote n l) := by
  have hlen : (s.wrote n l).pend.length = s.pend.length + 1 := by simp [St.wrote]
  refine ⟨?_, ?_, ?_, .inl h.fb, .inl h.fm, ?_, ?_, h.ok.wrote hn hl, ?_⟩
  ·have := hblk3.setc 2 (.slice A' (s.pend.length + 1) c')
   rw [hlen]
   simpa [St.wrote] using this
  ·have := h1.map.eq (hkeep mb hmb1 (h1.map.not_bk h1.blk) (fun q hq => fun e => (hpb q hq).2 e.symm))
   exact this
  ·rw [hlen]
   have hp : pdC (s.wrote n l).pend = pdC s.pend ++ wrC (n, l) := by simp [pdC, St.wrote, List.flatMap_append]
   rw [hp]
   exact owns_keep ho (fun k hk => Below.heap_setCell _ _ _ _ (hbne k hk))
  ·rw [hlen]
   intro k hk
   rcases hw with hw | hw
   ·exact .inl (hfp k (hw.trans hk))
   ·refine .inr ⟨Nat.le_trans hf.size (hw k hk), ?_⟩
    have := (ho.lt k hk).2
    simpa [World.setCell] using this
  ·intro k f
   rcases f with f | f
   ·exact Nat.lt_of_lt_of_le (h.lt k f) hfr.size
   ·exact f.2
  ·rw [hlen]
   have e2 : (s.wrote n l).syncs = s.syncs := St.step_syncs s
   rw [e2]
   exact ⟨by omega, h.lim.2⟩
 exact D.turn hfr
theorem write_bad (w : World) (F : Nat → Prop) (b mb : Nat) (A : Option Addr) (c : Nat) (s : St) (h : DskB w F b mb A c s) (n : Int) (hn : n < 0 ∨ (s.num : Int) ≤ n) (v : Value) :
  Calls Tryz.prog 77 #[.pointer (some ⟨b, 0, none⟩), .int .i64 n, v] w (RetWrite F b 1 s w) := by
 have C := Lib.hid (find_bad h n hn)
 have R : Hid (RetWrite F b 1 s w (.returned (.int .i64 1)) w) := Lib.hid ⟨rfl, h.same⟩
 clear h hn
 go_enter Tryz.func77, Tryz.ntmps77
 go_wp2_with fail
 refine C.out.mono ?_
 rintro e w' ⟨rfl, rfl⟩
 go_wp2_with fail
 go_ret
 exact R.out
theorem write_len (w : World) (F : Nat → Prop) (b mb : Nat) (A : Option Addr) (c : Nat) (s : St) (h : DskB w F b mb A c s) (n : Nat) (hn : n < s.num) (A' : Option Addr) (m c' : Nat) (hm : m ≠ 256) :
  Calls Tryz.prog 77 #[.pointer (some ⟨b, 0, none⟩), .int .i64 n, .slice A' m c'] w (RetWrite F b 12 s w) := by
 have C := Lib.hid (find_ok h n hn)
 have R : Hid (RetWrite F b 12 s w (.returned (.int .i64 12)) w) := Lib.hid ⟨rfl, h.same⟩
 have hne : ((m : Int) != 256) = true := by simp; omega
 clear h hn hm
 go_enter Tryz.func77, Tryz.ntmps77
 go_wp2_with fail
 refine C.out.mono ?_
 rintro e w' ⟨rfl, rfl⟩
 go_wp2_with fail
 go_ret
 exact R.out
theorem write_down (w : World) (F : Nat → Prop) (b mb : Nat) (A : Option Addr) (c : Nat) (s : St) (h : DskB w F b mb A c s) (n : Nat) (hn : n < s.num) (A' : Option Addr) (c' : Nat) (hc : s.can = false) :
  Calls Tryz.prog 77 #[.pointer (some ⟨b, 0, none⟩), .int .i64 n, .slice A' 256 c'] w (RetWrite F b 40 s.step w) := by
 have C := Lib.hid (find_ok h n hn)
 have C2 := Lib.hid (step_any h)
 have T := Lib.hid (fun w' (h' : DskB w' F b mb A c s.step) hf => h.turned h' hf)
 have HC := Lib.hid hc
 clear h hn hc
 go_enter Tryz.func77, Tryz.ntmps77
 go_wp2_with fail
 refine C.out.mono ?_
 rintro e w' ⟨rfl, rfl⟩
 go_wp2_with fail
 refine C2.out.mono ?_
 rintro e w' ⟨rfl, h1, h2⟩
 rw [HC.out]
 have R : Hid (RetWrite F b 40 s.step w (.returned (.int .i64 40)) w') := Lib.hid ⟨rfl, T.out w' h1 h2⟩
 clear h1 h2
 go_wp2_with fail
 go_ret
 exact R.out
theorem write_made (w : World) (F : Nat → Prop) (b mb : Nat) (A : Option Addr) (c : Nat) (s : St) (h : DskB w F b mb A c s) (n : Nat) (hn : n < s.num) (A' : Option Addr) (c' : Nat) (l : List Int) (hl : Byt w A' 256 c' l) (hA : ∀ k, (Value.slice A' 256 c').ownBlock = some k → ¬ F k) (hc : s.can = true) (hlim : s.pend.length < 999999) :
  Calls Tryz.prog 77 #[.pointer (some ⟨b, 0, none⟩), .int .i64 n, .slice A' 256 c'] w (RetWrite F b 0 (s.wrote n l) w) := by
 have hsec : Sec l := ⟨hl.len, hl.rng⟩
 obtain ⟨g, off, rfl, _⟩ := hl.at_ (by omega)
 have C := Lib.hid (find_ok h n hn)
 have C2 := Lib.hid (step_any h)
 obtain ⟨i0, hi, hz0, hz1, hz2⟩ := info_parts info_wr
 have X : Hid (∀ w1, DskB w1 F b mb A c s.step → Fr (fun k => k = b) w w1 → w1.rangeAt g off (byC l) ∧ g < w1.heap.size ∧ g ≠ b) := Lib.hid (fun w1 h1 hf => by
  have hgb : g ≠ b := hl.not_bk h.blk (by simp) g off rfl
  have hgl := hl.block_lt (by omega) g off rfl
  exact ⟨(hl.keep_block (fun g' off' e => by injection e with e; injection e with e1 e2; subst e1; exact hf.block _ hgl hgb)).range, Nat.lt_of_lt_of_le hgl hf.size, hgb⟩)
 have Y := Lib.hid (fun w1 w2 w3 A' c' (h1 : DskB w1 F b mb A c s.step) (hf : Fr (fun k => k = b) w w1) => @DskB.appended w w1 w2 w3 F b mb A A' c c' s n l h h1 hf hn hsec hlim)
 have KB : Hid (∀ w1 w2 w3, DskB w1 F b mb A c s.step → Fr (fun k => k = b) w w1 → Below w1.heap.size w1 w2 → w2.grownBy w3 (Value.slice A s.pend.length c).ownBlock →
   w3.cell? ⟨b, 2, none⟩ = some (.slice A s.pend.length c) ∧ w3.frozen? ⟨b, 2, none⟩ = false ∧ w3.rangeAt g off (byC l)) := Lib.hid (fun w1 w2 w3 h1 hf hb hg => by
  obtain ⟨hrg, hg1, hg2⟩ := X.out w1 h1 hf
  have hrow : w1.ownsRow 0 144 257 (.slice A s.pend.length c) s.pend.length (pdC s.pend) := by have := h1.row; rwa [St.step_pend] at this
  have hfp : ∀ k, (Value.slice A s.pend.length c).ownBlock = some k → F k := by have := h1.fp; rwa [St.step_pend] at this
  have hblk := h1.blk
  rw [St.step_pend] at hblk
  have hpb : (Value.slice A s.pend.length c).ownBlock ≠ some b := by
   intro hk
   rcases hrow.2 with ⟨q, _⟩ | ⟨g', cap, cur, q, _, hg', _⟩
   ·rw [q] at hk; simp [Value.ownBlock] at hk
   ·rw [q] at hk
    simp [Value.ownBlock] at hk
    subst hk
    unfold Bk at hblk
    rw [hblk] at hg'
    simp at hg'
  have e1 : w3.heap[b]? = w1.heap[b]? := (hg.block b (Nat.lt_of_lt_of_le hblk.lt hb.size) (fun q => hpb q.symm)).trans (hb.block b hblk.lt)
  have e2 : w3.heap[g]? = w1.heap[g]? := (hg.block g (Nat.lt_of_lt_of_le hg1 hb.size) (fun q => hA g rfl (hfp g q.symm))).trans (hb.block g hg1)
  have hblk3 := hblk.eq e1
  exact ⟨hblk3.cell 2, hblk3.frz 2, fun j v hv => (World.cell?_of_block e2).trans (hrg j v hv)⟩)
 have hone1 : Hid (∀ u ∈ wrC (n, l), u.oneCell' = true) := Lib.hid (fun u hu => by
  rcases List.mem_cons.1 hu with rfl | hu
  ·rfl
  ·exact byC_one l u hu)
 have HC := Lib.hid hc
 have harr := fun w => arrayAt_sec (some ⟨g, off, none⟩) c' w
 have hu := Tryz.underlying142
 have hlen : (byC l).length = 256 := by rw [byC_len, hl.len]
 have hsz : (Tryz.prog.info? 142).map (·.size) = some (byC l).length := by rw [hlen]; exact size_sec
 have hone := byC_one l
 have hwl : (wrC (n, l)).length = 257 := wrC_len (p := (n, l)) hsec
 have hcp : c' ≤ 9223372036854775807 := by have := hl.max; unfold maxLen at this; omega
 clear h hn hl hc hA
 go_enter Tryz.func77, Tryz.ntmps77
 go_wp2_with fail
 refine C.out.mono ?_
 rintro e w' ⟨rfl, rfl⟩
 go_wp2_with fail
 refine C2.out.mono ?_
 rintro e w1 ⟨rfl, h1, h2⟩
 rw [HC.out]
 obtain ⟨hrg, hg1, hg2⟩ := X.out w1 h1 h2
 have hc2 : w1.cell? ⟨b, 2, none⟩ = some (.slice A s.pend.length c) := by have := h1.blk.cell 2; rw [St.step_pend] at this; exact this
 have hf2 : w1.frozen? ⟨b, 2, none⟩ = false := h1.blk.frz 2
 have hrow : w1.ownsRow 0 144 257 (.slice A s.pend.length c) s.pend.length (pdC s.pend) := by have := h1.row; rwa [St.step_pend] at this
 have H1 := Lib.hid h1
 have H2 := Lib.hid h2
 have HR := Lib.hid hrow
 clear h1 h2 hrow
 go_wp2_with fail
 have hbs := bslice_wr (n, l) hsec
 have hbl := built_wr n l hsec
 have HK := Lib.hid (fun w2 w3 hb hg => KB.out w1 w2 w3 H1.out H2.out hb hg)
 have hS0 : w1.drew.cell? ⟨b, 2, none⟩ = some (.slice A s.pend.length c) ∧ w1.drew.rangeAt g off (byC l) := ⟨hc2, hrg⟩
 refine wp_region_noPanic ?_
 refine upto_start (fun w' => w'.cell? ⟨b, 2, none⟩ = some (.slice A s.pend.length c) ∧ w'.rangeAt g off (byC l)) 12 (by kernel_rfl) ?_
 change Upto _ _ _ _ _ 15 _ _ _
 refine Upto.tk 0 ?_ rfl (fun w' hS => ?_) hS0 ?_
 rotate_left
 ·(try dsimp only at hS); go_split_ands; go_simp; (try with_reducible rfl)
 simp only [Act.put, q1Pw16, q2Pw16, q3Pw16]
 refine Upto.tk 1 ?_ rfl (fun w' hS => ?_) hS0 ?_
 rotate_left
 ·(try dsimp only at hS); go_split_ands; go_simp; (try with_reducible rfl)
 simp only [Act.put, q1Pw16, q2Pw16, q3Pw16]
 refine Upto.tk 2 ?_ rfl (fun w' hS => ?_) hS0 ?_
 rotate_left
 ·(try dsimp only at hS); go_split_ands; go_simp; (try with_reducible rfl)
 simp only [Act.put, q1Pw16, q2Pw16, q3Pw16]
 refine Upto.tk 3 ?_ rfl (fun w' hS => ?_) hS0 ?_
 rotate_left
 ·(try dsimp only at hS); go_split_ands; go_simp; (try with_reducible rfl)
 simp only [Act.put, q1Pw16, q2Pw16, q3Pw16]
 refine Upto.tk 4 ?_ rfl (fun w' hS => ?_) hS0 ?_
 rotate_left
 ·(try dsimp only at hS); go_split_ands; go_simp; (try with_reducible rfl)
 simp only [Act.put, q1Pw16, q2Pw16, q3Pw16]
 refine Upto.tk 5 ?_ rfl (fun w' hS => ?_) hS0 ?_
 rotate_left
 ·(try dsimp only at hS); go_split_ands; go_simp; (try with_reducible rfl)
 simp only [Act.put, q1Pw16, q2Pw16, q3Pw16]
 refine Upto.tk 6 ?_ rfl (fun w' hS => ?_) hS0 ?_
 rotate_left
 ·(try dsimp only at hS); go_split_ands; go_simp; (try with_reducible rfl)
 simp only [Act.put, q1Pw16, q2Pw16, q3Pw16]
 refine Upto.take (i := 7) rfl (by kernel_rfl) (fun _ _ _ h => h) rfl (fun w' hS => exec_arrayAt rfl (by exact harr _)) hS0 ?_
 simp only [Act.put, q1Pw16, q2Pw16, q3Pw16]
 refine Upto.take (i := 8) rfl (by kernel_rfl) (fun _ _ _ h => h) rfl (fun w' hS => exec_load rfl (by rfl) (by exact hS.2) hu rfl hsz) hS0 ?_
 simp only [Act.put, q1Pw16, q2Pw16, q3Pw16]
 refine Upto.take (i := 9) rfl (by kernel_rfl) (fun _ _ _ h => h) rfl (fun w' hS => exec_build rfl [(0, .int .i64 n), (1, secV l)] (by rfl) hbl) hS0 ?_
 simp only [Act.put, q1Pw16, q2Pw16, q3Pw16]
 refine Upto.only (i := 10) rfl (by kernel_rfl) rfl (exec_buildSlice rfl [(0, .agg (wrC (n, l)).toArray)] (by rfl) (hbs _)) ?_ ?_
 ·have := HK.out (w1.drew.alloc (.cells (wrC (n, l)).toArray 144)) _ ((Below.refl _ w1).drew.alloc (Nat.le_refl _) _) ⟨rfl, rfl, rfl, Nat.le_refl _, fun _ _ _ => rfl⟩
  exact ⟨this.1, this.2.2⟩
 simp only [Act.put, q1Pw16, q2Pw16, q3Pw16]
 refine Upto.law (i := 11) rfl (by kernel_rfl) rfl (fun K hK => ?_)
 have hz257 : (Value.agg (wrC (0, zeros)).toArray).cells.size = 257 := by simp [Value.cells, wrC_len (p := (0, zeros)) zeros_sec]
 refine wp_append_lies _ _ _ 106 (by rfl) 0 144 i0 _ 257 264 Tryz.underlying106 hi hz0 hz1 hz2 hz257 (by omega) (.slice A s.pend.length c) s.pend.length (pdC s.pend) (by rfl) (HR.out.alloc _)
  ⟨w1.heap.size, 0, none⟩ 1 1 (wrC (n, l)) (by rfl) (by rw [hwl]) (World.news_of_block (cs := (wrC (n, l)).toArray) (t := 144) (fr := (0, 0)) (heap_alloc_new w1.drew _)) hone1.out
  (by omega) (by unfold maxLen; omega) (by omega) (Nat.zero_le _) (w1.heap.size + 1) (by simp) ?_
 intro gg cap w3 hown3 hgrow hat hltt
 have hb1 : Below w1.heap.size w1 (w1.drew.alloc (.cells (wrC (n, l)).toArray 144)) := (Below.refl _ w1).drew.alloc (Nat.le_refl _) _
 have hS3 := HK.out _ w3 hb1 hgrow
 obtain ⟨hc3, hf3, R⟩ := Y.out w1 _ w3 (some ⟨gg, 0, none⟩) cap H1.out H2.out hb1 hown3 hgrow (by
  rcases hat with h | h
  ·exact .inl h
  ·refine .inr (fun k hk => ?_)
   have : gg = k := by simpa [Value.ownBlock] using hk
   omega)
 have R := Lib.hid R
 refine hK _ _ ⟨hS3.1, hS3.2.2⟩ ?_
 clear hS3 hown3 hgrow hat hK HK H1 H2 HR Y KB hbl hbs harr
 simp only [Act.put, q1Pw16, q2Pw16, q3Pw16]
 refine Upto.tail rfl (by kernel_rfl) ?_
 simp only [List.drop_succ_cons, List.drop_zero]
 go_wp2_with fail
 refine NoPanic.normal ?_
 go_wp2_with fail
 go_ret
 exact R.out
end

/- disk.Sync answers and leaves what the plain disk does. -/
section
open Go.RowKit
theorem wrC_one (p : Nat × List Int) : ∀ u ∈ wrC p, u.oneCell' = true := fun u hu => by
 rcases List.mem_cons.1 hu with rfl | hu
 ·rfl
 ·exact byC_one p.2 u hu
theorem pend_at {w : World} {A : Option Addr} {c : Nat} {s : St} (ok : s.Ok) (h : w.ownsRow 0 144 257 (.slice A s.pend.length c) s.pend.length (pdC s.pend)) (hp : 0 < s.pend.length) :
  ∃ pb, A = some ⟨pb, 0, none⟩ ∧ s.pend.length ≤ c ∧ c ≤ maxLen ∧ ∀ i, i < s.pend.length → w.rangeAt pb (i * 257) (wrC (s.at_ i)) := by
 rcases h.2 with ⟨_, hn⟩ | ⟨g, cap, cur, hv, _, hg, hnc, hm, hcs, htk⟩
 ·omega
 ·injection hv with e1 e2 e3
  subst e3
  refine ⟨g, e1, hnc, hm, fun i hi j v hv => ?_⟩
  have hl : ∀ y ∈ s.pend, (wrC y).length = 257 := fun p hp => wrC_len (ok.pend p hp).2
  have hx : s.pend[i]? = some (s.at_ i) := by simp [St.at_, List.getD, List.getElem?_eq_getElem hi]
  have hj : j < 257 := by
   have := (List.getElem?_eq_some_iff.1 hv).1
   rwa [wrC_len (ok.at_ i hi).2] at this
  have := flatMap_at wrC 257 s.pend i j _ hl hx hj
  have hc := h.cells (g := g) (by rw [e1]; rfl) (i * 257 + j) v (by unfold pdC; rw [this, hv])
  have hadd : (⟨g, 0, none⟩ : Addr).add (i * 257 + j) = ⟨g, i * 257 + j, none⟩ := by unfold Addr.add; split <;> simp_all
  rwa [hadd] at hc
def RetSync (F : Nat → Prop) (b : Nat) (e0 : Int) (s' : St) (w : World) (e : Ending) (w' : World) : Prop := e = .returned (.int .i64 e0) ∧ Turn (dsk b s') F w w'
theorem sync_down (w : World) (F : Nat → Prop) (b mb : Nat) (A : Option Addr) (c : Nat) (s : St) (h : DskB w F b mb A c s) (hc : s.can = false) :
  Calls Tryz.prog 53 #[.pointer (some ⟨b, 0, none⟩)] w (RetSync F b 40 s.step w) := by
 have C2 := Lib.hid (step_any h)
 have T := Lib.hid (fun w' (h' : DskB w' F b mb A c s.step) hf => h.turned h' hf)
 have HC := Lib.hid hc
 clear h hc
 go_enter Tryz.func53, Tryz.ntmps53
 go_wp2_with fail
 refine C2.out.mono ?_
 rintro e w' ⟨rfl, h1, h2⟩
 rw [HC.out]
 have R : Hid (RetSync F b 40 s.step w (.returned (.int .i64 40)) w') := Lib.hid ⟨rfl, T.out w' h1 h2⟩
 clear h1 h2
 go_wp2_with fail
 go_ret
 exact R.out
structure SyncRel (b mb : Nat) (cs : Array Value) (A : Option Addr) (c : Nat) (s : St) (w1 : World) (k : Nat) (wr : World) : Prop where
 blk : Bk wr b 108 cs
 map : MapFn wr mb (secV zeros) (fun n => secV (s.upTo k n))
 row : wr.ownsRow 0 144 257 (.slice A s.pend.length c) s.pend.length (pdC s.pend)
 fr : Fr (fun k => k = mb) w1 wr
theorem row_not_bk {w : World} {base e size n : Nat} {v : Value} {xs : List Value} {b : Nat} {t : TypeId} {cs : Array Value} (h : w.ownsRow base e size v n xs) (hb : Bk w b t cs) (hne : t ≠ e) : v.ownBlock ≠ some b := by
 rcases h.2 with ⟨rfl, _⟩ | ⟨g, cap, cur, rfl, _, hg, _⟩
 ·simp [Value.ownBlock]
 ·intro q
  simp [Value.ownBlock] at q
  subst q
  unfold Bk at hb
  rw [hb] at hg
  simp at hg
  exact hne hg.2
theorem SyncRel.step {b mb : Nat} {cs : Array Value} {A : Option Addr} {c : Nat} {s : St} {w1 wr w2 w3 : World} {k : Nat} (h : SyncRel b mb cs A c s w1 k wr) (hb : Below wr.heap.size wr w2)
  (hm : MapFn w3 mb (secV zeros) (fun m => if m = (s.at_ k).1 then secV (s.at_ k).2 else secV (s.upTo k m))) (hf : Fr (fun k => k = mb) w2 w3) : SyncRel b mb cs A c s w1 (k + 1) w3 := by
 have hne : mb ≠ b := h.map.not_bk h.blk
 have hpb : (Value.slice A s.pend.length c).ownBlock ≠ some mb := h.map.not_row h.row
 refine ⟨?_, ?_, ?_, ?_⟩
 ·have h2 := h.blk.bel hb h.blk.lt
  exact h2.eq (hf.block b h2.lt (fun e => hne e.symm))
 ·have e : (fun n => secV (s.upTo (k + 1) n)) = fun m => if m = (s.at_ k).1 then secV (s.at_ k).2 else secV (s.upTo k m) := by
   funext m
   show secV (upd (s.upTo k) (s.at_ k).1 (s.at_ k).2 m) = _
   unfold upd
   split <;> rfl
  rw [e]
  exact hm
 ·refine owns_keep h.row (fun q hq => ?_)
  have hlt := (h.row.lt q hq).2
  exact (hf.block q (Nat.lt_of_lt_of_le hlt hb.size) (fun e => hpb (by rw [hq, e]))).trans (hb.block q hlt)
 ·exact (h.fr.then (Fr.of_below hb)).then hf
theorem slice_none (A : Option Addr) (n c : Nat) (w : World) : (Instr.sliceAt 106 (.slice A n c) none (some (.int .i64 0)) none).run Tryz.prog w = .ok (.slice A 0 c) w := by
 obtain ⟨i0, hi, hz0, hz1, hz2⟩ := info_parts info_wr
 cases A with
 | none => by_cases h : c = 0 <;> simp [Instr.sliceAt, Instr.slice, Instr.sliceBounds, Instr.sliceBound, asIntOf, run_underlying (P := Tryz.prog) Tryz.underlying106, Result.andThen, sizeOf, typeInfo, hi, hz1, h]
 | some a => by_cases h : c = 0 <;> simp [Instr.sliceAt, Instr.slice, Instr.sliceBounds, Instr.sliceBound, asIntOf, run_underlying (P := Tryz.prog) Tryz.underlying106, Result.andThen, sizeOf, typeInfo, hi, hz1, h, Addr.add]
theorem SyncRel.done {w w1 wr w3 : World} {F : Nat → Prop} {b mb : Nat} {A : Option Addr} {c : Nat} {s : St} (h : DskB w F b mb A c s) (h1 : DskB w1 F b mb A c s.step) (hf1 : Fr (fun k => k = b) w w1) (hlim : s.syncs < 999999)
  (hr : SyncRel b mb #[.int .i64 s.step.num, .map (some mb), .slice A s.pend.length c, .int .i64 s.step.left, .bool s.step.gone, .int .i64 s.syncs] A c s w1 s.pend.length wr)
  (ho : w3.ownsRow 0 144 257 (.slice A 0 c) 0 []) (hg : wr.grownBy w3 (Value.slice A s.pend.length c).ownBlock) :
  (w3.cell? ⟨b, 2, none⟩ = some (.slice A s.pend.length c) ∧ w3.frozen? ⟨b, 2, none⟩ = false ∧ w3.cell? ⟨b, 5, none⟩ = some (.int .i64 s.syncs) ∧ w3.frozen? ⟨b, 5, none⟩ = false) ∧
  RetSync F b 0 s.synced w (.returned (.int .i64 0)) ((w3.setCell ⟨b, 2, none⟩ (.slice A 0 c)).setCell ⟨b, 5, none⟩ (.int .i64 (s.syncs + 1))) := by
 have hpb : (Value.slice A s.pend.length c).ownBlock ≠ some b := row_not_bk hr.row hr.blk (by decide)
 have hpm : (Value.slice A s.pend.length c).ownBlock ≠ some mb := hr.map.not_row hr.row
 have hob : (Value.slice A 0 c).ownBlock = (Value.slice A s.pend.length c).ownBlock := by cases A <;> rfl
 have e : s.step.pend = s.pend := St.step_pend s
 have hfp := h1.fp
 rw [e] at hfp
 have hblk3 := hr.blk.eq (hg.block b hr.blk.lt (fun q => hpb q.symm))
 have hne : mb ≠ b := hr.map.not_bk hr.blk
 refine ⟨⟨hblk3.cell 2, hblk3.frz 2, hblk3.cell 5, hblk3.frz 5⟩, rfl, ?_⟩
 have hfr3 : Fr F w w3 := ((hf1.mono (fun k q => (q ▸ h.fb : F k))).then (hr.fr.mono (fun k q => (q ▸ h.fm : F k)))).grown hg (fun k hk => .inl (hfp k hk))
 have hfr : Fr F w ((w3.setCell ⟨b, 2, none⟩ (.slice A 0 c)).setCell ⟨b, 5, none⟩ (.int .i64 (s.syncs + 1))) := (hfr3.setCell (a := ⟨b, 2, none⟩) h.fb _).setCell (a := ⟨b, 5, none⟩) h.fb _
 have hkeep : ∀ k, k ≠ b → ((w3.setCell ⟨b, 2, none⟩ (.slice A 0 c)).setCell ⟨b, 5, none⟩ (.int .i64 (s.syncs + 1))).heap[k]? = w3.heap[k]? := fun k hk => by
  rw [Below.heap_setCell _ _ _ _ hk, Below.heap_setCell _ _ _ _ hk]
 have D : DskB ((w3.setCell ⟨b, 2, none⟩ (.slice A 0 c)).setCell ⟨b, 5, none⟩ (.int .i64 (s.syncs + 1))) F b mb A c s.synced := by
  refine ⟨?_, ?_, ?_, h.fb, h.fm, ?_, ?_, ?_, ?_⟩
  ·have := (hblk3.setc 2 (.slice A 0 c)).setc 5 (.int .i64 (s.syncs + 1))
   simpa [St.synced] using this
  ·exact (hr.map.eq (hg.block mb hr.map.lt (fun q => hpm q.symm))).eq (hkeep mb hne)
  ·refine owns_keep ho (fun k hk => hkeep k (fun q => ?_))
   have hk' : (Value.slice A 0 c).ownBlock = some k := hk
   rw [hob, q] at hk'
   exact hpb hk'
  ·intro k hk
   have hk' : (Value.slice A 0 c).ownBlock = some k := hk
   rw [hob] at hk'
   exact hfp k hk'
  ·exact fun k f => Nat.lt_of_lt_of_le (h.lt k f) hfr.size
  ·have := h.ok.sync
   exact ⟨h.ok.step.num, h.ok.now, fun p hp => by simp [St.synced] at hp, h.ok.step.left⟩
  ·exact ⟨by simp [St.synced], by show s.syncs + 1 < _; omega⟩
 exact (D.mono (fun _ f => .inl f) (fun k f => by
  rcases f with f | f
  ·exact D.lt k f
  ·exact f.2)).turn hfr
theorem sync_made (w : World) (F : Nat → Prop) (b mb : Nat) (A : Option Addr) (c : Nat) (s : St) (h : DskB w F b mb A c s) (hc : s.can = true) (hlim : s.syncs < 999999) :
  Calls Tryz.prog 53 #[.pointer (some ⟨b, 0, none⟩)] w (RetSync F b 0 s.synced w) := by
 obtain ⟨i0, hi, hz0, hz1, hz2⟩ := info_parts info_wr
 have C2 := Lib.hid (step_any h)
 have HC := Lib.hid hc
 have HD := Lib.hid (fun w1 wr w3 (h1 : DskB w1 F b mb A c s.step) hf1 hr ho hg => SyncRel.done (w3 := w3) (wr := wr) h h1 hf1 hlim hr ho hg)
 have hpl := h.lim
 have HOK := Lib.hid h.ok
 have hcmax : c ≤ 9223372036854775807 := by
  rcases h.row.2 with ⟨hv, _⟩ | ⟨g, cap, cur, hv, _, _, _, hm, _⟩
  ·injection hv with _ _ e3; omega
  ·injection hv with _ _ e3; unfold maxLen at hm; omega
 have HZ := Lib.hid (show ∀ w, (zeroValue 144).run Tryz.prog w = .ok (.agg (wrC (0, zeros)).toArray) w from fun w => by simp [zeroValue, typeInfo, hi, hz0])
 have hz257 : (Value.agg (wrC (0, zeros)).toArray).cells.size = 257 := by simp [Value.cells, wrC_len (p := (0, zeros)) zeros_sec]
 have HZ1 : Hid (∀ v ∈ (Value.agg (wrC (0, zeros)).toArray).cells.toList, v.oneCell' = true) := Lib.hid (fun v hv => wrC_one (0, zeros) v (by simpa [Value.cells] using hv))
 have HI : Hid ((Tryz.prog.info? 144).map (·.size) = some 257) := Lib.hid (by rw [hi]; simp [hz1])
 have hu := Tryz.underlying144
 have hus := Tryz.underlying142
 have huw := Tryz.underlying81
 have hui := Tryz.underlying3
 have hpl1 := hpl.1
 have hpl2 := hpl.2
 clear h hc hpl
 go_enter Tryz.func53, Tryz.ntmps53
 go_wp2_with fail
 refine C2.out.mono ?_
 rintro e w1 ⟨rfl, h1, h2⟩
 rw [HC.out]
 have hblk1 := h1.blk
 rw [St.step_pend, St.step_syncs] at hblk1
 have hrow1 := h1.row
 rw [St.step_pend] at hrow1
 have hmap1 := h1.map
 rw [St.step_syn] at hmap1
 have hc2 : w1.cell? ⟨b, 2, none⟩ = some (.slice A s.pend.length c) := hblk1.cell 2
 obtain ⟨cs, hcs⟩ : ∃ cs : Array Value, cs = #[.int .i64 s.step.num, .map (some mb), .slice A s.pend.length c, .int .i64 s.step.left, .bool s.step.gone, .int .i64 s.syncs] := ⟨_, rfl⟩
 have HD2 : Hid (∀ wr w3, SyncRel b mb cs A c s w1 s.pend.length wr → w3.ownsRow 0 144 257 (.slice A 0 c) 0 [] → wr.grownBy w3 (Value.slice A s.pend.length c).ownBlock → _) := Lib.hid (fun wr w3 hr ho hg => HD.out w1 wr w3 h1 h2 (by rw [hcs] at hr; exact hr) ho hg)
 have HCS := Lib.hid hcs
 have R0 : Hid (SyncRel b mb cs A c s w1 0 w1) := Lib.hid ⟨by rw [hcs]; exact hblk1, hmap1, hrow1, Fr.refl _ _⟩
 clear h1 h2 hblk1 hrow1 hmap1 hcs HD C2 HC
 go_wp2_with fail
 go_loopw [18] (fun q wr => ∃ k : Nat, k ≤ s.pend.length ∧ q = .int .i64 k ∧ SyncRel b mb cs A c s w1 k wr) (fun q _ => s.pend.length - (intOf q).toNat)
 case atStart => exact ⟨0, Nat.zero_le _, rfl, R0.out⟩
 case round =>
  obtain ⟨k, hk, rfl, hr⟩ := hrel
  have hblk := hr.blk
  rw [HCS.out] at hblk
  have hc1 : wr.cell? ⟨b, 1, none⟩ = some (.map (some mb)) := hblk.cell 1
  have hc2 : wr.cell? ⟨b, 2, none⟩ = some (.slice A s.pend.length c) := hblk.cell 2
  by_cases hlt : k < s.pend.length
  ·obtain ⟨pb, rfl, hpc, hpm, hat⟩ := pend_at HOK.out hr.row (by omega)
   have hrg := hat k hlt
   have hrg0 : wr.rangeAt pb (0 + k * 257) (wrC (s.at_ k)) := by rw [Nat.zero_add]; exact hrg
   obtain ⟨n, l, hnl⟩ : ∃ n l, s.at_ k = (n, l) := ⟨_, _, rfl⟩
   have hsec : Sec l := by have := (HOK.out.at_ k hlt).2; rw [hnl] at this; exact this
   rw [hnl] at hrg hrg0
   have hwl : (wrC (n, l)).length = 257 := wrC_len (p := (n, l)) hsec
   have hbl : (byC l).length = 256 := by rw [byC_len, hsec.1]
   have hiw : (Tryz.prog.info? 144).map (·.size) = some (wrC (n, l)).length := by rw [hwl]; exact HI.out
   have his : (Tryz.prog.info? 142).map (·.size) = some (byC l).length := by rw [hbl]; exact size_sec
   have h1w : (wrC (n, l)).toArray.all (·.oneCell') = true := all_oneCell_toArray (wrC_one _)
   have HST := Lib.hid (fun w2 w3 hb hm hf => hr.step (w2 := w2) (w3 := w3) hb (by rw [hnl]; exact hm) hf)
   have HR := Lib.hid hr
   clear hr hat
   have hk0 : (0 : Int) ≤ (k : Int) := Int.natCast_nonneg _
   have hk1 : (k : Int) < (s.pend.length : Int) := by omega
   go_wp2_with (first
    | (refine wpList_run rfl (exec_load rfl (by rfl) (by first | exact hrg | exact hrg0) hu rfl hiw) ?_)
    | (refine wpList_run rfl (exec_alloc rfl HZ.out) ?_)
    | (refine wpList_store_new rfl rfl (W := wr) rfl (by rfl) (by rfl) (by rw [List.size_toArray]; exact hiw) (by rw [hz257, List.size_toArray, hwl]) h1w ?_))
   have hnb : (wr.alloc (.cells (wrC (n, l)).toArray 144)).heap[wr.heap.size]? = some (.cells (wrC (n, l)).toArray 144 (0, 0)) := heap_alloc_new wr _
   have hcb : (wr.alloc (.cells (wrC (n, l)).toArray 144)).cell? ⟨b, 1, none⟩ = some (.map (some mb)) := ((Below.refl _ wr).alloc (Nat.le_refl _) _).cell (p := ⟨b, 1, none⟩) hblk.lt |>.trans hc1
   have hS0 : (wr.alloc (.cells (wrC (n, l)).toArray 144)).drew.cell? ⟨b, 1, none⟩ = some (.map (some mb)) ∧ (wr.alloc (.cells (wrC (n, l)).toArray 144)).drew.cell? ⟨wr.heap.size, 0, none⟩ = some (.int .i64 n) ∧ (wr.alloc (.cells (wrC (n, l)).toArray 144)).drew.rangeAt wr.heap.size 1 (byC l) := by
    refine ⟨hcb, ?_, ?_⟩
    ·exact (cell_of_row _ _ _ _ _ _ hnb).trans rfl
    ·have := World.rangeAt_of_block hnb 1 256
     have e : ((wrC (n, l)).toArray.extract 1 (1 + 256)).toList = byC l := by
      simp [wrC, hbl]
      exact List.take_of_length_le (by omega)
     rw [e] at this
     exact this
   have HB2 := Lib.hid ((Below.refl _ wr).alloc (Nat.le_refl _) (.cells (wrC (n, l)).toArray 144)).drew
   have HM := Lib.hid (HR.out.map.eq (w' := (wr.alloc (.cells (wrC (n, l)).toArray 144)).drew) ((HB2.out).block mb HR.out.map.lt))
   obtain ⟨W2, hW2⟩ : ∃ W2, W2 = wr.alloc (.cells (wrC (n, l)).toArray 144) := ⟨_, rfl⟩
   rw [← hW2] at hS0 HB2 HM ⊢
   clear hnb hcb hW2
   refine wp_region_noPanic ?_
   refine upto_start (fun w' => w'.cell? ⟨b, 1, none⟩ = some (.map (some mb)) ∧ w'.cell? ⟨wr.heap.size, 0, none⟩ = some (.int .i64 n) ∧ w'.rangeAt wr.heap.size 1 (byC l)) 8 (by kernel_rfl) ?_
   change Upto _ _ _ _ _ 9 _ _ _
   refine Upto.tk 0 ?_ rfl (fun w' hS => ?_) hS0 ?_
   rotate_left
   ·(try dsimp only at hS); go_split_ands; go_simp; (try with_reducible rfl)
   simp only [Act.put, q1Pw16, q2Pw16, q3Pw16]
   refine Upto.tk 1 ?_ rfl (fun w' hS => ?_) hS0 ?_
   rotate_left
   ·(try dsimp only at hS); go_split_ands; go_simp; (try with_reducible rfl)
   simp only [Act.put, q1Pw16, q2Pw16, q3Pw16]
   refine Upto.tk 2 ?_ rfl (fun w' hS => ?_) hS0 ?_
   rotate_left
   ·(try dsimp only at hS); go_split_ands; go_simp; (try with_reducible rfl)
   simp only [Act.put, q1Pw16, q2Pw16, q3Pw16]
   refine Upto.tk 3 ?_ rfl (fun w' hS => ?_) hS0 ?_
   rotate_left
   ·(try dsimp only at hS); go_split_ands; go_simp; (try with_reducible rfl)
   simp only [Act.put, q1Pw16, q2Pw16, q3Pw16]
   refine Upto.tk 4 ?_ rfl (fun w' hS => ?_) hS0 ?_
   rotate_left
   ·(try dsimp only at hS); go_split_ands; go_simp; (try with_reducible rfl)
   simp only [Act.put, q1Pw16, q2Pw16, q3Pw16]
   refine Upto.tk 5 ?_ rfl (fun w' hS => ?_) hS0 ?_
   rotate_left
   ·(try dsimp only at hS); go_split_ands; go_simp; (try with_reducible rfl)
   simp only [Act.put, q1Pw16, q2Pw16, q3Pw16]
   refine Upto.tk 6 ?_ rfl (fun w' hS => ?_) hS0 ?_
   rotate_left
   ·(try dsimp only at hS); go_split_ands; go_simp; (try with_reducible rfl)
   simp only [Act.put, q1Pw16, q2Pw16, q3Pw16]
   refine Upto.take (i := 7) rfl (by kernel_rfl) (fun _ _ _ h => h) rfl (fun w' hS => exec_load rfl (by rfl) (by exact hS.2.2) hus rfl his) hS0 ?_
   simp only [Act.put, q1Pw16, q2Pw16, q3Pw16]
   refine Upto.tail rfl (by kernel_rfl) ?_
   simp only [List.drop_succ_cons, List.drop_zero]
   refine wpList_update_fn rfl _ _ _ rfl huw hui mb _ _ HM.out (by rfl) n (by rfl) (secV l) (by rfl) ?_
   intro w3 hm3 hf3
   have R := Lib.hid (HST.out _ w3 HB2.out hm3 hf3)
   clear hm3 hf3 HST HM HB2 hS0 HR hrg hrg0
   simp only [Act.put]
   go_wp2_with fail
   refine NoPanic.normal ?_
   go_wp2_with fail
   go_roundw
   case rel => exact ⟨k + 1, by omega, by go_num, R.out⟩
   case measure => simp [intOf]; omega
  ·obtain rfl : k = s.pend.length := by omega
   have HR := Lib.hid hr
   have hsn := fun w => slice_none A s.pend.length c w
   have HSN := Lib.hid hsn
   clear hr hsn
   go_wp2_with (first
    | (refine wpList_clear rfl rfl Tryz.underlying106 hi hz0 hz257 HZ1.out (by rfl) HR.out.row ?_; intro w3 ho3 hg3; clear hc1 hc2 hblk; have hD := Lib.hid (HD2.out _ w3 HR.out ho3 hg3); clear ho3 hg3; obtain ⟨⟨hc2, hf2, hc5, hf5⟩, hRR⟩ := hD.out; have RR := Lib.hid hRR; clear hRR)
    | (refine wpList_run rfl (exec_slice rfl (HSN.out _)) ?_))
   go_ret
   exact RR.out
end
end Go.Proofs.YtfmfmdiegabobabGreatDoor
