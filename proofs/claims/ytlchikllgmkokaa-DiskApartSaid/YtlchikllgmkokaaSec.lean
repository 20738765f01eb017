/- What it says: a write as a value: built of its number and its sector; a new block of one write; a slice of 256 bytes as a sector. -/
import Derived.Test.YtlchikllgmkokaaDisk
import Derived.Great.FillDense
import Derived.Laws.Tables
import Derived.Great.BuildSlice
namespace Go.Proofs.Ytlchikllgmkokaa
open Go.RowKit

theorem one_set (z : Array Value) (x : Value) (hx : x.oneCell' = true) (hz : 0 < z.size) : (x.cells.zipIdx.foldl (fun cs (y : Value × Nat) => cs.setIfInBounds (0 + y.2) y.1) z) = z.setIfInBounds 0 x := by
  have : x.cells = #[x] := by
    cases x <;> simp_all [Value.cells, Value.oneCell']
  rw [this]
  rfl

theorem arr_eq {a : Array Value} {l : List Value} (hs : a.size = l.length) (h : ∀ k, k < l.length → a[k]? = l[k]?) : a = l.toArray := by
  apply Array.ext_getElem?
  intro k
  by_cases hk : k < l.length
  · rw [h k hk]; simp
  · rw [Array.getElem?_eq_none (by omega), Array.getElem?_eq_none (by simp; omega)]

theorem wr_fill (z : Array Value) (hz : z.size = 257) (n : Nat) (l : List Int) (hl : Sec l) :
    (byC l).toArray.zipIdx.foldl (fun cs (x : Value × Nat) => cs.setIfInBounds (1 + x.2) x.1) (z.setIfInBounds 0 (.int .i64 n)) = (wrC (n, l)).toArray := by
  have hlen : (byC l).length = 256 := by rw [byC_len, hl.1]
  have he : (byC l).toArray.zipIdx.foldl (fun cs (x : Value × Nat) => cs.setIfInBounds (1 + x.2) x.1) (z.setIfInBounds 0 (.int .i64 n)) = ((byC l).zipIdx 0).foldl (fun cs (x : Value × Nat) => cs.setIfInBounds (1 + x.2) x.1) (z.setIfInBounds 0 (.int .i64 n)) := by
    simp
  rw [he]
  obtain ⟨h1, h2⟩ := Great.foldl_set 1 (byC l) 0 (z.setIfInBounds 0 (.int .i64 n))
  apply arr_eq
  · rw [h1, wrC_len (p := (n, l)) hl]
    simp [hz]
  · intro k hk
    rw [wrC_len (p := (n, l)) hl] at hk
    rw [h2 k]
    by_cases h0 : k = 0
    · subst h0
      rw [if_neg (by omega)]
      simp [wrC, hz]
    · rw [if_pos ⟨by omega, by omega, by simp; omega⟩]
      obtain ⟨j, rfl⟩ : ∃ j, k = j + 1 := ⟨k - 1, by omega⟩
      simp [wrC]

theorem secV_size {l : List Int} (hl : Sec l) : (byC l).toArray.size = 256 := by simp [byC_len, hl.1]

theorem fill_cons {place : Nat → Option (Nat × Nat)} {cells : Array Value} {i off size : Nat} {v : Value} {rest : List (Nat × Value)} (hp : place i = some (off, size)) (hs : v.cells.size = size) (ho : off + size ≤ cells.size) :
    Instr.fill place cells ((i, v) :: rest) = Instr.fill place (v.cells.zipIdx.foldl (fun cs (x : Value × Nat) => cs.setIfInBounds (off + x.2) x.1) cells) rest := by
  rw [Instr.fill, hp]
  simp only
  rw [if_neg (by simp; omega)]

theorem built_wr (n : Nat) (l : List Int) (hl : Sec l) : Try.prog.built 75 [(0, .int .i64 n), (1, secV l)] = some (wrC (n, l)).toArray := by
  have hp : Try.prog.built 75 [(0, .int .i64 n), (1, secV l)] = Instr.fill (fun i => ([(0, 1), (1, 256)] : List (Nat × Nat)).toArray[i]?) (wrC (0, zeros)).toArray [(0, .int .i64 n), (1, secV l)] := by
    generalize secV l = v
    generalize (n : Int) = m
    kernel_rfl
  rw [hp]
  have hw : (wrC (0, zeros)).toArray.size = 257 := by simp [wrC_len (p := (0, zeros)) zeros_sec]
  generalize (wrC (0, zeros)).toArray = Z at hw
  rw [fill_cons (off := 0) (size := 1) rfl rfl (by omega), one_set Z _ rfl (by omega), fill_cons (off := 1) (size := 256) rfl (show (secV l).cells.size = 256 from secV_size hl) (by rw [Array.size_setIfInBounds]; omega)]
  exact congrArg some (wr_fill Z hw n l hl)

theorem build_wr (n : Nat) (l : List Int) (hl : Sec l) (w : World) : (Instr.build 75 #[(0, .int .i64 n), (1, secV l)]).run Try.prog w = .ok (.agg (wrC (n, l)).toArray) w :=
  run_build w _ _ _ (built_wr n l hl)

theorem bslice_wr (p : Nat × List Int) (hp : Sec p.2) (w : World) : (Instr.buildSlice 69 1 #[(0, .agg (wrC p).toArray)]).run Try.prog w =
    .ok (.slice (some ⟨w.heap.size, 0, none⟩) 1 1) (w.alloc (.cells (wrC p).toArray 75)) := by
  obtain ⟨i0, hi, hz0, hz1, hz2⟩ := info_parts info_wr
  have hl := wrC_len hp
  refine Go.run_buildSlice w 69 75 1 _ _ i0 (.agg (wrC (0, zeros)).toArray) Try.underlying69 hi hz0 (by rw [hz1]; omega) (by rw [hz1]; omega) ?_
  have hz : ((Array.range (1 * i0.size)).map ((Value.agg (wrC (0, zeros)).toArray).cells[· % (Value.agg (wrC (0, zeros)).toArray).cells.size]!)).size = 257 := by simp [hz1]
  rw [hz1] at hz ⊢
  rw [fill_cons (off := 0) (size := 257) rfl (by show (wrC p).toArray.size = 257; simp [hl]) (by omega)]
  refine congrArg some ?_
  generalize hZ : (Array.range (1 * 257)).map ((Value.agg (wrC (0, zeros)).toArray).cells[· % (Value.agg (wrC (0, zeros)).toArray).cells.size]!) = Z at hz
  have he : (Value.agg (wrC p).toArray).cells.zipIdx.foldl (fun cs (x : Value × Nat) => cs.setIfInBounds (0 + x.2) x.1) Z = ((wrC p).zipIdx 0).foldl (fun cs (x : Value × Nat) => cs.setIfInBounds (0 + x.2) x.1) Z := by
    simp [Value.cells]
  rw [he]
  obtain ⟨h1, h2⟩ := Great.foldl_set 0 (wrC p) 0 Z
  apply arr_eq
  · rw [h1, hz, hl]
  · intro k hk
    rw [h2 k, if_pos ⟨by omega, by omega, by omega⟩]
    simp

/-- A write's zero value, and what comes of laying a number and a sector into it: as the walk asks it. -/
theorem zero_wr (n : Nat) (l : List Int) (hl : Sec l) : ∃ Z : Array Value, (∀ w, (zeroValue 75).run Try.prog w = .ok (.agg Z) w) ∧ Z.size = 257 ∧ Z ≠ #[] ∧ ¬ Z.size < 257 ∧
    (byC l).zipIdx.foldl (fun cs (x : Value × Nat) => cs.setIfInBounds (1 + x.2) x.1) (Z.setIfInBounds 0 (.int .i64 n)) = (wrC (n, l)).toArray := by
  obtain ⟨i0, hi, hz0, hz1, hz2⟩ := info_parts info_wr
  have hw : (wrC (0, zeros)).toArray.size = 257 := by simp [wrC_len (p := (0, zeros)) zeros_sec]
  refine ⟨(wrC (0, zeros)).toArray, fun w => by simp [zeroValue, typeInfo, hi, hz0], hw, fun e => ?_, by omega, ?_⟩
  · rw [e] at hw
    simp at hw
  · generalize (wrC (0, zeros)).toArray = Z at hw
    have := wr_fill Z hw n l hl
    rw [← this]
    simp

theorem foldl_whole (Y : Array Value) (l : List Value) (h : Y.size = l.length) : l.zipIdx.foldl (fun cs (x : Value × Nat) => cs.setIfInBounds x.2 x.1) Y = l.toArray := by
  obtain ⟨h1, h2⟩ := Great.foldl_set 0 l 0 Y
  simp only [Nat.zero_add] at h1 h2
  apply arr_eq
  · rw [h1, h]
  · intro k hk
    rw [h2 k, if_pos ⟨by omega, by omega, by omega⟩]
    simp

/-- The same, and a new block of it, as the walk asks them. -/
theorem zero_wr2 (n : Nat) (l : List Int) (hl : Sec l) : ∃ (Z : Array Value) (R : Array Nat), (∀ w, (zeroValue 75).run Try.prog w = .ok (.agg Z) w) ∧ Z.size = 257 ∧ Z ≠ #[] ∧ ¬ Z.size < 257 ∧ Array.range 257 = R ∧ R.size = 257 ∧
    (byC l).zipIdx.foldl (fun cs (x : Value × Nat) => cs.setIfInBounds (1 + x.2) x.1) (Z.setIfInBounds 0 (.int .i64 n)) = (wrC (n, l)).toArray ∧
    (wrC (n, l)).zipIdx.foldl (fun cs (x : Value × Nat) => cs.setIfInBounds x.2 x.1) (Array.map (fun x => Z[x % 257]!) R) = (wrC (n, l)).toArray := by
  obtain ⟨Z, h0, h1, h2, h3, h4⟩ := zero_wr n l hl
  refine ⟨Z, Array.range 257, h0, h1, h2, h3, rfl, by simp, h4, foldl_whole _ _ ?_⟩
  rw [Array.size_map, Array.size_range, wrC_len (p := (n, l)) hl]

theorem arrayAt_sec (A : Option Addr) (c : Nat) (w : World) : (Instr.arrayAt 73 (.slice A 256 c)).run Try.prog w = .ok (.pointer A) w := by
  simp [Instr.arrayAt, run_underlying (P := Try.prog) Try.underlying73, Result.andThen]
end Go.Proofs.Ytlchikllgmkokaa
