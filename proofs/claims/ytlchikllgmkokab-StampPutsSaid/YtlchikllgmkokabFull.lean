/- What it says: the statements' Full hands back a sector of one byte, in new memory. -/
import Derived.Test.YtlchikllgmkokabDRead
namespace Go.Proofs.Ytlchikllgmkokab
open Go.RowKit

/-- The bytes f 0 .. f 255, as cells. -/
def u8C (f : Nat → Int) : Array Value := ((List.range 256).map fun i => Value.int .u8 (f i)).toArray
theorem u8C_size (f : Nat → Int) : (u8C f).size = 256 := by unfold u8C; rw [List.size_toArray, List.length_map, List.length_range]
theorem u8C_at (f : Nat → Int) (i : Nat) (h : i < 256) : (u8C f)[i]? = some (.int .u8 (f i)) := by
  unfold u8C
  rw [List.getElem?_toArray, List.getElem?_map, List.getElem?_range h]
  rfl
theorem u8C_set (f : Nat → Int) (j : Nat) (v : Int) : (u8C f).setIfInBounds j (.int .u8 v) = u8C (fun i => if i = j then v else f i) := by
  apply Array.ext_getElem?
  intro i
  rw [Array.getElem?_setIfInBounds]
  by_cases hi : i < 256
  · rw [u8C_at _ i hi, u8C_at _ i hi, u8C_size]
    by_cases e : j = i
    · subst e; rw [if_pos rfl, if_pos hi, if_pos rfl]
    · rw [if_neg e, if_neg (fun q => e q.symm)]
  · have h1 : (u8C f)[i]? = none := Array.getElem?_eq_none (by rw [u8C_size]; omega)
    have h2 : (u8C (fun i => if i = j then v else f i))[i]? = none := Array.getElem?_eq_none (by rw [u8C_size]; omega)
    rw [h1, h2]
    split <;> (try rfl)
    rw [if_neg (by rw [u8C_size]; omega)]
theorem u8C_congr {f g : Nat → Int} (h : ∀ i, i < 256 → f i = g i) : u8C f = u8C g := by
  unfold u8C
  congr 1
  refine List.map_congr_left fun i hi => ?_
  rw [h i (by simpa using hi)]

/-- A sector of one byte. -/
def fullL (x : Int) : List Int := List.replicate 256 x
theorem fullL_sec {x : Int} (h : 0 ≤ x ∧ x < 256) : Sec (fullL x) := ⟨List.length_replicate, fun y hy => by
  obtain ⟨_, rfl⟩ := List.mem_replicate.1 hy
  exact h⟩
theorem u8C_full (x : Int) : u8C (fun _ => x) = (byC (fullL x)).toArray := by
  unfold u8C byC fullL
  rw [List.map_const', List.length_range, List.map_replicate]
theorem info_u8f : (Try.prog.info? 5).map (fun i => (i.zero, i.size, i.bytes)) = some (some (.int .u8 0), 1, 1) := by kernel_rfl
theorem make_256 (W : World) : (Instr.makeSlice 22 (.int .i64 256) (.int .i64 256)).run Try.prog W =
    .ok (.slice (some ⟨W.heap.size, 0, none⟩) 256 256) (W.alloc (.cells (u8C (fun _ => 0)) 5)) := by
  obtain ⟨i0, hi, hz0, hz1, hz2⟩ := info_parts info_u8f
  have := run_make (P := Try.prog) W 22 5 i0 (.int .u8 0) Try.underlying22 hi hz0 .i64 .i64 256 256 (by omega) (by omega) (by rw [hz2]; omega) (by omega)
  rw [this, hz1]
  show Result.ok _ (W.alloc (.cells (madeCells #[.int .u8 0] 256) _)) = _
  have e : madeCells #[.int .u8 0] 256 = u8C (fun _ => 0) := by
    apply Array.toList_inj.1
    rw [toList_madeCells_one]
    unfold u8C
    show _ = (List.range 256).map fun _ => Value.int .u8 0
    rw [List.map_const', List.length_range]
  rw [e]
  rfl

/-- What Full hands back: bytes in a new block. -/
def RetFull (l : List Int) (w : World) (e : Ending) (w' : World) : Prop :=
  ∃ g, w.heap.size ≤ g ∧ e = .returned (.slice (some ⟨g, 0, none⟩) 256 256) ∧ Bk w' g 5 (byC l).toArray ∧ Below w.heap.size w w'

theorem RetFull.byt {l : List Int} {w w' : World} {g : Nat} (hb : Bk w' g 5 (byC l).toArray) (hl : Sec l) : Byt w' (some ⟨g, 0, none⟩) 256 256 l := Byt.sec hb hl

end Go.Proofs.Ytlchikllgmkokab
