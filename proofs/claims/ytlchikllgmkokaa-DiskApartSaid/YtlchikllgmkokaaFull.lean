/- What it says: the statements' Full hands back a sector of one byte, in new memory. -/
import Derived.Test.YtlchikllgmkokaaDRead
namespace Go.Proofs.Ytlchikllgmkokaa
open Go.RowKit

/-- The bytes f 0 .. f 255, as cells. -/
def u8C (f : Nat → Int) : Array Value := ((List.range 256).map fun i => Value.int .u8 (f i)).toArray
theorem u8C_size (f : Nat → Int) : (u8C f).size = 256 := by unfold u8C; rw [List.size_toArray, List.length_map, List.length_range]
theorem u8C_at (f : Nat → Int) (i : Nat) (h : i < 256) : (u8C f)[i]? = some (.int .u8 (f i)) := by
  unfold u8C
  rw [List.getElem?_toArray, List.getElem?_map, List.getElem?_range h]
  rfl
theorem u8C_set (f : Nat → Int) (j : Nat) (v : Int) : (u8C f).setIfInBounds j (.int .u8 v) = u8C (fun i => if i = j then v else f i) := by
  apply Array.ext_getElem?
  intro i
  rw [Array.getElem?_setIfInBounds]
  by_cases hi : i < 256
  · rw [u8C_at _ i hi, u8C_at _ i hi, u8C_size]
    by_cases e : j = i
    · subst e; rw [if_pos rfl, if_pos hi, if_pos rfl]
    · rw [if_neg e, if_neg (fun q => e q.symm)]
  · have h1 : (u8C f)[i]? = none := Array.getElem?_eq_none (by rw [u8C_size]; omega)
    have h2 : (u8C (fun i => if i = j then v else f i))[i]? = none := Array.getElem?_eq_none (by rw [u8C_size]; omega)
    rw [h1, h2]
    split <;> (try rfl)
    rw [if_neg (by rw [u8C_size]; omega)]
theorem u8C_congr {f g : Nat → Int} (h : ∀ i, i < 256 → f i = g i) : u8C f = u8C g := by
  unfold u8C
  congr 1
  refine List.map_congr_left fun i hi => ?_
  rw [h i (by simpa using hi)]

/-- A sector of one byte. -/
def fullL (x : Int) : List Int := List.replicate 256 x
theorem fullL_sec {x : Int} (h : 0 ≤ x ∧ x < 256) : Sec (fullL x) := ⟨List.length_replicate, fun y hy => by
  obtain ⟨_, rfl⟩ := List.mem_replicate.1 hy
  exact h⟩
theorem u8C_full (x : Int) : u8C (fun _ => x) = (byC (fullL x)).toArray := by
  unfold u8C byC fullL
  rw [List.map_const', List.length_range, List.map_replicate]
theorem info_u8f : (Try.prog.info? 5).map (fun i => (i.zero, i.size, i.bytes)) = some (some (.int .u8 0), 1, 1) := by kernel_rfl
theorem make_256 (W : World) : (Instr.makeSlice 32 (.int .i64 256) (.int .i64 256)).run Try.prog W =
    .ok (.slice (some ⟨W.heap.size, 0, none⟩) 256 256) (W.alloc (.cells (u8C (fun _ => 0)) 5)) := by
  obtain ⟨i0, hi, hz0, hz1, hz2⟩ := info_parts info_u8f
  have := run_make (P := Try.prog) W 32 5 i0 (.int .u8 0) Try.underlying32 hi hz0 .i64 .i64 256 256 (by omega) (by omega) (by rw [hz2]; omega) (by omega)
  rw [this, hz1]
  show Result.ok _ (W.alloc (.cells (madeCells #[.int .u8 0] 256) _)) = _
  have e : madeCells #[.int .u8 0] 256 = u8C (fun _ => 0) := by
    apply Array.toList_inj.1
    rw [toList_madeCells_one]
    unfold u8C
    show _ = (List.range 256).map fun _ => Value.int .u8 0
    rw [List.map_const', List.length_range]
  rw [e]
  rfl

/-- What Full hands back: bytes in a new block. -/
def RetFull (l : List Int) (w : World) (e : Ending) (w' : World) : Prop :=
  ∃ g, w.heap.size ≤ g ∧ e = .returned (.slice (some ⟨g, 0, none⟩) 256 256) ∧ Bk w' g 5 (byC l).toArray ∧ Below w.heap.size w w'

theorem RetFull.byt {l : List Int} {w w' : World} {g : Nat} (hb : Bk w' g 5 (byC l).toArray) (hl : Sec l) : Byt w' (some ⟨g, 0, none⟩) 256 256 l := Byt.sec hb hl

set_option maxRecDepth 100000 in
set_option maxHeartbeats 1000000 in
theorem full_any (x : Int) (w : World) : Calls Try.prog 14 #[.int .u8 x] w (RetFull (fullL x) w) := by
  have HM := Lib.hid make_256
  have R0 : Hid (Bk (w.alloc (.cells (u8C (fun _ => 0)) 5)) w.heap.size 5 (u8C (fun i => if i < 0 then x else 0)) ∧ Below w.heap.size w (w.alloc (.cells (u8C (fun _ => 0)) 5))) :=
    Lib.hid ⟨by rw [show u8C (fun i => if i < 0 then x else 0) = u8C (fun _ => 0) from u8C_congr (fun i _ => if_neg (Nat.not_lt_zero i))]; exact heap_alloc_new _ _, (Below.refl _ _).alloc (Nat.le_refl _) _⟩
  go_enter Try.func14, Try.ntmps14
  go_wp2_with (refine wpList_run rfl (exec_makeSlice rfl (HM.out _)) ?_)
  go_loopw [4] (fun q wr => ∃ k : Nat, k ≤ 256 ∧ q = .int .i64 k ∧ Bk wr w.heap.size 5 (u8C (fun i => if i < k then x else 0)) ∧ Below w.heap.size w wr) (fun q _ => 256 - (intOf q).toNat)
  case atStart => exact ⟨0, Nat.zero_le _, rfl, R0.out⟩
  case round =>
    obtain ⟨k, hk, rfl, hb, hbel⟩ := hrel
    by_cases hlt : k < 256
    · have hc : wr.cell? ⟨w.heap.size, k, none⟩ = some (.int .u8 (if k < k then x else 0)) := by rw [hb.cell]; exact u8C_at _ k hlt
      have hf : wr.frozen? ⟨w.heap.size, k, none⟩ = false := hb.frz k
      have R : Hid (Bk (wr.setCell ⟨w.heap.size, k, none⟩ (.int .u8 x)) w.heap.size 5 (u8C (fun i => if i < k + 1 then x else 0)) ∧ Below w.heap.size w (wr.setCell ⟨w.heap.size, k, none⟩ (.int .u8 x))) := by
        refine Lib.hid ⟨?_, hbel.setCell (Nat.le_refl _) _⟩
        have := hb.setc k (.int .u8 x)
        rw [u8C_set] at this
        rw [u8C_congr (g := fun i => if i = k then x else if i < k then x else 0) (fun i _ => by
          by_cases h1 : i = k
          · subst h1; simp
          · rw [if_neg h1]
            by_cases h2 : i < k
            · rw [if_pos h2, if_pos (by omega)]
            · rw [if_neg h2, if_neg (by omega)])]
        exact this
      clear hb hbel
      go_wp2_with fail
      go_roundw
      case rel => exact ⟨k + 1, by omega, by go_num, R.out⟩
      case measure => simp [intOf]; omega
    · have HK : Hid (k = 256) := Lib.hid (by omega)
      have R : Hid (RetFull (fullL x) w (.returned (.slice (some ⟨w.heap.size, 0, none⟩) 256 256)) wr) := by
        rw [HK.out] at hb
        refine Lib.hid ⟨_, Nat.le_refl _, rfl, ?_, hbel⟩
        rw [← u8C_full, u8C_congr (g := fun i => if i < 256 then x else 0) (fun i hi => by rw [if_pos hi])]
        exact hb
      clear hb hbel
      go_wp2_with fail
      go_ret
      exact R.out
end Go.Proofs.Ytlchikllgmkokaa
