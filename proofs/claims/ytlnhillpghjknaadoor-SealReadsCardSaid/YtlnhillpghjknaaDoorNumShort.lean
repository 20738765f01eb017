/- What it says: num.Short hands back a number's digits to the base 128, in new memory. -/
import Derived.Test.YtlnhillpghjknaaDoorOwn
import Derived.Test.YtlnhillpghjknaaDoorClone
import Derived.Test.YtlnhillpghjknaaDoorNumMath
import Derived.Laws.Build
namespace Go.Proofs.YtlnhillpghjknaaDoor
open Go.RowKit

/-- What is gathered so far, in the last cells of the array. -/
structure ArrRel (n : Nat) (w : World) (m at_ : Nat) (acc : List Int) (cs : Array Value) (wr : World) : Prop where
  blk : Bk wr w.heap.size 93 cs
  size : cs.size = 10
  len : acc.length + at_ = 10
  pos : 0 < acc.length
  cells : ∀ i, i < acc.length → cs[at_ + i]? = some (.int .u8 (acc.getD i 0))
  all : hiD (m / 128) ++ acc = shortL n
  bel : Below w.heap.size w wr

theorem ArrRel.more {n : Nat} {w : World} {m at_ : Nat} {acc : List Int} {cs : Array Value} {wr : World} (h : ArrRel n w m at_ acc cs wr) (hn : n < 18446744073709551616) (hm : m / 128 ≠ 0) : ∃ j, at_ = j + 1 := by
  have h1 := shortL_len n hn
  rw [← h.all, hiD_pos hm] at h1
  simp at h1
  have := h.len
  exact ⟨at_ - 1, by omega⟩

theorem ArrRel.step {n : Nat} {w : World} {m j : Nat} {acc : List Int} {cs : Array Value} {wr : World} (h : ArrRel n w m (j + 1) acc cs wr) (hm : m / 128 ≠ 0) :
    ArrRel n w (m / 128) j ((((m / 128 : Nat) : Int) % 128 + 128) :: acc) (cs.setIfInBounds j (.int .u8 (((m / 128 : Nat) : Int) % 128 + 128))) (wr.setCell ⟨w.heap.size, j, none⟩ (.int .u8 (((m / 128 : Nat) : Int) % 128 + 128))) := by
  have hl := h.len
  refine ⟨h.blk.setc j _, by simp [h.size], by simp; omega, by simp, fun i hi => ?_, by rw [← h.all, hiD_pos hm]; simp, h.bel.setCell (Nat.le_refl _) _⟩
  have hs := h.size
  cases i with
  | zero => simp [Array.getElem?_setIfInBounds, hs]; omega
  | succ i =>
    have := h.cells i (by simpa using hi)
    rw [Array.getElem?_setIfInBounds, if_neg (by omega)]
    rw [show j + (i + 1) = j + 1 + i from by omega, this]
    simp

theorem ArrRel.byt {n : Nat} {w : World} {m at_ : Nat} {acc : List Int} {cs : Array Value} {wr : World} (h : ArrRel n w m at_ acc cs wr) (hm : m / 128 = 0) : Byt wr (some ⟨w.heap.size, at_, none⟩) (10 - at_) (10 - at_) (shortL n) := by
  have e := h.all
  rw [hm, hiD_zero, List.nil_append] at e
  have hl := h.len
  rw [← e]
  exact Byt.of_bk h.blk at_ _ _ acc (by omega) (Nat.le_refl _) (by unfold maxLen; omega) (by rw [e]; exact shortL_rng n) (fun i hi => h.cells i (by omega))

theorem ArrRel.start (n : Nat) (w : World) : ArrRel n w n 9 [(n : Int) % 128] #[.int .u8 0, .int .u8 0, .int .u8 0, .int .u8 0, .int .u8 0, .int .u8 0, .int .u8 0, .int .u8 0, .int .u8 0, .int .u8 ((n : Int) % 128)]
    (w.alloc (.cells #[.int .u8 0, .int .u8 0, .int .u8 0, .int .u8 0, .int .u8 0, .int .u8 0, .int .u8 0, .int .u8 0, .int .u8 0, .int .u8 ((n : Int) % 128)] 93)) :=
  ⟨Bk.new _ _ _, rfl, rfl, by simp, fun i hi => by
    have : i = 0 := by simpa using hi
    subst this; rfl, rfl, (Below.refl _ _).alloc (Nat.le_refl _) _⟩

theorem arrayLen10 : Tryd.prog.arrayLen 93 = 10 := by kernel_rfl
theorem elem10 : Tryd.prog.elem 93 = 5 := by kernel_rfl
theorem under10 : Tryd.prog.underlying 93 = some (.array (Tryd.prog.arrayLen 93) (Tryd.prog.elem 93)) := by kernel_rfl
theorem size_u8 (W : World) : (sizeOf 5).run Tryd.prog W = .ok 1 W := by
  obtain ⟨i0, hi, hz0, hz1, hz2⟩ := info_parts info_u8
  simp [sizeOf, typeInfo, hi, hz1]

theorem slice10 (B at_ : Nat) (h : at_ ≤ 9) (W : World) :
    (Instr.sliceAt 93 (.pointer (some ⟨B, 0, none⟩)) (some (.int .i64 (at_ : Int))) none none).run Tryd.prog W = .ok (.slice (some ⟨B, at_, none⟩) (10 - at_) (10 - at_)) W := by
  rw [run_sliceAt_array_l (P := Tryd.prog) W _ _ under10 .i64 (at_ : Int) (by omega) (by rw [arrayLen10]; omega), elem10, size_u8, arrayLen10]
  simp [slicedAt, Result.andThen]
  rw [if_neg (by omega)]
  by_cases h0 : at_ = 0 <;> simp [Addr.add, h0]

set_option maxHeartbeats 1000000 in
theorem numShort_any (n : Nat) (hn : n < 18446744073709551616) (w : World) :
    Calls Tryd.prog 57 #[.int .u64 n] w (RetByt (shortL n) w) := by
  have R0 := Lib.hid (ArrRel.start n w)
  go_enter Tryd.func57, Tryd.ntmps57
  go_wp2_with fail
  go_step3
  go_wp2_with fail
  go_step3
  go_wp2_with fail
  go_loopw [0, 4] (fun s v wr => ∃ (m at_ : Nat) (acc : List Int) (cs : Array Value), m < 18446744073709551616 ∧ s = .int .u64 m ∧ v = .int .i64 at_ ∧ ArrRel n w m at_ acc cs wr) (fun s _ _ => (intOf s).toNat)
  case atStart => exact ⟨n, 9, _, _, hn, rfl, rfl, R0.out⟩
  case round =>
    obtain ⟨m, at_, acc, cs, hm, rfl, rfl, R⟩ := hrel
    have HR := Lib.hid R
    clear R
    by_cases h0 : m / 128 = 0
    · have hat : at_ ≤ 9 := by have := HR.out.len; have := HR.out.pos; omega
      have H0 := Lib.hid h0
      have hz : ((m : Int) / 128 == 0) = true := by simp; omega
      have hs := slice10 w.heap.size at_ hat
      have HB := Lib.hid (HR.out.byt h0)
      clear h0
      go_wp2_with (go_at_call 41; refine (clone_any _ _ _ _ _ HB.out (by omega)).mono ?_; rintro e w1 ⟨A, k, c, rfl, hb, hbel⟩)
      rw [Exit.noGoto_ret]
      go_ret
      exact ⟨A, k, c, rfl, hb, Below.then HR.out.bel hbel⟩
    · obtain ⟨j, rfl⟩ := HR.out.more hn h0
      have hj : j ≤ 9 := by have := HR.out.len; omega
      have hge : (128 : Int) ≤ (m : Int) := by omega
      obtain ⟨u, hc⟩ : ∃ u, wr.cell? ⟨w.heap.size, j, none⟩ = some u := by
        rw [HR.out.blk.cell]; exact ⟨_, Array.getElem?_eq_getElem (by rw [HR.out.size]; omega)⟩
      have hf := HR.out.blk.frz j
      have R1 := Lib.hid (HR.out.step h0)
      go_wp2_with fail
      go_roundw
      case rel => exact ⟨m / 128, j, _, _, by omega, by go_num, rfl, R1.out⟩
      case measure => simp [intOf]; omega
end Go.Proofs.YtlnhillpghjknaaDoor
