/- What it says: arrays of 32 words as values: an index reads one word; a new block holds them, and one word more is laid. No program is named; no condition. -/
import Derived.WalkKit
import Derived.Laws.Rows
import Derived.Laws.Tables
import Derived.Laws.NewBlocks
import Derived.Lib.Hide
namespace Go.Proofs.YteogchmhmgngnaaDoor
open Go.RowKit

/-- The 32 words f 0, f 1, .. -/
def matC (f : Nat → Nat) : Array Value := ((List.range 32).map fun i => Value.int .u32 (f i)).toArray

theorem matC_size (f : Nat → Nat) : (matC f).size = 32 := by simp [matC]
theorem matC_at (f : Nat → Nat) (i : Nat) (h : i < 32) : (matC f)[i]? = some (.int .u32 (f i)) := by
  simp [matC, h]

theorem matC_congr (f g : Nat → Nat) (h : ∀ i, i < 32 → f i = g i) : matC f = matC g := by
  unfold matC
  congr 1
  refine List.map_congr_left fun i hi => ?_
  rw [h i (by simpa using hi)]

/-- f, up to k; behind it g. -/
def upTo (f g : Nat → Nat) (k : Nat) (i : Nat) : Nat := if i < k then f i else g i

theorem matC_set (f g : Nat → Nat) (k : Nat) (h : k < 32) : (matC (upTo f g k)).setIfInBounds k (.int .u32 (f k)) = matC (upTo f g (k + 1)) := by
  apply Array.ext_getElem?
  intro i
  rw [Array.getElem?_setIfInBounds]
  by_cases hi : i < 32
  · rw [matC_at _ i hi, matC_at _ i hi, matC_size]
    by_cases e : k = i
    · subst e
      simp [h, upTo]
    · rw [if_neg e]
      have : (i < k + 1) = (i < k) := by simp; omega
      simp [upTo, this]
  · have h1 : (matC (upTo f g k))[i]? = none := Array.getElem?_eq_none (by rw [matC_size]; omega)
    have h2 : (matC (upTo f g (k + 1)))[i]? = none := Array.getElem?_eq_none (by rw [matC_size]; omega)
    rw [h1, h2, if_neg (by omega)]

theorem matC_one (f : Nat → Nat) : (matC f).all (·.oneCell') = true := by
  rw [Array.all_eq_true]
  intro i hi
  have h := matC_at f i (by rw [matC_size] at hi; exact hi)
  rw [Array.getElem?_eq_getElem hi] at h
  injection h with h
  rw [h]
  rfl

section
variable {P : Program}
/-- 'a[i]' of an array by value. -/
theorem run_index_mat (w : World) (t e : TypeId) (f : Nat → Nat) (i : Nat) (hi : i < 32) (hu : P.underlying t = some (.array 32 e)) (hue : P.underlying e = some (.int .u32)) (hs : (P.info? e).map (·.size) = some 1) :
    (Instr.index t (.agg (matC f)) (.int .i64 (i : Int))).run P w = .ok (.int .u32 (f i)) w := by
  cases hq : P.info? e with
  | none => simp [hq] at hs
  | some ie =>
    have h1 : ie.size = 1 := by simpa [hq] using hs
    have hsz : ∀ w, (sizeOf e).run P w = .ok 1 w := fun w => by simp [sizeOf, typeInfo, hq, h1]
    have ha := matC_at f i hi
    have hagg : ∀ w, (isAgg e).run P w = .ok false w := fun w => by simp [isAgg, Sem.run_bind, run_underlying hue w]
    have hc : (0 ≤ (i : Int) ∧ (i : Int) < ((32 : Nat) : Int)) := by omega
    unfold Instr.index
    simp only [Sem.run_bind, asIntOf, Sem.run_pure, Result.andThen, run_underlying hu w]
    rw [if_pos hc]
    simp only [Sem.run_bind, hsz, Result.andThen, part, hagg, Int.toNat_natCast, Nat.mul_one, ha]
    simp
end
end Go.Proofs.YteogchmhmgngnaaDoor
