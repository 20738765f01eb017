/- What it says: contracts and plain mathematics that the laws' walks use, 29 of 34: each part's own remark says what; no condition. -/
import Derived.Test.YtfldcddbmikfiaaPw3
import Derived.WalkKit
import Derived.Laws.Rows
import Derived.Laws.Tables
import Derived.Laws.NewBlocks
import Derived.Lib.Hide
import Derived.Deep.WholeRow

set_option linter.unusedSimpArgs false
set_option linter.unusedVariables false
set_option linter.deprecated false
set_option linter.unusedSectionVars false
set_option linter.all false

/- arrays of 32 words as values: an index reads one word; a new block holds them, and one word more is laid. No program is named; no condition. -/
namespace Go.Proofs.Ytfldcddbmikfiaa
open Go.RowKit

/-- The 32 words f 0, f 1, .. -/
def matC (f : Nat → Nat) : Array Value := ((List.range 32).map fun i => Value.int .u32 (f i)).toArray

theorem matC_size (f : Nat → Nat) : (matC f).size = 32 := by simp [matC]
theorem matC_at (f : Nat → Nat) (i : Nat) (h : i < 32) : (matC f)[i]? = some (.int .u32 (f i)) := by
  simp [matC, h]

theorem matC_congr (f g : Nat → Nat) (h : ∀ i, i < 32 → f i = g i) : matC f = matC g := by
  unfold matC
  congr 1
  refine List.map_congr_left fun i hi => ?_
  rw [h i (by simpa using hi)]

/-- f, up to k; behind it g. -/
def upTo (f g : Nat → Nat) (k : Nat) (i : Nat) : Nat := if i < k then f i else g i

theorem matC_set (f g : Nat → Nat) (k : Nat) (h : k < 32) : (matC (upTo f g k)).setIfInBounds k (.int .u32 (f k)) = matC (upTo f g (k + 1)) := by
  apply Array.ext_getElem?
  intro i
  rw [Array.getElem?_setIfInBounds]
  by_cases hi : i < 32
  · rw [matC_at _ i hi, matC_at _ i hi, matC_size]
    by_cases e : k = i
    · subst e
      simp [h, upTo]
    · rw [if_neg e]
      have : (i < k + 1) = (i < k) := by simp; omega
      simp [upTo, this]
  · have h1 : (matC (upTo f g k))[i]? = none := Array.getElem?_eq_none (by rw [matC_size]; omega)
    have h2 : (matC (upTo f g (k + 1)))[i]? = none := Array.getElem?_eq_none (by rw [matC_size]; omega)
    rw [h1, h2, if_neg (by omega)]

theorem matC_one (f : Nat → Nat) : (matC f).all (·.oneCell') = true := by
  rw [Array.all_eq_true]
  intro i hi
  have h := matC_at f i (by rw [matC_size] at hi; exact hi)
  rw [Array.getElem?_eq_getElem hi] at h
  injection h with h
  rw [h]
  rfl

section
variable {P : Program}
/-- 'a[i]' of an array by value. -/
theorem run_index_mat (w : World) (t e : TypeId) (f : Nat → Nat) (i : Nat) (hi : i < 32) (hu : P.underlying t = some (.array 32 e)) (hue : P.underlying e = some (.int .u32)) (hs : (P.info? e).map (·.size) = some 1) :
    (Instr.index t (.agg (matC f)) (.int .i64 (i : Int))).run P w = .ok (.int .u32 (f i)) w := by
  cases hq : P.info? e with
  | none => simp [hq] at hs
  | some ie =>
    have h1 : ie.size = 1 := by simpa [hq] using hs
    have hsz : ∀ w, (sizeOf e).run P w = .ok 1 w := fun w => by simp [sizeOf, typeInfo, hq, h1]
    have ha := matC_at f i hi
    have hagg : ∀ w, (isAgg e).run P w = .ok false w := fun w => by simp [isAgg, Sem.run_bind, run_underlying hue w]
    have hc : (0 ≤ (i : Int) ∧ (i : Int) < ((32 : Nat) : Int)) := by omega
    unfold Instr.index
    simp only [Sem.run_bind, asIntOf, Sem.run_pure, Result.andThen, run_underlying hu w]
    rw [if_pos hc]
    simp only [Sem.run_bind, hsz, Result.andThen, part, hagg, Int.toNat_natCast, Nat.mul_one, ha]
    simp
end
end Go.Proofs.Ytfldcddbmikfiaa

/- crc.matrix's times is a linear change of a register; byteShift and squared are the changes of 8 shifts and of twice as many. -/
namespace Go.Proofs.Ytfldcddbmikfiaa
open Go.RowKit

theorem wordInfo : (Try.prog.info? 151).map (·.size) = some 1 := by kernel_rfl

theorem times_next (f : Nat → Nat) (c n : Nat) : timesL f c (n + 1) = if c / 2 ^ n % 2 = 1 then timesL f c n ^^^ f n else timesL f c n := rfl

theorem timesL_lt (f : Nat → Nat) (hf : ∀ i, f i < 4294967296) (c n : Nat) : timesL f c n < 4294967296 := by
  induction n with
  | zero => simp [timesL]
  | succ n ih =>
    rw [times_next]
    split
    · exact Nat.xor_lt_two_pow (n := 32) ih (hf n)
    · exact ih

/-- The change of k shifts. -/
def shiftC (k : Nat) : Array Value := matC fun i => steps k (2 ^ i)

/-- A call hands back a matrix; what was there reads as before. -/
def RetMat (C : Array Value) (w : World) (e : Ending) (w' : World) : Prop := e = .returned (.agg C) ∧ Below w.heap.size w w'

theorem shiftC_size (k : Nat) : (shiftC k).size = 32 := matC_size _
theorem shiftC_one (k : Nat) : (shiftC k).all (·.oneCell') = true := matC_one _

theorem zeros_mat : (#[.int .u32 0, .int .u32 0, .int .u32 0, .int .u32 0, .int .u32 0, .int .u32 0, .int .u32 0, .int .u32 0, .int .u32 0, .int .u32 0, .int .u32 0, .int .u32 0, .int .u32 0, .int .u32 0, .int .u32 0, .int .u32 0, .int .u32 0, .int .u32 0, .int .u32 0, .int .u32 0, .int .u32 0, .int .u32 0, .int .u32 0, .int .u32 0, .int .u32 0, .int .u32 0, .int .u32 0, .int .u32 0, .int .u32 0, .int .u32 0, .int .u32 0, .int .u32 0] : Array Value) = matC fun _ => 0 := by kernel_rfl

theorem upTo_zero (F G : Nat → Nat) : upTo F G 0 = G := by funext i; simp [upTo]
theorem upTo_all (F G : Nat → Nat) : matC (upTo F G 32) = matC F := matC_congr _ _ fun i hi => by simp [upTo, hi]

theorem timesL_steps2 (k : Nat) (c : Nat) (hc : c < 4294967296) : timesL (fun i => steps k (2 ^ i)) c 32 = steps k c :=
  timesL_all k c hc _ (fun _ _ => rfl)

theorem sq_step (k : Nat) (x : Nat) (hx : x < 4294967296) : timesL (fun i => steps k (2 ^ i)) (steps k x) 32 = steps (k + k) x := by
  rw [timesL_steps2 k _ (steps_lt k hx), steps_add]

theorem pow_lt32 (i : Nat) (h : i < 32) : 2 ^ i < 4294967296 := Nat.pow_lt_pow_right (by decide) (show i < 32 from h)

theorem Bk.below {w w' : World} {g : Nat} {t : TypeId} {cs : Array Value} (h : Bk w g t cs) (hb : Below w.heap.size w w') : Bk w' g t cs := h.bel hb h.lt

theorem setCell_bk {w : World} {g : Nat} {t : TypeId} {cs : Array Value} (h : Bk w g t cs) (a : Addr) (v : Value) (hne : g ≠ a.block) : Bk (w.setCell a v) g t cs := by
  unfold Bk at h ⊢
  rw [heap_setCell_other _ _ _ _ hne]
  exact h

/-- The first n columns of the change of k shifts, any number of them below 2^32. -/
def shiftF (k : Nat) (i : Nat) : Nat := if i < 32 then steps k (2 ^ i) else 0

theorem shiftF_lt (k i : Nat) : shiftF k i < 4294967296 := by
  unfold shiftF
  split
  · exact steps_lt k (pow_lt32 i ‹_›)
  · omega

theorem shiftC_F (k : Nat) : shiftC k = matC (shiftF k) := matC_congr _ _ fun i hi => by simp [shiftF, hi]

end Go.Proofs.Ytfldcddbmikfiaa
