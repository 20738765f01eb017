/- What it says: what a part's bytes are read as, at the beginning of whatever bytes: the part again. -/
import Derived.Test.YtlnhillpghjknaaDoorWritten
import Derived.Test.YtlnhillpghjknaaDoorReader2
import Derived.Test.YtlnhillpghjknaaDoorSealAwake
namespace Go.Proofs.YtlnhillpghjknaaDoor
open Go.RowKit

theorem back_num (z : Int) (hz : -9223372036854775808 ≤ z ∧ z ≤ 9223372036854775807) (r : List Int) : numF (numL z ++ r) 9223372036854775807 = ((max z 0).toNat, (numL z).length, 0) := by
  unfold numL
  rw [numF_short _ (by omega) r, if_neg (by omega)]

theorem back_byte (x : Int) (r : List Int) : byteF ([x] ++ r) = (x, 1, 0) := rfl

theorem back_flag (is : Bool) (r : List Int) : flagF (flagL is ++ r) = (is, 1, 0) := by
  cases is <;> rfl

theorem back_text (m r : List Int) (h : m.length ≤ 300) : textF (textL m ++ r) 300 = (m, (textL m).length, 0) :=
  textF_text m r (by omega) 300 (by omega)

theorem partsL_cons (x : Prt) (r : List Prt) : partsL (x :: r) = partL x ++ partsL r := by simp [partsL]

theorem partsL_drop (ps : List Prt) (i : Nat) (hi : i < ps.length) : partsL (ps.drop i) = partL (ps.getD i prt0) ++ partsL (ps.drop (i + 1)) := by
  rw [List.drop_eq_getElem_cons hi, partsL_cons]
  simp [List.getD, List.getElem?_eq_getElem hi]

theorem max_nat (z : Int) : ((max z 0).toNat : Int) = max z 0 := by omega
end Go.Proofs.YtlnhillpghjknaaDoor
