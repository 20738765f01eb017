/- What it says: where the listed variable reads as the program's text lays it, its cells are the table's. -/
import Derived.Test.YtlnhillpghjknaaDoorRows
import Derived.Test.YtlnhillpghjknaaDoorCrcReg
import Derived.Lib.LaidTab
import Derived.LaidMore
import Derived.Stop.Joined
namespace Go.Proofs.YtlnhillpghjknaaDoor
open Go.RowKit

theorem tab_global : Tryd.prog.globalNamed "troth/crc.byNibble" = some 0 := by kernel_rfl
theorem tab_type : (Tryd.prog.globals[0]?).map (·.type) = some 96 := by kernel_rfl

def tabZs : List Int := [0, 498536548, 997073096, 651767980, 1994146192, 1802195444, 1303535960, 1342533948, 3988292384, 4027552580, 3604390888, 3412177804, 2607071920, 2262029012, 2685067896, 3183342108]

theorem tab_zs (i : Nat) (h : i < 16) : tabZs.getD i 0 = (nib i : Int) := by
  have : i = 0 ∨ i = 1 ∨ i = 2 ∨ i = 3 ∨ i = 4 ∨ i = 5 ∨ i = 6 ∨ i = 7 ∨ i = 8 ∨ i = 9 ∨ i = 10 ∨ i = 11 ∨ i = 12 ∨ i = 13 ∨ i = 14 ∨ i = 15 := by omega
  rcases this with h | h | h | h | h | h | h | h | h | h | h | h | h | h | h | h <;> subst h <;> rfl

theorem tab_of_laid {W : World} (h : laidMetH Tryd.prog [("troth/crc.byNibble", Rows.laid_troth_crc_byNibble)] W) : Tab W := by
  rw [MakeChecks.laidMetH_plain _ _ _ (by kernel_rfl)] at h
  have h' : laidMet Tryd.prog (("troth/crc.byNibble", Lib.tabData .u32 tabZs) :: []) W := h
  have ht := Lib.tabIs_of_head (n := 16) tab_global tab_type Tryd.underlying96 Tryd.underlying56 (by kernel_rfl) (by kernel_rfl) h'
  intro i hi
  have := ht.cell tab_global i hi
  rw [tab_zs i hi] at this
  exact this
end Go.Proofs.YtlnhillpghjknaaDoor
