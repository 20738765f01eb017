/-
  No cell of these rows narrows 'for every input' (looked for: loops, veiled, ifaces, maps, wideKeys, modest, calm, conditions, laid).
  DERIVED. THE GIVEN ROWS OF THIS SEAT. 4 by the template 'for every input the law returns true; each argument reads behind the call as it read before'; 0 by the template 'total and deterministic' (their statements: YtjieledaiipheaaTotals.lean).
  GIVEN WITH THE SEED: the statements are not yours to turn. If you find one false, say at which input.
  Laid BY PROGRAM, IN A SANDBOX (cutbox-rows.mjs): the forced cells as the released guide's own fill.sh prints them over the translation a1bc619a5a432a37… (all of the seat's roots in one cut). By AI agents, Wed Nov 11 2026. No macro, syntax, notation, axiom, sorry.
-/
import Derived.Test.YtjieledaiipheaaChecked
import GoSem.Claim
import GoSem.ClaimJoined
import GoSem.ClaimMapViews
import Derived.JoinedTies
import Derived.KernelRfl
namespace Go.Proofs.Ytjieledaiipheaa
/- THE CELL 'sum', in the pinned program and in every row, IS THE sha256 OF THE DUMP (.gsa) THAT YtjieledaiipheaaProg.lean LOADS. Nothing in Lean hashes anything: it is a label: what it is worth is what the hold of that sum in a sandbox is worth. -/
noncomputable def Try.pinned : Pinned := { name := "ytjieledaiipheaa", sum := "a1bc619a5a432a37c35e4155e3925ea434874e139697b09df874637387362c5d", checked := Try.checked }
namespace Rows
def none {H : Type} : Left H := { results := [], args := [] }

/-- 'trothlaw06.MasterSaves': WHATEVER THE INPUT: true; the input reads as it did. -/
def masterSavesSpec : ChangeSpec := { name := "masterSaves", fn := fun _ => fun
  | [d] => { results := [.lit (.bool true)], args := [d] }
  | _ => none }
def masterSavesRow : OpenClaim := { program := "ytjieledaiipheaa", sum := "a1bc619a5a432a37c35e4155e3925ea434874e139697b09df874637387362c5d", func := "troth/trothlaw06.MasterSaves", spec := "masterSaves", unfollowed := true, recurses := true, apart := false }
def MasterSavesSaid : Prop := masterSavesRow.holds Try.pinned (OpenSpec.ofChange masterSavesSpec)

/-- ITS FALSE NEIGHBOUR: 'it returns false'. Refute it at one input. -/
def masterSavesWrong : ChangeSpec := { name := "masterSaves", fn := fun _ => fun
  | [d] => { results := [.lit (.bool false)], args := [d] }
  | _ => none }
def MasterSavesWrongFalsely : Prop := masterSavesRow.holds Try.pinned (OpenSpec.ofChange masterSavesWrong)

/-- 'trothlaw06.MasterLoads': WHATEVER THE INPUT: true; the input reads as it did. -/
def masterLoadsSpec : ChangeSpec := { name := "masterLoads", fn := fun _ => fun
  | [d1, d2] => { results := [.lit (.bool true)], args := [d1, d2] }
  | _ => none }
def masterLoadsRow : OpenClaim := { program := "ytjieledaiipheaa", sum := "a1bc619a5a432a37c35e4155e3925ea434874e139697b09df874637387362c5d", func := "troth/trothlaw06.MasterLoads", spec := "masterLoads", unfollowed := true, recurses := true, apart := false }
def MasterLoadsSaid : Prop := masterLoadsRow.holds Try.pinned (OpenSpec.ofChange masterLoadsSpec)

/-- ITS FALSE NEIGHBOUR: 'it returns false'. Refute it at one input. -/
def masterLoadsWrong : ChangeSpec := { name := "masterLoads", fn := fun _ => fun
  | [d1, d2] => { results := [.lit (.bool false)], args := [d1, d2] }
  | _ => none }
def MasterLoadsWrongFalsely : Prop := masterLoadsRow.holds Try.pinned (OpenSpec.ofChange masterLoadsWrong)

/-- 'trothlaw06.MasterCrashes': WHATEVER THE INPUT: true; the input reads as it did. -/
def masterCrashesSpec : ChangeSpec := { name := "masterCrashes", fn := fun _ => fun
  | [d] => { results := [.lit (.bool true)], args := [d] }
  | _ => none }
def masterCrashesRow : OpenClaim := { program := "ytjieledaiipheaa", sum := "a1bc619a5a432a37c35e4155e3925ea434874e139697b09df874637387362c5d", func := "troth/trothlaw06.MasterCrashes", spec := "masterCrashes", inPlace := ["maps.clone"], unfollowed := true, recurses := true, apart := false }
def MasterCrashesSaid : Prop := masterCrashesRow.holds Try.pinned (OpenSpec.ofChange masterCrashesSpec)

/-- ITS FALSE NEIGHBOUR: 'it returns false'. Refute it at one input. -/
def masterCrashesWrong : ChangeSpec := { name := "masterCrashes", fn := fun _ => fun
  | [d] => { results := [.lit (.bool false)], args := [d] }
  | _ => none }
def MasterCrashesWrongFalsely : Prop := masterCrashesRow.holds Try.pinned (OpenSpec.ofChange masterCrashesWrong)

/-- 'trothlaw06.MasterNil': WHATEVER THE INPUT: true; the input reads as it did. -/
def masterNilSpec : ChangeSpec := { name := "masterNil", fn := fun _ => fun
  | [d] => { results := [.lit (.bool true)], args := [d] }
  | _ => none }
def masterNilRow : OpenClaim := { program := "ytjieledaiipheaa", sum := "a1bc619a5a432a37c35e4155e3925ea434874e139697b09df874637387362c5d", func := "troth/trothlaw06.MasterNil", spec := "masterNil", unfollowed := true, recurses := true, apart := false }
def MasterNilSaid : Prop := masterNilRow.holds Try.pinned (OpenSpec.ofChange masterNilSpec)

/-- ITS FALSE NEIGHBOUR: 'it returns false'. Refute it at one input. -/
def masterNilWrong : ChangeSpec := { name := "masterNil", fn := fun _ => fun
  | [d] => { results := [.lit (.bool false)], args := [d] }
  | _ => none }
def MasterNilWrongFalsely : Prop := masterNilRow.holds Try.pinned (OpenSpec.ofChange masterNilWrong)

/- THE SECOND FORM. 'bulk': how many values and letters a reading holds, each counted each time it is reached (what is shared counts as often as it is met; a slice's spare places count too). A statement '..UptoSaid' is the law's where the arguments, and the package variables that the reading takes, are together of bulk at most 1048576: NARROWER than '..Said'. Prove '..Said' where nothing that the law and all that it calls make is longer than what came in: it says more and counts as full. Else prove '..UptoSaid'. A law counts once. -/
mutual
def uptoBulk {H : Type} : DataW H → Nat
  | .lit (.string bytes) => bytes.length + 1
  | .lit _ => 1
  | .nil => 1
  | .ptr d => uptoBulk d + 1
  | .slice elems spare => uptoBulkAll elems + uptoBulkAll spare + 1
  | .agg parts => uptoBulkAll parts + 1
  | .iface _ d => uptoBulk d + 1
  | .map entries => uptoBulkEntries entries + 1
  | .held _ => 1
def uptoBulkAll {H : Type} : List (DataW H) → Nat
  | [] => 0
  | d :: r => uptoBulk d + uptoBulkAll r
def uptoBulkEntries {H : Type} : List (Lit × DataW H) → Nat
  | [] => 0
  | x :: r => uptoBulkEntry x + uptoBulkEntries r
def uptoBulkEntry {H : Type} : Lit × DataW H → Nat
  | (.string bytes, d) => bytes.length + uptoBulk d + 1
  | (_, d) => uptoBulk d + 1
 end
def uptoSmall : (H : Type) → List (DataW H) → Bool := fun _ ds => decide (uptoBulkAll ds ≤ 1048576)
def OpenSpec.upto (s : _root_.Go.ChangeSpec) : _root_.Go.OpenSpec := { _root_.Go.OpenSpec.ofChange s with cond := some uptoSmall }

/-- 'trothlaw06.MasterSaves', WHERE WHAT IT READS IS OF BULK AT MOST 1048576: true; the input reads as it did. -/
def masterSavesUptoRow : OpenClaim := { program := "ytjieledaiipheaa", sum := "a1bc619a5a432a37c35e4155e3925ea434874e139697b09df874637387362c5d", func := "troth/trothlaw06.MasterSaves", spec := "masterSaves", unfollowed := true, recurses := true, apart := false, narrowed := true }
def MasterSavesUptoSaid : Prop := masterSavesUptoRow.holds Try.pinned (OpenSpec.upto masterSavesSpec)

/-- 'trothlaw06.MasterLoads', WHERE WHAT IT READS IS OF BULK AT MOST 1048576: true; the input reads as it did. -/
def masterLoadsUptoRow : OpenClaim := { program := "ytjieledaiipheaa", sum := "a1bc619a5a432a37c35e4155e3925ea434874e139697b09df874637387362c5d", func := "troth/trothlaw06.MasterLoads", spec := "masterLoads", unfollowed := true, recurses := true, apart := false, narrowed := true }
def MasterLoadsUptoSaid : Prop := masterLoadsUptoRow.holds Try.pinned (OpenSpec.upto masterLoadsSpec)

/-- 'trothlaw06.MasterCrashes', WHERE WHAT IT READS IS OF BULK AT MOST 1048576: true; the input reads as it did. -/
def masterCrashesUptoRow : OpenClaim := { program := "ytjieledaiipheaa", sum := "a1bc619a5a432a37c35e4155e3925ea434874e139697b09df874637387362c5d", func := "troth/trothlaw06.MasterCrashes", spec := "masterCrashes", inPlace := ["maps.clone"], unfollowed := true, recurses := true, apart := false, narrowed := true }
def MasterCrashesUptoSaid : Prop := masterCrashesUptoRow.holds Try.pinned (OpenSpec.upto masterCrashesSpec)

/-- 'trothlaw06.MasterNil', WHERE WHAT IT READS IS OF BULK AT MOST 1048576: true; the input reads as it did. -/
def masterNilUptoRow : OpenClaim := { program := "ytjieledaiipheaa", sum := "a1bc619a5a432a37c35e4155e3925ea434874e139697b09df874637387362c5d", func := "troth/trothlaw06.MasterNil", spec := "masterNil", unfollowed := true, recurses := true, apart := false, narrowed := true }
def MasterNilUptoSaid : Prop := masterNilUptoRow.holds Try.pinned (OpenSpec.upto masterNilSpec)

end Rows
end Go.Proofs.Ytjieledaiipheaa
