/-
  No cell of these rows narrows 'for every input' (looked for: loops, veiled, ifaces, maps, wideKeys, modest, calm, conditions, laid).
  DERIVED. THE GIVEN ROWS OF THIS SEAT. 4 by the template 'for every input the law returns true; each argument reads behind the call as it read before'; 0 by the template 'total and deterministic' (their statements: YtomhofppcogojaaTotals.lean).
  GIVEN WITH THE SEED: the statements are not yours to turn. If you find one false, say at which input.
  Laid BY PROGRAM, IN A SANDBOX (cutbox-rows.mjs): the forced cells as the released guide's own fill.sh prints them over the translation ba1cc79bdd0744ab… (all of the seat's roots in one cut). By AI agents, Wed Nov 11 2026. No macro, syntax, notation, axiom, sorry.
-/
import Derived.Test.YtomhofppcogojaaChecked
import GoSem.Claim
import GoSem.ClaimJoined
import GoSem.ClaimMapViews
import Derived.JoinedTies
import Derived.KernelRfl
namespace Go.Proofs.Ytomhofppcogojaa
/- THE CELL 'sum', in the pinned program and in every row, IS THE sha256 OF THE DUMP (.gsa) THAT YtomhofppcogojaaProg.lean LOADS. Nothing in Lean hashes anything: it is a label: what it is worth is what the hold of that sum in a sandbox is worth. -/
noncomputable def Try.pinned : Pinned := { name := "ytomhofppcogojaa", sum := "ba1cc79bdd0744ab6f75d52744214f89d2d953d89e2411314fa35a9853598dc6", checked := Try.checked }
namespace Rows
def none {H : Type} : Left H := { results := [], args := [] }

/-- 'trothlaw11.SlotSaves': WHATEVER THE INPUT: true; the input reads as it did. -/
def slotSavesSpec : ChangeSpec := { name := "slotSaves", fn := fun _ => fun
  | [d1, d2, d3, d4] => { results := [.lit (.bool true)], args := [d1, d2, d3, d4] }
  | _ => none }
def slotSavesRow : OpenClaim := { program := "ytomhofppcogojaa", sum := "ba1cc79bdd0744ab6f75d52744214f89d2d953d89e2411314fa35a9853598dc6", func := "troth/trothlaw11.SlotSaves", spec := "slotSaves", unfollowed := true, recurses := true, apart := false }
def SlotSavesSaid : Prop := slotSavesRow.holds Try.pinned (OpenSpec.ofChange slotSavesSpec)

/-- ITS FALSE NEIGHBOUR: 'it returns false'. Refute it at one input. -/
def slotSavesWrong : ChangeSpec := { name := "slotSaves", fn := fun _ => fun
  | [d1, d2, d3, d4] => { results := [.lit (.bool false)], args := [d1, d2, d3, d4] }
  | _ => none }
def SlotSavesWrongFalsely : Prop := slotSavesRow.holds Try.pinned (OpenSpec.ofChange slotSavesWrong)

/-- 'trothlaw11.SlotLoads': WHATEVER THE INPUT: true; the input reads as it did. -/
def slotLoadsSpec : ChangeSpec := { name := "slotLoads", fn := fun _ => fun
  | [d1, d2] => { results := [.lit (.bool true)], args := [d1, d2] }
  | _ => none }
def slotLoadsRow : OpenClaim := { program := "ytomhofppcogojaa", sum := "ba1cc79bdd0744ab6f75d52744214f89d2d953d89e2411314fa35a9853598dc6", func := "troth/trothlaw11.SlotLoads", spec := "slotLoads", unfollowed := true, recurses := true, apart := false }
def SlotLoadsSaid : Prop := slotLoadsRow.holds Try.pinned (OpenSpec.ofChange slotLoadsSpec)

/-- ITS FALSE NEIGHBOUR: 'it returns false'. Refute it at one input. -/
def slotLoadsWrong : ChangeSpec := { name := "slotLoads", fn := fun _ => fun
  | [d1, d2] => { results := [.lit (.bool false)], args := [d1, d2] }
  | _ => none }
def SlotLoadsWrongFalsely : Prop := slotLoadsRow.holds Try.pinned (OpenSpec.ofChange slotLoadsWrong)

/-- 'trothlaw11.SlotCrashes': WHATEVER THE INPUT: true; the input reads as it did. -/
def slotCrashesSpec : ChangeSpec := { name := "slotCrashes", fn := fun _ => fun
  | [d] => { results := [.lit (.bool true)], args := [d] }
  | _ => none }
def slotCrashesRow : OpenClaim := { program := "ytomhofppcogojaa", sum := "ba1cc79bdd0744ab6f75d52744214f89d2d953d89e2411314fa35a9853598dc6", func := "troth/trothlaw11.SlotCrashes", spec := "slotCrashes", inPlace := ["maps.clone"], unfollowed := true, recurses := true, apart := false }
def SlotCrashesSaid : Prop := slotCrashesRow.holds Try.pinned (OpenSpec.ofChange slotCrashesSpec)

/-- ITS FALSE NEIGHBOUR: 'it returns false'. Refute it at one input. -/
def slotCrashesWrong : ChangeSpec := { name := "slotCrashes", fn := fun _ => fun
  | [d] => { results := [.lit (.bool false)], args := [d] }
  | _ => none }
def SlotCrashesWrongFalsely : Prop := slotCrashesRow.holds Try.pinned (OpenSpec.ofChange slotCrashesWrong)

/-- 'trothlaw11.SlotNil': WHATEVER THE INPUT: true; the input reads as it did. -/
def slotNilSpec : ChangeSpec := { name := "slotNil", fn := fun _ => fun
  | [d1, d2] => { results := [.lit (.bool true)], args := [d1, d2] }
  | _ => none }
def slotNilRow : OpenClaim := { program := "ytomhofppcogojaa", sum := "ba1cc79bdd0744ab6f75d52744214f89d2d953d89e2411314fa35a9853598dc6", func := "troth/trothlaw11.SlotNil", spec := "slotNil", unfollowed := true, recurses := true, apart := false }
def SlotNilSaid : Prop := slotNilRow.holds Try.pinned (OpenSpec.ofChange slotNilSpec)

/-- ITS FALSE NEIGHBOUR: 'it returns false'. Refute it at one input. -/
def slotNilWrong : ChangeSpec := { name := "slotNil", fn := fun _ => fun
  | [d1, d2] => { results := [.lit (.bool false)], args := [d1, d2] }
  | _ => none }
def SlotNilWrongFalsely : Prop := slotNilRow.holds Try.pinned (OpenSpec.ofChange slotNilWrong)

/- THE SECOND FORM. 'bulk': how many values and letters a reading holds, each counted each time it is reached (what is shared counts as often as it is met; a slice's spare places count too). A statement '..UptoSaid' is the law's where the arguments, and the package variables that the reading takes, are together of bulk at most 1048576: NARROWER than '..Said'. Prove '..Said' where nothing that the law and all that it calls make is longer than what came in: it says more and counts as full. Else prove '..UptoSaid'. A law counts once. -/
mutual
def uptoBulk {H : Type} : DataW H → Nat
  | .lit (.string bytes) => bytes.length + 1
  | .lit _ => 1
  | .nil => 1
  | .ptr d => uptoBulk d + 1
  | .slice elems spare => uptoBulkAll elems + uptoBulkAll spare + 1
  | .agg parts => uptoBulkAll parts + 1
  | .iface _ d => uptoBulk d + 1
  | .map entries => uptoBulkEntries entries + 1
  | .held _ => 1
def uptoBulkAll {H : Type} : List (DataW H) → Nat
  | [] => 0
  | d :: r => uptoBulk d + uptoBulkAll r
def uptoBulkEntries {H : Type} : List (Lit × DataW H) → Nat
  | [] => 0
  | x :: r => uptoBulkEntry x + uptoBulkEntries r
def uptoBulkEntry {H : Type} : Lit × DataW H → Nat
  | (.string bytes, d) => bytes.length + uptoBulk d + 1
  | (_, d) => uptoBulk d + 1
 end
def uptoSmall : (H : Type) → List (DataW H) → Bool := fun _ ds => decide (uptoBulkAll ds ≤ 1048576)
def OpenSpec.upto (s : _root_.Go.ChangeSpec) : _root_.Go.OpenSpec := { _root_.Go.OpenSpec.ofChange s with cond := some uptoSmall }

/-- 'trothlaw11.SlotSaves', WHERE WHAT IT READS IS OF BULK AT MOST 1048576: true; the input reads as it did. -/
def slotSavesUptoRow : OpenClaim := { program := "ytomhofppcogojaa", sum := "ba1cc79bdd0744ab6f75d52744214f89d2d953d89e2411314fa35a9853598dc6", func := "troth/trothlaw11.SlotSaves", spec := "slotSaves", unfollowed := true, recurses := true, apart := false, narrowed := true }
def SlotSavesUptoSaid : Prop := slotSavesUptoRow.holds Try.pinned (OpenSpec.upto slotSavesSpec)

/-- 'trothlaw11.SlotLoads', WHERE WHAT IT READS IS OF BULK AT MOST 1048576: true; the input reads as it did. -/
def slotLoadsUptoRow : OpenClaim := { program := "ytomhofppcogojaa", sum := "ba1cc79bdd0744ab6f75d52744214f89d2d953d89e2411314fa35a9853598dc6", func := "troth/trothlaw11.SlotLoads", spec := "slotLoads", unfollowed := true, recurses := true, apart := false, narrowed := true }
def SlotLoadsUptoSaid : Prop := slotLoadsUptoRow.holds Try.pinned (OpenSpec.upto slotLoadsSpec)

/-- 'trothlaw11.SlotCrashes', WHERE WHAT IT READS IS OF BULK AT MOST 1048576: true; the input reads as it did. -/
def slotCrashesUptoRow : OpenClaim := { program := "ytomhofppcogojaa", sum := "ba1cc79bdd0744ab6f75d52744214f89d2d953d89e2411314fa35a9853598dc6", func := "troth/trothlaw11.SlotCrashes", spec := "slotCrashes", inPlace := ["maps.clone"], unfollowed := true, recurses := true, apart := false, narrowed := true }
def SlotCrashesUptoSaid : Prop := slotCrashesUptoRow.holds Try.pinned (OpenSpec.upto slotCrashesSpec)

/-- 'trothlaw11.SlotNil', WHERE WHAT IT READS IS OF BULK AT MOST 1048576: true; the input reads as it did. -/
def slotNilUptoRow : OpenClaim := { program := "ytomhofppcogojaa", sum := "ba1cc79bdd0744ab6f75d52744214f89d2d953d89e2411314fa35a9853598dc6", func := "troth/trothlaw11.SlotNil", spec := "slotNil", unfollowed := true, recurses := true, apart := false, narrowed := true }
def SlotNilUptoSaid : Prop := slotNilUptoRow.holds Try.pinned (OpenSpec.upto slotNilSpec)

end Rows
end Go.Proofs.Ytomhofppcogojaa
