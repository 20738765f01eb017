/-
  No cell of these rows narrows 'for every input' (looked for: loops, veiled, ifaces, maps, wideKeys, modest, calm, conditions, laid).
  DERIVED. THE GIVEN ROWS OF THIS SEAT. 6 by the template 'for every input the law returns true; each argument reads behind the call as it read before'; 0 by the template 'total and deterministic' (their statements: YtlchikllgmkokabTotals.lean).
  GIVEN WITH THE SEED: the statements are not yours to turn. If you find one false, say at which input.
  Laid BY PROGRAM, IN A SANDBOX (cutbox-rows.mjs): the forced cells as the released guide's own fill.sh prints them over the translation 074d20bd96e2b68e… (all of the seat's roots in one cut). By AI agents, Wed Nov 11 2026. No macro, syntax, notation, axiom, sorry.
-/
import Derived.Test.YtlchikllgmkokabChecked
import GoSem.Claim
import GoSem.ClaimJoined
import GoSem.ClaimMapViews
import Derived.JoinedTies
import Derived.KernelRfl
namespace Go.Proofs.Ytlchikllgmkokab
/- THE CELL 'sum', in the pinned program and in every row, IS THE sha256 OF THE DUMP (.gsa) THAT YtlchikllgmkokabProg.lean LOADS. Nothing in Lean hashes anything: it is a label: what it is worth is what the hold of that sum in a sandbox is worth. -/
noncomputable def Try.pinned : Pinned := { name := "ytlchikllgmkokab", sum := "074d20bd96e2b68e448531bc8d99e1f848068fa5e65a6abcae0a62908d78c484", checked := Try.checked }
namespace Rows
def none {H : Type} : Left H := { results := [], args := [] }

/-- 'trothlaw05.StampWraps': WHATEVER THE INPUT: true; the input reads as it did. -/
def stampWrapsSpec : ChangeSpec := { name := "stampWraps", fn := fun _ => fun
  | [d1, d2, d3] => { results := [.lit (.bool true)], args := [d1, d2, d3] }
  | _ => none }
def stampWrapsRow : OpenClaim := { program := "ytlchikllgmkokab", sum := "074d20bd96e2b68e448531bc8d99e1f848068fa5e65a6abcae0a62908d78c484", func := "troth/trothlaw05.StampWraps", spec := "stampWraps", apart := false }
def StampWrapsSaid : Prop := stampWrapsRow.holds Try.pinned (OpenSpec.ofChange stampWrapsSpec)

/-- ITS FALSE NEIGHBOUR: 'it returns false'. Refute it at one input. -/
def stampWrapsWrong : ChangeSpec := { name := "stampWraps", fn := fun _ => fun
  | [d1, d2, d3] => { results := [.lit (.bool false)], args := [d1, d2, d3] }
  | _ => none }
def StampWrapsWrongFalsely : Prop := stampWrapsRow.holds Try.pinned (OpenSpec.ofChange stampWrapsWrong)

/-- 'trothlaw05.StampOpens': WHATEVER THE INPUT: true; the input reads as it did. -/
def stampOpensSpec : ChangeSpec := { name := "stampOpens", fn := fun _ => fun
  | [d] => { results := [.lit (.bool true)], args := [d] }
  | _ => none }
def stampOpensRow : OpenClaim := { program := "ytlchikllgmkokab", sum := "074d20bd96e2b68e448531bc8d99e1f848068fa5e65a6abcae0a62908d78c484", func := "troth/trothlaw05.StampOpens", spec := "stampOpens", apart := false }
def StampOpensSaid : Prop := stampOpensRow.holds Try.pinned (OpenSpec.ofChange stampOpensSpec)

/-- ITS FALSE NEIGHBOUR: 'it returns false'. Refute it at one input. -/
def stampOpensWrong : ChangeSpec := { name := "stampOpens", fn := fun _ => fun
  | [d] => { results := [.lit (.bool false)], args := [d] }
  | _ => none }
def StampOpensWrongFalsely : Prop := stampOpensRow.holds Try.pinned (OpenSpec.ofChange stampOpensWrong)

/-- 'trothlaw05.StampBack': WHATEVER THE INPUT: true; the input reads as it did. -/
def stampBackSpec : ChangeSpec := { name := "stampBack", fn := fun _ => fun
  | [d1, d2] => { results := [.lit (.bool true)], args := [d1, d2] }
  | _ => none }
def stampBackRow : OpenClaim := { program := "ytlchikllgmkokab", sum := "074d20bd96e2b68e448531bc8d99e1f848068fa5e65a6abcae0a62908d78c484", func := "troth/trothlaw05.StampBack", spec := "stampBack", apart := false }
def StampBackSaid : Prop := stampBackRow.holds Try.pinned (OpenSpec.ofChange stampBackSpec)

/-- ITS FALSE NEIGHBOUR: 'it returns false'. Refute it at one input. -/
def stampBackWrong : ChangeSpec := { name := "stampBack", fn := fun _ => fun
  | [d1, d2] => { results := [.lit (.bool false)], args := [d1, d2] }
  | _ => none }
def StampBackWrongFalsely : Prop := stampBackRow.holds Try.pinned (OpenSpec.ofChange stampBackWrong)

/-- 'trothlaw05.StampTorn': WHATEVER THE INPUT: true; the input reads as it did. -/
def stampTornSpec : ChangeSpec := { name := "stampTorn", fn := fun _ => fun
  | [d1, d2, d3] => { results := [.lit (.bool true)], args := [d1, d2, d3] }
  | _ => none }
def stampTornRow : OpenClaim := { program := "ytlchikllgmkokab", sum := "074d20bd96e2b68e448531bc8d99e1f848068fa5e65a6abcae0a62908d78c484", func := "troth/trothlaw05.StampTorn", spec := "stampTorn", apart := false }
def StampTornSaid : Prop := stampTornRow.holds Try.pinned (OpenSpec.ofChange stampTornSpec)

/-- ITS FALSE NEIGHBOUR: 'it returns false'. Refute it at one input. -/
def stampTornWrong : ChangeSpec := { name := "stampTorn", fn := fun _ => fun
  | [d1, d2, d3] => { results := [.lit (.bool false)], args := [d1, d2, d3] }
  | _ => none }
def StampTornWrongFalsely : Prop := stampTornRow.holds Try.pinned (OpenSpec.ofChange stampTornWrong)

/-- 'trothlaw05.StampPuts': WHATEVER THE INPUT: true; the input reads as it did. -/
def stampPutsSpec : ChangeSpec := { name := "stampPuts", fn := fun _ => fun
  | [d] => { results := [.lit (.bool true)], args := [d] }
  | _ => none }
def stampPutsRow : OpenClaim := { program := "ytlchikllgmkokab", sum := "074d20bd96e2b68e448531bc8d99e1f848068fa5e65a6abcae0a62908d78c484", func := "troth/trothlaw05.StampPuts", spec := "stampPuts", inPlace := ["maps.clone"], apart := false }
def StampPutsSaid : Prop := stampPutsRow.holds Try.pinned (OpenSpec.ofChange stampPutsSpec)

/-- ITS FALSE NEIGHBOUR: 'it returns false'. Refute it at one input. -/
def stampPutsWrong : ChangeSpec := { name := "stampPuts", fn := fun _ => fun
  | [d] => { results := [.lit (.bool false)], args := [d] }
  | _ => none }
def StampPutsWrongFalsely : Prop := stampPutsRow.holds Try.pinned (OpenSpec.ofChange stampPutsWrong)

/-- 'trothlaw05.StampDisk': WHATEVER THE INPUT: true; the input reads as it did. -/
def stampDiskSpec : ChangeSpec := { name := "stampDisk", fn := fun _ => fun
  | [d1, d2] => { results := [.lit (.bool true)], args := [d1, d2] }
  | _ => none }
def stampDiskRow : OpenClaim := { program := "ytlchikllgmkokab", sum := "074d20bd96e2b68e448531bc8d99e1f848068fa5e65a6abcae0a62908d78c484", func := "troth/trothlaw05.StampDisk", spec := "stampDisk", apart := false }
def StampDiskSaid : Prop := stampDiskRow.holds Try.pinned (OpenSpec.ofChange stampDiskSpec)

/-- ITS FALSE NEIGHBOUR: 'it returns false'. Refute it at one input. -/
def stampDiskWrong : ChangeSpec := { name := "stampDisk", fn := fun _ => fun
  | [d1, d2] => { results := [.lit (.bool false)], args := [d1, d2] }
  | _ => none }
def StampDiskWrongFalsely : Prop := stampDiskRow.holds Try.pinned (OpenSpec.ofChange stampDiskWrong)

/- THE SECOND FORM. 'bulk': how many values and letters a reading holds, each counted each time it is reached (what is shared counts as often as it is met; a slice's spare places count too). A statement '..UptoSaid' is the law's where the arguments, and the package variables that the reading takes, are together of bulk at most 1048576: NARROWER than '..Said'. Prove '..Said' where nothing that the law and all that it calls make is longer than what came in: it says more and counts as full. Else prove '..UptoSaid'. A law counts once. -/
mutual
def uptoBulk {H : Type} : DataW H → Nat
  | .lit (.string bytes) => bytes.length + 1
  | .lit _ => 1
  | .nil => 1
  | .ptr d => uptoBulk d + 1
  | .slice elems spare => uptoBulkAll elems + uptoBulkAll spare + 1
  | .agg parts => uptoBulkAll parts + 1
  | .iface _ d => uptoBulk d + 1
  | .map entries => uptoBulkEntries entries + 1
  | .held _ => 1
def uptoBulkAll {H : Type} : List (DataW H) → Nat
  | [] => 0
  | d :: r => uptoBulk d + uptoBulkAll r
def uptoBulkEntries {H : Type} : List (Lit × DataW H) → Nat
  | [] => 0
  | x :: r => uptoBulkEntry x + uptoBulkEntries r
def uptoBulkEntry {H : Type} : Lit × DataW H → Nat
  | (.string bytes, d) => bytes.length + uptoBulk d + 1
  | (_, d) => uptoBulk d + 1
 end
def uptoSmall : (H : Type) → List (DataW H) → Bool := fun _ ds => decide (uptoBulkAll ds ≤ 1048576)
def OpenSpec.upto (s : _root_.Go.ChangeSpec) : _root_.Go.OpenSpec := { _root_.Go.OpenSpec.ofChange s with cond := some uptoSmall }

/-- 'trothlaw05.StampWraps', WHERE WHAT IT READS IS OF BULK AT MOST 1048576: true; the input reads as it did. -/
def stampWrapsUptoRow : OpenClaim := { program := "ytlchikllgmkokab", sum := "074d20bd96e2b68e448531bc8d99e1f848068fa5e65a6abcae0a62908d78c484", func := "troth/trothlaw05.StampWraps", spec := "stampWraps", apart := false, narrowed := true }
def StampWrapsUptoSaid : Prop := stampWrapsUptoRow.holds Try.pinned (OpenSpec.upto stampWrapsSpec)

/-- 'trothlaw05.StampOpens', WHERE WHAT IT READS IS OF BULK AT MOST 1048576: true; the input reads as it did. -/
def stampOpensUptoRow : OpenClaim := { program := "ytlchikllgmkokab", sum := "074d20bd96e2b68e448531bc8d99e1f848068fa5e65a6abcae0a62908d78c484", func := "troth/trothlaw05.StampOpens", spec := "stampOpens", apart := false, narrowed := true }
def StampOpensUptoSaid : Prop := stampOpensUptoRow.holds Try.pinned (OpenSpec.upto stampOpensSpec)

/-- 'trothlaw05.StampBack', WHERE WHAT IT READS IS OF BULK AT MOST 1048576: true; the input reads as it did. -/
def stampBackUptoRow : OpenClaim := { program := "ytlchikllgmkokab", sum := "074d20bd96e2b68e448531bc8d99e1f848068fa5e65a6abcae0a62908d78c484", func := "troth/trothlaw05.StampBack", spec := "stampBack", apart := false, narrowed := true }
def StampBackUptoSaid : Prop := stampBackUptoRow.holds Try.pinned (OpenSpec.upto stampBackSpec)

/-- 'trothlaw05.StampTorn', WHERE WHAT IT READS IS OF BULK AT MOST 1048576: true; the input reads as it did. -/
def stampTornUptoRow : OpenClaim := { program := "ytlchikllgmkokab", sum := "074d20bd96e2b68e448531bc8d99e1f848068fa5e65a6abcae0a62908d78c484", func := "troth/trothlaw05.StampTorn", spec := "stampTorn", apart := false, narrowed := true }
def StampTornUptoSaid : Prop := stampTornUptoRow.holds Try.pinned (OpenSpec.upto stampTornSpec)

/-- 'trothlaw05.StampPuts', WHERE WHAT IT READS IS OF BULK AT MOST 1048576: true; the input reads as it did. -/
def stampPutsUptoRow : OpenClaim := { program := "ytlchikllgmkokab", sum := "074d20bd96e2b68e448531bc8d99e1f848068fa5e65a6abcae0a62908d78c484", func := "troth/trothlaw05.StampPuts", spec := "stampPuts", inPlace := ["maps.clone"], apart := false, narrowed := true }
def StampPutsUptoSaid : Prop := stampPutsUptoRow.holds Try.pinned (OpenSpec.upto stampPutsSpec)

/-- 'trothlaw05.StampDisk', WHERE WHAT IT READS IS OF BULK AT MOST 1048576: true; the input reads as it did. -/
def stampDiskUptoRow : OpenClaim := { program := "ytlchikllgmkokab", sum := "074d20bd96e2b68e448531bc8d99e1f848068fa5e65a6abcae0a62908d78c484", func := "troth/trothlaw05.StampDisk", spec := "stampDisk", apart := false, narrowed := true }
def StampDiskUptoSaid : Prop := stampDiskUptoRow.holds Try.pinned (OpenSpec.upto stampDiskSpec)

end Rows
end Go.Proofs.Ytlchikllgmkokab
