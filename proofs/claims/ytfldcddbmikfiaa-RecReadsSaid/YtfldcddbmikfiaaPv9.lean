/- What it says: contracts and plain mathematics that the laws' walks use, 9 of 9: each part's own remark says what; no condition. -/
import Derived.Test.YtfldcddbmikfiaaPw1
import Derived.Test.YtfldcddbmikfiaaPv4
import Derived.Test.YtfldcddbmikfiaaPv5
import Derived.Test.YtfldcddbmikfiaaPv6
import Derived.Test.YtfldcddbmikfiaaPv7
import Derived.Test.YtfldcddbmikfiaaPv8
import Derived.Test.YtfldcddbmikfiaaRows
import Derived.ProofKit
import Derived.OpenShut
import Derived.ShutString
import Derived.ChangeOld
import Derived.SizedLaws

set_option linter.unusedSimpArgs false
set_option linter.unusedVariables false
set_option linter.deprecated false
set_option linter.unusedSectionVars false
set_option linter.all false

/- trothref07.Decode answers the record of bytes, or the error. -/
namespace Go.Proofs.Ytfldcddbmikfiaa
open Go.RowKit

theorem refDec7_any (A : Option Addr) (n c : Nat) (l : List Int) (w : World) (h : Byt w A n c l) : Calls Try.prog 15 #[.slice A n c] w (RetDec l w) := by
  by_cases hn : 4096 < n
  · exact refDec7e A n c l w h (.inl hn)
  by_cases he : (pN (l, 0)).2.2 = 0
  · rcases (by omega : (pN (l, 0)).1 < 1 ∨ 6 < (pN (l, 0)).1 ∨ (pN (l, 0)).1 = 1 ∨ (pN (l, 0)).1 = 2 ∨ (pN (l, 0)).1 = 3 ∨ ((pN (l, 0)).1 = 4 ∨ (pN (l, 0)).1 = 5 ∨ (pN (l, 0)).1 = 6)) with q | q | q | q | q | q
    · exact refDec7e A n c l w h (.inr (.inr (.inl q)))
    · exact refDec7e A n c l w h (.inr (.inr (.inr q)))
    · exact refDec7a A n c l w h ⟨hn, he, q⟩
    · exact refDec7b A n c l w h ⟨hn, he, q⟩
    · exact refDec7c A n c l w h ⟨hn, he, q⟩
    · exact refDec7d A n c l w h ⟨hn, he, q⟩
  · exact refDec7e A n c l w h (.inr (.inl he))
end Go.Proofs.Ytfldcddbmikfiaa

/- what a row's step wants of arguments that are numbers or slices of bytes: how they read, and how long they are. No condition. -/
namespace Go.Proofs.Ytfldcddbmikfiaa
open Go.ChangeShapes Go.WideShapes Go.ChangeAt Go.RowKit

theorem own_knob : ownKnob Try.prog.godebug = none := by kernel_rfl
theorem laidOut : laidOutB Try.prog = true := by kernel_rfl

theorem u64_nat {x : Int} (h : (Lit.int .u64 x).wf = true) : ∃ m : Nat, x = m ∧ m < 18446744073709551616 := by
  simp [Lit.wf, IntKind.min, IntKind.max, IntKind.signed, IntKind.bits] at h
  exact ⟨x.toNat, by omega, by omega⟩

theorem u32_nat {x : Int} (h : (Lit.int .u32 x).wf = true) : ∃ m : Nat, x = m ∧ m < 4294967296 := by
  simp [Lit.wf, IntKind.min, IntKind.max, IntKind.signed, IntKind.bits] at h
  exact ⟨x.toNat, by omega, by omega⟩

theorem i64_bd {x : Int} (h : (Lit.int .i64 x).wf = true) : -9223372036854775808 ≤ x ∧ x ≤ 9223372036854775807 := by
  simp [Lit.wf, IntKind.min, IntKind.max, IntKind.signed, IntKind.bits] at h
  exact ⟨by omega, by omega⟩

theorem u8_bd {x : Int} (h : (Lit.int .u8 x).wf = true) : 0 ≤ x ∧ x < 256 := by
  simp [Lit.wf, IntKind.min, IntKind.max, IntKind.signed, IntKind.bits] at h
  exact ⟨by omega, by omega⟩

theorem bytes8 : Try.prog.bytesOf 5 = 1 := by kernel_rfl
theorem cells8 : Try.prog.cellsOf 5 = 1 := by kernel_rfl

section
variable {H : Type} {enc : TypeId × Value → H} {W : World}

theorem open_bytes {a : Option Addr} {n c : Nat} {d : DataW H} {p : List MemPlace} (h : DataW.Trod enc Try.prog W 0 (fun _ => true) true 33 (.slice a n c) d p) :
    ∃ l, Byt W a n c l ∧ (n = 0 ∨ ∃ el sp, d = .slice el sp ∧ el.length = n) := by
  obtain ⟨fuel, hf⟩ := h
  rcases open_ints Try.underlying33 Try.underlying5 cells8 hf with ⟨hcs, _⟩ | ⟨x, len, cap, zs, hcs, _, hl, hm, hz, hx, hcell, hwz⟩
  · simp [Value.cells] at hcs
    obtain ⟨rfl, rfl, rfl⟩ := hcs
    exact ⟨[], Byt.nil W, .inl rfl⟩
  · simp [Value.cells] at hcs
    obtain ⟨rfl, rfl, rfl⟩ := hcs
    simp only [Prod.mk.injEq] at hx
    have hzl : zs.length = c := by simpa using hz
    refine ⟨zs.take n, ⟨by simp; omega, hl, hm, fun y hy => u8_bd (hwz y (List.mem_of_mem_take hy)), (fun h => nomatch h), fun hn => ?_⟩, .inr ⟨_, _, hx.1, by simp [lits]; omega⟩⟩
    obtain ⟨g, off, spot⟩ := x
    have hspot : spot = none := by simpa [Addr.add] using World.cell?_spot (hcell 0 (by omega))
    subst hspot
    refine ⟨g, off, rfl, fun i hi => ?_⟩
    have h1 := hcell i (by omega)
    have hadd : (⟨g, off, none⟩ : Addr).add i = ⟨g, off + i, none⟩ := by unfold Addr.add; split <;> simp_all
    rw [hadd] at h1
    rw [h1]
    congr 2
    simp [List.getD, hi]

theorem bytes_reach {ts : List TypeId} {ds : List (DataW H)} (h : (DataW.weightsEach Try.prog ts ds).all (· ≤ reachBytes) = true) {j : Nat} {d : DataW H} {n : Nat} (ht : ts[j]? = some 33) (hd : ds[j]? = some d)
    (e : n = 0 ∨ ∃ el sp, d = .slice el sp ∧ el.length = n) : n ≤ 140737488351232 := by
  rcases e with rfl | ⟨el, sp, rfl, hn⟩
  · omega
  · have := sized_slice h ht hd Try.underlying33
    rw [bytes8] at this
    simp only [reachBytes] at this
    omega
end
end Go.Proofs.Ytfldcddbmikfiaa
