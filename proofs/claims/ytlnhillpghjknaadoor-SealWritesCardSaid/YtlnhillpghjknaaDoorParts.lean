/- What it says: a slice of the statements' parts: what it reads as; long() tells whether there is more than is played. -/
import Derived.Test.YtlnhillpghjknaaDoorStr
import Derived.Deep.Slices
import Derived.ProofKit
import Derived.OpenShut
import Derived.SizedLaws
namespace Go.Proofs.YtlnhillpghjknaaDoor
open Go.RowKit

/-- A part: its kind, its number, its text. -/
abbrev Prt := Int × Int × ByteArray
def prt0 : Prt := (0, 0, ByteArray.empty)

theorem list_of {α : Type} (d : α) (P : Nat → α → Prop) : ∀ n : Nat, (∀ i, i < n → ∃ x, P i x) → ∃ l : List α, l.length = n ∧ ∀ i, i < n → P i (l.getD i d)
  | 0, _ => ⟨[], rfl, fun i hi => absurd hi (by omega)⟩
  | n + 1, h => by
    obtain ⟨l, hl, hp⟩ := list_of d P n (fun i hi => h i (by omega))
    obtain ⟨x, hx⟩ := h n (by omega)
    refine ⟨l ++ [x], by simp [hl], fun i hi => ?_⟩
    by_cases he : i < n
    · have := hp i he
      have e : (l ++ [x]).getD i d = l.getD i d := by simp [List.getD, List.getElem?_append_left (show i < l.length by omega)]
      rwa [e]
    · obtain rfl : i = n := by omega
      have : (l ++ [x]).getD l.length d = x := by simp
      rw [hl] at this
      rw [this]
      exact hx

/-- The slice reads as these parts. -/
structure Prts (w : World) (A : Option Addr) (n c : Nat) (ps : List Prt) : Prop where
  len : ps.length = n
  cap : n ≤ c
  max : c ≤ maxLen
  rng : ∀ i, i < n → (-9223372036854775808 ≤ (ps.getD i prt0).1 ∧ (ps.getD i prt0).1 ≤ 9223372036854775807) ∧ (-9223372036854775808 ≤ (ps.getD i prt0).2.1 ∧ (ps.getD i prt0).2.1 ≤ 9223372036854775807) ∧ (ps.getD i prt0).2.2.size ≤ maxLen
  at_ : 0 < n → ∃ g off, A = some ⟨g, off, none⟩ ∧ ∀ i, i < n → w.cell? ⟨g, off + i * 3, none⟩ = some (.int .i64 (ps.getD i prt0).1) ∧ w.cell? ⟨g, off + i * 3 + 1, none⟩ = some (.int .i64 (ps.getD i prt0).2.1) ∧ w.cell? ⟨g, off + i * 3 + 2, none⟩ = some (.string (ps.getD i prt0).2.2)

theorem Prts.keep {w w' : World} {A : Option Addr} {n c : Nat} {ps : List Prt} (h : Prts w A n c ps) (hk : ∀ (p : Addr) u, w.cell? p = some u → w'.cell? p = some u) : Prts w' A n c ps :=
  ⟨h.len, h.cap, h.max, h.rng, fun hn => by
    obtain ⟨g, off, e, hc⟩ := h.at_ hn
    exact ⟨g, off, e, fun i hi => ⟨hk _ _ (hc i hi).1, hk _ _ (hc i hi).2.1, hk _ _ (hc i hi).2.2⟩⟩⟩

theorem Prts.below {w w' : World} {A : Option Addr} {n c : Nat} {ps : List Prt} (h : Prts w A n c ps) (hb : Below w.heap.size w w') : Prts w' A n c ps :=
  h.keep fun p _ hu => (hb.cell (World.block_lt_of_cell? w p hu)).trans hu

section
variable {H : Type} {enc : TypeId × Value → H} {W : World}

theorem cells_part : Tryd.prog.cellsOf 27 = 3 := by kernel_rfl
theorem cells_int : Tryd.prog.cellsOf 3 = 1 := by kernel_rfl
theorem cells_str : Tryd.prog.cellsOf 9 = 1 := by kernel_rfl

theorem wf_i64 {x : Int} (h : (Lit.int .i64 x).wf = true) : -9223372036854775808 ≤ x ∧ x ≤ 9223372036854775807 := by
  simp [Lit.wf, IntKind.min, IntKind.max, IntKind.signed, IntKind.bits] at h
  exact ⟨by omega, by omega⟩

theorem open_parts {A : Option Addr} {n c : Nat} {d : DataW H} {p : List MemPlace} (h : DataW.Trod enc Tryd.prog W 0 (fun _ => true) true 22 (.slice A n c) d p) : ∃ ps, Prts W A n c ps := by
  obtain ⟨fuel, hf⟩ := h
  rcases Go.Deep.open_slice Tryd.underlying22 hf with ⟨hcs, _⟩ | ⟨a, len, cap, m, k, D, Pl, hcs, _, hl, hm, hmm, _, hx⟩
  · simp [Value.cells] at hcs
    obtain ⟨rfl, rfl, rfl⟩ := hcs
    exact ⟨[], rfl, Nat.le_refl _, Nat.zero_le _, fun i hi => absurd hi (by omega), fun h => absurd h (by omega)⟩
  · simp [Value.cells] at hcs
    obtain ⟨rfl, rfl, rfl⟩ := hcs
    have hmc : m = c := by simpa using hmm
    subst hmc
    have each : ∀ i, i < n → ∃ x : Prt, ((-9223372036854775808 ≤ x.1 ∧ x.1 ≤ 9223372036854775807) ∧ (-9223372036854775808 ≤ x.2.1 ∧ x.2.1 ≤ 9223372036854775807) ∧ x.2.2.size ≤ maxLen) ∧
        W.cell? ((a.add (i * 3)).add 0) = some (.int .i64 x.1) ∧ W.cell? ((a.add (i * 3)).add 1) = some (.int .i64 x.2.1) ∧ W.cell? ((a.add (i * 3)).add 2) = some (.string x.2.2) := by
      intro i hi
      obtain ⟨cs', hc, ht⟩ := hx i (by omega)
      rw [cells_part] at hc
      obtain ⟨_, hcl, hat⟩ := World.cells?_some hc
      obtain ⟨xs, k', _, _, _, hxl, hfld⟩ := DataW.trod_struct Tryd.underlying27 ht
      match cs', hcl, xs, hxl with
      | [u0, u1, u2], _, [x0, x1, x2], _ =>
        have f0 : DataW.trod enc Tryd.prog W 0 (fun _ => true) true k' 3 (List.take (Tryd.prog.cellsOf 3) [u0, u1, u2]) = some x0 := hfld 0 _ rfl
        have f1 : DataW.trod enc Tryd.prog W 0 (fun _ => true) true k' 3 (List.take (Tryd.prog.cellsOf 3) [u1, u2]) = some x1 := hfld 1 _ rfl
        have f2 : DataW.trod enc Tryd.prog W 0 (fun _ => true) true k' 9 (List.take (Tryd.prog.cellsOf 9) [u2]) = some x2 := hfld 2 _ rfl
        rw [cells_int] at f0 f1
        rw [cells_str] at f2
        obtain ⟨k0, e0, _, w0⟩ := DataW.trod_int Tryd.underlying3 f0
        obtain ⟨k1, e1, _, w1⟩ := DataW.trod_int Tryd.underlying3 f1
        obtain ⟨s2, e2, _, w2⟩ := DataW.trod_string Tryd.underlying9 f2
        simp at e0 e1 e2
        subst e0 e1 e2
        exact ⟨(k0, k1, s2), ⟨wf_i64 w0, wf_i64 w1, w2⟩, hat 0 (by omega), hat 1 (by omega), hat 2 (by omega)⟩
    obtain ⟨ps, hlen, hps⟩ := list_of prt0 _ n each
    refine ⟨ps, hlen, hl, hm, fun i hi => (hps i hi).1, fun hn => ?_⟩
    obtain ⟨g, off, spot⟩ := a
    have hspot : spot = none := by
      have := (hps 0 hn).2.1
      have h2 := World.cell?_spot this
      simpa [Addr.add] using h2
    subst hspot
    have hadd : ∀ i j : Nat, ((⟨g, off, none⟩ : Addr).add i).add j = ⟨g, off + i + j, none⟩ := by
      intro i j
      by_cases hi : i = 0 <;> by_cases hj : j = 0 <;> simp [Addr.add, hi, hj]
    refine ⟨g, off, rfl, fun i hi => ?_⟩
    have := (hps i hi).2
    rw [hadd, hadd, hadd] at this
    exact this
end

/-- Is there more than is played? -/
def longP (ps : List Prt) : Bool := decide (60 < ps.length) || ps.any fun x => decide (300 < x.2.2.size)

theorem longP_no {ps : List Prt} (h : longP ps = false) : ps.length ≤ 60 ∧ ∀ i, i < ps.length → (ps.getD i prt0).2.2.size ≤ 300 := by
  unfold longP at h
  simp only [Bool.or_eq_false_iff, decide_eq_false_iff_not, List.any_eq_false, decide_eq_true_eq, Nat.not_lt] at h
  refine ⟨h.1, fun i hi => ?_⟩
  have e : ps.getD i prt0 = ps[i] := by simp [List.getD, List.getElem?_eq_getElem hi]
  rw [e]
  exact h.2 _ (List.getElem_mem hi)

set_option maxHeartbeats 1000000 in
theorem long_any (A : Option Addr) (n c : Nat) (ps : List Prt) (w : World) (h : Prts w A n c ps) :
    Calls Tryd.prog 11 #[.slice A n c] w (fun e w' => e = .returned (.bool (longP ps)) ∧ w = w') := by
  have hlen := h.len
  have hcap := h.cap
  have hmax := h.max
  unfold maxLen at hmax
  by_cases h60 : (60 : Int) < (n : Int)
  · have hl : longP ps = true := by unfold longP; simp; left; omega
    rw [hl]
    clear h hl
    go_enter Tryd.func11, Tryd.ntmps11
    go_wp2_with fail
    go_ret
    exact ⟨rfl, rfl⟩
  · by_cases hn : 0 < n
    · obtain ⟨g, off, rfl, hc⟩ := h.at_ hn
      have HC := Lib.hid hc
      have HP := Lib.hid h
      clear h hc
      go_enter Tryd.func11, Tryd.ntmps11
      go_wp2_with fail
      go_loop [3] (fun q => ∃ i : Nat, i ≤ n ∧ q = .int .i64 i ∧ ∀ j, j < i → (ps.getD j prt0).2.2.size ≤ 300) (fun q => n - (intOf q).toNat)
      case atStart => exact ⟨0, Nat.zero_le _, rfl, fun j hj => absurd hj (by omega)⟩
      case round =>
        obtain ⟨i, hin, rfl, hall⟩ := hrel
        have HA := Lib.hid hall
        clear hall
        by_cases hlt : i < n
        · obtain ⟨_, _, hx⟩ := HC.out i hlt
          obtain ⟨s, es⟩ : ∃ s, (ps.getD i prt0).2.2 = s := ⟨_, rfl⟩
          rw [es] at hx
          have ES := Lib.hid es
          clear es
          have hj : i < ps.length := by omega
          by_cases h3 : (300 : Int) < (s.size : Int)
          · have hl : longP ps = true := by
              unfold longP
              simp only [Bool.or_eq_true, List.any_eq_true, decide_eq_true_eq]
              refine .inr ⟨ps[i], List.getElem_mem hj, ?_⟩
              have e : ps.getD i prt0 = ps[i] := by simp [List.getD, List.getElem?_eq_getElem hj]
              rw [← e, ES.out]
              omega
            have HL := Lib.hid hl
            clear hl
            go_wp2_with fail
            go_ret
            exact ⟨by rw [HL.out]; rfl, rfl⟩
          · have HN : Hid (∀ j, j < i + 1 → (ps.getD j prt0).2.2.size ≤ 300) := Lib.hid (fun j hj => by
              by_cases he : j < i
              · exact HA.out j he
              · obtain rfl : j = i := by omega
                rw [ES.out]; omega)
            go_wp2_with fail
            go_round
            case rel => exact ⟨i + 1, by omega, by go_num, HN.out⟩
            case measure => simp [intOf]; omega
        · have hin : i = n := by omega
          have hl : longP ps = false := by
            unfold longP
            simp only [Bool.or_eq_false_iff, decide_eq_false_iff_not, List.any_eq_false, decide_eq_true_eq, Nat.not_lt]
            refine ⟨by omega, fun x hx => ?_⟩
            obtain ⟨j, hj, rfl⟩ := List.getElem_of_mem hx
            have := HA.out j (by omega)
            simpa [List.getD, List.getElem?_eq_getElem hj] using this
          have HL := Lib.hid hl
          clear hl hin
          go_wp2_with fail
          go_ret
          exact ⟨by rw [HL.out]; rfl, rfl⟩
    · have h0 : n = 0 := by omega
      subst h0
      have e : ps = [] := List.eq_nil_of_length_eq_zero h.len
      subst e
      clear h hn
      go_enter Tryd.func11, Tryd.ntmps11
      go_wp2_with fail
      refine wp_loop_rounds 1 ?_
      rw [rounds_succ]
      go_wp2_with fail
      go_ret
      exact ⟨rfl, rfl⟩
end Go.Proofs.YtlnhillpghjknaaDoor
