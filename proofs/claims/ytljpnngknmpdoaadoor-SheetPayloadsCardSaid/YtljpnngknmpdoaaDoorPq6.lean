/- What it says: contracts and plain mathematics that the laws' walks use, 6 of 6: each part's own remark says what; no condition. -/
import Derived.Test.YtljpnngknmpdoaaDoorPq1
import Derived.Test.YtljpnngknmpdoaaDoorPq5
import Derived.Deep.Slices
import Derived.ChangeArms
import Derived.Test.YtljpnngknmpdoaaDoorRows
import Derived.Lib.LaidTab
import Derived.LaidMore
import Derived.Stop.Joined

set_option linter.unusedSimpArgs false
set_option linter.unusedVariables false
set_option linter.deprecated false
set_option linter.unusedSectionVars false
set_option linter.all false

/- bodies and sheets as they come in: what they read as. -/
namespace Go.Proofs.YtljpnngknmpdoaaDoor
open Go.RowKit Go.ChangeShapes Go.WideShapes Go.ChangeAt

structure BodsE (w : World) (A : Option Addr) (n c : Nat) (ls : List (List Int)) : Prop where
  ex : ∃ vs, Bods w A n c ls vs

theorem lstO {α : Type} (d : α) (P : Nat → α → Prop) : ∀ n : Nat, (∀ i, i < n → ∃ x, P i x) → ∃ l : List α, l.length = n ∧ ∀ i, i < n → P i (l.getD i d)
  | 0, _ => ⟨[], rfl, fun i hi => absurd hi (by omega)⟩
  | n + 1, h => by
    obtain ⟨l, hl, hp⟩ := lstO d P n (fun i hi => h i (by omega))
    obtain ⟨x, hx⟩ := h n (by omega)
    refine ⟨l ++ [x], by simp [hl], fun i hi => ?_⟩
    by_cases he : i < n
    · have := hp i he
      have e : (l ++ [x]).getD i d = l.getD i d := by simp [List.getD, List.getElem?_append_left (show i < l.length by omega)]
      rwa [e]
    · obtain rfl : i = n := by omega
      have : (l ++ [x]).getD l.length d = x := by simp
      rw [hl] at this
      rw [this]
      exact hx

section
variable {H : Type} {enc : TypeId × Value → H} {W : World}
theorem coO_int : Tryd.prog.cellsOf 3 = 1 := by kernel_rfl
theorem coO_str : Tryd.prog.cellsOf 9 = 1 := by kernel_rfl
theorem coO_bytes : Tryd.prog.cellsOf 24 = 1 := by kernel_rfl
theorem coO_sh : Tryd.prog.cellsOf 23 = 4 := by kernel_rfl

theorem addrO {g off : Nat} (i j : Nat) : ((⟨g, off, none⟩ : Addr).add i).add j = ⟨g, off + i + j, none⟩ := by
  by_cases hi : i = 0 <;> by_cases hj : j = 0 <;> simp [Addr.add, hi, hj]

theorem open_bods {A : Option Addr} {n c : Nat} {d : DataW H} {p : List MemPlace} (h : DataW.Trod enc Tryd.prog W 0 (fun _ => true) true 37 (.slice A n c) d p) : ∃ ls, BodsE W A n c ls := by
  obtain ⟨fuel, hf⟩ := h
  rcases Go.Deep.open_slice Tryd.underlying37 hf with ⟨hcs, _⟩ | ⟨a, len, cap, m, k, D, Pl, hcs, _, hl, hm, hmm, _, hx⟩
  · simp [Value.cells] at hcs
    obtain ⟨rfl, rfl, rfl⟩ := hcs
    exact ⟨[], [], Bods.nil W⟩
  · simp [Value.cells] at hcs
    obtain ⟨rfl, rfl, rfl⟩ := hcs
    have hmc : m = c := by simpa using hmm
    subst hmc
    have each : ∀ i, i < n → ∃ x : (Option Addr × Nat × Nat) × List Int, Byt W x.1.1 x.1.2.1 x.1.2.2 x.2 ∧ W.cell? ((a.add (i * 1)).add 0) = some (.slice x.1.1 x.1.2.1 x.1.2.2) := by
      intro i hi
      obtain ⟨cs', hc, ht⟩ := hx i (by omega)
      rw [coO_bytes] at hc
      obtain ⟨_, hcl, hat⟩ := World.cells?_some hc
      match cs', hcl with
      | [v], _ =>
        have hv : ∃ B q e, v = .slice B q e := by
          rcases Go.Deep.open_slice Tryd.underlying24 ht with ⟨hcs, _⟩ | ⟨a', n', c', _, _, _, _, hcs, _⟩
          · exact ⟨none, 0, 0, by simpa using hcs⟩
          · exact ⟨some a', n', c', by simpa using hcs⟩
        obtain ⟨B, q, e, rfl⟩ := hv
        obtain ⟨l, hl2, _⟩ := open_bytes (a := B) (n := q) (c := e) (d := (D i)) (p := (Pl i)) ⟨k, by simpa [Value.cells] using ht⟩
        exact ⟨((B, q, e), l), hl2, hat 0 (by omega)⟩
    obtain ⟨xs, hlen, hxs⟩ := lstO (((none, 0, 0), []) : (Option Addr × Nat × Nat) × List Int) _ n each
    have g1 : ∀ i, (xs.map Prod.fst).getD i sl0 = (xs.getD i ((none, 0, 0), [])).1 := fun i => by
      rcases Nat.lt_or_ge i xs.length with q | q
      · simp [List.getD, List.getElem?_eq_getElem q]
      · simp [List.getD, List.getElem?_eq_none q, sl0]
    have g2 : ∀ i, (xs.map Prod.snd).getD i [] = (xs.getD i ((none, 0, 0), [])).2 := fun i => by
      rcases Nat.lt_or_ge i xs.length with q | q
      · simp [List.getD, List.getElem?_eq_getElem q]
      · simp [List.getD, List.getElem?_eq_none q]
    refine ⟨xs.map Prod.snd, xs.map Prod.fst, ⟨⟨by rw [flatL_len slV 1 slV_len]; simp [hlen], hl, hm, (fun h => nomatch h), fun hn => ?_⟩, by simp [hlen], by simp [hlen], fun i hi => by rw [g1, g2]; exact (hxs i hi).1⟩⟩
    obtain ⟨g, off, spot⟩ := a
    have hspot : spot = none := by
      have := (hxs 0 hn).2
      have h2 := World.cell?_spot this
      simpa [Addr.add] using h2
    subst hspot
    refine ⟨g, off, rfl, fun i v hv => ?_⟩
    have hi : i < n := by
      have := (List.getElem?_eq_some_iff.1 hv).1
      rw [flatL_len slV 1 slV_len] at this
      simpa [hlen] using this
    have := (hxs i hi).2
    rw [addrO] at this
    have e := flatL_get sl0 slV 1 slV_len (xs.map Prod.fst) i 0 (by simpa [hlen] using hi) (by omega)
    simp only [Nat.mul_one, Nat.add_zero] at e this
    rw [e, g1] at hv
    simp [slV] at hv
    rw [← hv]
    exact this

theorem open_sh4 {k : Nat} {v0 v1 v2 v3 : Value} {x : DataW H × List MemPlace} (hf : DataW.trod enc Tryd.prog W 0 (fun _ => true) true k 23 [v0, v1, v2, v3] = some x) : ∃ m : Sh, [v0, v1, v2, v3] = m.cells ∧ m.In := by
  obtain ⟨xs, k', _, _, _, hxl, hfld⟩ := DataW.trod_struct Tryd.underlying23 hf
  match xs, hxl with
  | [x0, x1, x2, x3], _ =>
    have f0 : DataW.trod enc Tryd.prog W 0 (fun _ => true) true k' 3 (List.take (Tryd.prog.cellsOf 3) [v0, v1, v2, v3]) = some x0 := hfld 0 _ rfl
    have f1 : DataW.trod enc Tryd.prog W 0 (fun _ => true) true k' 3 (List.take (Tryd.prog.cellsOf 3) [v1, v2, v3]) = some x1 := hfld 1 _ rfl
    have f2 : DataW.trod enc Tryd.prog W 0 (fun _ => true) true k' 3 (List.take (Tryd.prog.cellsOf 3) [v2, v3]) = some x2 := hfld 2 _ rfl
    have f3 : DataW.trod enc Tryd.prog W 0 (fun _ => true) true k' 9 (List.take (Tryd.prog.cellsOf 9) [v3]) = some x3 := hfld 3 _ rfl
    rw [coO_int] at f0 f1 f2
    rw [coO_str] at f3
    obtain ⟨k0, e0, _, w0⟩ := DataW.trod_int Tryd.underlying3 f0
    obtain ⟨k1, e1, _, w1⟩ := DataW.trod_int Tryd.underlying3 f1
    obtain ⟨k2, e2, _, w2⟩ := DataW.trod_int Tryd.underlying3 f2
    obtain ⟨k3, e3, _, w3⟩ := DataW.trod_string Tryd.underlying9 f3
    simp at e0 e1 e2 e3
    subst e0 e1 e2 e3
    exact ⟨⟨k0, k1, k2, k3⟩, rfl, ⟨i64_bd w0, i64_bd w1, i64_bd w2, w3⟩⟩

theorem open_shs {A : Option Addr} {n c : Nat} {d : DataW H} {p : List MemPlace} (h : DataW.Trod enc Tryd.prog W 0 (fun _ => true) true 39 (.slice A n c) d p) : ∃ l, Shs W A n c l := by
  obtain ⟨fuel, hf⟩ := h
  rcases Go.Deep.open_slice Tryd.underlying39 hf with ⟨hcs, _⟩ | ⟨a, len, cap, m, k, D, Pl, hcs, _, hl, hm, hmm, _, hx⟩
  · simp [Value.cells] at hcs
    obtain ⟨rfl, rfl, rfl⟩ := hcs
    exact ⟨[], Flt.nil W 4, rfl, fun x hx => (by cases hx)⟩
  · simp [Value.cells] at hcs
    obtain ⟨rfl, rfl, rfl⟩ := hcs
    have hmc : m = c := by simpa using hmm
    subst hmc
    have each : ∀ i, i < n → ∃ x : Sh, x.In ∧ ∀ j v, x.cells[j]? = some v → W.cell? ((a.add (i * 4)).add j) = some v := by
      intro i hi
      obtain ⟨cs', hc, ht⟩ := hx i (by omega)
      rw [coO_sh] at hc
      obtain ⟨_, hcl, hat⟩ := World.cells?_some hc
      match cs', hcl with
      | [v0, v1, v2, v3], _ =>
        obtain ⟨x, e, hin⟩ := open_sh4 ht
        refine ⟨x, hin, fun j v hv => ?_⟩
        rw [← e] at hv
        have hj : j < 4 := (List.getElem?_eq_some_iff.1 hv).1
        rw [hat j hj]
        exact hv
    obtain ⟨xs, hlen, hxs⟩ := lstO sh0 _ n each
    refine ⟨xs, ⟨by rw [flatL_len Sh.cells 4 Sh.cells_len, hlen], hl, hm, (fun h => nomatch h), fun hn => ?_⟩, hlen, fun x hx => ?_⟩
    · obtain ⟨g, off, spot⟩ := a
      have hspot : spot = none := by
        have := (hxs 0 hn).2 0 _ rfl
        have h2 := World.cell?_spot this
        simpa [Addr.add] using h2
      subst hspot
      refine ⟨g, off, rfl, fun j v hv => ?_⟩
      have hj : j < xs.length * 4 := by
        have := (List.getElem?_eq_some_iff.1 hv).1
        rwa [flatL_len Sh.cells 4 Sh.cells_len] at this
      have e : j = (j / 4) * 4 + j % 4 := by omega
      rw [e, flatL_get sh0 Sh.cells 4 Sh.cells_len xs (j / 4) (j % 4) (by omega) (by omega)] at hv
      have := (hxs (j / 4) (by omega)).2 (j % 4) v hv
      rw [addrO] at this
      rw [e, ← Nat.add_assoc]
      exact this
    · obtain ⟨i, hi, rfl⟩ := List.getElem_of_mem hx
      have := (hxs i (by omega)).1
      have e : xs.getD i sh0 = xs[i] := by simp [List.getD, List.getElem?_eq_getElem hi]
      rwa [e] at this

set_option maxRecDepth 100000 in
theorem open_sheet {r : Reach} {b0 : Nat} {v : Value} {d : DataW H} {p : List MemPlace} (hv : Value.okWide Tryd.prog W r b0 23 v) (h : DataW.Trod enc Tryd.prog W 0 (fun _ => true) true 23 v d p) :
    ∃ m : Sh, v = .agg m.cells.toArray ∧ m.In := by
  obtain ⟨cs, rfl, hsz⟩ := okWide_struct Tryd.underlying23 hv
  rw [coO_sh] at hsz
  obtain ⟨fuel, hf⟩ := h
  obtain ⟨l⟩ := cs
  match l, hsz with
  | [v0, v1, v2, v3], _ =>
    obtain ⟨m, e, hm⟩ := open_sh4 (v0 := v0) (v1 := v1) (v2 := v2) (v3 := v3) hf
    exact ⟨m, by rw [← e], hm⟩
end
end Go.Proofs.YtljpnngknmpdoaaDoor

/- where the listed variable reads as the program's text lays it, its cells are the table's. -/
namespace Go.Proofs.YtljpnngknmpdoaaDoor
open Go.RowKit

theorem tab_global : Tryd.prog.globalNamed "troth/crc.byNibble" = some 0 := by kernel_rfl
theorem tab_type : (Tryd.prog.globals[0]?).map (·.type) = some 111 := by kernel_rfl

def tabZs : List Int := [0, 498536548, 997073096, 651767980, 1994146192, 1802195444, 1303535960, 1342533948, 3988292384, 4027552580, 3604390888, 3412177804, 2607071920, 2262029012, 2685067896, 3183342108]

theorem tab_zs (i : Nat) (h : i < 16) : tabZs.getD i 0 = (nib i : Int) := by
  have : i = 0 ∨ i = 1 ∨ i = 2 ∨ i = 3 ∨ i = 4 ∨ i = 5 ∨ i = 6 ∨ i = 7 ∨ i = 8 ∨ i = 9 ∨ i = 10 ∨ i = 11 ∨ i = 12 ∨ i = 13 ∨ i = 14 ∨ i = 15 := by omega
  rcases this with h | h | h | h | h | h | h | h | h | h | h | h | h | h | h | h <;> subst h <;> rfl

theorem tab_of_laid {W : World} (h : laidMetH Tryd.prog [("troth/crc.byNibble", Rows.laid_troth_crc_byNibble)] W) : Tab W := by
  rw [MakeChecks.laidMetH_plain _ _ _ (by kernel_rfl)] at h
  have h' : laidMet Tryd.prog (("troth/crc.byNibble", Lib.tabData .u32 tabZs) :: []) W := h
  have ht := Lib.tabIs_of_head (n := 16) tab_global tab_type Tryd.underlying111 Tryd.underlying96 (by kernel_rfl) (by kernel_rfl) h'
  intro i hi
  have := ht.cell tab_global i hi
  rw [tab_zs i hi] at this
  exact this
end Go.Proofs.YtljpnngknmpdoaaDoor
