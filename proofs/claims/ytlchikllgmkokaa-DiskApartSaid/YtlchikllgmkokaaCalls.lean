/- What it says: the statements' calls, and a crash, as they come in: what they read as; long() tells whether there is more than is played. -/
import Derived.Test.YtlchikllgmkokaaDMath
import Derived.Test.YtlchikllgmkokaaNts
import Derived.Test.YtlchikllgmkokaaDisk
import Derived.Lib.SmallJoins
import Derived.ChangeArms
namespace Go.Proofs.Ytlchikllgmkokaa
open Go.RowKit Go.ChangeShapes Go.WideShapes Go.ChangeAt

/-- A call as it came in. -/
structure Cal where
  kind : Int
  n : Int
  b : Int
  dA : Option Addr
  dn : Nat
  dc : Nat
  data : List Int
  kA : Option Addr
  kn : Nat
  kc : Nat
  crs : Crs

instance : Inhabited Cal := ⟨⟨0, 0, 0, none, 0, 0, [], none, 0, 0, ⟨[], false, 0⟩⟩⟩

/-- What is known of one. -/
structure Cal.In (w : World) (c : Cal) : Prop where
  kind : -9223372036854775808 ≤ c.kind ∧ c.kind ≤ 9223372036854775807
  n : -9223372036854775808 ≤ c.n ∧ c.n ≤ 9223372036854775807
  b : 0 ≤ c.b ∧ c.b < 256
  data : Byt w c.dA c.dn c.dc c.data
  keep : Nts w c.kA c.kn c.kc c.crs.keep
  cut : -9223372036854775808 ≤ c.crs.cut ∧ c.crs.cut ≤ 9223372036854775807

theorem Cal.In.below {w w' : World} {c : Cal} (h : c.In w) (hb : Below w.heap.size w w') : c.In w' := ⟨h.kind, h.n, h.b, h.data.below hb, h.keep.below hb, h.cut⟩

/-- The cells of one. -/
def Cal.cells (c : Cal) : List Value := [.int .i64 c.kind, .int .i64 c.n, .int .u8 c.b, .slice c.dA c.dn c.dc, .slice c.kA c.kn c.kc, .bool c.crs.torn, .int .i64 c.crs.cut]

/-- The slice reads as these calls. -/
structure Cls (w : World) (A : Option Addr) (n c : Nat) (cs : List Cal) : Prop where
  len : cs.length = n
  cap : n ≤ c
  max : c ≤ maxLen
  each : ∀ i, i < n → (cs.getD i default).In w
  at_ : 0 < n → ∃ g off, A = some ⟨g, off, none⟩ ∧ ∀ i, i < n → ∀ j v, (cs.getD i default).cells[j]? = some v → w.cell? ⟨g, off + i * 7 + j, none⟩ = some v

theorem Cls.below {w w' : World} {A : Option Addr} {n c : Nat} {cs : List Cal} (h : Cls w A n c cs) (hb : Below w.heap.size w w') : Cls w' A n c cs :=
  ⟨h.len, h.cap, h.max, fun i hi => (h.each i hi).below hb, fun hn => by
    obtain ⟨g, off, e, hc⟩ := h.at_ hn
    exact ⟨g, off, e, fun i hi j v hv => (hb.cell (World.block_lt_of_cell? w _ (hc i hi j v hv))).trans (hc i hi j v hv)⟩⟩

theorem list_of {α : Type} (d : α) (P : Nat → α → Prop) : ∀ n : Nat, (∀ i, i < n → ∃ x, P i x) → ∃ l : List α, l.length = n ∧ ∀ i, i < n → P i (l.getD i d)
  | 0, _ => ⟨[], rfl, fun i hi => absurd hi (by omega)⟩
  | n + 1, h => by
    obtain ⟨l, hl, hp⟩ := list_of d P n (fun i hi => h i (by omega))
    obtain ⟨x, hx⟩ := h n (by omega)
    refine ⟨l ++ [x], by simp [hl], fun i hi => ?_⟩
    by_cases he : i < n
    · have := hp i he
      have e : (l ++ [x]).getD i d = l.getD i d := by simp [List.getD, List.getElem?_append_left (show i < l.length by omega)]
      rwa [e]
    · obtain rfl : i = n := by omega
      have : (l ++ [x]).getD l.length d = x := by simp
      rw [hl] at this
      rw [this]
      exact hx

section
variable {H : Type} {enc : TypeId × Value → H} {W : World}

theorem cells_call : Try.prog.cellsOf 37 = 7 := by kernel_rfl
theorem cells_crash : Try.prog.cellsOf 35 = 3 := by kernel_rfl
theorem cells_byte : Try.prog.cellsOf 5 = 1 := by kernel_rfl
theorem cells_bool : Try.prog.cellsOf 4 = 1 := by kernel_rfl
theorem cells_bytes : Try.prog.cellsOf 32 = 1 := by kernel_rfl
theorem cells_nts : Try.prog.cellsOf 33 = 1 := by kernel_rfl

theorem open_nts1 {k : Nat} {v : Value} {x : DataW H × List MemPlace} (hf : DataW.trod enc Try.prog W 0 (fun _ => true) true k 33 [v] = some x) : ∃ A n c l, v = .slice A n c ∧ Nts W A n c l := by
  have hf' := hf
  rcases open_ints Try.underlying33 Try.underlying3 cells_int hf with ⟨hcs, _⟩ | ⟨y, len, cap, zs, hcs, _⟩
  · obtain rfl : v = .slice none 0 0 := by simpa using hcs
    obtain ⟨l, hl⟩ := open_i64s (enc := enc) (d := x.1) (p := x.2) ⟨k, hf'⟩
    exact ⟨_, _, _, l, rfl, hl⟩
  · obtain rfl : v = .slice (some y) len cap := by simpa using hcs
    obtain ⟨l, hl⟩ := open_i64s (enc := enc) (d := x.1) (p := x.2) ⟨k, hf'⟩
    exact ⟨_, _, _, l, rfl, hl⟩

theorem u8_bd' {x : Int} (h : (Lit.int .u8 x).wf = true) : 0 ≤ x ∧ x < 256 := by
  simp [Lit.wf, IntKind.min, IntKind.max, IntKind.signed, IntKind.bits] at h
  exact ⟨by omega, by omega⟩

theorem open_byt1 {k : Nat} {v : Value} {x : DataW H × List MemPlace} (hf : DataW.trod enc Try.prog W 0 (fun _ => true) true k 32 [v] = some x) : ∃ A n c l, v = .slice A n c ∧ Byt W A n c l := by
  rcases open_ints Try.underlying32 Try.underlying5 cells_byte hf with ⟨hcs, _⟩ | ⟨y, n, c, zs, hcs, _, hl, hm, hz, hx, hcell, hwz⟩
  · obtain rfl : v = .slice none 0 0 := by simpa using hcs
    exact ⟨_, _, _, [], rfl, Byt.nil W⟩
  · obtain rfl : v = .slice (some y) n c := by simpa using hcs
    have hzl : zs.length = c := by simpa using hz
    refine ⟨_, _, _, zs.take n, rfl, ⟨by simp; omega, hl, hm, fun y hy => u8_bd' (hwz y (List.mem_of_mem_take hy)), (fun h => nomatch h), fun hn => ?_⟩⟩
    obtain ⟨g, off, spot⟩ := y
    have hspot : spot = none := by simpa [Addr.add] using World.cell?_spot (hcell 0 (by omega))
    subst hspot
    refine ⟨g, off, rfl, fun i hi => ?_⟩
    have h1 := hcell i (by omega)
    have hadd : (⟨g, off, none⟩ : Addr).add i = ⟨g, off + i, none⟩ := by unfold Addr.add; split <;> simp_all
    rw [hadd] at h1
    rw [h1]
    congr 2
    simp [List.getD, hi]

/-- A crash's three cells. -/
theorem open_crash3 {k : Nat} {v0 v1 v2 : Value} {x : DataW H × List MemPlace} (hf : DataW.trod enc Try.prog W 0 (fun _ => true) true k 35 [v0, v1, v2] = some x) :
    ∃ A n c, ∃ cr : Crs, v0 = .slice A n c ∧ v1 = .bool cr.torn ∧ v2 = .int .i64 cr.cut ∧ Nts W A n c cr.keep ∧ -9223372036854775808 ≤ cr.cut ∧ cr.cut ≤ 9223372036854775807 := by
  obtain ⟨xs, k', _, _, _, hxl, hfld⟩ := DataW.trod_struct Try.underlying35 hf
  match xs, hxl with
  | [x0, x1, x2], _ =>
    have f0 : DataW.trod enc Try.prog W 0 (fun _ => true) true k' 33 (List.take (Try.prog.cellsOf 33) [v0, v1, v2]) = some x0 := hfld 0 _ rfl
    have f1 : DataW.trod enc Try.prog W 0 (fun _ => true) true k' 4 (List.take (Try.prog.cellsOf 4) [v1, v2]) = some x1 := hfld 1 _ rfl
    have f2 : DataW.trod enc Try.prog W 0 (fun _ => true) true k' 3 (List.take (Try.prog.cellsOf 3) [v2]) = some x2 := hfld 2 _ rfl
    rw [cells_nts] at f0
    rw [cells_bool] at f1
    rw [cells_int] at f2
    obtain ⟨A, n, c, l, rfl, hn⟩ := open_nts1 f0
    obtain ⟨t, e1, _⟩ := DataW.trod_bool Try.underlying4 f1
    obtain ⟨z, e2, _, wz⟩ := DataW.trod_int Try.underlying3 f2
    simp at e1 e2
    subst e1 e2
    exact ⟨A, n, c, ⟨l, t, z⟩, rfl, rfl, rfl, hn, wf_i64 wz⟩

theorem open_crash {r : Reach} {b0 : Nat} {v : Value} {d : DataW H} {p : List MemPlace} (hv : Value.okWide Try.prog W r b0 35 v) (h : DataW.Trod enc Try.prog W 0 (fun _ => true) true 35 v d p) :
    ∃ A n c, ∃ cr : Crs, v = .agg (#[.slice A n c, .bool cr.torn, .int .i64 cr.cut]) ∧ Nts W A n c cr.keep ∧ -9223372036854775808 ≤ cr.cut ∧ cr.cut ≤ 9223372036854775807 := by
  obtain ⟨cs, rfl, hsz⟩ := okWide_struct Try.underlying35 hv
  rw [cells_crash] at hsz
  obtain ⟨fuel, hf⟩ := h
  obtain ⟨l⟩ := cs
  match l, hsz with
  | [v0, v1, v2], _ =>
    obtain ⟨A, n, c, cr, rfl, rfl, rfl, hn⟩ := open_crash3 (v0 := v0) (v1 := v1) (v2 := v2) hf
    exact ⟨A, n, c, cr, rfl, hn⟩

theorem open_calls {A : Option Addr} {n c : Nat} {d : DataW H} {p : List MemPlace} (h : DataW.Trod enc Try.prog W 0 (fun _ => true) true 22 (.slice A n c) d p) : ∃ cs, Cls W A n c cs := by
  obtain ⟨fuel, hf⟩ := h
  rcases Go.Deep.open_slice Try.underlying22 hf with ⟨hcs, _⟩ | ⟨a, len, cap, m, k, D, Pl, hcs, _, hl, hm, hmm, _, hx⟩
  · simp [Value.cells] at hcs
    obtain ⟨rfl, rfl, rfl⟩ := hcs
    exact ⟨[], rfl, Nat.le_refl _, Nat.zero_le _, fun i hi => absurd hi (by omega), fun h => absurd h (by omega)⟩
  · simp [Value.cells] at hcs
    obtain ⟨rfl, rfl, rfl⟩ := hcs
    have hmc : m = c := by simpa using hmm
    subst hmc
    have each : ∀ i, i < n → ∃ x : Cal, x.In W ∧ ∀ j v, x.cells[j]? = some v → W.cell? ((a.add (i * 7)).add j) = some v := by
      intro i hi
      obtain ⟨cs', hc, ht⟩ := hx i (by omega)
      rw [cells_call] at hc
      obtain ⟨_, hcl, hat⟩ := World.cells?_some hc
      obtain ⟨xs, k', _, _, _, hxl, hfld⟩ := DataW.trod_struct Try.underlying37 ht
      match cs', hcl, xs, hxl with
      | [u0, u1, u2, u3, u4, u5, u6], _, [x0, x1, x2, x3, x4], _ =>
        have f0 : DataW.trod enc Try.prog W 0 (fun _ => true) true k' 3 (List.take (Try.prog.cellsOf 3) [u0, u1, u2, u3, u4, u5, u6]) = some x0 := hfld 0 _ rfl
        have f1 : DataW.trod enc Try.prog W 0 (fun _ => true) true k' 3 (List.take (Try.prog.cellsOf 3) [u1, u2, u3, u4, u5, u6]) = some x1 := hfld 1 _ rfl
        have f2 : DataW.trod enc Try.prog W 0 (fun _ => true) true k' 5 (List.take (Try.prog.cellsOf 5) [u2, u3, u4, u5, u6]) = some x2 := hfld 2 _ rfl
        have f3 : DataW.trod enc Try.prog W 0 (fun _ => true) true k' 32 (List.take (Try.prog.cellsOf 32) [u3, u4, u5, u6]) = some x3 := hfld 3 _ rfl
        have f4 : DataW.trod enc Try.prog W 0 (fun _ => true) true k' 35 (List.take (Try.prog.cellsOf 35) [u4, u5, u6]) = some x4 := hfld 4 _ rfl
        rw [cells_int] at f0 f1
        rw [cells_byte] at f2
        rw [cells_bytes] at f3
        rw [cells_crash] at f4
        obtain ⟨k0, e0, _, w0⟩ := DataW.trod_int Try.underlying3 f0
        obtain ⟨k1, e1, _, w1⟩ := DataW.trod_int Try.underlying3 f1
        obtain ⟨k2, e2, _, w2⟩ := DataW.trod_int Try.underlying5 f2
        obtain ⟨dA, dn, dc, dl, rfl, hd⟩ := open_byt1 f3
        obtain ⟨kA, kn, kc, cr, rfl, rfl, rfl, hk, hc1, hc2⟩ := open_crash3 f4
        simp at e0 e1 e2
        subst e0 e1 e2
        refine ⟨⟨k0, k1, k2, dA, dn, dc, dl, kA, kn, kc, cr⟩, ⟨wf_i64 w0, wf_i64 w1, u8_bd' w2, hd, hk, hc1, hc2⟩, fun j v hv => ?_⟩
        have hj : j < 7 := by have := (List.getElem?_eq_some_iff.1 hv).1; simpa [Cal.cells] using this
        have := hat j (by simpa using hj)
        rw [this]
        exact hv
    obtain ⟨ps, hlen, hps⟩ := list_of (default : Cal) _ n each
    refine ⟨ps, hlen, hl, hm, fun i hi => (hps i hi).1, fun hn => ?_⟩
    obtain ⟨g, off, spot⟩ := a
    have hspot : spot = none := by
      have := (hps 0 hn).2 0 _ rfl
      have h2 := World.cell?_spot this
      simpa [Addr.add] using h2
    subst hspot
    have hadd : ∀ i j : Nat, ((⟨g, off, none⟩ : Addr).add i).add j = ⟨g, off + i + j, none⟩ := by
      intro i j
      by_cases hi : i = 0 <;> by_cases hj : j = 0 <;> simp [Addr.add, hi, hj]
    refine ⟨g, off, rfl, fun i hi j v hv => ?_⟩
    have := (hps i hi).2 j v hv
    rwa [hadd] at this
end
end Go.Proofs.Ytlchikllgmkokaa
