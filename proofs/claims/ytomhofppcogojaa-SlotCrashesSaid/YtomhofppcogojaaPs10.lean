/- What it says: contracts and plain mathematics that the laws' walks use, 10 of 10: each part's own remark says what; no condition. -/
import Derived.Test.YtomhofppcogojaaPs1
import Derived.Test.YtomhofppcogojaaPs2
import Derived.Test.YtomhofppcogojaaPs8
import Derived.Lib.SmallJoins
import Derived.ChangeArms

set_option linter.unusedSimpArgs false
set_option linter.unusedVariables false
set_option linter.deprecated false
set_option linter.unusedSectionVars false
set_option linter.all false

/- the statements' calls, and a crash, as they come in: what they read as; long() tells whether there is more than is played. -/
namespace Go.Proofs.Ytomhofppcogojaa
open Go.RowKit Go.ChangeShapes Go.WideShapes Go.ChangeAt

/-- A call as it came in. -/
structure Cal where
  kind : Int
  n : Int
  b : Int
  dA : Option Addr
  dn : Nat
  dc : Nat
  data : List Int
  kA : Option Addr
  kn : Nat
  kc : Nat
  crs : Crs

instance : Inhabited Cal := ⟨⟨0, 0, 0, none, 0, 0, [], none, 0, 0, ⟨[], false, 0⟩⟩⟩

/-- What is known of one. -/
structure Cal.In (w : World) (c : Cal) : Prop where
  kind : -9223372036854775808 ≤ c.kind ∧ c.kind ≤ 9223372036854775807
  n : -9223372036854775808 ≤ c.n ∧ c.n ≤ 9223372036854775807
  b : 0 ≤ c.b ∧ c.b < 256
  data : Byt w c.dA c.dn c.dc c.data
  keep : Nts w c.kA c.kn c.kc c.crs.keep
  cut : -9223372036854775808 ≤ c.crs.cut ∧ c.crs.cut ≤ 9223372036854775807

theorem Cal.In.below {w w' : World} {c : Cal} (h : c.In w) (hb : Below w.heap.size w w') : c.In w' := ⟨h.kind, h.n, h.b, h.data.below hb, h.keep.below hb, h.cut⟩

/-- The cells of one. -/
def Cal.cells (c : Cal) : List Value := [.int .i64 c.kind, .int .i64 c.n, .int .u8 c.b, .slice c.dA c.dn c.dc, .slice c.kA c.kn c.kc, .bool c.crs.torn, .int .i64 c.crs.cut]

/-- The slice reads as these calls. -/
structure Cls (w : World) (A : Option Addr) (n c : Nat) (cs : List Cal) : Prop where
  len : cs.length = n
  cap : n ≤ c
  max : c ≤ maxLen
  each : ∀ i, i < n → (cs.getD i default).In w
  at_ : 0 < n → ∃ g off, A = some ⟨g, off, none⟩ ∧ ∀ i, i < n → ∀ j v, (cs.getD i default).cells[j]? = some v → w.cell? ⟨g, off + i * 7 + j, none⟩ = some v

theorem Cls.below {w w' : World} {A : Option Addr} {n c : Nat} {cs : List Cal} (h : Cls w A n c cs) (hb : Below w.heap.size w w') : Cls w' A n c cs :=
  ⟨h.len, h.cap, h.max, fun i hi => (h.each i hi).below hb, fun hn => by
    obtain ⟨g, off, e, hc⟩ := h.at_ hn
    exact ⟨g, off, e, fun i hi j v hv => (hb.cell (World.block_lt_of_cell? w _ (hc i hi j v hv))).trans (hc i hi j v hv)⟩⟩

theorem list_of {α : Type} (d : α) (P : Nat → α → Prop) : ∀ n : Nat, (∀ i, i < n → ∃ x, P i x) → ∃ l : List α, l.length = n ∧ ∀ i, i < n → P i (l.getD i d)
  | 0, _ => ⟨[], rfl, fun i hi => absurd hi (by omega)⟩
  | n + 1, h => by
    obtain ⟨l, hl, hp⟩ := list_of d P n (fun i hi => h i (by omega))
    obtain ⟨x, hx⟩ := h n (by omega)
    refine ⟨l ++ [x], by simp [hl], fun i hi => ?_⟩
    by_cases he : i < n
    · have := hp i he
      have e : (l ++ [x]).getD i d = l.getD i d := by simp [List.getD, List.getElem?_append_left (show i < l.length by omega)]
      rwa [e]
    · obtain rfl : i = n := by omega
      have : (l ++ [x]).getD l.length d = x := by simp
      rw [hl] at this
      rw [this]
      exact hx

section
variable {H : Type} {enc : TypeId × Value → H} {W : World}

theorem cells_crash : Try.prog.cellsOf 52 = 3 := by kernel_rfl
theorem cells_byte : Try.prog.cellsOf 5 = 1 := by kernel_rfl
theorem cells_bool : Try.prog.cellsOf 4 = 1 := by kernel_rfl
theorem cells_bytes : Try.prog.cellsOf 35 = 1 := by kernel_rfl
theorem cells_nts : Try.prog.cellsOf 50 = 1 := by kernel_rfl

theorem open_nts1 {k : Nat} {v : Value} {x : DataW H × List MemPlace} (hf : DataW.trod enc Try.prog W 0 (fun _ => true) true k 50 [v] = some x) : ∃ A n c l, v = .slice A n c ∧ Nts W A n c l := by
  have hf' := hf
  rcases open_ints Try.underlying50 Try.underlying3 cells_int hf with ⟨hcs, _⟩ | ⟨y, len, cap, zs, hcs, _⟩
  · obtain rfl : v = .slice none 0 0 := by simpa using hcs
    obtain ⟨l, hl⟩ := open_i64s (enc := enc) (d := x.1) (p := x.2) ⟨k, hf'⟩
    exact ⟨_, _, _, l, rfl, hl⟩
  · obtain rfl : v = .slice (some y) len cap := by simpa using hcs
    obtain ⟨l, hl⟩ := open_i64s (enc := enc) (d := x.1) (p := x.2) ⟨k, hf'⟩
    exact ⟨_, _, _, l, rfl, hl⟩

theorem u8_bd' {x : Int} (h : (Lit.int .u8 x).wf = true) : 0 ≤ x ∧ x < 256 := by
  simp [Lit.wf, IntKind.min, IntKind.max, IntKind.signed, IntKind.bits] at h
  exact ⟨by omega, by omega⟩

theorem open_byt1 {k : Nat} {v : Value} {x : DataW H × List MemPlace} (hf : DataW.trod enc Try.prog W 0 (fun _ => true) true k 35 [v] = some x) : ∃ A n c l, v = .slice A n c ∧ Byt W A n c l := by
  rcases open_ints Try.underlying35 Try.underlying5 cells_byte hf with ⟨hcs, _⟩ | ⟨y, n, c, zs, hcs, _, hl, hm, hz, hx, hcell, hwz⟩
  · obtain rfl : v = .slice none 0 0 := by simpa using hcs
    exact ⟨_, _, _, [], rfl, Byt.nil W⟩
  · obtain rfl : v = .slice (some y) n c := by simpa using hcs
    have hzl : zs.length = c := by simpa using hz
    refine ⟨_, _, _, zs.take n, rfl, ⟨by simp; omega, hl, hm, fun y hy => u8_bd' (hwz y (List.mem_of_mem_take hy)), (fun h => nomatch h), fun hn => ?_⟩⟩
    obtain ⟨g, off, spot⟩ := y
    have hspot : spot = none := by simpa [Addr.add] using World.cell?_spot (hcell 0 (by omega))
    subst hspot
    refine ⟨g, off, rfl, fun i hi => ?_⟩
    have h1 := hcell i (by omega)
    have hadd : (⟨g, off, none⟩ : Addr).add i = ⟨g, off + i, none⟩ := by unfold Addr.add; split <;> simp_all
    rw [hadd] at h1
    rw [h1]
    congr 2
    simp [List.getD, hi]

/-- A crash's three cells. -/
theorem open_crash3 {k : Nat} {v0 v1 v2 : Value} {x : DataW H × List MemPlace} (hf : DataW.trod enc Try.prog W 0 (fun _ => true) true k 52 [v0, v1, v2] = some x) :
    ∃ A n c, ∃ cr : Crs, v0 = .slice A n c ∧ v1 = .bool cr.torn ∧ v2 = .int .i64 cr.cut ∧ Nts W A n c cr.keep ∧ -9223372036854775808 ≤ cr.cut ∧ cr.cut ≤ 9223372036854775807 := by
  obtain ⟨xs, k', _, _, _, hxl, hfld⟩ := DataW.trod_struct Try.underlying52 hf
  match xs, hxl with
  | [x0, x1, x2], _ =>
    have f0 : DataW.trod enc Try.prog W 0 (fun _ => true) true k' 50 (List.take (Try.prog.cellsOf 50) [v0, v1, v2]) = some x0 := hfld 0 _ rfl
    have f1 : DataW.trod enc Try.prog W 0 (fun _ => true) true k' 4 (List.take (Try.prog.cellsOf 4) [v1, v2]) = some x1 := hfld 1 _ rfl
    have f2 : DataW.trod enc Try.prog W 0 (fun _ => true) true k' 3 (List.take (Try.prog.cellsOf 3) [v2]) = some x2 := hfld 2 _ rfl
    rw [cells_nts] at f0
    rw [cells_bool] at f1
    rw [cells_int] at f2
    obtain ⟨A, n, c, l, rfl, hn⟩ := open_nts1 f0
    obtain ⟨t, e1, _⟩ := DataW.trod_bool Try.underlying4 f1
    obtain ⟨z, e2, _, wz⟩ := DataW.trod_int Try.underlying3 f2
    simp at e1 e2
    subst e1 e2
    exact ⟨A, n, c, ⟨l, t, z⟩, rfl, rfl, rfl, hn, wf_i64 wz⟩

set_option maxRecDepth 100000 in
theorem open_crash {r : Reach} {b0 : Nat} {v : Value} {d : DataW H} {p : List MemPlace} (hv : Value.okWide Try.prog W r b0 52 v) (h : DataW.Trod enc Try.prog W 0 (fun _ => true) true 52 v d p) :
    ∃ A n c, ∃ cr : Crs, v = .agg (#[.slice A n c, .bool cr.torn, .int .i64 cr.cut]) ∧ Nts W A n c cr.keep ∧ -9223372036854775808 ≤ cr.cut ∧ cr.cut ≤ 9223372036854775807 := by
  obtain ⟨cs, rfl, hsz⟩ := okWide_struct Try.underlying52 hv
  rw [cells_crash] at hsz
  obtain ⟨fuel, hf⟩ := h
  obtain ⟨l⟩ := cs
  match l, hsz with
  | [v0, v1, v2], _ =>
    obtain ⟨A, n, c, cr, rfl, rfl, rfl, hn⟩ := open_crash3 (v0 := v0) (v1 := v1) (v2 := v2) hf
    exact ⟨A, n, c, cr, rfl, hn⟩

end
end Go.Proofs.Ytomhofppcogojaa

/- the statements' list of pages that are saved, as it comes in: what it reads as. -/
namespace Go.Proofs.Ytomhofppcogojaa
open Go.RowKit Go.ChangeShapes Go.WideShapes Go.ChangeAt

/-- One as it came in. -/
structure Svd where
  n : Int
  pg : Xp
  fuse : Int
  kA : Option Addr
  kn : Nat
  kc : Nat
  crs : Crs
instance : Inhabited Svd := ⟨⟨0, ⟨0, none, 0, 0, []⟩, 0, none, 0, 0, ⟨[], false, 0⟩⟩⟩

/-- What is known of one. -/
structure Svd.In (w : World) (c : Svd) : Prop where
  n : -9223372036854775808 ≤ c.n ∧ c.n ≤ 9223372036854775807
  lsn : -9223372036854775808 ≤ c.pg.lsn ∧ c.pg.lsn ≤ 9223372036854775807
  pcs : Pcs w c.pg.A c.pg.n c.pg.c c.pg.l
  fuse : -9223372036854775808 ≤ c.fuse ∧ c.fuse ≤ 9223372036854775807
  keep : Nts w c.kA c.kn c.kc c.crs.keep
  cut : -9223372036854775808 ≤ c.crs.cut ∧ c.crs.cut ≤ 9223372036854775807
theorem Svd.In.below {w w' : World} {c : Svd} (h : c.In w) (hb : Below w.heap.size w w') : c.In w' := ⟨h.n, h.lsn, h.pcs.below hb, h.fuse, h.keep.below hb, h.cut⟩

/-- The cells of one. -/
def Svd.cells (c : Svd) : List Value := [.int .i64 c.n, .int .i64 c.pg.lsn, .slice c.pg.A c.pg.n c.pg.c, .int .i64 c.fuse, .slice c.kA c.kn c.kc, .bool c.crs.torn, .int .i64 c.crs.cut]

/-- The slice reads as these. -/
structure Sds (w : World) (A : Option Addr) (n c : Nat) (cs : List Svd) : Prop where
  len : cs.length = n
  cap : n ≤ c
  max : c ≤ maxLen
  each : ∀ i, i < n → (cs.getD i default).In w
  at_ : 0 < n → ∃ g off, A = some ⟨g, off, none⟩ ∧ ∀ i, i < n → ∀ j v, (cs.getD i default).cells[j]? = some v → w.cell? ⟨g, off + i * 7 + j, none⟩ = some v

section
variable {H : Type} {enc : TypeId × Value → H} {W : World}

theorem cells_svd : Try.prog.cellsOf 54 = 7 := by kernel_rfl

set_option maxRecDepth 100000 in
set_option maxHeartbeats 1000000 in
theorem open_svds {A : Option Addr} {n c : Nat} {d : DataW H} {p : List MemPlace} (h : DataW.Trod enc Try.prog W 0 (fun _ => true) true 47 (.slice A n c) d p) : ∃ cs, Sds W A n c cs := by
  obtain ⟨fuel, hf⟩ := h
  rcases Go.Deep.open_slice Try.underlying47 hf with ⟨hcs, _⟩ | ⟨a, len, cap, m, k, D, Pl, hcs, _, hl, hm, hmm, _, hx⟩
  · simp [Value.cells] at hcs
    obtain ⟨rfl, rfl, rfl⟩ := hcs
    exact ⟨[], rfl, Nat.le_refl _, Nat.zero_le _, fun i hi => absurd hi (by omega), fun h => absurd h (by omega)⟩
  · simp [Value.cells] at hcs
    obtain ⟨rfl, rfl, rfl⟩ := hcs
    have hmc : m = c := by simpa using hmm
    subst hmc
    have each : ∀ i, i < n → ∃ x : Svd, x.In W ∧ ∀ j v, x.cells[j]? = some v → W.cell? ((a.add (i * 7)).add j) = some v := by
      intro i hi
      obtain ⟨cs', hc, ht⟩ := hx i (by omega)
      rw [cells_svd] at hc
      obtain ⟨_, hcl, hat⟩ := World.cells?_some hc
      obtain ⟨xs, k', _, _, _, hxl, hfld⟩ := DataW.trod_struct Try.underlying54 ht
      match cs', hcl, xs, hxl with
      | [u0, u1, u2, u3, u4, u5, u6], _, [x0, x1, x2, x3], _ =>
        have f0 : DataW.trod enc Try.prog W 0 (fun _ => true) true k' 3 (List.take (Try.prog.cellsOf 3) [u0, u1, u2, u3, u4, u5, u6]) = some x0 := hfld 0 _ rfl
        have f1 : DataW.trod enc Try.prog W 0 (fun _ => true) true k' 24 (List.take (Try.prog.cellsOf 24) [u1, u2, u3, u4, u5, u6]) = some x1 := hfld 1 _ rfl
        have f2 : DataW.trod enc Try.prog W 0 (fun _ => true) true k' 3 (List.take (Try.prog.cellsOf 3) [u3, u4, u5, u6]) = some x2 := hfld 2 _ rfl
        have f3 : DataW.trod enc Try.prog W 0 (fun _ => true) true k' 52 (List.take (Try.prog.cellsOf 52) [u4, u5, u6]) = some x3 := hfld 3 _ rfl
        rw [cells_int] at f0 f2
        rw [cells_crash] at f3
        rw [coP_pg] at f1
        obtain ⟨k0, e0, _, w0⟩ := DataW.trod_int Try.underlying3 f0
        obtain ⟨k2, e2, _, w2⟩ := DataW.trod_int Try.underlying3 f2
        obtain ⟨kA, kn, kc, cr, rfl, rfl, rfl, hk, hc1, hc2⟩ := open_crash3 f3
        have f1' : DataW.trod enc Try.prog W 0 (fun _ => true) true k' 24 [u1, u2] = some x1 := f1
        obtain ⟨ys, k'', _, _, _, hyl, hfy⟩ := DataW.trod_struct Try.underlying24 f1'
        match ys, hyl with
        | [y0, y1], _ =>
          have g0 : DataW.trod enc Try.prog W 0 (fun _ => true) true k'' 3 (List.take (Try.prog.cellsOf 3) [u1, u2]) = some y0 := hfy 0 _ rfl
          have g1 : DataW.trod enc Try.prog W 0 (fun _ => true) true k'' 22 (List.take (Try.prog.cellsOf 22) [u2]) = some y1 := hfy 1 _ rfl
          rw [cells_int] at g0
          rw [coP_cls] at g1
          obtain ⟨k1, e1, _, w1⟩ := DataW.trod_int Try.underlying3 g0
          obtain ⟨pA, pn, pc, pl, ep, hp⟩ := open_pcs g1
          simp at e0 e1 e2
          subst e0 e1 e2 ep
          refine ⟨⟨k0, ⟨k1, pA, pn, pc, pl⟩, k2, kA, kn, kc, cr⟩, ⟨wf_i64 w0, wf_i64 w1, hp, wf_i64 w2, hk, hc1, hc2⟩, fun j v hv => ?_⟩
          have hj : j < 7 := by have := (List.getElem?_eq_some_iff.1 hv).1; simpa [Svd.cells] using this
          have := hat j (by simpa using hj)
          rw [this]
          exact hv
    obtain ⟨ps, hlen, hps⟩ := list_of (default : Svd) _ n each
    refine ⟨ps, hlen, hl, hm, fun i hi => (hps i hi).1, fun hn => ?_⟩
    obtain ⟨g, off, spot⟩ := a
    have hspot : spot = none := by
      have := (hps 0 hn).2 0 _ rfl
      have h2 := World.cell?_spot this
      simpa [Addr.add] using h2
    subst hspot
    refine ⟨g, off, rfl, fun i hi j v hv => ?_⟩
    have := (hps i hi).2 j v hv
    rwa [addrP] at this
end
end Go.Proofs.Ytomhofppcogojaa
