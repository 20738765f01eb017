/- What it says: the statements' list of sectors that are put (Done), as it comes in: what it reads as. -/
import Derived.Test.YtlchikllgmkokabCalls
namespace Go.Proofs.Ytlchikllgmkokab
open Go.RowKit Go.ChangeShapes Go.WideShapes Go.ChangeAt

/-- One as it came in. -/
structure Don where
  n : Int
  pA : Option Addr
  pn : Nat
  pc : Nat
  pay : List Int
  kA : Option Addr
  kn : Nat
  kc : Nat
  crs : Crs
  falls : Bool

instance : Inhabited Don := ⟨⟨0, none, 0, 0, [], none, 0, 0, ⟨[], false, 0⟩, false⟩⟩

/-- What is known of one. -/
structure Don.In (w : World) (c : Don) : Prop where
  n : -9223372036854775808 ≤ c.n ∧ c.n ≤ 9223372036854775807
  pay : Byt w c.pA c.pn c.pc c.pay
  keep : Nts w c.kA c.kn c.kc c.crs.keep
  cut : -9223372036854775808 ≤ c.crs.cut ∧ c.crs.cut ≤ 9223372036854775807

theorem Don.In.below {w w' : World} {c : Don} (h : c.In w) (hb : Below w.heap.size w w') : c.In w' := ⟨h.n, h.pay.below hb, h.keep.below hb, h.cut⟩

/-- The cells of one. -/
def Don.cells (c : Don) : List Value := [.int .i64 c.n, .slice c.pA c.pn c.pc, .slice c.kA c.kn c.kc, .bool c.crs.torn, .int .i64 c.crs.cut, .bool c.falls]

/-- The slice reads as these. -/
structure Dns (w : World) (A : Option Addr) (n c : Nat) (cs : List Don) : Prop where
  len : cs.length = n
  cap : n ≤ c
  max : c ≤ maxLen
  each : ∀ i, i < n → (cs.getD i default).In w
  at_ : 0 < n → ∃ g off, A = some ⟨g, off, none⟩ ∧ ∀ i, i < n → ∀ j v, (cs.getD i default).cells[j]? = some v → w.cell? ⟨g, off + i * 6 + j, none⟩ = some v

section
variable {H : Type} {enc : TypeId × Value → H} {W : World}

theorem cells_done : Try.prog.cellsOf 51 = 6 := by kernel_rfl

theorem open_dones {A : Option Addr} {n c : Nat} {d : DataW H} {p : List MemPlace} (h : DataW.Trod enc Try.prog W 0 (fun _ => true) true 42 (.slice A n c) d p) : ∃ cs, Dns W A n c cs := by
  obtain ⟨fuel, hf⟩ := h
  rcases Go.Deep.open_slice Try.underlying42 hf with ⟨hcs, _⟩ | ⟨a, len, cap, m, k, D, Pl, hcs, _, hl, hm, hmm, _, hx⟩
  · simp [Value.cells] at hcs
    obtain ⟨rfl, rfl, rfl⟩ := hcs
    exact ⟨[], rfl, Nat.le_refl _, Nat.zero_le _, fun i hi => absurd hi (by omega), fun h => absurd h (by omega)⟩
  · simp [Value.cells] at hcs
    obtain ⟨rfl, rfl, rfl⟩ := hcs
    have hmc : m = c := by simpa using hmm
    subst hmc
    have each : ∀ i, i < n → ∃ x : Don, x.In W ∧ ∀ j v, x.cells[j]? = some v → W.cell? ((a.add (i * 6)).add j) = some v := by
      intro i hi
      obtain ⟨cs', hc, ht⟩ := hx i (by omega)
      rw [cells_done] at hc
      obtain ⟨_, hcl, hat⟩ := World.cells?_some hc
      obtain ⟨xs, k', _, _, _, hxl, hfld⟩ := DataW.trod_struct Try.underlying51 ht
      match cs', hcl, xs, hxl with
      | [u0, u1, u2, u3, u4, u5], _, [x0, x1, x2, x3], _ =>
        have f0 : DataW.trod enc Try.prog W 0 (fun _ => true) true k' 3 (List.take (Try.prog.cellsOf 3) [u0, u1, u2, u3, u4, u5]) = some x0 := hfld 0 _ rfl
        have f1 : DataW.trod enc Try.prog W 0 (fun _ => true) true k' 22 (List.take (Try.prog.cellsOf 22) [u1, u2, u3, u4, u5]) = some x1 := hfld 1 _ rfl
        have f2 : DataW.trod enc Try.prog W 0 (fun _ => true) true k' 49 (List.take (Try.prog.cellsOf 49) [u2, u3, u4, u5]) = some x2 := hfld 2 _ rfl
        have f3 : DataW.trod enc Try.prog W 0 (fun _ => true) true k' 4 (List.take (Try.prog.cellsOf 4) [u5]) = some x3 := hfld 3 _ rfl
        rw [cells_int] at f0
        rw [cells_bytes] at f1
        rw [cells_crash] at f2
        rw [cells_bool] at f3
        obtain ⟨k0, e0, _, w0⟩ := DataW.trod_int Try.underlying3 f0
        obtain ⟨dA, dn, dc, dl, rfl, hd⟩ := open_byt1 f1
        obtain ⟨kA, kn, kc, cr, rfl, rfl, rfl, hk, hc1, hc2⟩ := open_crash3 f2
        obtain ⟨t, e3, _⟩ := DataW.trod_bool Try.underlying4 f3
        simp at e0 e3
        subst e0 e3
        refine ⟨⟨k0, dA, dn, dc, dl, kA, kn, kc, cr, t⟩, ⟨wf_i64 w0, hd, hk, hc1, hc2⟩, fun j v hv => ?_⟩
        have hj : j < 6 := by have := (List.getElem?_eq_some_iff.1 hv).1; simpa [Don.cells] using this
        have := hat j (by simpa using hj)
        rw [this]
        exact hv
    obtain ⟨ps, hlen, hps⟩ := list_of (default : Don) _ n each
    refine ⟨ps, hlen, hl, hm, fun i hi => (hps i hi).1, fun hn => ?_⟩
    obtain ⟨g, off, spot⟩ := a
    have hspot : spot = none := by
      have := (hps 0 hn).2 0 _ rfl
      have h2 := World.cell?_spot this
      simpa [Addr.add] using h2
    subst hspot
    have hadd : ∀ i j : Nat, ((⟨g, off, none⟩ : Addr).add i).add j = ⟨g, off + i + j, none⟩ := by
      intro i j
      by_cases hi : i = 0 <;> by_cases hj : j = 0 <;> simp [Addr.add, hi, hj]
    refine ⟨g, off, rfl, fun i hi j v hv => ?_⟩
    have := (hps i hi).2 j v hv
    rwa [hadd] at this
end
end Go.Proofs.Ytlchikllgmkokab
