/- What it says: contracts and plain mathematics that the laws' walks use, 3 of 3: each part's own remark says what; no condition. -/
import Derived.Test.YtllkdcnejobinaaPk2
import Derived.Deep.QuietTactic
import Derived.BigQuiet
import Derived.RegionTactic
import Derived.BigRegion
import Derived.Deep.RegionHeld3
import Derived.Test.YtllkdcnejobinaaRows
import Derived.ProofKit
import Derived.OpenShut
import Derived.ShutString
import Derived.ChangeOld
import Derived.SizedLaws

/- a record, and the statements' list of records that are saved (Saved), as they come in: what they read as. -/
namespace Go.Proofs.Ytllkdcnejobinaa
open Go.RowKit Go.ChangeShapes Go.WideShapes Go.ChangeAt

section
variable {H : Type} {enc : TypeId × Value → H} {W : World}

theorem cells_ms : Try.prog.cellsOf 30 = 5 := by kernel_rfl

set_option maxRecDepth 100000 in
theorem open_ms5 {k : Nat} {v0 v1 v2 v3 v4 : Value} {x : DataW H × List MemPlace} (hf : DataW.trod enc Try.prog W 0 (fun _ => true) true k 30 [v0, v1, v2, v3, v4] = some x) :
    ∃ m : Ms, .agg #[v0, v1, v2, v3, v4] = msV m ∧ m.fits := by
  obtain ⟨xs, k', _, _, _, hxl, hfld⟩ := DataW.trod_struct Try.underlying30 hf
  match xs, hxl with
  | [x0, x1, x2, x3, x4], _ =>
    have f0 : DataW.trod enc Try.prog W 0 (fun _ => true) true k' 3 (List.take (Try.prog.cellsOf 3) [v0, v1, v2, v3, v4]) = some x0 := hfld 0 _ rfl
    have f1 : DataW.trod enc Try.prog W 0 (fun _ => true) true k' 3 (List.take (Try.prog.cellsOf 3) [v1, v2, v3, v4]) = some x1 := hfld 1 _ rfl
    have f2 : DataW.trod enc Try.prog W 0 (fun _ => true) true k' 3 (List.take (Try.prog.cellsOf 3) [v2, v3, v4]) = some x2 := hfld 2 _ rfl
    have f3 : DataW.trod enc Try.prog W 0 (fun _ => true) true k' 3 (List.take (Try.prog.cellsOf 3) [v3, v4]) = some x3 := hfld 3 _ rfl
    have f4 : DataW.trod enc Try.prog W 0 (fun _ => true) true k' 3 (List.take (Try.prog.cellsOf 3) [v4]) = some x4 := hfld 4 _ rfl
    rw [cells_int] at f0 f1 f2 f3 f4
    obtain ⟨k0, e0, _, w0⟩ := DataW.trod_int Try.underlying3 f0
    obtain ⟨k1, e1, _, w1⟩ := DataW.trod_int Try.underlying3 f1
    obtain ⟨k2, e2, _, w2⟩ := DataW.trod_int Try.underlying3 f2
    obtain ⟨k3, e3, _, w3⟩ := DataW.trod_int Try.underlying3 f3
    obtain ⟨k4, e4, _, w4⟩ := DataW.trod_int Try.underlying3 f4
    simp at e0 e1 e2 e3 e4
    subst e0 e1 e2 e3 e4
    refine ⟨⟨k0, k1, k2, k3, k4⟩, rfl, fun k => ?_⟩
    match k with
    | 0 => exact wf_i64 w0
    | 1 => exact wf_i64 w1
    | 2 => exact wf_i64 w2
    | 3 => exact wf_i64 w3
    | _ + 4 => exact wf_i64 w4

set_option maxRecDepth 100000 in
theorem open_ms {r : Reach} {b0 : Nat} {v : Value} {d : DataW H} {p : List MemPlace} (hv : Value.okWide Try.prog W r b0 30 v) (h : DataW.Trod enc Try.prog W 0 (fun _ => true) true 30 v d p) :
    ∃ m : Ms, v = msV m ∧ m.fits := by
  obtain ⟨cs, rfl, hsz⟩ := okWide_struct Try.underlying30 hv
  rw [cells_ms] at hsz
  obtain ⟨fuel, hf⟩ := h
  obtain ⟨l⟩ := cs
  match l, hsz with
  | [v0, v1, v2, v3, v4], _ => exact open_ms5 (v0 := v0) (v1 := v1) (v2 := v2) (v3 := v3) (v4 := v4) hf
end

/-- One as it came in. -/
structure Sav where
  inc : Int
  first : Int
  lsn : Int
  chk : Int
  fuse : Int
  kA : Option Addr
  kn : Nat
  kc : Nat
  crs : Crs

instance : Inhabited Sav := ⟨⟨0, 0, 0, 0, 0, none, 0, 0, ⟨[], false, 0⟩⟩⟩

/-- What is known of one. -/
structure Sav.In (w : World) (c : Sav) : Prop where
  inc : -9223372036854775808 ≤ c.inc ∧ c.inc ≤ 9223372036854775807
  first : -9223372036854775808 ≤ c.first ∧ c.first ≤ 9223372036854775807
  lsn : -9223372036854775808 ≤ c.lsn ∧ c.lsn ≤ 9223372036854775807
  chk : -9223372036854775808 ≤ c.chk ∧ c.chk ≤ 9223372036854775807
  fuse : -9223372036854775808 ≤ c.fuse ∧ c.fuse ≤ 9223372036854775807
  keep : Nts w c.kA c.kn c.kc c.crs.keep
  cut : -9223372036854775808 ≤ c.crs.cut ∧ c.crs.cut ≤ 9223372036854775807

theorem Sav.In.below {w w' : World} {c : Sav} (h : c.In w) (hb : Below w.heap.size w w') : c.In w' := ⟨h.inc, h.first, h.lsn, h.chk, h.fuse, h.keep.below hb, h.cut⟩

/-- The cells of one. -/
def Sav.cells (c : Sav) : List Value := [.int .i64 c.inc, .int .i64 c.first, .int .i64 c.lsn, .int .i64 c.chk, .int .i64 c.fuse, .slice c.kA c.kn c.kc, .bool c.crs.torn, .int .i64 c.crs.cut]

/-- The slice reads as these. -/
structure Svs (w : World) (A : Option Addr) (n c : Nat) (cs : List Sav) : Prop where
  len : cs.length = n
  cap : n ≤ c
  max : c ≤ maxLen
  each : ∀ i, i < n → (cs.getD i default).In w
  at_ : 0 < n → ∃ g off, A = some ⟨g, off, none⟩ ∧ ∀ i, i < n → ∀ j v, (cs.getD i default).cells[j]? = some v → w.cell? ⟨g, off + i * 8 + j, none⟩ = some v

section
variable {H : Type} {enc : TypeId × Value → H} {W : World}

theorem cells_saved : Try.prog.cellsOf 35 = 8 := by kernel_rfl

set_option maxRecDepth 100000 in
set_option maxHeartbeats 1000000 in
theorem open_saveds {A : Option Addr} {n c : Nat} {d : DataW H} {p : List MemPlace} (h : DataW.Trod enc Try.prog W 0 (fun _ => true) true 22 (.slice A n c) d p) : ∃ cs, Svs W A n c cs := by
  obtain ⟨fuel, hf⟩ := h
  rcases Go.Deep.open_slice Try.underlying22 hf with ⟨hcs, _⟩ | ⟨a, len, cap, m, k, D, Pl, hcs, _, hl, hm, hmm, _, hx⟩
  · simp [Value.cells] at hcs
    obtain ⟨rfl, rfl, rfl⟩ := hcs
    exact ⟨[], rfl, Nat.le_refl _, Nat.zero_le _, fun i hi => absurd hi (by omega), fun h => absurd h (by omega)⟩
  · simp [Value.cells] at hcs
    obtain ⟨rfl, rfl, rfl⟩ := hcs
    have hmc : m = c := by simpa using hmm
    subst hmc
    have each : ∀ i, i < n → ∃ x : Sav, x.In W ∧ ∀ j v, x.cells[j]? = some v → W.cell? ((a.add (i * 8)).add j) = some v := by
      intro i hi
      obtain ⟨cs', hc, ht⟩ := hx i (by omega)
      rw [cells_saved] at hc
      obtain ⟨_, hcl, hat⟩ := World.cells?_some hc
      obtain ⟨xs, k', _, _, _, hxl, hfld⟩ := DataW.trod_struct Try.underlying35 ht
      match cs', hcl, xs, hxl with
      | [u0, u1, u2, u3, u4, u5, u6, u7], _, [x0, x1, x2, x3, x4, x5], _ =>
        have f0 : DataW.trod enc Try.prog W 0 (fun _ => true) true k' 3 (List.take (Try.prog.cellsOf 3) [u0, u1, u2, u3, u4, u5, u6, u7]) = some x0 := hfld 0 _ rfl
        have f1 : DataW.trod enc Try.prog W 0 (fun _ => true) true k' 3 (List.take (Try.prog.cellsOf 3) [u1, u2, u3, u4, u5, u6, u7]) = some x1 := hfld 1 _ rfl
        have f2 : DataW.trod enc Try.prog W 0 (fun _ => true) true k' 3 (List.take (Try.prog.cellsOf 3) [u2, u3, u4, u5, u6, u7]) = some x2 := hfld 2 _ rfl
        have f3 : DataW.trod enc Try.prog W 0 (fun _ => true) true k' 3 (List.take (Try.prog.cellsOf 3) [u3, u4, u5, u6, u7]) = some x3 := hfld 3 _ rfl
        have f4 : DataW.trod enc Try.prog W 0 (fun _ => true) true k' 3 (List.take (Try.prog.cellsOf 3) [u4, u5, u6, u7]) = some x4 := hfld 4 _ rfl
        have f5 : DataW.trod enc Try.prog W 0 (fun _ => true) true k' 33 (List.take (Try.prog.cellsOf 33) [u5, u6, u7]) = some x5 := hfld 5 _ rfl
        rw [cells_int] at f0 f1 f2 f3 f4
        rw [cells_crash] at f5
        obtain ⟨k0, e0, _, w0⟩ := DataW.trod_int Try.underlying3 f0
        obtain ⟨k1, e1, _, w1⟩ := DataW.trod_int Try.underlying3 f1
        obtain ⟨k2, e2, _, w2⟩ := DataW.trod_int Try.underlying3 f2
        obtain ⟨k3, e3, _, w3⟩ := DataW.trod_int Try.underlying3 f3
        obtain ⟨k4, e4, _, w4⟩ := DataW.trod_int Try.underlying3 f4
        obtain ⟨kA, kn, kc, cr, rfl, rfl, rfl, hk, hc1, hc2⟩ := open_crash3 f5
        simp at e0 e1 e2 e3 e4
        subst e0 e1 e2 e3 e4
        refine ⟨⟨k0, k1, k2, k3, k4, kA, kn, kc, cr⟩, ⟨wf_i64 w0, wf_i64 w1, wf_i64 w2, wf_i64 w3, wf_i64 w4, hk, hc1, hc2⟩, fun j v hv => ?_⟩
        have hj : j < 8 := by have := (List.getElem?_eq_some_iff.1 hv).1; simpa [Sav.cells] using this
        have := hat j (by simpa using hj)
        rw [this]
        exact hv
    obtain ⟨ps, hlen, hps⟩ := list_of (default : Sav) _ n each
    refine ⟨ps, hlen, hl, hm, fun i hi => (hps i hi).1, fun hn => ?_⟩
    obtain ⟨g, off, spot⟩ := a
    have hspot : spot = none := by
      have := (hps 0 hn).2 0 _ rfl
      have h2 := World.cell?_spot this
      simpa [Addr.add] using h2
    subst hspot
    have hadd : ∀ i j : Nat, ((⟨g, off, none⟩ : Addr).add i).add j = ⟨g, off + i + j, none⟩ := by
      intro i j
      by_cases hi : i = 0 <;> by_cases hj : j = 0 <;> simp [Addr.add, hi, hj]
    refine ⟨g, off, rfl, fun i hi j v hv => ?_⟩
    have := (hps i hi).2 j v hv
    rwa [hadd] at this
end
end Go.Proofs.Ytllkdcnejobinaa

/- the document's Next, Wrap and Open (trothref05) answer what the plain mathematics says. -/
namespace Go.Proofs.Ytllkdcnejobinaa
open Go.RowKit

/-- What refWrap gathers: k bytes. -/
def gathL (m : Int) (p : List Int) (k : Nat) : List Int := m :: (p ++ List.replicate (k - 1 - p.length) 0)
theorem gathL_rng {m : Int} {p : List Int} (hm : 0 ≤ m ∧ m < 256) (hp : ∀ x ∈ p, 0 ≤ x ∧ x < 256) (k : Nat) : ∀ x ∈ gathL m p k, 0 ≤ x ∧ x < 256 := by
  intro x hx
  rcases List.mem_cons.1 hx with q | q
  · rw [q]; exact hm
  · rcases List.mem_append.1 q with q | q
    · exact hp x q
    · obtain ⟨_, rfl⟩ := List.mem_replicate.1 q
      omega
theorem gathL_next {m : Int} {p : List Int} {k : Nat} (h : 1 + p.length ≤ k) : gathL m p k ++ [0] = gathL m p (k + 1) := by
  unfold gathL
  rw [show k + 1 - 1 - p.length = (k - 1 - p.length) + 1 from by omega, List.replicate_succ']
  simp
theorem gathL_full {m : Int} {p : List Int} (h : p.length ≤ 254) : gathL m p 255 ++ [m] = wrapL m p := by
  unfold gathL wrapL padL
  simp

theorem byt_one (W : World) (x : Int) (hx : 0 ≤ x ∧ x < 256) : Byt (W.alloc (.cells #[.int .u8 x] 5)) (some ⟨W.heap.size, 0, none⟩) 1 1 [x] :=
  Byt.lit W 5 [x] 1 rfl (by unfold maxLen; omega) (fun y hy => by simp at hy; rw [hy]; exact hx)

end Go.Proofs.Ytllkdcnejobinaa

/- seal.Open answers the body at the beginning of bytes, how many bytes it has with its sum, or the first error. -/
namespace Go.Proofs.Ytllkdcnejobinaa
open Go.RowKit

theorem textF_ok {l : List Int} (hr : ∀ x ∈ l, 0 ≤ x ∧ x < 256) {most : Int} (h : (textF l most).2.2 = 0) :
    (textF l most).2.1 ≤ l.length ∧ l.take (textF l most).2.1 = textL (textF l most).1 ∧ ((textF l most).1.length : Int) ≤ most := by
  unfold textF at h ⊢
  split at h
  · rename_i h0; exact absurd h h0
  · rename_i h0
    split at h
    · simp at h
    · rename_i h1
      rw [if_neg h0, if_neg h1]
      obtain ⟨hx, hk, hs⟩ := numF_ok hr (l := l) (most := most) (by omega)
      have hl : ((l.drop (numF l most).2.1).take (numF l most).1).length = (numF l most).1 := by rw [List.length_take, List.length_drop]; omega
      refine ⟨by simp only; omega, ?_, by simp only; rw [hl]; exact hx⟩
      simp only
      unfold textL
      rw [hl, hs, List.take_add]

/-- What Open answers. -/
def openF (l : List Int) : List Int × Nat × Nat :=
  if (textF l 4096).2.2 ≠ 0 then ([], 0, (textF l 4096).2.2) else if l.length - (textF l 4096).2.1 < 4 then ([], 0, 10) else
    if (l.drop (textF l 4096).2.1).take 4 = sumL (l.take (textF l 4096).2.1) then ((textF l 4096).1, (textF l 4096).2.1 + 4, 0) else ([], 0, 30)

theorem triple {α β γ : Type} {a a' : α} {b b' : β} {c c' : γ} (h : (a, b, c) = (a', b', c')) : a = a' ∧ b = b' ∧ c = c' := by
  injection h with e1 e2
  injection e2 with e2 e3
  exact ⟨e1, e2, e3⟩

/-- A row of the call's own, a number and an error. -/
def Ret3O (l : List Int) (u e0 : Nat) (w : World) (e : Ending) (w' : World) : Prop :=
  ∃ A n c, e = .returned (.tuple #[.slice A n c, .int .i64 u, .int .i64 e0]) ∧ w'.ownsRow w.heap.size 5 1 (.slice A n c) n (l.map (Value.int .u8)) ∧ (∀ x ∈ l, 0 ≤ x ∧ x < 256) ∧ Below w.heap.size w w'

theorem Ret3O.nil {w w' : World} (u e0 : Nat) (hb : Below w.heap.size w w') : Ret3O [] u e0 w (.returned (.tuple #[.slice none 0 0, .int .i64 u, .int .i64 e0])) w' := ⟨none, 0, 0, rfl, World.ownsRow_nil _ _ _ _, by simp, hb⟩

theorem own_base {w : World} {b b' n : Nat} {v : Value} {xs : List Value} (h : w.ownsRow b 5 1 v n xs) (hb : b' ≤ b) : w.ownsRow b' 5 1 v n xs := by
  refine ⟨h.1, ?_⟩
  rcases h.2 with h | ⟨g, cap, cur, h1, h2, h3⟩
  · exact .inl h
  · exact .inr ⟨g, cap, cur, h1, Nat.le_trans hb h2, h3⟩

end Go.Proofs.Ytllkdcnejobinaa

/- the methods of trothref03.Reader step as seal.Reader's do; trothref03.Open answers what seal.Open answers. -/
namespace Go.Proofs.Ytllkdcnejobinaa
open Go.RowKit

/-- A reader that is set back. -/
theorem Rd.back {w w1 : World} {t : TypeId} {b g : Nat} {l l1 : List Int} {e e1 er : Nat} {A : Option Addr} {n c : Nat} (h : Rd w t b g l e) (h1 : Rd w1 t b g l1 e1) (hg : w.grownBy w1 (some b)) (hb : Byt w A n c l) (hA : 0 < n → ∀ a, A = some a → a.block = g) :
    Rd ((w1.setCell ⟨b, 1, none⟩ (.int .i64 er)).setCell ⟨b, 0, none⟩ (.slice A n c)) t b g l er ∧ w.grownBy ((w1.setCell ⟨b, 1, none⟩ (.int .i64 er)).setCell ⟨b, 0, none⟩ (.slice A n c)) (some b) := by
  have g1 := grown_trans hg (grown_trans (grown_set w1 b 1 (.int .i64 er)) (grown_set (w1.setCell ⟨b, 1, none⟩ (.int .i64 er)) b 0 (.slice A n c)))
  obtain ⟨A1, n1, c1, k1, _, _⟩ := h1.ex
  refine ⟨⟨h.ne, A, n, c, ?_, hb.grown g1 (fun hn a ha => by rw [hA hn a ha]; simpa using h.ne), hA⟩, g1⟩
  have := (k1.setc 1 (.int .i64 er)).setc 0 (.slice A n c)
  simpa using this

theorem flagF_byte (l : List Int) : (byteF l).2.2 ≠ 0 → l = [] := by
  cases l with
  | nil => simp
  | cons x r => simp [byteF]

end Go.Proofs.Ytllkdcnejobinaa

/- the document's May, Body, One and Load (trothref06) answer what the plain mathematics says. -/
namespace Go.Proofs.Ytllkdcnejobinaa
open Go.RowKit

set_option maxRecDepth 100000 in
theorem rinM_any (n least : Int) (w : World) : Calls Try.prog 18 #[.int .i64 n, .int .i64 least] w (Same (.bool (decide (least ≤ n ∧ n ≤ 1099511627776))) w) := by
  by_cases h : n < least
  · rw [decide_eq_false (by omega)]
    go_enter Try.func18, Try.ntmps18
    go_wp2_with fail
    go_ret
    exact ⟨rfl, rfl⟩
  · by_cases h2 : 1099511627776 < n
    · rw [decide_eq_false (by omega)]
      go_enter Try.func18, Try.ntmps18
      go_wp2_with fail
      go_ret
      first | exact ⟨rfl, rfl⟩ | exact ⟨congrArg (fun b => Ending.returned (.bool b)) (decide_eq_false (by omega)), rfl⟩
    · rw [decide_eq_true (by omega)]
      go_enter Try.func18, Try.ntmps18
      go_wp2_with fail
      go_ret
      first | exact ⟨rfl, rfl⟩ | exact ⟨congrArg (fun b => Ending.returned (.bool b)) (decide_eq_true (by omega)), rfl⟩

set_option maxRecDepth 100000 in
set_option maxHeartbeats 4000000 in
theorem rmay_any (m : Ms) (w : World) : Calls Try.prog 7 #[msV m] w (Ret (.bool (decide m.ok)) w) := by
  obtain ⟨b0, e0⟩ : ∃ x, decide (1 ≤ m.gen ∧ m.gen ≤ 1099511627776) = x := ⟨_, rfl⟩
  obtain ⟨b1, e1⟩ : ∃ x, decide (0 ≤ m.inc ∧ m.inc ≤ 1099511627776) = x := ⟨_, rfl⟩
  obtain ⟨b2, e2⟩ : ∃ x, decide (0 ≤ m.first ∧ m.first ≤ 1099511627776) = x := ⟨_, rfl⟩
  obtain ⟨b3, e3⟩ : ∃ x, decide (0 ≤ m.lsn ∧ m.lsn ≤ 1099511627776) = x := ⟨_, rfl⟩
  obtain ⟨b4, e4⟩ : ∃ x, decide (0 ≤ m.chk ∧ m.chk ≤ 1099511627776) = x := ⟨_, rfl⟩
  have C0 := rinM_any m.gen 1 (w.alloc (.cells #[.int .i64 m.gen, .int .i64 m.inc, .int .i64 m.first, .int .i64 m.lsn, .int .i64 m.chk] 30))
  rw [e0] at C0
  have C0 := Lib.hid C0
  have C1 := rinM_any m.inc 0 (w.alloc (.cells #[.int .i64 m.gen, .int .i64 m.inc, .int .i64 m.first, .int .i64 m.lsn, .int .i64 m.chk] 30))
  rw [e1] at C1
  have C1 := Lib.hid C1
  have C2 := rinM_any m.first 0 (w.alloc (.cells #[.int .i64 m.gen, .int .i64 m.inc, .int .i64 m.first, .int .i64 m.lsn, .int .i64 m.chk] 30))
  rw [e2] at C2
  have C2 := Lib.hid C2
  have C3 := rinM_any m.lsn 0 (w.alloc (.cells #[.int .i64 m.gen, .int .i64 m.inc, .int .i64 m.first, .int .i64 m.lsn, .int .i64 m.chk] 30))
  rw [e3] at C3
  have C3 := Lib.hid C3
  have C4 := rinM_any m.chk 0 (w.alloc (.cells #[.int .i64 m.gen, .int .i64 m.inc, .int .i64 m.first, .int .i64 m.lsn, .int .i64 m.chk] 30))
  rw [e4] at C4
  have C4 := Lib.hid C4
  have E : Hid (decide m.ok = (b0 && b1 && b2 && b3 && b4)) := Lib.hid (by
    rw [← e0, ← e1, ← e2, ← e3, ← e4, ← Bool.decide_and, ← Bool.decide_and, ← Bool.decide_and, ← Bool.decide_and]
    refine decide_eq_decide.2 ⟨fun h => ⟨⟨⟨⟨h.gen, h.inc⟩, h.first⟩, h.lsn⟩, h.chk⟩, fun ⟨⟨⟨⟨a, b⟩, c⟩, d⟩, e⟩ => ⟨a, b, c, d, e⟩⟩)
  rw [E.out]
  unfold msV
  clear e0 e1 e2 e3 e4 E
  cases b0 with
  | false =>
    go_enter Try.func7, Try.ntmps7
    go_wp2_with fail
    refine C0.out.mono ?_
    rintro e w1 ⟨rfl, rfl⟩
    go_wp2_with fail
    go_ret
    exact ⟨rfl, (Below.refl _ _).alloc (Nat.le_refl _) _⟩
  | true =>
    cases b1 with
    | false =>
      go_enter Try.func7, Try.ntmps7
      go_wp2_with fail
      refine C0.out.mono ?_
      rintro e w1 ⟨rfl, rfl⟩
      go_wp2_with fail
      refine C1.out.mono ?_
      rintro e w1 ⟨rfl, rfl⟩
      go_wp2_with fail
      go_ret
      exact ⟨rfl, (Below.refl _ _).alloc (Nat.le_refl _) _⟩
    | true =>
      cases b2 with
      | false =>
        go_enter Try.func7, Try.ntmps7
        go_wp2_with fail
        refine C0.out.mono ?_
        rintro e w1 ⟨rfl, rfl⟩
        go_wp2_with fail
        refine C1.out.mono ?_
        rintro e w1 ⟨rfl, rfl⟩
        go_wp2_with fail
        refine C2.out.mono ?_
        rintro e w1 ⟨rfl, rfl⟩
        go_wp2_with fail
        go_ret
        exact ⟨rfl, (Below.refl _ _).alloc (Nat.le_refl _) _⟩
      | true =>
        cases b3 with
        | false =>
          go_enter Try.func7, Try.ntmps7
          go_wp2_with fail
          refine C0.out.mono ?_
          rintro e w1 ⟨rfl, rfl⟩
          go_wp2_with fail
          refine C1.out.mono ?_
          rintro e w1 ⟨rfl, rfl⟩
          go_wp2_with fail
          refine C2.out.mono ?_
          rintro e w1 ⟨rfl, rfl⟩
          go_wp2_with fail
          refine C3.out.mono ?_
          rintro e w1 ⟨rfl, rfl⟩
          go_wp2_with fail
          go_ret
          exact ⟨rfl, (Below.refl _ _).alloc (Nat.le_refl _) _⟩
        | true =>
          cases b4 with
          | false =>
            go_enter Try.func7, Try.ntmps7
            go_wp2_with fail
            refine C0.out.mono ?_
            rintro e w1 ⟨rfl, rfl⟩
            go_wp2_with fail
            refine C1.out.mono ?_
            rintro e w1 ⟨rfl, rfl⟩
            go_wp2_with fail
            refine C2.out.mono ?_
            rintro e w1 ⟨rfl, rfl⟩
            go_wp2_with fail
            refine C3.out.mono ?_
            rintro e w1 ⟨rfl, rfl⟩
            go_wp2_with fail
            refine C4.out.mono ?_
            rintro e w1 ⟨rfl, rfl⟩
            go_wp2_with fail
            go_ret
            exact ⟨rfl, (Below.refl _ _).alloc (Nat.le_refl _) _⟩
          | true =>
            go_enter Try.func7, Try.ntmps7
            go_wp2_with fail
            refine C0.out.mono ?_
            rintro e w1 ⟨rfl, rfl⟩
            go_wp2_with fail
            refine C1.out.mono ?_
            rintro e w1 ⟨rfl, rfl⟩
            go_wp2_with fail
            refine C2.out.mono ?_
            rintro e w1 ⟨rfl, rfl⟩
            go_wp2_with fail
            refine C3.out.mono ?_
            rintro e w1 ⟨rfl, rfl⟩
            go_wp2_with fail
            refine C4.out.mono ?_
            rintro e w1 ⟨rfl, rfl⟩
            go_wp2_with fail
            go_ret
            exact ⟨rfl, (Below.refl _ _).alloc (Nat.le_refl _) _⟩

end Go.Proofs.Ytllkdcnejobinaa

/- what a row's step wants of arguments that are numbers or slices of bytes: how they read, and how long they are. No condition. -/
namespace Go.Proofs.Ytllkdcnejobinaa
open Go.ChangeShapes Go.WideShapes Go.ChangeAt Go.RowKit

theorem own_knob : ownKnob Try.prog.godebug = none := by kernel_rfl
theorem laidOut : laidOutB Try.prog = true := by kernel_rfl

theorem u64_nat {x : Int} (h : (Lit.int .u64 x).wf = true) : ∃ m : Nat, x = m ∧ m < 18446744073709551616 := by
  simp [Lit.wf, IntKind.min, IntKind.max, IntKind.signed, IntKind.bits] at h
  exact ⟨x.toNat, by omega, by omega⟩

theorem u32_nat {x : Int} (h : (Lit.int .u32 x).wf = true) : ∃ m : Nat, x = m ∧ m < 4294967296 := by
  simp [Lit.wf, IntKind.min, IntKind.max, IntKind.signed, IntKind.bits] at h
  exact ⟨x.toNat, by omega, by omega⟩

theorem i64_bd {x : Int} (h : (Lit.int .i64 x).wf = true) : -9223372036854775808 ≤ x ∧ x ≤ 9223372036854775807 := by
  simp [Lit.wf, IntKind.min, IntKind.max, IntKind.signed, IntKind.bits] at h
  exact ⟨by omega, by omega⟩

theorem u8_bd {x : Int} (h : (Lit.int .u8 x).wf = true) : 0 ≤ x ∧ x < 256 := by
  simp [Lit.wf, IntKind.min, IntKind.max, IntKind.signed, IntKind.bits] at h
  exact ⟨by omega, by omega⟩

theorem bytes8 : Try.prog.bytesOf 5 = 1 := by kernel_rfl
theorem cells8 : Try.prog.cellsOf 5 = 1 := by kernel_rfl

section
variable {H : Type} {enc : TypeId × Value → H} {W : World}

theorem open_bytes {a : Option Addr} {n c : Nat} {d : DataW H} {p : List MemPlace} (h : DataW.Trod enc Try.prog W 0 (fun _ => true) true 46 (.slice a n c) d p) :
    ∃ l, Byt W a n c l ∧ (n = 0 ∨ ∃ el sp, d = .slice el sp ∧ el.length = n) := by
  obtain ⟨fuel, hf⟩ := h
  rcases open_ints Try.underlying46 Try.underlying5 cells8 hf with ⟨hcs, _⟩ | ⟨x, len, cap, zs, hcs, _, hl, hm, hz, hx, hcell, hwz⟩
  · simp [Value.cells] at hcs
    obtain ⟨rfl, rfl, rfl⟩ := hcs
    exact ⟨[], Byt.nil W, .inl rfl⟩
  · simp [Value.cells] at hcs
    obtain ⟨rfl, rfl, rfl⟩ := hcs
    simp only [Prod.mk.injEq] at hx
    have hzl : zs.length = c := by simpa using hz
    refine ⟨zs.take n, ⟨by simp; omega, hl, hm, fun y hy => u8_bd (hwz y (List.mem_of_mem_take hy)), (fun h => nomatch h), fun hn => ?_⟩, .inr ⟨_, _, hx.1, by simp [lits]; omega⟩⟩
    obtain ⟨g, off, spot⟩ := x
    have hspot : spot = none := by simpa [Addr.add] using World.cell?_spot (hcell 0 (by omega))
    subst hspot
    refine ⟨g, off, rfl, fun i hi => ?_⟩
    have h1 := hcell i (by omega)
    have hadd : (⟨g, off, none⟩ : Addr).add i = ⟨g, off + i, none⟩ := by unfold Addr.add; split <;> simp_all
    rw [hadd] at h1
    rw [h1]
    congr 2
    simp [List.getD, hi]

theorem bytes_reach {ts : List TypeId} {ds : List (DataW H)} (h : (DataW.weightsEach Try.prog ts ds).all (· ≤ reachBytes) = true) {j : Nat} {d : DataW H} {n : Nat} (ht : ts[j]? = some 46) (hd : ds[j]? = some d)
    (e : n = 0 ∨ ∃ el sp, d = .slice el sp ∧ el.length = n) : n ≤ 140737488351232 := by
  rcases e with rfl | ⟨el, sp, rfl, hn⟩
  · omega
  · have := sized_slice h ht hd Try.underlying46
    rw [bytes8] at this
    simp only [reachBytes] at this
    omega
end
end Go.Proofs.Ytllkdcnejobinaa
