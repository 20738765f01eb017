/- What it says: contracts and plain mathematics that the laws' walks use, 5 of 6: each part's own remark says what; no condition. -/
import Derived.Test.YtljpnngknmpdoaaDoorPq1
import Derived.Test.YtljpnngknmpdoaaDoorPq3
import Derived.Test.YtljpnngknmpdoaaDoorPq4
import Derived.Deep.RegionHeld3
import Derived.Great.BuildSlice
import Derived.Great.FillDense
import Derived.Laws.Tables
import Derived.WalkMore
import Derived.LoopTactic
import Derived.RegionTactic
import Derived.BigRegion
import Derived.Deep.MidRow
import Derived.Lib.MinMax
import Derived.Deep.QuietTactic
import Derived.BigQuiet
import Derived.Test.YtljpnngknmpdoaaDoorRows
import Derived.ProofKit
import Derived.OpenShut
import Derived.ShutString
import Derived.ChangeOld
import Derived.SizedLaws

set_option linter.unusedSimpArgs false
set_option linter.unusedVariables false
set_option linter.deprecated false
set_option linter.unusedSectionVars false
set_option linter.all false

/- one body more is found, in memory; (*sheet.search).head steps as the plain search does. -/
namespace Go.Proofs.YtljpnngknmpdoaaDoor
open Go.RowKit

theorem exec_conv {P : Program} {w w' : World} {o : Oper} {a : Act} {s d : TypeId} {x : Operand} (ho : o.op = .convert s d x) {v : Value} (hb : (convert s d (a.eval x)).run P w = .ok v w') : (execOp a.eval o).run P w = .ok (.value v) w' := by
  unfold execOp
  simp only [ho, Sem.run_bind]
  rw [hb]
  rfl
theorem info_fnd : (Tryd.prog.info? 55).map (fun i => (i.zero, i.size, i.bytes)) = some (some (.agg #[.string ByteArray.empty, .int .i64 0]), 2, 24) := by kernel_rfl
theorem built_fnd (s : ByteArray) (i : Int) : Tryd.prog.built 55 [(0, .string s), (1, .int .i64 i)] = some #[.string s, .int .i64 i] := by kernel_rfl
theorem bslice_fnd (s : ByteArray) (i : Int) (w : World) : (Instr.buildSlice 48 1 #[(0, .agg #[.string s, .int .i64 i])]).run Tryd.prog w =
    .ok (.slice (some ⟨w.heap.size, 0, none⟩) 1 1) (w.alloc (.cells #[.string s, .int .i64 i] 55)) := by
  obtain ⟨i0, hi, hz0, hz1, hz2⟩ := info_parts info_fnd
  refine Go.run_buildSlice w 48 55 1 _ _ i0 _ Tryd.underlying48 hi hz0 (by rw [hz1]; omega) (by rw [hz1]; omega) ?_
  rw [hz1]
  kernel_rfl
theorem fnd_one (s : ByteArray) (i : Int) : ∀ u ∈ (#[Value.string s, .int .i64 i] : Array Value).toList, u.oneCell' = true := by
  intro u hu
  simp at hu
  rcases hu with rfl | rfl <;> rfl

theorem tab_fr {base H : Nat} {w w1 : World} (hT : Tab w) (h0 : 0 < base) (f : Fr (Mid base H) w w1) : Tab w1 := fun i hi =>
  (World.cell?_of_block (w := w) (w' := w1) (a := ⟨0, i, none⟩) (f.block _ (World.block_lt_of_cell? w _ (hT i hi)) (fun m => by have h1 : base ≤ 0 := m.1; omega))).trans (hT i hi)

/-- The step: one body more. -/
structure FndUp (base H fb : Nat) (w w0 : World) (A : Option Addr) (n c : Nat) (bv fv : Value) (out : List (List Int × Int)) : Prop where
  blk : Bk w fb 73 #[.slice A n c, bv, fv]
  own : w.ownsRow base 55 2 (.slice A n c) n (out.flatMap fndC)
  len : out.length = n
  fr : Fr (Mid base H) w0 w
  lo : base ≤ fb ∧ fb < H ∧ H ≤ w0.heap.size
  low : ∀ q, (Value.slice A n c).ownBlock = some q → q < H ∨ w0.heap.size ≤ q

theorem FndUp.step {base H fb : Nat} {w w0 w2 w' : World} {A A' : Option Addr} {n c c' : Nat} {bv fv : Value} {out : List (List Int × Int)} {x : List Int} {frm : Int} (h : FndUp base H fb w w0 A n c bv fv out) (hb : Below w.heap.size w w2)
    (k1 : w'.ownsRow base 55 2 (.slice A' (n + 1) c') (n + 1) (out.flatMap fndC ++ (#[Value.string (strOfNums x), .int .i64 frm] : Array Value).toList)) (k2 : w2.grownBy w' (Value.slice A n c).ownBlock) (k3 : ∀ q, (Value.slice A' (n + 1) c').ownBlock = some q → (Value.slice A n c).ownBlock = some q ∨ w2.heap.size ≤ q) :
    Bk w' fb 73 #[.slice A n c, bv, fv] ∧
    FndUp base H fb (w'.setCell ⟨fb, 0, none⟩ (.slice A' (n + 1) c')) w0 A' (n + 1) c' bv fv (out ++ [(x, frm)]) ∧
    (∀ (A5 : Option Addr) (n5 c5 : Nat) (l5 : List Int), Bty w A5 n5 c5 l5 → Bty (w'.setCell ⟨fb, 0, none⟩ (.slice A' (n + 1) c')) A5 n5 c5 l5) ∧
    (∀ (b5 : Nat) (v5 : Value) (n5 : Nat) (l5 : List Value), w.ownsRow b5 5 1 v5 n5 l5 → (w'.setCell ⟨fb, 0, none⟩ (.slice A' (n + 1) c')).ownsRow b5 5 1 v5 n5 l5) ∧ w.heap.size ≤ (w'.setCell ⟨fb, 0, none⟩ (.slice A' (n + 1) c')).heap.size := by
  have o2 : w2.ownsRow base 55 2 (.slice A n c) n (out.flatMap fndC) := own_stay h.own (fun q hq => hb.block q (h.own.lt q hq).2)
  have b2 : Bk w2 fb 73 #[.slice A n c, bv, fv] := h.blk.bel hb h.blk.lt
  have b3 : Bk w' fb 73 #[.slice A n c, bv, fv] := bk_apart o2 b2 (by decide) k2
  have hsz : (w'.setCell ⟨fb, 0, none⟩ (.slice A' (n + 1) c')).heap.size = w'.heap.size := by simp [World.setCell]
  have hs1 : w.heap.size ≤ w'.heap.size := Nat.le_trans hb.size k2.size
  have f1 : Fr (Mid base H) w0 w2 := h.fr.then (Fr.of_below hb)
  have f2 : Fr (Mid base H) w0 w' := f1.grown k2 (fun q hq => by
    rcases h.low q hq with a | a
    · exact .inl ⟨(h.own.lt q hq).1, a⟩
    · exact .inr a)
  have f3 : Fr (Mid base H) w0 (w'.setCell ⟨fb, 0, none⟩ (.slice A' (n + 1) c')) := f2.setCell (show Mid base H fb from ⟨h.lo.1, h.lo.2.1⟩) _
  refine ⟨b3, ⟨?_, ?_, by simp [h.len], f3, h.lo, fun q hq => ?_⟩, fun A5 n5 c5 l5 k => ?_, fun b5 v5 n5 l5 k => ?_, by rw [hsz]; exact hs1⟩
  · have := b3.setc 0 (.slice A' (n + 1) c')
    simpa using this
  · have := own_set (i := 0) (u := .slice A' (n + 1) c') k1 b3 (by decide)
    rw [List.flatMap_append]
    simpa [fndC] using this
  · rcases k3 q hq with e | e
    · exact h.low q e
    · exact .inr (Nat.le_trans (Nat.le_trans h.fr.size hb.size) e)
  · exact ((k.below hb).apart o2 (by decide) k2).set b3 (by decide)
  · have k3 : w2.ownsRow b5 5 1 v5 n5 l5 := own_stay k (fun q hq => hb.block q (k.lt q hq).2)
    exact own_set (i := 0) (u := .slice A' (n + 1) c') (own_apart o2 k3 (by decide) k2) b3 (by decide)

/-- What the step's region asks. -/
theorem FndUp.pre {base H fb : Nat} {w w0 : World} {A : Option Addr} {n c : Nat} {bv : Value} {frm : Int} {out : List (List Int × Int)} (h : FndUp base H fb w w0 A n c bv (.int .i64 frm) out) (hbase : base ≤ w.heap.size) {A5 : Option Addr} {n5 c5 : Nat} {x : List Int} (h5 : Bty w A5 n5 c5 x) :
    Hid (∀ w2, w2 = w.drew.alloc (.cells #[.string (strOfNums x), .int .i64 frm] 55) → w2.cell? ⟨fb, 0, none⟩ = some (.slice A n c) ∧ w2.cell? ⟨fb, 2, none⟩ = some (.int .i64 frm) ∧ Byt w2 A5 n5 c5 x) ∧
    Hid (∀ w2, w2 = w.drew.alloc (.cells #[.string (strOfNums x), .int .i64 frm] 55) → w2.ownsRow base 55 2 (.slice A n c) n (out.flatMap fndC)) ∧
    Hid (∀ w2, w2 = w.drew.alloc (.cells #[.string (strOfNums x), .int .i64 frm] 55) → Bk w2 w.heap.size 55 #[.string (strOfNums x), .int .i64 frm]) ∧
    Hid (∀ w2, w2 = w.drew.alloc (.cells #[.string (strOfNums x), .int .i64 frm] 55) → base ≤ w2.heap.size) ∧
    (∀ A' c' w', w'.ownsRow base 55 2 (.slice A' (n + 1) c') (n + 1) (out.flatMap fndC ++ (#[Value.string (strOfNums x), .int .i64 frm] : Array Value).toList) → (w.drew.alloc (.cells #[.string (strOfNums x), .int .i64 frm] 55)).grownBy w' (Value.slice A n c).ownBlock →
      (w'.cell? ⟨fb, 0, none⟩ = some (.slice A n c) ∧ w'.cell? ⟨fb, 2, none⟩ = some (.int .i64 frm) ∧ Byt w' A5 n5 c5 x) ∧ w'.frozen? ⟨fb, 0, none⟩ = false) := by
  have hb : Below w.heap.size w (w.drew.alloc (.cells #[.string (strOfNums x), .int .i64 frm] 55)) := (Below.refl _ w).drew.alloc (Nat.le_refl _) _
  have b2 := h.blk.bel hb h.blk.lt
  refine ⟨Lib.hid ?_, Lib.hid ?_, Lib.hid ?_, Lib.hid ?_, ?_⟩
  · rintro w2 rfl
    exact ⟨b2.cell 0, b2.cell 2, h5.byt.below hb⟩
  · rintro w2 rfl
    exact own_stay h.own (fun q hq => hb.block q (h.own.lt q hq).2)
  · rintro w2 rfl
    exact Bk.new w.drew _ _
  · rintro w2 rfl
    exact Nat.le_trans hbase hb.size
  · intro A' c' w' k1 k2
    have o2 : (w.drew.alloc (.cells #[.string (strOfNums x), .int .i64 frm] 55)).ownsRow base 55 2 (.slice A n c) n (out.flatMap fndC) := own_stay h.own (fun q hq => hb.block q (h.own.lt q hq).2)
    have b3 := bk_apart o2 b2 (by decide) k2
    exact ⟨⟨b3.cell 0, b3.cell 2, ((h5.below hb).apart o2 (by decide) k2).byt⟩, b3.frz 0⟩


/-- The state behind the append of a sheet's head. -/
structure Mid1 (base H fb : Nat) (s : Fs) (h : List Int) (w w3 : World) (A : Option Addr) (n c : Nat) (B : Option Addr) (m d : Nat) : Prop where
  up : FndUp base H fb w3 w A n c (.slice B m d) (.int .i64 s.frm) s.out
  beg : Beg base w3 B m d (s.beg ++ h)
  low : ∀ q, (Value.slice B m d).ownBlock = some q → q < H ∨ w.heap.size ≤ q

theorem Mid1.of {base H fb : Nat} {s : Fs} {h : List Int} {w w1 : World} {A : Option Addr} {n c : Nat} {B B' : Option Addr} {m d p d' : Nat} (hlo : base ≤ fb) (hhi : fb < H) (htop : H ≤ w.heap.size)
    (hbk : Bk w fb 73 #[.slice A n c, .slice B m d, .int .i64 s.frm]) (hown : w.ownsRow base 55 2 (.slice A n c) n (s.out.flatMap fndC)) (hlen : s.out.length = n) (hbeg : Beg base w B m d s.beg)
    (hA : ∀ q, (Value.slice A n c).ownBlock = some q → q < H) (hB : ∀ q, (Value.slice B m d).ownBlock = some q → q < H) (k : AppB base w w1 B m d B' (m + p) d' (s.beg ++ h)) :
    Bk w1 fb 73 #[.slice A n c, .slice B m d, .int .i64 s.frm] ∧ Mid1 base H fb s h w (w1.setCell ⟨fb, 1, none⟩ (.slice B' (m + p) d')) A n c B' (m + p) d' := by
  obtain ⟨row, hg, hrow⟩ := k.grown
  have hblkT : ∀ q, row = some q → ∃ cs fr, w.heap[q]? = some (.cells cs 5 fr) := by
    intro q hq
    have := (hrow q hq).2
    cases hBB : B with
    | none => rw [hBB] at this; simp [Value.ownBlock] at this
    | some a =>
      rw [hBB] at this
      simp [Value.ownBlock] at this
      obtain ⟨cs, fr, e⟩ := hbeg.bty.ty a hBB
      rw [this] at e
      exact ⟨cs, fr, e⟩
  have b1 : Bk w1 fb 73 #[.slice A n c, .slice B m d, .int .i64 s.frm] := (hg.block fb hbk.lt (fun e => by
    obtain ⟨cs, fr, e2⟩ := hblkT fb e.symm
    have h2 := hbk
    unfold Bk at h2
    rw [h2] at e2
    injection e2 with e2
    injection e2 with _ e2
    revert e2
    decide)).trans hbk
  have o1 : w1.ownsRow base 55 2 (.slice A n c) n (s.out.flatMap fndC) := own_stay hown (fun q hq => hg.block q (hown.lt q hq).2 (fun e => by
    obtain ⟨cs, fr, e2⟩ := hblkT q e.symm
    obtain ⟨cur, e3⟩ := own_ty hown hq
    rw [e3] at e2
    injection e2 with e2
    injection e2 with _ e2
    revert e2
    decide))
  have hsz : (w1.setCell ⟨fb, 1, none⟩ (.slice B' (m + p) d')).heap.size = w1.heap.size := by simp [World.setCell]
  refine ⟨b1, ⟨⟨?_, own_set (i := 1) (u := .slice B' (m + p) d') o1 b1 (by decide), hlen, ?_, ⟨hlo, hhi, htop⟩, fun q hq => .inl (hA q hq)⟩, ?_, fun q hq => ?_⟩⟩
  · have := b1.setc 1 (.slice B' (m + p) d')
    simpa using this
  · exact ((Fr.refl (Mid base H) w).grown hg (fun q hq => .inl ⟨(hrow q hq).1, hB q (hrow q hq).2⟩)).setCell (show Mid base H fb from ⟨hlo, hhi⟩) _
  · exact ⟨k.beg.bty.set b1 (by decide), k.beg.own.imp id (fun o => own_set (i := 1) (u := .slice B' (m + p) d') o b1 (by decide))⟩
  · rcases k.at_ q hq with e | e
    · exact .inl (hB q e)
    · exact .inr e

theorem Mid1.below {base H fb : Nat} {s : Fs} {h : List Int} {w w3 w4 : World} {A : Option Addr} {n c : Nat} {B : Option Addr} {m d : Nat} (k : Mid1 base H fb s h w w3 A n c B m d) (hb : Below w3.heap.size w3 w4) : Mid1 base H fb s h w w4 A n c B m d :=
  ⟨⟨k.up.blk.bel hb k.up.blk.lt, own_stay k.up.own (fun q hq => hb.block q (k.up.own.lt q hq).2), k.up.len, k.up.fr.then (Fr.of_below hb), k.up.lo, k.up.low⟩, k.beg.stay (fun q hq => hb.block q (by
    cases hBB : B with
    | none => rw [hBB] at hq; simp [Value.ownBlock] at hq
    | some a =>
      rw [hBB] at hq
      simp [Value.ownBlock] at hq
      subst hq
      exact k.beg.bty.ty.lt a hBB)), k.low⟩

/-- It stays incomplete. -/
theorem Mid1.short {base H fb : Nat} {s : Fs} {h : List Int} {w w3 : World} {A : Option Addr} {n c : Nat} {B : Option Addr} {m d : Nat} (k : Mid1 base H fb s h w w3 A n c B m d) (hok : (⟨s.out, s.beg ++ h, s.frm⟩ : Fs).Ok) (e : Ending) (he : e = .returned (.bool true)) : SrPost base H fb (⟨s.out, s.beg ++ h, s.frm⟩, true) w e w3 := by
  refine ⟨he, fun _ => ⟨k.up.lo.1, k.up.blk.lt, Nat.le_refl _, hok, A, n, c, B, m, d, k.up.blk, k.up.own, k.up.len, k.beg, fun q hq => (k.up.own.lt q hq).2, fun q hq => ?_⟩, ⟨A, n, c, _, _, k.up.blk, k.up.own, k.up.len⟩, k.up.fr⟩
  cases hBB : B with
  | none => rw [hBB] at hq; simp [Value.ownBlock] at hq
  | some a =>
    rw [hBB] at hq
    simp [Value.ownBlock] at hq
    subst hq
    exact k.beg.bty.ty.lt a hBB
theorem Mid1.bad {base H fb : Nat} {s : Fs} {h : List Int} {w w3 : World} {A : Option Addr} {n c : Nat} {B : Option Addr} {m d : Nat} (k : Mid1 base H fb s h w w3 A n c B m d) (e : Ending) (he : e = .returned (.bool false)) : SrPost base H fb (s, false) w e w3 :=
  ⟨he, fun h => (by cases h), ⟨A, n, c, _, _, k.up.blk, k.up.own, k.up.len⟩, k.up.fr⟩
/-- It is found. -/
theorem Mid1.found {base H fb : Nat} {s : Fs} {h x : List Int} {w w3 w' : World} {A A' : Option Addr} {n c c' : Nat} {B : Option Addr} {m d : Nat} (k : Mid1 base H fb s h w w3 A n c B m d) (hok : (⟨s.out ++ [(x, s.frm)], [], s.frm⟩ : Fs).Ok)
    (k1 : w'.ownsRow base 55 2 (.slice A' (n + 1) c') (n + 1) (s.out.flatMap fndC ++ (#[Value.string (strOfNums x), .int .i64 s.frm] : Array Value).toList)) (k2 : (w3.drew.alloc (.cells #[.string (strOfNums x), .int .i64 s.frm] 55)).grownBy w' (Value.slice A n c).ownBlock)
    (k3 : ∀ q, (Value.slice A' (n + 1) c').ownBlock = some q → (Value.slice A n c).ownBlock = some q ∨ (w3.drew.alloc (.cells #[.string (strOfNums x), .int .i64 s.frm] 55)).heap.size ≤ q) :
    (w'.setCell ⟨fb, 0, none⟩ (.slice A' (n + 1) c')).cell? ⟨fb, 1, none⟩ = some (.slice B m d) ∧ (w'.setCell ⟨fb, 0, none⟩ (.slice A' (n + 1) c')).frozen? ⟨fb, 1, none⟩ = false ∧
    SrPost base H fb (⟨s.out ++ [(x, s.frm)], [], s.frm⟩, true) w (.returned (.bool true)) ((w'.setCell ⟨fb, 0, none⟩ (.slice A' (n + 1) c')).setCell ⟨fb, 1, none⟩ (.slice none 0 0)) := by
  have hb : Below w3.heap.size w3 (w3.drew.alloc (.cells #[.string (strOfNums x), .int .i64 s.frm] 55)) := (Below.refl _ w3).drew.alloc (Nat.le_refl _) _
  obtain ⟨_, u, _, _, _⟩ := k.up.step hb k1 k2 k3
  have hsz : ((w'.setCell ⟨fb, 0, none⟩ (.slice A' (n + 1) c')).setCell ⟨fb, 1, none⟩ (.slice none 0 0)).heap.size = (w'.setCell ⟨fb, 0, none⟩ (.slice A' (n + 1) c')).heap.size := by simp [World.setCell]
  have bk := u.blk.setc 1 (.slice none 0 0)
  have bk2 : Bk ((w'.setCell ⟨fb, 0, none⟩ (.slice A' (n + 1) c')).setCell ⟨fb, 1, none⟩ (.slice none 0 0)) fb 73 #[.slice A' (n + 1) c', .slice none 0 0, .int .i64 s.frm] := by simpa using bk
  have ow := own_set (i := 1) (u := .slice none 0 0) u.own u.blk (by decide)
  refine ⟨u.blk.cell 1, u.blk.frz 1, rfl, fun _ => ⟨u.lo.1, bk2.lt, Nat.le_refl _, hok, A', n + 1, c', none, 0, 0, bk2, ow, by simp [k.up.len], ⟨Bty.nil _, .inl rfl⟩, fun q hq => (ow.lt q hq).2, fun q hq => by simp [Value.ownBlock] at hq⟩, ⟨A', n + 1, c', _, _, bk2, ow, by simp [k.up.len]⟩, u.fr.setCell (show Mid base H fb from ⟨k.up.lo.1, k.up.lo.2.1⟩) _⟩

set_option maxRecDepth 100000 in
set_option maxHeartbeats 4000000 in
theorem head_any (base H fb : Nat) (s : Fs) (w : World) (hS : Srch base H w fb s) (hT : Tab w) (hT0 : 0 < base) (C : Option Addr) (p q : Nat) (hd : List Int) (hC : Byt w C p q hd) (hlim : s.beg.length + p ≤ 1000000) (hnum : s.out.length ≤ 900000) :
    Calls Tryd.prog 36 #[.pointer (some ⟨fb, 0, none⟩), .slice C p q] w (SrPost base H fb (headF s hd) w) := by
  obtain ⟨A, n, c, B, m, d, hbk, hown, hlen, hbeg, hA, hB⟩ := hS.ex
  have hc1 : w.cell? ⟨fb, 1, none⟩ = some (.slice B m d) := hbk.cell 1
  have hml : s.beg.length = m := hbeg.bty.byt.len
  by_cases h0 : s.beg = []
  · have hm : m = 0 := by rw [h0] at hml; exact hml.symm
    subst hm
    have e : headF s hd = (s, true) := by unfold headF; rw [if_pos h0]
    rw [e]
    have R : Hid (SrPost base H fb (s, true) w (.returned (.bool true)) w) := Lib.hid ⟨rfl, fun _ => hS.up hS.top (Nat.le_refl _), hS.fnd, Fr.refl _ _⟩
    clear hS hbk hown hbeg hA hB e hT hT0
    go_enter Tryd.func36, Tryd.ntmps36
    go_wp2_with fail
    go_ret
    exact R.out
  · have hm : 0 < m := by
      rcases Nat.eq_zero_or_pos m with q | q
      · exact absurd (List.eq_nil_of_length_eq_zero (by omega)) h0
      · exact q
    have hm0 : ((m : Int) == 0) = false := by simp; omega
    have hbase : base ≤ w.heap.size := by have := hS.lo; have := hS.hi; have := hS.top; omega
    have hisB : isB (s.beg ++ hd) := hS.ok.1.app hC.rng
    have MK := Lib.hid (fun B' d' w1 (k : AppB base w w1 B m d B' (m + p) d' (s.beg ++ hd)) => Mid1.of hS.lo hS.hi hS.top hbk hown hlen hbeg hA hB k)
    have TB := Lib.hid (fun w1 (f : Fr (Mid base H) w w1) => tab_fr hT hT0 f)
    obtain ⟨x, u, e0, hO⟩ : ∃ x u e0, openF (s.beg ++ hd) = (x, u, e0) := ⟨_, _, _, rfl⟩
    have hlen2 : (s.beg ++ hd).length = m + p := by rw [List.length_append, hml, hC.len]
    have HO := Lib.hid hO
    have OK := Lib.hid (headF_ok hS.ok hC.rng)
    have hF : headF s hd = if e0 = 10 then (⟨s.out, s.beg ++ hd, s.frm⟩, true) else if e0 = 0 ∧ u = m + p then (⟨s.out ++ [(x, s.frm)], [], s.frm⟩, true) else (s, false) := by
      unfold headF
      rw [if_neg h0, hO, hlen2]
    have hu : e0 = 0 → u ≤ m + p := fun e => by
      subst e
      rw [← hlen2]
      exact (openF_ok hisB hO).1
    have HL := Lib.hid hlen2
    have HBG := Lib.hid hbeg
    have HIS := Lib.hid hisB
    obtain ⟨r, hr⟩ : ∃ r, headF s hd = r := ⟨_, rfl⟩
    rw [hr] at hF OK ⊢
    have HFF := Lib.hid hF
    have HCC := Lib.hid hC
    clear hS hbk hown hbeg hA hB hO h0 hT hT0 hr hisB hC hF
    go_enter Tryd.func36, Tryd.ntmps36
    go_wp2_with (at_builtin; refine wpList_app_beg rfl _ _ rfl base rfl HBG.out hm rfl HCC.out (by omega) hbase ?_)
    intro B' d' w1 k
    obtain ⟨k1, k2⟩ := MK.out B' d' w1 k.out
    have hc2 : w1.cell? ⟨fb, 1, none⟩ = some (.slice B m d) := k1.cell 1
    have hf2 : w1.frozen? ⟨fb, 1, none⟩ = false := k1.frz 1
    have hc3 : (w1.setCell ⟨fb, 1, none⟩ (.slice B' (m + p) d')).cell? ⟨fb, 1, none⟩ = some (.slice B' (m + p) d') := k2.up.blk.cell 1
    have C4 := Lib.hid (open_own B' (m + p) d' (s.beg ++ hd) _ k2.beg.bty.byt (by omega) (TB.out _ k2.up.fr) x u e0 HO.out)
    have K2 := Lib.hid k2
    clear k k1 k2 HBG HCC MK TB
    go_wp2_with fail
    refine C4.out.mono ?_
    rintro e w4 ⟨A5, n5, c5, rfl, ho5, hr5, b5⟩
    have K4 := Lib.hid (K2.out.below b5)
    have H5 := Lib.hid (Bty.of_own ho5 hr5)
    have hc4 : w4.cell? ⟨fb, 1, none⟩ = some (.slice B' (m + p) d') := K4.out.up.blk.cell 1
    clear ho5 hr5 b5 C4 K2 hc2 hf2 hc3
    have hF := HFF.out
    clear HFF
    by_cases he10 : e0 = 10
    · subst he10
      rw [if_pos rfl] at hF
      subst hF
      have R := Lib.hid (K4.out.short OK.out (.returned (.bool true)) rfl)
      clear K4 H5 OK hu
      go_wp2_with fail
      go_ret
      exact R.out
    · rw [if_neg he10] at hF
      by_cases he0 : e0 = 0
      · subst he0
        have hne : ((0 : Int) == 10) = false := rfl
        clear he10
        by_cases hul : u = m + p
        · subst hul
          rw [if_pos ⟨rfl, rfl⟩] at hF
          subst hF
          have hnum' : n ≤ 900000 := by omega
          have K5 := Lib.hid (fun A' c' w' k1 k2 k3 => K4.out.found (A' := A') (c' := c') (w' := w') OK.out k1 k2 k3)
          obtain ⟨i0, hi, hz0, hz1, hz2⟩ := info_parts info_fnd
          obtain ⟨S1, O1, B1, L1, S2⟩ := K4.out.up.pre (Nat.le_trans hbase (K4.out.up.fr.size)) H5.out
          have S2 := Lib.hid S2
          have RR := Lib.hid (fun A' c' w' k1 k2 k3 => (K5.out A' c' w' k1 k2 k3))
          have hS0 : w4.drew.cell? ⟨fb, 0, none⟩ = some (.slice A n c) ∧ w4.drew.cell? ⟨fb, 2, none⟩ = some (.int .i64 s.frm) ∧ Byt w4.drew A5 n5 c5 x := ⟨K4.out.up.blk.cell 0, K4.out.up.blk.cell 2, H5.out.byt.drew⟩
          obtain ⟨frm, hfrm⟩ : ∃ f, s.frm = f := ⟨_, rfl⟩
          rw [hfrm] at S1 O1 B1 L1 S2 RR hS0
          have HFR := Lib.hid hfrm
          have hc42 : w4.cell? ⟨fb, 2, none⟩ = some (.int .i64 frm) := hS0.2.1
          clear hfrm
          clear K4 H5 OK hu K5 HL HIS HO hml
          go_wp2_with fail
          refine wp_region_noPanic ?_
          refine upto_start (fun w' => w'.cell? ⟨fb, 0, none⟩ = some (.slice A n c) ∧ w'.cell? ⟨fb, 2, none⟩ = some (.int .i64 frm) ∧ Byt w' A5 n5 c5 x) 14 (by kernel_rfl) ?_
          change Upto _ _ _ _ _ 17 _ _ _
          refine Upto.take (i := 0) (v := ?_) rfl (by kernel_rfl) (fun _ _ _ h => h) rfl (fun w' hS => ?_) hS0 ?_
          rotate_left
          · (try dsimp only at hS); go_split_ands; go_simp; (try with_reducible rfl)
          simp only [Act.put, List.setIfInBounds_toArray, List.set_cons_zero, List.set_cons_succ]
          refine Upto.take (i := 1) (v := ?_) rfl (by kernel_rfl) (fun _ _ _ h => h) rfl (fun w' hS => ?_) hS0 ?_
          rotate_left
          · (try dsimp only at hS); go_split_ands; go_simp; (try with_reducible rfl)
          simp only [Act.put, List.setIfInBounds_toArray, List.set_cons_zero, List.set_cons_succ]
          refine Upto.take (i := 2) (v := ?_) rfl (by kernel_rfl) (fun _ _ _ h => h) rfl (fun w' hS => ?_) hS0 ?_
          rotate_left
          · (try dsimp only at hS); go_split_ands; go_simp; (try with_reducible rfl)
          simp only [Act.put, List.setIfInBounds_toArray, List.set_cons_zero, List.set_cons_succ]
          refine Upto.take (i := 3) (v := ?_) rfl (by kernel_rfl) (fun _ _ _ h => h) rfl (fun w' hS => ?_) hS0 ?_
          rotate_left
          · (try dsimp only at hS); go_split_ands; go_simp; (try with_reducible rfl)
          simp only [Act.put, List.setIfInBounds_toArray, List.set_cons_zero, List.set_cons_succ]
          refine Upto.take (i := 4) (v := ?_) rfl (by kernel_rfl) (fun _ _ _ h => h) rfl (fun w' hS => ?_) hS0 ?_
          rotate_left
          · (try dsimp only at hS); go_split_ands; go_simp; (try with_reducible rfl)
          simp only [Act.put, List.setIfInBounds_toArray, List.set_cons_zero, List.set_cons_succ]
          refine Upto.take (i := 5) (v := ?_) rfl (by kernel_rfl) (fun _ _ _ h => h) rfl (fun w' hS => ?_) hS0 ?_
          rotate_left
          · (try dsimp only at hS); go_split_ands; go_simp; (try with_reducible rfl)
          simp only [Act.put, List.setIfInBounds_toArray, List.set_cons_zero, List.set_cons_succ]
          refine Upto.take (i := 6) rfl (by kernel_rfl) (fun _ _ _ h => h) rfl (fun w' hS => exec_conv rfl (by exact conv_byt hS.2.2)) hS0 ?_
          simp only [Act.put, List.setIfInBounds_toArray, List.set_cons_zero, List.set_cons_succ]
          refine Upto.take (i := 7) (v := ?_) rfl (by kernel_rfl) (fun _ _ _ h => h) rfl (fun w' hS => ?_) hS0 ?_
          rotate_left
          · (try dsimp only at hS); go_split_ands; go_simp; (try with_reducible rfl)
          simp only [Act.put, List.setIfInBounds_toArray, List.set_cons_zero, List.set_cons_succ]
          refine Upto.take (i := 8) (v := ?_) rfl (by kernel_rfl) (fun _ _ _ h => h) rfl (fun w' hS => ?_) hS0 ?_
          rotate_left
          · (try dsimp only at hS); go_split_ands; go_simp; (try with_reducible rfl)
          simp only [Act.put, List.setIfInBounds_toArray, List.set_cons_zero, List.set_cons_succ]
          refine Upto.take (i := 9) (v := ?_) rfl (by kernel_rfl) (fun _ _ _ h => h) rfl (fun w' hS => ?_) hS0 ?_
          rotate_left
          · (try dsimp only at hS); go_split_ands; go_simp; (try with_reducible rfl)
          simp only [Act.put, List.setIfInBounds_toArray, List.set_cons_zero, List.set_cons_succ]
          refine Upto.take (i := 10) (v := ?_) rfl (by kernel_rfl) (fun _ _ _ h => h) rfl (fun w' hS => ?_) hS0 ?_
          rotate_left
          · (try dsimp only at hS); go_split_ands; go_simp; (try with_reducible rfl)
          simp only [Act.put, List.setIfInBounds_toArray, List.set_cons_zero, List.set_cons_succ]
          refine Upto.take (i := 11) rfl (by kernel_rfl) (fun _ _ _ h => h) rfl (fun w' hS => exec_build rfl [(0, .string (strOfNums x)), (1, .int .i64 frm)] (by rfl) (built_fnd _ _)) hS0 ?_
          simp only [Act.put, List.setIfInBounds_toArray, List.set_cons_zero, List.set_cons_succ]
          refine Upto.only (i := 12) rfl (by kernel_rfl) rfl (exec_buildSlice rfl [(0, .agg #[.string (strOfNums x), .int .i64 frm])] (by rfl) (bslice_fnd _ _ _)) (S1.out _ rfl) ?_
          simp only [Act.put, List.setIfInBounds_toArray, List.set_cons_zero, List.set_cons_succ]
          refine Upto.law (i := 13) rfl (by kernel_rfl) rfl (fun K hK => ?_)
          refine wp_append_1 _ _ 48 (by rfl) base 55 i0 _ 2 24 Tryd.underlying48 hi hz0 hz1 hz2 (by rfl) (by omega) (by rfl) (O1.out _ rfl) (g := w4.heap.size) (cs := #[.string (strOfNums x), .int .i64 frm]) (by rfl) (B1.out _ rfl) (by rfl) (fnd_one _ _) (by omega) (by omega) (L1.out _ rfl) ?_
          intro A' c' w' k1 k2 k3
          have hS3 := S2.out A' c' w' k1 k2
          have R := Lib.hid (RR.out A' c' w' k1 k2 k3)
          refine hK _ _ hS3.1 ?_
          have hc3 := hS3.1.1
          have hf3 := hS3.2
          clear hS3 k1 k2 k3 hK S1 O1 B1 L1 S2 RR
          simp only [Act.put, List.setIfInBounds_toArray, List.set_cons_zero, List.set_cons_succ]
          refine Upto.tail rfl (by kernel_rfl) ?_
          simp only [List.drop_succ_cons, List.drop_zero]
          obtain ⟨hc6, hf6, R⟩ := R.out
          have R := Lib.hid R
          go_wp2_with fail
          refine NoPanic.normal ?_
          go_wp2_with fail
          go_ret
          rw [HFR.out]
          exact R.out
        · have hlt : (u : Int) < ((m + p : Nat) : Int) := by have := hu rfl; omega
          have hlt : (u : Int) < (m : Int) + (p : Int) := by omega
          rw [if_neg (fun h => hul h.2)] at hF
          subst hF
          have R := Lib.hid (K4.out.bad (.returned (.bool false)) rfl)
          clear K4 H5 OK hu
          go_wp2_with fail
          go_ret
          exact R.out
      · have hne : ((e0 : Int) == 10) = false := by simp; omega
        have hne0 : ((e0 : Int) != 0) = true := by simp; omega
        rw [if_neg (fun h => he0 h.1)] at hF
        clear he10 he0
        subst hF
        have R := Lib.hid (K4.out.bad (.returned (.bool false)) rfl)
        clear K4 H5 OK hu
        go_wp2_with fail
        go_ret
        exact R.out
end Go.Proofs.YtljpnngknmpdoaaDoor

/- (*sheet.search).bodies steps as the plain search does. -/
namespace Go.Proofs.YtljpnngknmpdoaaDoor
open Go.RowKit

/-- Where the loop of bodies stands. -/
structure BodRel (base H fb : Nat) (s : Fs) (b : List Int) (i : Int) (w wr : World) (A : Option Addr) (n c : Nat) (B : Option Addr) (k : Nat) (b' : List Int) (xs : List (List Int)) : Prop where
  up : FndUp base H fb wr w A n c (.slice none 0 0) (.int .i64 i) (s.out ++ xs.map (fun x => (x, i)))
  bty : Bty wr B k k b'
  ops : opens b = (xs ++ (opens b').1, (opens b').2)
  num : s.out.length + xs.length + k ≤ 900000
  top : b'.length ≤ b.length

theorem BodRel.below {base H fb : Nat} {s : Fs} {b : List Int} {i : Int} {w wr w4 : World} {A : Option Addr} {n c : Nat} {B : Option Addr} {k : Nat} {b' : List Int} {xs : List (List Int)} (h : BodRel base H fb s b i w wr A n c B k b' xs) (hb : Below wr.heap.size wr w4) : BodRel base H fb s b i w w4 A n c B k b' xs :=
  ⟨⟨h.up.blk.bel hb h.up.blk.lt, own_stay h.up.own (fun q hq => hb.block q (h.up.own.lt q hq).2), h.up.len, h.up.fr.then (Fr.of_below hb), h.up.lo, h.up.low⟩, h.bty.below hb, h.ops, h.num, h.top⟩

theorem BodRel.start {base H fb : Nat} {s : Fs} {w : World} (hS : Srch base H w fb s) {B : Option Addr} {k : Nat} {b : List Int} (i : Int) (hB : Bty w B k k b) (hnum : s.out.length + k ≤ 900000) {x : Value} {A : Option Addr} {n c : Nat}
    (hbk : Bk w fb 73 #[.slice A n c, x, .int .i64 s.frm]) (hown : w.ownsRow base 55 2 (.slice A n c) n (s.out.flatMap fndC)) (hlen : s.out.length = n) (hA : ∀ q, (Value.slice A n c).ownBlock = some q → q < H) :
    BodRel base H fb s b i w ((w.setCell ⟨fb, 1, none⟩ (.slice none 0 0)).setCell ⟨fb, 2, none⟩ (.int .i64 i)) A n c B k b [] := by
  have b1 : Bk (w.setCell ⟨fb, 1, none⟩ (.slice none 0 0)) fb 73 #[.slice A n c, .slice none 0 0, .int .i64 s.frm] := by simpa using hbk.setc 1 (.slice none 0 0)
  have b2 : Bk ((w.setCell ⟨fb, 1, none⟩ (.slice none 0 0)).setCell ⟨fb, 2, none⟩ (.int .i64 i)) fb 73 #[.slice A n c, .slice none 0 0, .int .i64 i] := by simpa using b1.setc 2 (.int .i64 i)
  have o1 := own_set (i := 1) (u := .slice none 0 0) hown hbk (by decide)
  have o2 := own_set (i := 2) (u := .int .i64 i) o1 b1 (by decide)
  have hm : Mid base H fb := ⟨hS.lo, hS.hi⟩
  refine ⟨⟨b2, by simpa using o2, by simpa using hlen, ((Fr.refl (Mid base H) w).setCell (a := ⟨fb, 1, none⟩) hm _).setCell (a := ⟨fb, 2, none⟩) hm _, ⟨hS.lo, hS.hi, hS.top⟩, fun q hq => .inl (hA q hq)⟩, (hB.set hbk (by decide)).set b1 (by decide), rfl, by simpa using hnum, Nat.le_refl _⟩

theorem BodRel.fin {base H fb : Nat} {s : Fs} {b : List Int} {i : Int} {w wr : World} {A : Option Addr} {n c : Nat} {B : Option Addr} {k : Nat} {xs : List (List Int)} (h : BodRel base H fb s b i w wr A n c B k [] xs) (hok : (bodsF s b i).1.Ok) : SrPost base H fb (bodsF s b i) w (.returned (.bool true)) wr := by
  have e : bodsF s b i = (⟨s.out ++ xs.map (fun x => (x, i)), [], i⟩, true) := by unfold bodsF; rw [h.ops, opens_nil]; simp
  rw [e] at hok ⊢
  exact ⟨rfl, fun _ => ⟨h.up.lo.1, h.up.blk.lt, Nat.le_refl _, hok, A, n, c, none, 0, 0, h.up.blk, h.up.own, h.up.len, ⟨Bty.nil _, .inl rfl⟩, fun q hq => (h.up.own.lt q hq).2, fun q hq => by simp [Value.ownBlock] at hq⟩, ⟨A, n, c, _, _, h.up.blk, h.up.own, h.up.len⟩, h.up.fr⟩

theorem BodRel.short {base H fb : Nat} {s : Fs} {b : List Int} {i : Int} {w wr : World} {A : Option Addr} {n c : Nat} {B : Option Addr} {k u : Nat} {b' x : List Int} {xs : List (List Int)} (h : BodRel base H fb s b i w wr A n c B k b' xs) (hok : (bodsF s b i).1.Ok) (h0 : b' ≠ []) (hO : openF b' = (x, u, 10)) :
    SrPost base H fb (bodsF s b i) w (.returned (.bool true)) (wr.setCell ⟨fb, 1, none⟩ (.slice B k k)) := by
  have e : bodsF s b i = (⟨s.out ++ xs.map (fun x => (x, i)), b', i⟩, true) := by unfold bodsF; rw [h.ops, opens_short h0 hO]; simp
  rw [e] at hok ⊢
  have b1 : Bk (wr.setCell ⟨fb, 1, none⟩ (.slice B k k)) fb 73 #[.slice A n c, .slice B k k, .int .i64 i] := by simpa using h.up.blk.setc 1 (.slice B k k)
  have o1 := own_set (i := 1) (u := .slice B k k) h.up.own h.up.blk (by decide)
  have t1 : Bty (wr.setCell ⟨fb, 1, none⟩ (.slice B k k)) B k k b' := h.bty.set h.up.blk (by decide)
  refine ⟨rfl, fun _ => ⟨h.up.lo.1, b1.lt, Nat.le_refl _, hok, A, n, c, B, k, k, b1, o1, h.up.len, ⟨t1, .inl rfl⟩, fun q hq => (o1.lt q hq).2, fun q hq => ?_⟩, ⟨A, n, c, _, _, b1, o1, h.up.len⟩, h.up.fr.setCell (show Mid base H fb from ⟨h.up.lo.1, h.up.lo.2.1⟩) _⟩
  cases B with
  | none => simp [Value.ownBlock] at hq
  | some a =>
    simp [Value.ownBlock] at hq
    subst hq
    exact t1.ty.lt a rfl

def lenV : Value → Nat
  | .slice _ n _ => n
  | _ => 0

theorem BodRel.bad {base H fb : Nat} {s : Fs} {b : List Int} {i : Int} {w wr : World} {A : Option Addr} {n c : Nat} {B : Option Addr} {k u e0 : Nat} {b' x : List Int} {xs : List (List Int)} (h : BodRel base H fb s b i w wr A n c B k b' xs) (h0 : b' ≠ []) (hO : openF b' = (x, u, e0)) (h1 : e0 ≠ 0) (h2 : e0 ≠ 10) :
    SrPost base H fb (bodsF s b i) w (.returned (.bool false)) wr := by
  have e : bodsF s b i = (⟨s.out ++ xs.map (fun x => (x, i)), [], i⟩, false) := by unfold bodsF; rw [h.ops, opens_bad h0 hO h1 h2]; simp
  rw [e]
  exact ⟨rfl, fun q => (by cases q), ⟨A, n, c, _, _, h.up.blk, h.up.own, h.up.len⟩, h.up.fr⟩

theorem BodRel.next {base H fb : Nat} {s : Fs} {b : List Int} {i : Int} {w wr w4 w' : World} {A A' : Option Addr} {n c c' : Nat} {B : Option Addr} {k u : Nat} {b' x : List Int} {xs : List (List Int)} (h : BodRel base H fb s b i w wr A n c B k b' xs) (h0 : b' ≠ []) (hO : openF b' = (x, u, 0))
    (hb4 : Below wr.heap.size wr w4)
    (k1 : w'.ownsRow base 55 2 (.slice A' (n + 1) c') (n + 1) ((s.out ++ xs.map (fun x => (x, i))).flatMap fndC ++ (#[Value.string (strOfNums x), .int .i64 i] : Array Value).toList)) (k2 : (w4.drew.alloc (.cells #[.string (strOfNums x), .int .i64 i] 55)).grownBy w' (Value.slice A n c).ownBlock)
    (k3 : ∀ q, (Value.slice A' (n + 1) c').ownBlock = some q → (Value.slice A n c).ownBlock = some q ∨ (w4.drew.alloc (.cells #[.string (strOfNums x), .int .i64 i] 55)).heap.size ≤ q) :
    u ≤ k ∧ 0 < u ∧ Bty (w'.setCell ⟨fb, 0, none⟩ (.slice A' (n + 1) c')) B k k b' ∧ ∀ B2, Bty (w'.setCell ⟨fb, 0, none⟩ (.slice A' (n + 1) c')) B2 (k - u) (k - u) (b'.drop u) → BodRel base H fb s b i w (w'.setCell ⟨fb, 0, none⟩ (.slice A' (n + 1) c')) A' (n + 1) c' B2 (k - u) (b'.drop u) (xs ++ [x]) := by
  have hr := h.bty.byt.rng
  obtain ⟨hu, ht, _⟩ := openF_ok hr hO
  have hp := sealL_pos x
  have e1 : (b'.take u).length = (sealL x).length := by rw [ht]
  rw [List.length_take] at e1
  have hk : b'.length = k := h.bty.byt.len
  have hb : Below w4.heap.size w4 (w4.drew.alloc (.cells #[.string (strOfNums x), .int .i64 i] 55)) := (Below.refl _ w4).drew.alloc (Nat.le_refl _) _
  obtain ⟨_, up, ty, _, _⟩ := (h.below hb4).up.step hb k1 k2 k3
  refine ⟨by omega, by omega, ty _ _ _ _ (h.below hb4).bty, fun B2 h2 => ⟨?_, h2, ?_, ?_, ?_⟩⟩
  · have : s.out ++ xs.map (fun x => (x, i)) ++ [(x, i)] = s.out ++ (xs ++ [x]).map (fun x => (x, i)) := by simp
    rw [← this]
    exact up
  · rw [h.ops, opens_ok hr h0 hO]
    simp
  · have := h.num
    simp
    omega
  · have := h.top
    rw [List.length_drop]
    omega

set_option maxRecDepth 100000 in
set_option maxHeartbeats 4000000 in
theorem bodies_any (base H fb : Nat) (s : Fs) (w : World) (hS : Srch base H w fb s) (hT : Tab w) (hT0 : 0 < base) (B : Option Addr) (k : Nat) (b : List Int) (hB : Bty w B k k b) (i : Int) (hnum : s.out.length + k ≤ 900000) :
    Calls Tryd.prog 38 #[.pointer (some ⟨fb, 0, none⟩), .slice B k k, .int .i64 i] w (SrPost base H fb (bodsF s b i) w) := by
  have OK := Lib.hid (bodsF_ok i hS.ok hB.byt.rng)
  obtain ⟨A, n, c, BB, mm, dd, hbk, hown, hlen, hbeg, hA, hBB⟩ := hS.ex
  have hc1 : w.cell? ⟨fb, 1, none⟩ = some (.slice BB mm dd) := hbk.cell 1
  have hf1 : w.frozen? ⟨fb, 1, none⟩ = false := hbk.frz 1
  have hc2 : w.cell? ⟨fb, 2, none⟩ = some (.int .i64 s.frm) := hbk.cell 2
  have hf2 : w.frozen? ⟨fb, 2, none⟩ = false := hbk.frz 2
  have hbase : base ≤ w.heap.size := by have := hS.lo; have := hS.hi; have := hS.top; omega
  have R0 := Lib.hid (BodRel.start hS i hB hnum hbk hown hlen hA)
  have TB := Lib.hid (fun w1 (f : Fr (Mid base H) w w1) => tab_fr hT hT0 f)
  have hkl : b.length = k := hB.byt.len
  clear hS hbk hown hbeg hA hBB hT hT0 hB
  go_enter Tryd.func38, Tryd.ntmps38
  go_wp2
  go_step3
  go_wp2
  go_step3
  go_wp2
  go_loopw [1] (fun q wr => ∃ A n c B k b' xs, q = .slice B k k ∧ BodRel base H fb s b i w wr A n c B k b' xs) (fun q _ => lenV q)
  case atStart => exact ⟨A, n, c, B, k, b, [], rfl, R0.out⟩
  case round =>
    obtain ⟨A1, n1, c1, B1, k1, b1, xs, rfl, R⟩ := hrel
    have hk1 : b1.length = k1 := R.bty.byt.len
    have HR := Lib.hid R
    clear R R0 hc1 hf1 hc2 hf2 hlen
    by_cases h0 : b1 = []
    · subst h0
      have hk0 : k1 = 0 := by simpa using hk1.symm
      subst hk0
      have RR := Lib.hid (HR.out.fin OK.out)
      clear HR OK TB
      go_wp2_with fail
      (try rw [Exit.noGoto_ret])
      go_ret
      exact RR.out
    · have hpos : 0 < k1 := by
        rcases Nat.eq_zero_or_pos k1 with q | q
        · exact absurd (List.eq_nil_of_length_eq_zero (by omega)) h0
        · exact q
      have hpos' : (0 : Int) < (k1 : Int) := by omega
      obtain ⟨x, u, e0, hO⟩ : ∃ x u e0, openF b1 = (x, u, e0) := ⟨_, _, _, rfl⟩
      have hnm := HR.out.num
      have hcap := HR.out.bty.byt.max
      unfold maxLen at hcap
      have C4 := Lib.hid (open_own B1 k1 k1 b1 wr HR.out.bty.byt (by omega) (TB.out _ HR.out.up.fr) x u e0 hO)
      have HO := Lib.hid hO
      have H0 := Lib.hid h0
      clear hO h0
      go_wp2_with fail
      refine C4.out.mono ?_
      rintro e w4 ⟨A5, n5, c5, rfl, ho5, hr5, b5⟩
      have K4 := Lib.hid (HR.out.below b5)
      have B5 := Lib.hid b5
      have H5 := Lib.hid (Bty.of_own ho5 hr5)
      clear ho5 hr5 b5 C4
      by_cases he0 : e0 = 0
      · subst he0
        have hnum' : n1 ≤ 900000 := by have := HR.out.up.len; simp at this; omega
        have K5 := Lib.hid (fun A' c' w' q1 q2 q3 => HR.out.next (w4 := w4) (A' := A') (c' := c') (w' := w') H0.out HO.out B5.out q1 q2 q3)
        obtain ⟨i0, hi, hz0, hz1, hz2⟩ := info_parts info_fnd
        obtain ⟨S1, O1, B1', L1, S2⟩ := K4.out.up.pre (Nat.le_trans hbase (K4.out.up.fr.size)) H5.out
        have S2 := Lib.hid S2
        have hS0 : w4.drew.cell? ⟨fb, 0, none⟩ = some (.slice A1 n1 c1) ∧ w4.drew.cell? ⟨fb, 2, none⟩ = some (.int .i64 i) ∧ Byt w4.drew A5 n5 c5 x := ⟨K4.out.up.blk.cell 0, K4.out.up.blk.cell 2, H5.out.byt.drew⟩
        have KF := Lib.hid (fun k => K4.out.up.blk.frz k)
        clear K4 H5 HR B5
        go_wp2_with fail
        refine wp_region_noPanic ?_
        refine upto_start (fun w' => w'.cell? ⟨fb, 0, none⟩ = some (.slice A1 n1 c1) ∧ w'.cell? ⟨fb, 2, none⟩ = some (.int .i64 i) ∧ Byt w' A5 n5 c5 x) 11 (by kernel_rfl) ?_
        change Upto _ _ _ _ _ 14 _ _ _
        refine Upto.take (i := 0) (v := ?_) rfl (by kernel_rfl) (fun _ _ _ h => h) rfl (fun w' hS => ?_) hS0 ?_
        rotate_left
        · (try dsimp only at hS); go_split_ands; go_simp; (try with_reducible rfl)
        simp only [Act.put, List.setIfInBounds_toArray, List.set_cons_zero, List.set_cons_succ]
        refine Upto.take (i := 1) (v := ?_) rfl (by kernel_rfl) (fun _ _ _ h => h) rfl (fun w' hS => ?_) hS0 ?_
        rotate_left
        · (try dsimp only at hS); go_split_ands; go_simp; (try with_reducible rfl)
        simp only [Act.put, List.setIfInBounds_toArray, List.set_cons_zero, List.set_cons_succ]
        refine Upto.take (i := 2) (v := ?_) rfl (by kernel_rfl) (fun _ _ _ h => h) rfl (fun w' hS => ?_) hS0 ?_
        rotate_left
        · (try dsimp only at hS); go_split_ands; go_simp; (try with_reducible rfl)
        simp only [Act.put, List.setIfInBounds_toArray, List.set_cons_zero, List.set_cons_succ]
        refine Upto.take (i := 3) (v := ?_) rfl (by kernel_rfl) (fun _ _ _ h => h) rfl (fun w' hS => ?_) hS0 ?_
        rotate_left
        · (try dsimp only at hS); go_split_ands; go_simp; (try with_reducible rfl)
        simp only [Act.put, List.setIfInBounds_toArray, List.set_cons_zero, List.set_cons_succ]
        refine Upto.take (i := 4) (v := ?_) rfl (by kernel_rfl) (fun _ _ _ h => h) rfl (fun w' hS => ?_) hS0 ?_
        rotate_left
        · (try dsimp only at hS); go_split_ands; go_simp; (try with_reducible rfl)
        simp only [Act.put, List.setIfInBounds_toArray, List.set_cons_zero, List.set_cons_succ]
        refine Upto.take (i := 5) (v := ?_) rfl (by kernel_rfl) (fun _ _ _ h => h) rfl (fun w' hS => ?_) hS0 ?_
        rotate_left
        · (try dsimp only at hS); go_split_ands; go_simp; (try with_reducible rfl)
        simp only [Act.put, List.setIfInBounds_toArray, List.set_cons_zero, List.set_cons_succ]
        refine Upto.take (i := 6) rfl (by kernel_rfl) (fun _ _ _ h => h) rfl (fun w' hS => exec_conv rfl (by exact conv_byt hS.2.2)) hS0 ?_
        simp only [Act.put, List.setIfInBounds_toArray, List.set_cons_zero, List.set_cons_succ]
        refine Upto.take (i := 7) (v := ?_) rfl (by kernel_rfl) (fun _ _ _ h => h) rfl (fun w' hS => ?_) hS0 ?_
        rotate_left
        · (try dsimp only at hS); go_split_ands; go_simp; (try with_reducible rfl)
        simp only [Act.put, List.setIfInBounds_toArray, List.set_cons_zero, List.set_cons_succ]
        refine Upto.take (i := 8) rfl (by kernel_rfl) (fun _ _ _ h => h) rfl (fun w' hS => exec_build rfl [(0, .string (strOfNums x)), (1, .int .i64 i)] (by rfl) (built_fnd _ _)) hS0 ?_
        simp only [Act.put, List.setIfInBounds_toArray, List.set_cons_zero, List.set_cons_succ]
        refine Upto.only (i := 9) rfl (by kernel_rfl) rfl (exec_buildSlice rfl [(0, .agg #[.string (strOfNums x), .int .i64 i])] (by rfl) (bslice_fnd _ _ _)) (S1.out _ rfl) ?_
        simp only [Act.put, List.setIfInBounds_toArray, List.set_cons_zero, List.set_cons_succ]
        refine Upto.law (i := 10) rfl (by kernel_rfl) rfl (fun K hK => ?_)
        refine wp_append_1 _ _ 48 (by rfl) base 55 i0 _ 2 24 Tryd.underlying48 hi hz0 hz1 hz2 (by rfl) (by omega) (by rfl) (O1.out _ rfl) (g := w4.heap.size) (cs := #[.string (strOfNums x), .int .i64 i]) (by rfl) (B1'.out _ rfl) (by rfl) (fnd_one _ _) (by omega) (by omega) (L1.out _ rfl) ?_
        intro A' c' w' k1 k2 k3
        have hS3 := S2.out A' c' w' k1 k2
        have R := Lib.hid (K5.out A' c' w' k1 k2 k3)
        refine hK _ _ hS3.1 ?_
        have hc3 := hS3.1.1
        have hf3 := hS3.2
        clear hS3 k1 k2 k3 hK S1 O1 B1' L1 S2
        simp only [Act.put, List.setIfInBounds_toArray, List.set_cons_zero, List.set_cons_succ]
        refine Upto.tail rfl (by kernel_rfl) ?_
        simp only [List.drop_succ_cons, List.drop_zero]
        obtain ⟨hu, hu0, ty, nx⟩ := R.out
        have NX := Lib.hid nx
        have CP := part_any B1 k1 k1 b1 _ ty u k1 hu (Nat.le_refl _)
        rw [List.take_of_length_le (show (b1.drop u).length ≤ k1 - u by rw [List.length_drop]; omega)] at CP
        have CP := Lib.hid CP
        clear R nx ty
        go_wp2_with fail
        refine NoPanic.normal ?_
        go_wp2_with fail
        refine CP.out.mono ?_
        rintro e w6 ⟨B2, rfl, h2, rfl⟩
        have NR := Lib.hid (NX.out B2 h2)
        clear h2 NX CP
        go_wp2_with fail
        go_roundw
        case rel => exact ⟨_, _, _, B2, k1 - u, b1.drop u, xs ++ [x], rfl, NR.out⟩
        case measure => simp [lenV]; omega
      · have hne : ((e0 : Int) == 0) = false := by simp; omega
        have HE0 := Lib.hid he0
        clear he0
        by_cases he10 : e0 = 10
        · subst he10
          have hc1' : w4.cell? ⟨fb, 1, none⟩ = some (.slice none 0 0) := K4.out.up.blk.cell 1
          have hf1' : w4.frozen? ⟨fb, 1, none⟩ = false := K4.out.up.blk.frz 1
          have RR := Lib.hid (K4.out.short OK.out H0.out HO.out)
          have hne : ((10 : Int) == 0) = false := rfl
          clear HR OK TB K4 H5 B5
          go_wp2_with fail
          (try rw [Exit.noGoto_ret])
          go_ret
          exact RR.out
        · have hne10 : ((e0 : Int) == 10) = false := by simp; omega
          have RR := Lib.hid (K4.out.bad H0.out HO.out HE0.out he10)
          clear HR OK TB K4 H5 B5 he10
          go_wp2_with fail
          (try rw [Exit.noGoto_ret])
          go_ret
          exact RR.out
end Go.Proofs.YtljpnngknmpdoaaDoor

/- sheet.Find finds what the plain search finds, in new memory. -/
namespace Go.Proofs.YtljpnngknmpdoaaDoor
open Go.RowKit

theorem Sh.cells_len (x : Sh) : x.cells.length = 4 := rfl
/-- A slice of sheets. -/
structure Shs (w : World) (A : Option Addr) (n c : Nat) (l : List Sh) : Prop where
  flt : Flt w A n c 4 (l.flatMap Sh.cells)
  len : l.length = n
  inn : ∀ x ∈ l, x.In
theorem Shs.below {w w' : World} {A : Option Addr} {n c : Nat} {l : List Sh} (h : Shs w A n c l) (hb : Below w.heap.size w w') : Shs w' A n c l := ⟨h.flt.below hb, h.len, h.inn⟩
def Sh.fd (x : Sh) : Int × List Int := (x.first, nums x.data)
/-- What was found, in new memory. -/
def RetFnd (out : List (List Int × Int)) (w : World) (e : Ending) (w' : World) : Prop :=
  ∃ A n c, e = .returned (.slice A n c) ∧ Flt w' A n c 2 (out.flatMap fndC) ∧ out.length = n ∧ (∀ x ∈ out, isB x.1 ∧ x.1.length ≤ 4096) ∧ Below w.heap.size w w'

/-- Where Find stands. -/
structure FinRel (w : World) (fb : Nat) (l : List Sh) (i : Nat) (s : Fs) (wr : World) : Prop where
  sr : Srch w.heap.size wr.heap.size wr fb s
  bel : Below w.heap.size w wr
  go : found (l.map Sh.fd) = findF s i ((l.drop i).map Sh.fd)
  beg : s.beg.length ≤ 242 * i
  num : s.out.length ≤ 243 * i

theorem FinRel.start (w : World) (l : List Sh) : FinRel w w.heap.size l 0 fs0 (w.alloc (.cells #[.slice none 0 0, .slice none 0 0, .int .i64 0] 73)) :=
  ⟨⟨Nat.le_refl _, by simp, Nat.le_refl _, ⟨fun x hx => (by cases hx), fun x hx => (by cases hx)⟩, none, 0, 0, none, 0, 0, Bk.new _ _ _, World.ownsRow_nil _ _ _ _, rfl, ⟨Bty.nil _, .inl rfl⟩, fun q hq => by simp [Value.ownBlock] at hq, fun q hq => by simp [Value.ownBlock] at hq⟩,
    (Below.refl _ _).alloc (Nat.le_refl _) _, by simp [found], by simp [fs0], by simp [fs0]⟩

theorem fr_below {base H : Nat} {w w1 w2 : World} (hb : Below base w w1) (hB : base ≤ w1.heap.size) (f : Fr (Mid base H) w1 w2) : Below base w w2 := hb.trans (f.below hB (fun k m => m.1))
theorem Fnd.end_ {w w2 : World} {fb : Nat} {out : List (List Int × Int)} (hb : Below w.heap.size w w2) (ok : ∀ x ∈ out, isB x.1 ∧ x.1.length ≤ 4096) (h : FndAt w.heap.size w2 fb out) : ∃ A n c, w2.cell? ⟨fb, 0, none⟩ = some (.slice A n c) ∧ RetFnd out w (.returned (.slice A n c)) w2 := by
  obtain ⟨A, n, c, x, y, hbk, hown, hlen⟩ := h.ex
  exact ⟨A, n, c, hbk.cell 0, A, n, c, rfl, Flt.of_own hown, hlen, ok, hb⟩

/-- One sheet more. -/
theorem FinRel.next {w wr w2 : World} {fb i : Nat} {l : List Sh} {s : Fs} (h : FinRel w fb l i s wr) (hi : i < l.length) (h242 : (l.getD i sh0).data.size ≤ 242) (hok : (sheetF s i (l.getD i sh0).first (nums (l.getD i sh0).data)).2 = true)
    (hs : Srch w.heap.size w2.heap.size w2 fb (sheetF s i (l.getD i sh0).first (nums (l.getD i sh0).data)).1) (hb : Below w.heap.size w w2) : FinRel w fb l (i + 1) (sheetF s i (l.getD i sh0).first (nums (l.getD i sh0).data)).1 w2 := by
  have hl := @sheetF_len s i (l.getD i sh0).first (nums (l.getD i sh0).data) (nums_rng _)
  rw [nums_len] at hl
  have := h.beg
  have := h.num
  refine ⟨hs, hb, ?_, by omega, by omega⟩
  rw [h.go, drop_getD_cons l sh0 i hi, List.map_cons, findF]
  exact if_pos hok
theorem FinRel.last {w wr : World} {fb i : Nat} {l : List Sh} {s : Fs} (h : FinRel w fb l i s wr) (hi : i < l.length) (hok : (sheetF s i (l.getD i sh0).first (nums (l.getD i sh0).data)).2 = false) :
    found (l.map Sh.fd) = (sheetF s i (l.getD i sh0).first (nums (l.getD i sh0).data)).1.out := by
  rw [h.go, drop_getD_cons l sh0 i hi, List.map_cons, findF]
  refine if_neg ?_
  show ¬ (sheetF s i (l.getD i sh0).first (nums (l.getD i sh0).data)).2 = true
  rw [hok]
  simp

set_option maxRecDepth 100000 in
set_option maxHeartbeats 8000000 in
theorem find_any (A : Option Addr) (n c : Nat) (l : List Sh) (w : World) (h : Shs w A n c l) (hn : n ≤ 1000) (h242 : ∀ x ∈ l, x.data.size ≤ 242) (hT : Tab w) :
    Calls Tryd.prog 20 #[.slice A n c] w (RetFnd (found (l.map Sh.fd)) w) := by
  have hT0 : 0 < w.heap.size := World.block_lt_of_cell? w _ (hT 0 (by omega))
  have R0 := Lib.hid (FinRel.start w l)
  have HS := Lib.hid h
  have HT := Lib.hid hT
  have HT0 := Lib.hid hT0
  have H242 := Lib.hid h242
  have hcap := h.flt.cap
  have hmax := h.flt.max
  unfold maxLen at hmax
  clear h hT hT0 h242
  go_enter Tryd.func20, Tryd.ntmps20
  go_wp2_with fail
  go_loopw [10] (fun q wr => ∃ (i : Nat) (s : Fs), i ≤ n ∧ q = .int .i64 i ∧ FinRel w w.heap.size l i s wr) (fun q _ => n - (intOf q).toNat)
  case atStart => exact ⟨0, fs0, Nat.zero_le _, rfl, R0.out⟩
  case round =>
    obtain ⟨i, s, hin, rfl, R⟩ := hrel
    have HR := Lib.hid R
    clear R R0
    by_cases hlt : i < n
    · obtain ⟨g, off, hA, hc⟩ := (HS.out.below HR.out.bel).flt.at_get sh0 Sh.cells Sh.cells_len HS.out.len (by omega)
      subst hA
      have hj : i < l.length := by rw [HS.out.len]; exact hlt
      have hmem : l.getD i sh0 ∈ l := by
        have e : l.getD i sh0 = l[i] := by simp [List.getD, List.getElem?_eq_getElem hj]
        rw [e]
        exact List.getElem_mem hj
      have hxin := HS.out.inn _ hmem
      have hx242 := H242.out _ hmem
      have NX := Lib.hid (fun w2 => HR.out.next (w2 := w2) hj hx242)
      have LS := Lib.hid (HR.out.last hj)
      obtain ⟨x, hx⟩ : ∃ x, l.getD i sh0 = x := ⟨_, rfl⟩
      have hci := hc i hlt
      rw [hx] at hci hxin hx242 NX LS
      obtain ⟨xi, xp, xf, xd⟩ := x
      have c0 : wr.cell? ⟨g, off + i * 4, none⟩ = some (.int .i64 xi) := hci 0 _ rfl
      have c1 := hci 1 _ rfl
      have c2 := hci 2 _ rfl
      have c3 := hci 3 _ rfl
      have HIN := Lib.hid hxin
      obtain ⟨dl, hdl⟩ : ∃ d, nums xd = d := ⟨_, rfl⟩
      have hdlen : dl.length = xd.size := by rw [← hdl, nums_len]
      have hdrng : isB dl := by rw [← hdl]; exact nums_rng xd
      have HSH := Lib.hid (fun (k : Nat) => @sheetF_ok s i xf dl HR.out.sr.ok hdrng)
      simp only at NX LS
      rw [hdl] at NX LS
      clear hci hc hx hxin hmem hj
      go_wp2_with fail
      obtain ⟨W1, hW1⟩ : ∃ W1, W1 = wr.alloc (.cells #[.int .i64 xi, .int .i64 xp, .int .i64 xf, .string xd] 23) := ⟨_, rfl⟩
      rw [← hW1]
      have b1 : Below wr.heap.size wr W1 := by rw [hW1]; exact (Below.refl _ _).alloc (Nat.le_refl _) _
      have v1 : Bk W1 wr.heap.size 23 #[.int .i64 xi, .int .i64 xp, .int .i64 xf, .string xd] := by rw [hW1]; exact Bk.new _ _ _
      have d1 : W1.heap.size = wr.heap.size + 1 := by rw [hW1]; simp
      have hS0 : W1.drew.cell? ⟨wr.heap.size, 3, none⟩ = some (.string xd) := v1.cell 3
      clear hW1 c0 c1 c2 c3
      obtain ⟨W2, hW2⟩ : ∃ W2, W2 = Lib.bytesWorld W1.drew 5 xd := ⟨_, rfl⟩
      have hconv := conv_str W1.drew xd
      rw [← hW2] at hconv
      obtain ⟨dc, hdc⟩ : ∃ dc, dc = grownCap W1.drew xd.size 0 5 := ⟨_, rfl⟩
      rw [← hdc] at hconv
      have b2 : Below W1.heap.size W1 W2 := by rw [hW2]; exact ((Below.refl _ W1).drew).trans (bytesWorld_below W1.drew 5 xd)
      have v2 : Bk W2 wr.heap.size 23 #[.int .i64 xi, .int .i64 xp, .int .i64 xf, .string xd] := v1.bel b2 v1.lt
      have t2 : Bty W2 (some ⟨W1.heap.size, 0, none⟩) xd.size dc dl := by rw [hW2, hdc, ← hdl]; exact Bty.ofString W1.drew xd (by unfold maxLen; omega)
      have HB2 := Lib.hid (b1.trans (b2.mono b1.size))
      have HV2 := Lib.hid v2
      have HT2 := Lib.hid t2
      have hcx := t2.byt.cap
      have v23 : W2.cell? ⟨wr.heap.size, 2, none⟩ = some (.int .i64 xf) := v2.cell 2
      have hW1s : wr.heap.size + 1 = W1.heap.size := d1.symm
      obtain ⟨gd, hgd⟩ : ∃ gd, W1.drew.heap.size = gd := ⟨_, rfl⟩
      have hgd' : W1.heap.size = gd := hgd
      rw [hgd'] at hW1s HT2
      rw [hgd] at hconv
      have v23s : W2.cell? ⟨wr.heap.size, 3, none⟩ = some (.string xd) := v2.cell 3
      clear hgd'
      have CH := Lib.hid (hasFirst_any ⟨xi, xp, xf, xd⟩ W2 HIN.out)
      obtain ⟨bH, hbH⟩ : ∃ b, hasF xf xd.size = b := ⟨_, rfl⟩
      have HBH := Lib.hid hbH
      clear hW2 hdc b1 b2 v1 v2 t2 d1 hgd hbH
      go_region
      clear hconv hS0 v23s
      go_wp2_with (refine wpList_load_row rfl _ _ rfl _ rfl _ _ _ _ HV2.out Tryd.underlying23 rfl (by kernel_rfl) ?_)
      refine CH.out.mono ?_
      rintro e W3 ⟨rfl, b3⟩
      rw [HBH.out]
      have HB3 := Lib.hid (HB2.out.trans (b3.mono HB2.out.size))
      have HV3 := Lib.hid (HV2.out.bel b3 HV2.out.lt)
      have HT3 := Lib.hid (HT2.out.below b3)
      have v33 : W3.cell? ⟨wr.heap.size, 2, none⟩ = some (.int .i64 xf) := HV3.out.cell 2
      clear b3 CH HV2 HT2 v23
      -- the head of this sheet: k bytes of it
      have key : ∀ (k : Nat) (bH' : Bool), bH' = bH → k = cutS xf dl → k ≤ dl.length ∧ (bH' = decide (inS xf dl)) := fun k bH' e ek => ⟨by rw [ek]; exact cutS_le _ _, by
        rw [e, ← HBH.out]
        unfold hasF
        rw [← hdlen]
        rfl⟩
      have HD := Lib.hid (fun (W : World) (k : Nat) (hk : k ≤ dl.length) (hbW : Below wr.heap.size wr W) (B2 : Option Addr) (hB2 : Bty W B2 k k (dl.take k)) =>
        head_any w.heap.size wr.heap.size w.heap.size s W (HR.out.sr.stay (fun q hq => hbW.block q hq) hbW.size) (HT.out.ret ((HR.out.bel).trans (hbW.mono HR.out.bel.size))) HT0.out B2 k k (dl.take k) hB2.byt (by have := HR.out.beg; omega) (by have := HR.out.num; omega))
      have DK := Lib.hid (fun (W W' : World) (f : Fr (Mid w.heap.size wr.heap.size) W W') (hbW : Below wr.heap.size wr W) (hbt : Bty W (some ⟨gd, 0, none⟩) xd.size dc dl) (hv : Bk W wr.heap.size 23 #[.int .i64 xi, .int .i64 xp, .int .i64 xf, .string xd]) =>
        (⟨hbt.stay (fun a ha => f.block _ (hbt.ty.lt a ha) (fun m => by injection ha with ha; subst ha; have h1 : gd < wr.heap.size := m.2; omega)), (f.block _ hv.lt (fun m => Nat.lt_irrefl _ m.2)).trans hv, fr_below (HR.out.bel.trans (hbW.mono HR.out.bel.size)) (Nat.le_trans HR.out.bel.size hbW.size) f⟩ :
          Bty W' (some ⟨gd, 0, none⟩) xd.size dc dl ∧ Bk W' wr.heap.size 23 #[.int .i64 xi, .int .i64 xp, .int .i64 xf, .string xd] ∧ Below w.heap.size w W'))
      cases bH with
      | true =>
        have hin' : inS xf dl := by have := (key (cutS xf dl) true rfl rfl).2; exact of_decide_eq_true this.symm
        obtain ⟨k, hk⟩ : ∃ k, cutS xf dl = k := ⟨_, rfl⟩
        have hkx : xf = (k : Int) := by rw [← hk]; unfold cutS; rw [if_pos hin']; have := hin'.1; omega
        have hkl : k ≤ dl.length := by rw [← hk]; exact cutS_le _ _
        have SF : Hid (sheetF s i xf dl = if (headF s (dl.take k)).2 = false then headF s (dl.take k) else bodsF (headF s (dl.take k)).1 (dl.drop k) i) := Lib.hid (by unfold sheetF; rw [hk, if_pos hin'])
        rw [hkx] at v33 HV3 DK
        clear hin' hk key
        have CP := part_any (some ⟨gd, 0, none⟩) xd.size dc dl W3 HT3.out 0 k (Nat.zero_le _) (by omega)
        rw [List.drop_zero, Nat.sub_zero] at CP
        have CP := Lib.hid CP
        have hz : ((0 : Nat) : Int) = 0 := rfl
        rw [hz] at CP
        clear hz
        go_wp2_with fail
        refine CP.out.mono ?_
        rintro e W4 ⟨B4, rfl, t4, hw4⟩
        subst hw4
        have CD := Lib.hid (HD.out W3 k hkl HB3.out B4 t4)
        clear t4 CP HD
        go_wp2_with fail
        refine CD.out.mono ?_
        rintro e W5 ⟨rfl, s5, f5, fr5⟩
        obtain ⟨t5, v5, b5⟩ := DK.out W3 W5 fr5 HB3.out HT3.out HV3.out
        obtain ⟨r5, hr5⟩ : ∃ r, headF s (dl.take k) = r := ⟨_, rfl⟩
        have OK5 := Lib.hid (headF_ok (h := dl.take k) HR.out.sr.ok (hdrng.take k))
        have SL5 := Lib.hid (@headF_len s (dl.take k))
        rw [hr5] at s5 f5 SF OK5 SL5 ⊢
        obtain ⟨s1, ok1⟩ := r5
        have HS5 := Lib.hid s5
        have HF5 := Lib.hid f5
        have HT5 := Lib.hid t5
        have HV5 := Lib.hid v5
        have HB5 := Lib.hid b5
        clear s5 f5 fr5 t5 v5 b5 hr5 CD DK
        cases ok1 with
        | false =>
          have e5 : sheetF s i xf dl = (s1, false) := by rw [SF.out, if_pos rfl]
          rw [e5] at LS
          have E := Lib.hid (LS.out (by first | rfl | trivial))
          obtain ⟨A2, n2, c2, hc0, RR⟩ := Fnd.end_ HB5.out OK5.out.2 HF5.out
          have RR := Lib.hid RR
          clear e5 HS5 HF5 HT5 HV5 HB5 HR HS NX LS
          go_wp2_with fail
          go_ret
          rw [E.out]
          exact RR.out
        | true =>
          have CH := hasFirst_any ⟨xi, xp, xf, xd⟩ W5 HIN.out
          simp only at CH
          rw [HBH.out] at CH
          rw [hkx] at CH
          have CH := Lib.hid CH
          have e5 : sheetF s i xf dl = bodsF s1 (dl.drop k) i := by rw [SF.out, if_neg (by simp)]
          have v53 : W5.cell? ⟨wr.heap.size, 2, none⟩ = some (.int .i64 k) := HV5.out.cell 2
          rw [e5] at NX LS
          have SH6 := HSH.out 0
          rw [e5] at SH6
          have SH6 := Lib.hid SH6
          clear e5 HSH
          go_wp2_with (refine wpList_load_row rfl _ _ rfl _ rfl _ _ _ _ HV5.out Tryd.underlying23 rfl (by kernel_rfl) ?_)
          refine CH.out.mono ?_
          rintro e W6 ⟨rfl, b6⟩
          have hs6 := (HS5.out (by first | rfl | trivial)).stay (w' := W6) (fun q hq => b6.block q hq) b6.size
          have HT6 := Lib.hid (HT5.out.below b6)
          have HB6 := Lib.hid (HB5.out.trans (b6.mono HB5.out.size))
          have HS6 := Lib.hid (hs6.up b6.size (Nat.le_refl _))
          have CP := part_any (some ⟨gd, 0, none⟩) xd.size dc dl W6 HT6.out k xd.size (by omega) (by omega)
          rw [List.take_of_length_le (show (dl.drop k).length ≤ xd.size - k by rw [List.length_drop]; omega)] at CP
          have CP := Lib.hid CP
          clear b6 hs6 CH HS5
          go_wp2_with fail
          refine CP.out.mono ?_
          rintro e W7 ⟨B7, rfl, t7, hw7⟩
          subst hw7
          have CB := Lib.hid (bodies_any w.heap.size W6.heap.size w.heap.size s1 W6 HS6.out (HT.out.ret HB6.out) HT0.out B7 (xd.size - k) (dl.drop k) t7 i (by have h1 : s1.out.length ≤ s.out.length + 1 := SL5.out.2; have := HR.out.num; omega))
          clear t7 CP
          go_wp2_with fail
          refine CB.out.mono ?_
          rintro e W8 ⟨rfl, s8, f8, fr8⟩
          have HB8 := Lib.hid (fr_below HB6.out HB6.out.size fr8)
          obtain ⟨r8, hr8⟩ : ∃ r, bodsF s1 (dl.drop k) i = r := ⟨_, rfl⟩
          rw [hr8] at s8 f8 NX LS SH6 ⊢
          obtain ⟨s2, ok2⟩ := r8
          have HS8 := Lib.hid s8
          have HF8 := Lib.hid f8
          clear s8 f8 fr8 hr8 CB
          cases ok2 with
          | false =>
            have E := Lib.hid (LS.out (by first | rfl | trivial))
            obtain ⟨A2, n2, c2, hc0, RR⟩ := Fnd.end_ HB8.out SH6.out.2 HF8.out
            have RR := Lib.hid RR
            clear HS8 HF8 HB8 HR HS NX LS
            go_wp2_with fail
            go_ret
            rw [E.out]
            exact RR.out
          | true =>
            have N := Lib.hid (NX.out W8 (by first | rfl | trivial) (HS8.out (by first | rfl | trivial)) HB8.out)
            clear HS8 HF8 HB8 HR HS NX LS
            go_wp2_with fail
            go_roundw
            case rel => exact ⟨i + 1, s2, by omega, by go_num, N.out⟩
            case measure => simp [intOf]; omega
      | false =>
        have hin' : ¬ inS xf dl := by have := (key (cutS xf dl) false rfl rfl).2; exact of_decide_eq_false this.symm
        obtain ⟨k, hk⟩ : ∃ k, cutS xf dl = k := ⟨_, rfl⟩
        have hkx : k = xd.size := by rw [← hk]; unfold cutS; rw [if_neg hin']; exact hdlen
        have hkl : k ≤ dl.length := by rw [← hk]; exact cutS_le _ _
        have SF : Hid (sheetF s i xf dl = if (headF s (dl.take k)).2 = false then headF s (dl.take k) else headF s (dl.take k)) := Lib.hid (by unfold sheetF; rw [hk, if_neg hin'])
        subst hkx
        clear hin' hk key
        have CP := part_any (some ⟨gd, 0, none⟩) xd.size dc dl W3 HT3.out 0 xd.size (Nat.zero_le _) (by omega)
        rw [List.drop_zero, Nat.sub_zero] at CP
        have CP := Lib.hid CP
        have hz : ((0 : Nat) : Int) = 0 := rfl
        rw [hz] at CP
        clear hz
        go_wp2_with fail
        refine CP.out.mono ?_
        rintro e W4 ⟨B4, rfl, t4, hw4⟩
        subst hw4
        have CD := Lib.hid (HD.out W3 xd.size hkl HB3.out B4 t4)
        clear t4 CP HD
        go_wp2_with fail
        refine CD.out.mono ?_
        rintro e W5 ⟨rfl, s5, f5, fr5⟩
        obtain ⟨t5, v5, b5⟩ := DK.out W3 W5 fr5 HB3.out HT3.out HV3.out
        obtain ⟨r5, hr5⟩ : ∃ r, headF s (dl.take xd.size) = r := ⟨_, rfl⟩
        have OK5 := Lib.hid (headF_ok (h := dl.take xd.size) HR.out.sr.ok (hdrng.take xd.size))
        have SL5 := Lib.hid (@headF_len s (dl.take xd.size))
        rw [hr5] at s5 f5 SF OK5 SL5 ⊢
        obtain ⟨s1, ok1⟩ := r5
        have HS5 := Lib.hid s5
        have HF5 := Lib.hid f5
        have HT5 := Lib.hid t5
        have HV5 := Lib.hid v5
        have HB5 := Lib.hid b5
        clear s5 f5 fr5 t5 v5 b5 hr5 CD DK
        cases ok1 with
        | false =>
          have e5 : sheetF s i xf dl = (s1, false) := by rw [SF.out, if_pos rfl]
          rw [e5] at LS
          have E := Lib.hid (LS.out (by first | rfl | trivial))
          obtain ⟨A2, n2, c2, hc0, RR⟩ := Fnd.end_ HB5.out OK5.out.2 HF5.out
          have RR := Lib.hid RR
          clear e5 HS5 HF5 HT5 HV5 HB5 HR HS NX LS
          go_wp2_with fail
          go_ret
          rw [E.out]
          exact RR.out
        | true =>
          have CH := hasFirst_any ⟨xi, xp, xf, xd⟩ W5 HIN.out
          simp only at CH
          rw [HBH.out] at CH
          have CH := Lib.hid CH
          have e5 : sheetF s i xf dl = (s1, true) := by rw [SF.out, if_neg (by simp)]
          rw [e5] at NX LS
          clear e5 HSH
          go_wp2_with (refine wpList_load_row rfl _ _ rfl _ rfl _ _ _ _ HV5.out Tryd.underlying23 rfl (by kernel_rfl) ?_)
          refine CH.out.mono ?_
          rintro e W6 ⟨rfl, b6⟩
          have hs6 := (HS5.out (by first | rfl | trivial)).stay (w' := W6) (fun q hq => b6.block q hq) b6.size
          have HB6 := Lib.hid (HB5.out.trans (b6.mono HB5.out.size))
          have N := Lib.hid (NX.out W6 (by first | rfl | trivial) (hs6.up b6.size (Nat.le_refl _)) HB6.out)
          clear b6 hs6 CH HS5 NX LS HR HS HB6
          go_wp2_with fail
          go_roundw
          case rel => exact ⟨i + 1, s1, by omega, by go_num, N.out⟩
          case measure => simp [intOf]; omega
    · have hie : i = n := by omega
      subst hie
      have e : found (l.map Sh.fd) = s.out := by
        rw [HR.out.go, List.drop_of_length_le (by rw [HS.out.len]; exact Nat.le_refl _)]
        rfl
      have E := Lib.hid e
      obtain ⟨A2, n2, c2, hc0, RR⟩ := Fnd.end_ HR.out.bel HR.out.sr.ok.2 HR.out.sr.fnd
      have RR := Lib.hid RR
      clear e HR HS
      go_wp2_with fail
      go_ret
      rw [E.out]
      exact RR.out
end Go.Proofs.YtljpnngknmpdoaaDoor

/- sheet.Lay lays bodies into sheets, or answers the error. -/
namespace Go.Proofs.YtljpnngknmpdoaaDoor
open Go.RowKit

/-- What is laid. -/
def layShs (inc pos : Int) (ls : List (List Int)) : List Sh := (List.range (shN (allL ls).length)).map (fun (i : Nat) => ⟨inc, pos + (i : Int), fstIn (bgns ls) i, strOfNums (partL (allL ls) i)⟩)
def layErr (inc pos : Int) (ls : List (List Int)) : Int :=
  if isSeqB inc = false ∨ isSeqB pos = false then 1 else if ∃ b ∈ ls, 4096 < b.length then 12 else if 1099511627776 < pos + (shN (allL ls).length : Int) then 162 else 0
def layRes (inc pos : Int) (ls : List (List Int)) : List Sh := if layErr inc pos ls = 0 then layShs inc pos ls else []
theorem layShs_fd (inc pos : Int) {ls : List (List Int)} (h : ∀ b ∈ ls, isB b) : (layShs inc pos ls).map Sh.fd = laidL ls := by
  unfold layShs laidL
  rw [List.map_map]
  refine List.map_congr_left (fun i _ => ?_)
  simp only [Function.comp, Sh.fd, laidAt]
  rw [nums_str]
  · rfl
  · exact ((allL_isB h).drop _).take _
theorem layShs_len (inc pos : Int) (ls : List (List Int)) : (layShs inc pos ls).length = shN (allL ls).length := by simp [layShs]
/-- Sheets, and an error beside them. -/
def RetLay (x : Int) (l : List Sh) (w : World) (e : Ending) (w' : World) : Prop := ∃ A n c, e = .returned (.tuple #[.slice A n c, .int .i64 x]) ∧ Shs w' A n c l ∧ Below w.heap.size w w'
theorem Shs.nil (w : World) : Shs w none 0 0 [] := ⟨Flt.nil w 4, rfl, fun x hx => (by cases hx)⟩

/-- A block of N sheets. -/
structure ShRow (w : World) (b N : Nat) (f : Nat → Sh) : Prop where
  bk : ∃ cs, Bk w b 23 cs ∧ cs.size = N * 4 ∧ ∀ i, i < N → ∀ j v, (f i).cells[j]? = some v → cs[i * 4 + j]? = some v
theorem ShRow.cell {w : World} {b N : Nat} {f : Nat → Sh} (h : ShRow w b N f) (i : Nat) (hi : i < N) (j : Nat) (v : Value) (hv : (f i).cells[j]? = some v) : w.cell? ⟨b, i * 4 + j, none⟩ = some v := by
  obtain ⟨cs, h1, h2, h3⟩ := h.bk
  rw [h1.cell]
  exact h3 i hi j v hv
theorem ShRow.frz {w : World} {b N : Nat} {f : Nat → Sh} (h : ShRow w b N f) (k : Nat) : w.frozen? ⟨b, k, none⟩ = false := by
  obtain ⟨cs, h1, _⟩ := h.bk
  exact h1.frz k
theorem ShRow.lt {w : World} {b N : Nat} {f : Nat → Sh} (h : ShRow w b N f) : b < w.heap.size := by
  obtain ⟨cs, h1, _⟩ := h.bk
  exact h1.lt
theorem ShRow.below {w w' : World} {b N : Nat} {f : Nat → Sh} (h : ShRow w b N f) (hb : Below w.heap.size w w') : ShRow w' b N f := by
  obtain ⟨cs, h1, h2⟩ := h.bk
  exact ⟨cs, h1.bel hb h1.lt, h2⟩
theorem cells4 (x : Sh) (j : Nat) (v : Value) (h : x.cells[j]? = some v) : j < 4 := (List.getElem?_eq_some_iff.1 h).1
/-- A sheet is stored. -/
theorem ShRow.put {w : World} {b N : Nat} {f : Nat → Sh} (h : ShRow w b N f) (k : Nat) (hk : k < N) (x : Sh) : ShRow (w.setCells b (k * 4) x.cells) b N (fun i => if i = k then x else f i) := by
  obtain ⟨cs, h1, h2, h3⟩ := h.bk
  have e : w.setCells b (k * 4) x.cells = (((w.setCell ⟨b, k * 4, none⟩ (.int .i64 x.inc)).setCell ⟨b, k * 4 + 1, none⟩ (.int .i64 x.pos)).setCell ⟨b, k * 4 + 1 + 1, none⟩ (.int .i64 x.first)).setCell ⟨b, k * 4 + 1 + 1 + 1, none⟩ (.string x.data) := rfl
  rw [e]
  have g := (((h1.setc (k * 4) (.int .i64 x.inc)).setc (k * 4 + 1) (.int .i64 x.pos)).setc (k * 4 + 1 + 1) (.int .i64 x.first)).setc (k * 4 + 1 + 1 + 1) (.string x.data)
  refine ⟨_, g, by simpa using h2, fun i hi j v hv => ?_⟩
  have hj := cells4 _ j v hv
  simp only [Array.getElem?_setIfInBounds, Array.size_setIfInBounds, h2]
  by_cases hik : i = k
  · subst hik
    rw [if_pos rfl] at hv
    have : j = 0 ∨ j = 1 ∨ j = 2 ∨ j = 3 := by omega
    rcases this with rfl | rfl | rfl | rfl
    all_goals
      simp [Sh.cells] at hv
      subst hv
      repeat (first | rw [if_pos (by omega)] | rw [if_neg (by omega)])
      (try rw [if_pos (by omega)])
  · rw [if_neg hik] at hv
    rw [if_neg (by omega), if_neg (by omega), if_neg (by omega), if_neg (by omega)]
    exact h3 i hi j v hv
/-- A First is stored. -/
theorem ShRow.putFirst {w : World} {b N : Nat} {f : Nat → Sh} (h : ShRow w b N f) (k : Nat) (hk : k < N) (y : Int) : ShRow (w.setCell ⟨b, k * 4 + 2, none⟩ (.int .i64 y)) b N (fun i => if i = k then ⟨(f k).inc, (f k).pos, y, (f k).data⟩ else f i) := by
  obtain ⟨cs, h1, h2, h3⟩ := h.bk
  refine ⟨_, h1.setc (k * 4 + 2) (.int .i64 y), by simpa using h2, fun i hi j v hv => ?_⟩
  have hj := cells4 _ j v hv
  simp only [Array.getElem?_setIfInBounds, h2]
  by_cases hik : i = k
  · subst hik
    rw [if_pos rfl] at hv
    have : j = 0 ∨ j = 1 ∨ j = 2 ∨ j = 3 := by omega
    rcases this with rfl | rfl | rfl | rfl
    · simp [Sh.cells] at hv
      subst hv
      rw [if_neg (by omega)]
      exact h3 i hi 0 _ rfl
    · simp [Sh.cells] at hv
      subst hv
      rw [if_neg (by omega)]
      exact h3 i hi 1 _ rfl
    · simp [Sh.cells] at hv
      subst hv
      rw [if_pos rfl, if_pos (by omega)]
    · simp [Sh.cells] at hv
      subst hv
      rw [if_neg (by omega)]
      exact h3 i hi 3 _ rfl
  · rw [if_neg hik] at hv
    rw [if_neg (by omega)]
    exact h3 i hi j v hv
theorem ShRow.made (w : World) (N : Nat) : ShRow (w.alloc (.cells (madeCells #[.int .i64 0, .int .i64 0, .int .i64 0, .string ByteArray.empty] (N * 4)) 23)) w.heap.size N (fun _ => sh0) := by
  refine ⟨_, Bk.new w _ _, size_madeCells _ _, fun i hi j v hv => ?_⟩
  have hj := cells4 _ j v hv
  unfold madeCells
  rw [Array.getElem?_map]
  have hlt : i * 4 + j < N * 4 := by omega
  simp only [Array.getElem?_range, if_pos hlt, Option.map_some]
  have hm : (i * 4 + j) % 4 = j := by omega
  have : j = 0 ∨ j = 1 ∨ j = 2 ∨ j = 3 := by omega
  have hm' : (i * 4 + j) % (#[Value.int .i64 0, .int .i64 0, .int .i64 0, .string ByteArray.empty] : Array Value).size = j := hm
  rw [hm']
  rcases this with rfl | rfl | rfl | rfl <;> simpa [Sh.cells, sh0] using hv
theorem ShRow.shs {w : World} {b N : Nat} {f : Nat → Sh} (h : ShRow w b N f) (hN : N ≤ 1000000) (l : List Sh) (hl : l.length = N) (hf : ∀ i, i < N → l.getD i sh0 = f i) (hi : ∀ x ∈ l, x.In) : Shs w (some ⟨b, 0, none⟩) N N l := by
  refine ⟨⟨by rw [flatL_len _ 4 Sh.cells_len, hl], Nat.le_refl _, by unfold maxLen; omega, (fun e => nomatch e), fun _ => ⟨b, 0, rfl, fun j v hv => ?_⟩⟩, hl, hi⟩
  have hj : j < l.length * 4 := by rw [← flatL_len Sh.cells 4 Sh.cells_len]; exact (List.getElem?_eq_some_iff.1 hv).1
  have e : j = (j / 4) * 4 + j % 4 := by omega
  rw [e, flatL_get sh0 Sh.cells 4 Sh.cells_len l (j / 4) (j % 4) (by omega) (by omega), hf (j / 4) (by omega)] at hv
  rw [Nat.zero_add, e]
  exact h.cell (j / 4) (by omega) (j % 4) v hv
theorem ShRow.congr {w : World} {b N : Nat} {f g : Nat → Sh} (h : ShRow w b N f) (e : ∀ i, i < N → f i = g i) : ShRow w b N g := by
  obtain ⟨cs, h1, h2, h3⟩ := h.bk
  exact ⟨cs, h1, h2, fun i hi j v hv => h3 i hi j v (by rw [e i hi]; exact hv)⟩

theorem info_shL : (Tryd.prog.info? 23).map (fun i => (i.zero, i.size, i.bytes)) = some (some (.agg #[.int .i64 0, .int .i64 0, .int .i64 0, .string ByteArray.empty]), 4, 40) := by kernel_rfl
theorem make_shs (n : Nat) (hn : n ≤ 1000000) (W : World) : (Instr.makeSlice 39 (.int .i64 (n : Int)) (.int .i64 (n : Int))).run Tryd.prog W =
    .ok (.slice (some ⟨W.heap.size, 0, none⟩) n n) (W.alloc (.cells (madeCells #[.int .i64 0, .int .i64 0, .int .i64 0, .string ByteArray.empty] (n * 4)) 23)) := by
  obtain ⟨i0, hi, hz0, hz1, hz2⟩ := info_parts info_shL
  have := run_make (P := Tryd.prog) W 39 23 i0 _ Tryd.underlying39 hi hz0 .i64 .i64 n n (by omega) (by omega) (by rw [hz2]; omega) (by omega)
  rw [this, hz1, Int.toNat_natCast]
  rfl
end Go.Proofs.YtljpnngknmpdoaaDoor

/- sheet.Lay answers the sheets, or the error, in new memory. -/
namespace Go.Proofs.YtljpnngknmpdoaaDoor
open Go.RowKit

theorem fstIn_snoc (l : List Nat) (b j : Nat) : fstIn (l ++ [b]) j = if fstIn l j = 255 ∧ b / 242 = j then ((b % 242 : Nat) : Int) else fstIn l j := by
  unfold fstIn
  rw [List.find?_append]
  cases hf : l.find? (fun b => b / 242 == j) with
  | some x =>
    have : ((x % 242 : Nat) : Int) ≠ 255 := by have := Nat.mod_lt x (show 242 > 0 by omega); omega
    simp only [Option.some_or]
    rw [if_neg (fun q => this q.1)]
  | none =>
    simp only [Option.none_or, true_and]
    by_cases q : b / 242 = j
    · simp [List.find?, q]
    · have : (b / 242 == j) = false := by simpa using q
      simp [List.find?, this, q]
theorem bgns_len (ls : List (List Int)) : (bgns ls).length = ls.length := by simp [bgns]
theorem bgns_getD (ls : List (List Int)) (i : Nat) (h : i < ls.length) : (bgns ls).getD i 0 = bgn ls i := by simp [List.getD, bgns_get i h]
theorem fstIn_rng (l : List Nat) (j : Nat) : 0 ≤ fstIn l j ∧ fstIn l j ≤ 255 := by
  unfold fstIn
  split
  · rename_i b _
    have := Nat.mod_lt b (show 242 > 0 by omega)
    omega
  · omega
theorem partL_len (l : List Int) (i : Nat) : (partL l i).length ≤ 242 := by unfold partL; rw [List.length_take]; omega

/-- The sheets while they are laid: firsts stand for the first k begins. -/
def shAt (inc pos : Int) (ls : List (List Int)) (k : Nat) (j : Nat) : Sh := ⟨inc, pos + (j : Int), fstIn ((bgns ls).take k) j, strOfNums (partL (allL ls) j)⟩
theorem shAt_all (inc pos : Int) (ls : List (List Int)) (k j : Nat) (hk : ls.length ≤ k) (hj : j < shN (allL ls).length) : (layShs inc pos ls).getD j sh0 = shAt inc pos ls k j := by
  unfold layShs shAt
  rw [List.take_of_length_le (by rw [bgns_len]; exact hk)]
  simp [List.getD, hj]
theorem layShs_in {inc pos : Int} {ls : List (List Int)} (hi : 0 ≤ inc ∧ inc ≤ 1099511627776) (hp : 0 ≤ pos) (hN : pos + (shN (allL ls).length : Int) ≤ 1099511627776) : ∀ x ∈ layShs inc pos ls, x.In := by
  intro x hx
  unfold layShs at hx
  obtain ⟨j, hj, rfl⟩ := List.mem_map.1 hx
  have hj := List.mem_range.1 hj
  have hf := fstIn_rng (bgns ls) j
  have hl := partL_len (allL ls) j
  exact ⟨⟨by simp only; omega, by simp only; omega⟩, ⟨by simp only; omega, by simp only; omega⟩, ⟨by simp only; omega, by simp only; omega⟩, by simp only; rw [str_size]; unfold maxLen; omega⟩

theorem shAt_next (inc pos : Int) (ls : List (List Int)) (k j : Nat) (hk : k < ls.length) : shAt inc pos ls (k + 1) j = if fstIn ((bgns ls).take k) j = 255 ∧ bgn ls k / 242 = j then ⟨(shAt inc pos ls k j).inc, (shAt inc pos ls k j).pos, ((bgn ls k % 242 : Nat) : Int), (shAt inc pos ls k j).data⟩ else shAt inc pos ls k j := by
  unfold shAt
  rw [take_succ_getD (bgns ls) 0 k (by rw [bgns_len]; exact hk), bgns_getD ls k hk, fstIn_snoc]
  split <;> rfl

theorem sh_info4 : (Tryd.prog.info? 23).map (·.size) = some 4 := by kernel_rfl
theorem sh_one4 (x0 x1 x2 : Int) (x3 : ByteArray) : (#[Value.int .i64 x0, .int .i64 x1, .int .i64 x2, .string x3] : Array Value).all (·.oneCell') = true := by simp [Value.oneCell']

set_option maxRecDepth 100000 in
set_option maxHeartbeats 8000000 in
theorem lay_any (inc pos : Int) (A : Option Addr) (n c : Nat) (ls : List (List Int)) (vs : List (Option Addr × Nat × Nat)) (w : World) (h : Bods w A n c ls vs) (hn : n ≤ 1000) (hinc : i64R inc) (hpos : i64R pos) (hT : Tab w) :
    Calls Tryd.prog 15 #[.int .i64 inc, .int .i64 pos, .slice A n c] w (RetLay (layErr inc pos ls) (layRes inc pos ls) w) := by
  have CI := Lib.hid (fun W => isSeq_any inc W hinc)
  have CP := Lib.hid (fun W => isSeq_any pos W hpos)
  have hB := h.isB
  have HB := Lib.hid h
  have HT := Lib.hid hT
  have hlen := h.len
  by_cases hs : isSeqB inc = false ∨ isSeqB pos = false
  · have e1 : layErr inc pos ls = 1 := by unfold layErr; rw [if_pos hs]
    have e2 : layRes inc pos ls = [] := by unfold layRes; rw [e1]; rfl
    rw [e1, e2]
    have RR : Hid (RetLay 1 [] w (.returned (.tuple #[.slice none 0 0, .int .i64 1])) w) := Lib.hid ⟨none, 0, 0, rfl, Shs.nil w, Below.refl _ _⟩
    clear h hT hB e1 e2
    cases h1 : isSeqB inc with
    | false =>
      rw [h1] at CI
      clear hs h1
      go_enter Tryd.func15, Tryd.ntmps15
      go_wp2_with fail
      refine (CI.out _).mono ?_
      rintro e w1 ⟨rfl, rfl⟩
      go_wp2_with fail
      go_ret2
      exact RR.out
    | true =>
      have h2 : isSeqB pos = false := by
        rcases hs with q | q
        · rw [h1] at q; cases q
        · exact q
      rw [h1] at CI
      rw [h2] at CP
      clear hs h1 h2
      go_enter Tryd.func15, Tryd.ntmps15
      go_wp2_with fail
      refine (CI.out _).mono ?_
      rintro e w1 ⟨rfl, rfl⟩
      go_wp2_with fail
      refine (CP.out _).mono ?_
      rintro e w2 ⟨rfl, rfl⟩
      go_wp2_with fail
      go_ret2
      exact RR.out
  · have h1 : isSeqB inc = true := by cases q : isSeqB inc; exact absurd (.inl q) hs; rfl
    have h2 : isSeqB pos = true := by cases q : isSeqB pos; exact absurd (.inr q) hs; rfl
    rw [h1] at CI
    rw [h2] at CP
    have hi2 : 0 ≤ inc ∧ inc ≤ 1099511627775 := of_decide_eq_true h1
    have hp2 : 0 ≤ pos ∧ pos ≤ 1099511627775 := of_decide_eq_true h2
    obtain ⟨P, rfl⟩ := Int.eq_ofNat_of_zero_le hp2.1
    have CJ := Lib.hid (join_any A n c ls vs w h hn hT)
    have ER : layErr inc (P : Int) ls = if ∃ b ∈ ls, 4096 < b.length then 12 else if 1099511627776 < (P : Int) + (shN (allL ls).length : Int) then 162 else 0 := by unfold layErr; rw [if_neg hs]
    have HE := Lib.hid ER
    have HIS := Lib.hid hB
    clear h hT hB hs h1 h2 ER
    obtain ⟨x, hx⟩ : ∃ x, layErr inc (P : Int) ls = x := ⟨_, rfl⟩
    obtain ⟨rl, hrl⟩ : ∃ r, layRes inc (P : Int) ls = r := ⟨_, rfl⟩
    rw [hx, hrl]
    have HX := Lib.hid hx
    have HRL := Lib.hid hrl
    clear hx hrl
    go_enter Tryd.func15, Tryd.ntmps15
    go_wp2_with fail
    refine (CI.out _).mono ?_
    rintro e w1 ⟨rfl, rfl⟩
    go_wp2_with fail
    refine (CP.out _).mono ?_
    rintro e w2 ⟨rfl, rfl⟩
    go_wp2_with fail
    refine CJ.out.mono ?_
    rintro e w3 (⟨hlong, rfl, b3⟩ | ⟨hshort, A1, n1, c1, A2, n2, c2, rfl, ho1, hf2, hn2, b3⟩)
    · have e1 : x = 12 := by rw [← HX.out, HE.out, if_pos hlong]
      have e2 : rl = [] := by rw [← HRL.out]; unfold layRes; rw [HX.out, e1]; rfl
      subst e1 e2
      have RR : Hid (RetLay 12 [] w (.returned (.tuple #[.slice none 0 0, .int .i64 12])) w3) := Lib.hid ⟨none, 0, 0, rfl, Shs.nil _, b3⟩
      clear b3 hlong CJ
      go_wp2_with fail
      go_ret2
      exact RR.out
    · have hno : ¬ ∃ b ∈ ls, 4096 < b.length := fun ⟨b, q1, q2⟩ => by have := hshort b q1; omega
      have hal : (allL ls).length = n1 := by have := ho1.1; simpa using this
      have hal2 := allL_le ls hshort
      have CC := Lib.hid (cut_any A1 n1 c1 (allL ls) w3 (Bty.of_own ho1 (allL_isB HIS.out)) (by omega))
      have hBG := Lib.hid hf2
      have B3 := Lib.hid b3
      have HE2 : Hid (x = if 1099511627776 < (P : Int) + (shN (allL ls).length : Int) then 162 else 0) := Lib.hid (by rw [← HX.out, HE.out, if_neg hno])
      have HSH := Lib.hid hshort
      clear ho1 hf2 b3 hno CJ HE hshort
      go_wp2_with fail
      refine CC.out.mono ?_
      rintro e w4 ⟨A3, n3, c3, us, rfl, hP, b4⟩
      have hn3 : n3 = shN (allL ls).length := by have := hP.len; simp [partsL] at this; exact this.symm
      have hcap3 := hP.flt.cap
      have hmax3 := hP.flt.max
      unfold maxLen at hmax3
      obtain ⟨N, hN⟩ : ∃ N, shN (allL ls).length = N := ⟨_, rfl⟩
      rw [hN] at hn3 HE2
      subst hn3
      have hNb : n3 ≤ 100000 := by rw [← hN]; unfold shN; omega
      have HP := Lib.hid hP
      have B4 := Lib.hid (B3.out.trans (b4.mono B3.out.size))
      have HBG := Lib.hid (hBG.out.below b4)
      have HN := Lib.hid hN
      clear hP b4 hBG CC B3 hN
      by_cases hfull : 1099511627776 < (P : Int) + (n3 : Int)
      · have e1 : x = 162 := by rw [HE2.out, if_pos hfull]
        have e2 : rl = [] := by rw [← HRL.out]; unfold layRes; rw [HX.out, e1]; rfl
        subst e1 e2
        have hgt : 1099511627775 - (P : Int) + 1 < (n3 : Int) := by omega
        have RR : Hid (RetLay 162 [] w (.returned (.tuple #[.slice none 0 0, .int .i64 162])) w4) := Lib.hid ⟨none, 0, 0, rfl, Shs.nil _, B4.out⟩
        clear HP HBG B4
        go_wp2_with fail
        go_ret2
        exact RR.out
      · have e1 : x = 0 := by rw [HE2.out, if_neg hfull]
        have e2 : rl = layShs inc (P : Int) ls := by rw [← HRL.out]; unfold layRes; rw [HX.out, e1]; rfl
        subst e1
        have hgt : ¬ 1099511627775 - (P : Int) + 1 < (n3 : Int) := by omega
        have hmk := make_shs n3 (by omega) w4
        obtain ⟨b, hb⟩ : ∃ b, w4.heap.size = b := ⟨_, rfl⟩
        obtain ⟨W5, hW5⟩ : ∃ W5, W5 = w4.alloc (.cells (madeCells #[.int .i64 0, .int .i64 0, .int .i64 0, .string ByteArray.empty] (n3 * 4)) 23) := ⟨_, rfl⟩
        have hrow := ShRow.made w4 n3
        rw [← hW5] at hmk hrow
        rw [hb] at hmk hrow
        have B5 : Hid (Below w4.heap.size w4 W5) := Lib.hid (by rw [hW5]; exact (Below.refl _ _).alloc (Nat.le_refl _) _)
        have R0 : Hid (ShRow W5 b n3 (fun j => if j < 0 then shAt inc (P : Int) ls 0 j else sh0)) := Lib.hid (hrow.congr (fun i _ => by rw [if_neg (by omega)]))
        have HBB := Lib.hid hb
        have HRL2 := Lib.hid e2
        have HX2 := Lib.hid (layShs_in (inc := inc) (pos := (P : Int)) (ls := ls) ⟨hi2.1, by omega⟩ hp2.1 (by rw [HN.out]; omega))
        clear hW5 hrow hb e2 HE2 HX HRL hfull
        go_wp2_with fail
        go_loopw [48] (fun q wr => ∃ (i : Nat), i ≤ n3 ∧ q = .int .i64 i ∧ ShRow wr b n3 (fun j => if j < i then shAt inc (P : Int) ls 0 j else sh0) ∧ Below w4.heap.size w4 wr) (fun q _ => n3 - (intOf q).toNat)
        case atStart => exact ⟨0, Nat.zero_le _, rfl, R0.out, B5.out⟩
        case round =>
          obtain ⟨i, hin, rfl, hrow, hbel⟩ := hrel
          clear R0 B5 hmk
          by_cases hlt : i < n3
          · obtain ⟨g, off, hA, hc⟩ := (HP.out.below hbel).at_ (by omega)
            subst hA
            obtain ⟨hc0, hby⟩ := hc i hlt
            obtain ⟨B, m, d, hv⟩ : ∃ B m d, us.getD i sl0 = (B, m, d) := ⟨_, _, _, rfl⟩
            rw [hv] at hc0 hby
            rw [parts_get _ _ (by rw [HN.out]; exact hlt)] at hby
            have kc := conv_byt hby
            have ht : wr.there b (i * 4) 4 := fun j hj => by
              have : j = 0 ∨ j = 1 ∨ j = 2 ∨ j = 3 := by omega
              refine ⟨?_, hrow.frz _⟩
              obtain ⟨v, hv⟩ : ∃ v, ((fun j => if j < i then shAt inc (P : Int) ls 0 j else sh0) i).cells[j]? = some v := ⟨_, List.getElem?_eq_getElem (by rw [Sh.cells_len]; exact hj)⟩
              rw [hrow.cell i hlt j v hv]
              rfl
            have RP : Hid (ShRow (wr.setCells b (i * 4) (shAt inc (P : Int) ls 0 i).cells) b n3 (fun j => if j < i + 1 then shAt inc (P : Int) ls 0 j else sh0)) := Lib.hid ((hrow.put i hlt (shAt inc (P : Int) ls 0 i)).congr (fun j hj => by
              by_cases q : j = i
              · subst q; rw [if_pos rfl, if_pos (by omega)]
              · rw [if_neg q]
                by_cases q2 : j < i
                · rw [if_pos q2, if_pos (by omega)]
                · rw [if_neg q2, if_neg (by omega)]))
            have RB : Hid (Below w4.heap.size w4 (wr.setCells b (i * 4) (shAt inc (P : Int) ls 0 i).cells)) := Lib.hid (by
              have hbb := HBB.out
              exact (((hbel.setCell (p := ⟨b, i * 4, none⟩) (show w4.heap.size ≤ b by omega) _).setCell (p := ⟨b, i * 4 + 1, none⟩) (show w4.heap.size ≤ b by omega) _).setCell (p := ⟨b, i * 4 + 1 + 1, none⟩) (show w4.heap.size ≤ b by omega) _).setCell (p := ⟨b, i * 4 + 1 + 1 + 1, none⟩) (show w4.heap.size ≤ b by omega) _)
            clear hc hv hby
            go_wp2_with (refine wpList_store_mid rfl _ _ _ rfl b (i * 4) #[.int .i64 inc, .int .i64 ((P : Int) + (i : Int)), .int .i64 255, .string (strOfNums (partL (allL ls) i))] rfl rfl ht sh_info4 (sh_one4 _ _ _ _) ?_)
            have RP2 := Lib.hid (show ShRow (wr.setCells b (i * 4) [.int .i64 inc, .int .i64 ((P : Int) + (i : Int)), .int .i64 255, .string (strOfNums (partL (allL ls) i))]) b n3 (fun j => if j < i + 1 then shAt inc (P : Int) ls 0 j else sh0) ∧ Below w4.heap.size w4 (wr.setCells b (i * 4) [.int .i64 inc, .int .i64 ((P : Int) + (i : Int)), .int .i64 255, .string (strOfNums (partL (allL ls) i))]) from ⟨RP.out, RB.out⟩)
            clear RP RB ht kc hrow hbel hc0
            go_wp2_with fail
            go_roundw
            case rel => exact ⟨i + 1, by omega, by go_num, RP2.out.1, RP2.out.2⟩
            case measure => simp [intOf]; omega
          · have hie : i = n3 := by omega
            subst hie
            have R1 := Lib.hid (show ShRow wr b i (shAt inc (P : Int) ls 0) from hrow.congr (fun j hj => by rw [if_pos hj]))
            have B1 := Lib.hid hbel
            clear hrow hbel HP
            go_wp2_with fail
            go_loopw [66] (fun q wr => ∃ (k : Nat), k ≤ n ∧ q = .int .i64 k ∧ ShRow wr b i (shAt inc (P : Int) ls k) ∧ Below w4.heap.size w4 wr) (fun q _ => n - (intOf q).toNat)
            case atStart => exact ⟨0, Nat.zero_le _, rfl, R1.out, B1.out⟩
            case round =>
              obtain ⟨k, hkn, rfl, hrow, hbel⟩ := hrel
              clear R1 B1
              by_cases hlt : k < n
              · obtain ⟨g, off, hA, hc⟩ := (HBG.out.below hbel).at_get 0 intV intV_len (by rw [bgns_len, hn2]) (by omega)
                subst hA
                have hkl : k < ls.length := by omega
                have hc0 : wr.cell? ⟨g, off + k, none⟩ = some (.int .i64 ((bgn ls k : Nat) : Int)) := by
                  have := hc k (by omega) 0 _ rfl
                  rw [bgns_getD ls k hkl] at this
                  simpa using this
                have hlt2 : bgn ls k < (allL ls).length := by rw [← bgn_end (Nat.le_refl ls.length)]; exact bgn_smono hkl (Nat.le_refl _)
                have hSN := shAt_next inc (P : Int) ls k
                obtain ⟨bb, hbb⟩ : ∃ x, bgn ls k = x := ⟨_, rfl⟩
                rw [hbb] at hc0 hlt2
                obtain ⟨q, hq⟩ : ∃ q, bb / 242 = q := ⟨_, rfl⟩
                obtain ⟨r, hr⟩ : ∃ r, bb % 242 = r := ⟨_, rfl⟩
                have hq1 : (bb : Int) / 242 = (q : Int) := by omega
                have hq2 : (bb : Int).tdiv 242 = (q : Int) := by rw [Int.tdiv_eq_ediv_of_nonneg (by omega)]; exact hq1
                have hr1 : (bb : Int) % 242 = (r : Int) := by omega
                have hr2 : (bb : Int).tmod 242 = (r : Int) := by rw [Int.tmod_eq_emod_of_nonneg (by omega)]; exact hr1
                have hqi : q < i := by rw [← HN.out]; unfold shN; omega
                have hbb2 : bb < 100000000 := by omega
                have hcf : wr.cell? ⟨b, q * 4 + 2, none⟩ = some (.int .i64 (fstIn ((bgns ls).take k) q)) := hrow.cell q hqi 2 _ rfl
                have hff := hrow.frz (q * 4 + 2)
                obtain ⟨f, hf⟩ : ∃ f, fstIn ((bgns ls).take k) q = f := ⟨_, rfl⟩
                rw [hf] at hcf
                by_cases h255 : f = 255
                · subst h255
                  have NR : Hid (ShRow (wr.setCell ⟨b, q * 4 + 2, none⟩ (.int .i64 (r : Int))) b i (shAt inc (P : Int) ls (k + 1)) ∧ Below w4.heap.size w4 (wr.setCell ⟨b, q * 4 + 2, none⟩ (.int .i64 (r : Int)))) := Lib.hid ⟨(hrow.putFirst q hqi (r : Int)).congr (fun j hj => by
                    rw [hSN j hkl, hbb, hq, hr]
                    by_cases e : j = q
                    · subst e
                      rw [if_pos rfl, if_pos ⟨hf, rfl⟩]
                    · rw [if_neg e, if_neg (fun e2 => e e2.2.symm)]), hbel.setCell (p := ⟨b, q * 4 + 2, none⟩) (show w4.heap.size ≤ b by have := HBB.out; omega) _⟩
                  clear hrow hbel hc hSN hq hr hbb hf
                  go_wp2_with fail
                  go_roundw
                  case rel => exact ⟨k + 1, by omega, by go_num, NR.out.1, NR.out.2⟩
                  case measure => simp [intOf]; omega
                · have hne : (f == 255) = false := by simp; exact h255
                  have NR : Hid (ShRow wr b i (shAt inc (P : Int) ls (k + 1)) ∧ Below w4.heap.size w4 wr) := Lib.hid ⟨hrow.congr (fun j hj => by
                    rw [hSN j hkl, hbb, hq, hr]
                    rw [if_neg (fun e2 => h255 (by rw [← hf, e2.2]; exact e2.1))]), hbel⟩
                  clear hrow hbel hc hSN hq hr hbb hf h255
                  go_wp2_with fail
                  go_roundw
                  case rel => exact ⟨k + 1, by omega, by go_num, NR.out.1, NR.out.2⟩
                  case measure => simp [intOf]; omega
              · have hke : k = n := by omega
                have RR : Hid (RetLay 0 rl w (.returned (.tuple #[.slice (some ⟨b, 0, none⟩) i i, .int .i64 0])) wr) := Lib.hid ⟨some ⟨b, 0, none⟩, i, i, rfl, by
                  rw [HRL2.out]
                  exact hrow.shs (by omega) _ (by rw [layShs_len, HN.out]) (fun j hj => shAt_all inc (P : Int) ls k j (by omega) (by rw [HN.out]; exact hj)) HX2.out, B4.out.trans (hbel.mono B4.out.size)⟩
                clear hrow hbel HBG B4 HX2 HRL2
                go_wp2_with fail
                go_ret2
                exact RR.out
end Go.Proofs.YtljpnngknmpdoaaDoor

/- trothref08.Same, SameFound and the statements' bodies say yes of what reads as the same. -/
namespace Go.Proofs.YtljpnngknmpdoaaDoor
open Go.RowKit

theorem Flt.none_ {w : World} {A : Option Addr} {c k : Nat} {vs : List Value} (h : Flt w A 0 c k vs) : vs = [] := List.eq_nil_of_length_eq_zero (by rw [h.len]; simp)

set_option maxRecDepth 100000 in
set_option maxHeartbeats 4000000 in
theorem sameS_yes (A : Option Addr) (n c : Nat) (A' : Option Addr) (n' c' : Nat) (l : List Sh) (w : World) (h : Shs w A n c l) (h' : Shs w A' n' c' l) :
    Calls Tryd.prog 18 #[.slice A n c, .slice A' n' c'] w (Quiet (.bool true) w) := by
  obtain rfl : n' = n := by rw [← h.len, ← h'.len]
  have hcap := h.flt.cap
  have hmax := h.flt.max
  unfold maxLen at hmax
  by_cases hn : 0 < n'
  · obtain ⟨g, off, rfl, hc⟩ := h.flt.at_get sh0 Sh.cells Sh.cells_len h.len hn
    obtain ⟨g', off', rfl, hc'⟩ := h'.flt.at_get sh0 Sh.cells Sh.cells_len h'.len hn
    have HC := Lib.hid hc
    have HC' := Lib.hid hc'
    clear h h' hc hc'
    go_enter Tryd.func18, Tryd.ntmps18
    go_wp2
    go_loopw [5] (fun i wr => ∃ k : Nat, k ≤ n' ∧ i = .int .i64 k ∧ ∃ m, wr = w.drewN m) (fun i _ => n' - (intOf i).toNat)
    case atStart => exact ⟨0, Nat.zero_le _, rfl, 0, rfl⟩
    case round =>
      obtain ⟨k, hk, rfl, m, rfl⟩ := hrel
      by_cases hlt : k < n'
      · have a := HC.out k hlt
        have b := HC'.out k hlt
        obtain ⟨x, hx⟩ : ∃ x, l.getD k sh0 = x := ⟨_, rfl⟩
        rw [hx] at a b
        obtain ⟨xi, xp, xf, xd⟩ := x
        have a0 : w.cell? ⟨g, off + k * 4, none⟩ = some (.int .i64 xi) := a 0 _ rfl
        have a1 := a 1 _ rfl
        have a2 := a 2 _ rfl
        have a3 := a 3 _ rfl
        have b0 : w.cell? ⟨g', off' + k * 4, none⟩ = some (.int .i64 xi) := b 0 _ rfl
        have b1 := b 1 _ rfl
        have b2 := b 2 _ rfl
        have b3 := b 3 _ rfl
        clear a b hx
        go_wp2
        go_quiet (fail)
        go_wp2
        go_roundw
        case rel => exact ⟨k + 1, by omega, by go_num, _, rfl⟩
        case measure => simp [intOf]; omega
      · have hkn : k = n' := by omega
        subst hkn
        go_wp2
        go_ret
        exact ⟨rfl, _, rfl⟩
  · have h0 : n' = 0 := by omega
    subst h0
    clear h h' hn
    go_enter Tryd.func18, Tryd.ntmps18
    go_wp2
    refine wp_loop_rounds 1 ?_
    rw [rounds_succ]
    go_wp2_with fail
    go_ret
    exact ⟨rfl, 0, rfl⟩

/-- What was found, in memory. -/
structure Fnds (w : World) (A : Option Addr) (n c : Nat) (out : List (List Int × Int)) : Prop where
  flt : Flt w A n c 2 (out.flatMap fndC)
  len : out.length = n
def fd0 : List Int × Int := ([], 0)
theorem Fnds.below {w w' : World} {A : Option Addr} {n c : Nat} {out : List (List Int × Int)} (h : Fnds w A n c out) (hb : Below w.heap.size w w') : Fnds w' A n c out := ⟨h.flt.below hb, h.len⟩

set_option maxRecDepth 100000 in
set_option maxHeartbeats 4000000 in
theorem sameF_yes (A : Option Addr) (n c : Nat) (A' : Option Addr) (n' c' : Nat) (l : List (List Int × Int)) (w : World) (h : Fnds w A n c l) (h' : Fnds w A' n' c' l) :
    Calls Tryd.prog 19 #[.slice A n c, .slice A' n' c'] w (Quiet (.bool true) w) := by
  obtain rfl : n' = n := by rw [← h.len, ← h'.len]
  have hcap := h.flt.cap
  have hmax := h.flt.max
  unfold maxLen at hmax
  by_cases hn : 0 < n'
  · obtain ⟨g, off, rfl, hc⟩ := h.flt.at_get fd0 fndC fndC_len h.len hn
    obtain ⟨g', off', rfl, hc'⟩ := h'.flt.at_get fd0 fndC fndC_len h'.len hn
    have HC := Lib.hid hc
    have HC' := Lib.hid hc'
    clear h h' hc hc'
    go_enter Tryd.func19, Tryd.ntmps19
    go_wp2
    go_loopw [5] (fun i wr => ∃ k : Nat, k ≤ n' ∧ i = .int .i64 k ∧ ∃ m, wr = w.drewN m) (fun i _ => n' - (intOf i).toNat)
    case atStart => exact ⟨0, Nat.zero_le _, rfl, 0, rfl⟩
    case round =>
      obtain ⟨k, hk, rfl, m, rfl⟩ := hrel
      by_cases hlt : k < n'
      · have a := HC.out k hlt
        have b := HC'.out k hlt
        obtain ⟨x, hx⟩ : ∃ x, l.getD k fd0 = x := ⟨_, rfl⟩
        rw [hx] at a b
        obtain ⟨xs, hs⟩ : ∃ s, strOfNums x.1 = s := ⟨_, rfl⟩
        have a0 : w.cell? ⟨g, off + k * 2, none⟩ = some (.string xs) := by rw [← hs]; exact a 0 _ rfl
        have a1 := a 1 _ rfl
        have b0 : w.cell? ⟨g', off' + k * 2, none⟩ = some (.string xs) := by rw [← hs]; exact b 0 _ rfl
        have b1 := b 1 _ rfl
        clear a b hx hs
        go_wp2
        go_quiet (fail)
        go_wp2
        go_roundw
        case rel => exact ⟨k + 1, by omega, by go_num, _, rfl⟩
        case measure => simp [intOf]; omega
      · have hkn : k = n' := by omega
        subst hkn
        go_wp2
        go_ret
        exact ⟨rfl, _, rfl⟩
  · have h0 : n' = 0 := by omega
    subst h0
    clear h h' hn
    go_enter Tryd.func19, Tryd.ntmps19
    go_wp2
    refine wp_loop_rounds 1 ?_
    rw [rounds_succ]
    go_wp2_with fail
    go_ret
    exact ⟨rfl, 0, rfl⟩

set_option maxRecDepth 100000 in
set_option maxHeartbeats 4000000 in
theorem bodies_yes (A : Option Addr) (n c : Nat) (A' : Option Addr) (n' c' : Nat) (l : List (List Int × Int)) (ls : List (List Int)) (vs : List (Option Addr × Nat × Nat)) (w : World) (h : Fnds w A n c l) (h' : Bods w A' n' c' ls vs) (e : l.map Prod.fst = ls) :
    Calls Tryd.prog 22 #[.slice A n c, .slice A' n' c'] w (Quiet (.bool true) w) := by
  obtain rfl : n' = n := by rw [← h.len, ← h'.len, ← e]; simp
  have hcap := h.flt.cap
  have hmax := h.flt.max
  unfold maxLen at hmax
  by_cases hn : 0 < n'
  · obtain ⟨g, off, rfl, hc⟩ := h.flt.at_get fd0 fndC fndC_len h.len hn
    obtain ⟨g', off', rfl, hc'⟩ := h'.at_ hn
    have HC := Lib.hid hc
    have HC' := Lib.hid hc'
    have HE : Hid (∀ k, k < n' → ls.getD k [] = (l.getD k fd0).1) := Lib.hid (fun k hk => by
      rw [← e]
      have : k < l.length := by rw [h.len]; exact hk
      simp [List.getD, List.getElem?_eq_getElem this])
    clear h h' hc hc' e
    go_enter Tryd.func22, Tryd.ntmps22
    go_wp2
    go_loopw [5] (fun i wr => ∃ k : Nat, k ≤ n' ∧ i = .int .i64 k ∧ ∃ m, wr = w.drewN m) (fun i _ => n' - (intOf i).toNat)
    case atStart => exact ⟨0, Nat.zero_le _, rfl, 0, rfl⟩
    case round =>
      obtain ⟨k, hk, rfl, m, rfl⟩ := hrel
      by_cases hlt : k < n'
      · have a := HC.out k hlt
        obtain ⟨b0, b1⟩ := HC'.out k hlt
        rw [HE.out k hlt] at b1
        obtain ⟨x, hx⟩ : ∃ x, l.getD k fd0 = x := ⟨_, rfl⟩
        rw [hx] at a b1
        obtain ⟨B, mm, d, hv⟩ : ∃ B m d, vs.getD k sl0 = (B, m, d) := ⟨_, _, _, rfl⟩
        rw [hv] at b0 b1
        simp only at b0 b1
        obtain ⟨xs, hs⟩ : ∃ s, strOfNums x.1 = s := ⟨_, rfl⟩
        have a0 : w.cell? ⟨g, off + k * 2, none⟩ = some (.string xs) := by rw [← hs]; exact a 0 _ rfl
        have kc : ∀ q, (convert 24 9 (.slice B mm d)).run Tryd.prog (w.drewN q) = .ok (.string xs) (w.drewN q) := fun q => by rw [← hs]; exact conv_byt (b1.drewN q)
        clear a hx hs b1 hv
        go_wp2
        go_quiet (fail)
        go_wp2
        go_roundw
        case rel => exact ⟨k + 1, by omega, by go_num, _, rfl⟩
        case measure => simp [intOf]; omega
      · have hkn : k = n' := by omega
        subst hkn
        go_wp2
        go_ret
        exact ⟨rfl, _, rfl⟩
  · have h0 : n' = 0 := by omega
    subst h0
    clear h h' hn
    go_enter Tryd.func22, Tryd.ntmps22
    go_wp2
    refine wp_loop_rounds 1 ?_
    rw [rounds_succ]
    go_wp2_with fail
    go_ret
    exact ⟨rfl, 0, rfl⟩
end Go.Proofs.YtljpnngknmpdoaaDoor

/- the statements' ended tells how many bodies end in the first sheets. -/
namespace Go.Proofs.YtljpnngknmpdoaaDoor
open Go.RowKit

theorem sealL_size (b : List Int) (h : b.length ≤ 1500) : (sealL b).length = b.length + 5 + if 127 < b.length then 1 else 0 := by
  have e : (shortL b.length).length = 1 + if 127 < b.length then 1 else 0 := by
    unfold shortL
    by_cases q : 127 < b.length
    · rw [if_pos q]
      obtain ⟨k, hk⟩ : ∃ k, b.length / 128 = k + 1 := ⟨b.length / 128 - 1, by omega⟩
      have h0 : (k + 1) / 128 = 0 := by omega
      rw [hk, hiD]
      simp [hiD, h0]
    · rw [if_neg q]
      have h0 : b.length / 128 = 0 := by omega
      rw [h0, hiD]
      simp
  rw [sealL_len]
  unfold textL
  rw [List.length_append, e]
  split <;> omega

set_option maxRecDepth 100000 in
set_option maxHeartbeats 4000000 in
theorem ended_any (A : Option Addr) (n c : Nat) (ls : List (List Int)) (vs : List (Option Addr × Nat × Nat)) (w : World) (h : Bods w A n c ls vs) (hn : n ≤ 1000) (hl : ∀ b ∈ ls, b.length ≤ 1500) (k : Nat) (hk : k ≤ 1000000) :
    Calls Tryd.prog 23 #[.slice A n c, .int .i64 k] w (fun e w' => ∃ j : Nat, e = .returned (.int .i64 j) ∧ endsIn ls k j ∧ w = w') := by
  have hcap := h.flt.cap
  have hmax := h.flt.max
  unfold maxLen at hmax
  have HB := Lib.hid h
  have HL := Lib.hid hl
  have hlen := h.len
  clear h hl
  go_enter Tryd.func23, Tryd.ntmps23
  go_wp2_with fail
  go_loopw [5, 6] (fun y q wr => ∃ (i : Nat), i ≤ n ∧ y = .int .i64 ((bgn ls i : Nat) : Int) ∧ q = .int .i64 i ∧ bgn ls i ≤ 242 * k ∧ wr = w) (fun _ q _ => n - (intOf q).toNat)
  case atStart => exact ⟨0, Nat.zero_le _, by rw [bgn_zero]; rfl, rfl, by rw [bgn_zero]; omega, rfl⟩
  case round =>
    obtain ⟨i, hin, rfl, rfl, hle, rfl⟩ := hrel
    by_cases hlt : i < n
    · obtain ⟨g, off, hA, hc⟩ := HB.out.at_ (by omega)
      subst hA
      obtain ⟨hx, hby⟩ := hc i hlt
      obtain ⟨B, m, d, hv⟩ : ∃ B m d, vs.getD i sl0 = (B, m, d) := ⟨_, _, _, rfl⟩
      rw [hv] at hx hby
      have hbm := hby.len
      simp only at hbm hx
      have hil : i < ls.length := by rw [hlen]; exact hlt
      have hbmem : ls.getD i [] ∈ ls := by
        have e : ls.getD i [] = ls[i] := by simp [List.getD, List.getElem?_eq_getElem hil]
        rw [e]
        exact List.getElem_mem hil
      have hbl := HL.out _ hbmem
      have hnx := bgn_next hil
      rw [sealL_size _ hbl, hbm] at hnx
      obtain ⟨a, ha⟩ : ∃ a, bgn ls i = a := ⟨_, rfl⟩
      obtain ⟨a2, ha2⟩ : ∃ a, bgn ls (i + 1) = a := ⟨_, rfl⟩
      rw [ha, ha2] at hnx
      rw [ha] at hle ⊢
      have HE := Lib.hid ha
      have HE2 := Lib.hid ha2
      rw [hbm] at hbl
      clear hby hv hbm hbmem ha ha2 hc
      by_cases hm : 127 < m
      · rw [if_pos hm] at hnx
        have hm' : (127 : Int) < (m : Int) := by omega
        clear hm
        by_cases hgo : a2 ≤ 242 * k
        · have hgo' : ¬ (242 * (k : Int) < (a : Int) + ((m : Int) + 5) + 1) := by omega
          go_wp2_with fail
          go_roundw
          case rel => exact ⟨i + 1, by omega, by rw [HE2.out, hnx]; go_num, by go_num, by rw [HE2.out]; exact hgo, trivial⟩
          case measure => simp [intOf]; omega
        · have hgo' : 242 * (k : Int) < (a : Int) + ((m : Int) + 5) + 1 := by omega
          have EI : Hid (endsIn ls k i) := Lib.hid ⟨by omega, by rw [HE.out]; exact hle, fun _ => by rw [HE2.out]; omega⟩
          clear hgo hnx
          go_wp2_with fail
          go_ret
          exact ⟨i, rfl, EI.out, rfl⟩
      · rw [if_neg hm] at hnx
        have hm' : ¬ (127 : Int) < (m : Int) := by omega
        clear hm
        by_cases hgo : a2 ≤ 242 * k
        · have hgo' : ¬ (242 * (k : Int) < (a : Int) + ((m : Int) + 5)) := by omega
          go_wp2_with fail
          go_roundw
          case rel => exact ⟨i + 1, by omega, by rw [HE2.out, hnx]; go_num, by go_num, by rw [HE2.out]; exact hgo, trivial⟩
          case measure => simp [intOf]; omega
        · have hgo' : 242 * (k : Int) < (a : Int) + ((m : Int) + 5) := by omega
          have EI : Hid (endsIn ls k i) := Lib.hid ⟨by omega, by rw [HE.out]; exact hle, fun _ => by rw [HE2.out]; omega⟩
          clear hgo hnx
          go_wp2_with fail
          go_ret
          exact ⟨i, rfl, EI.out, rfl⟩
    · have EI : Hid (endsIn ls k i) := Lib.hid ⟨by omega, hle, fun q => absurd q (by omega)⟩
      go_wp2_with fail
      go_ret
      exact ⟨i, rfl, EI.out, rfl⟩
end Go.Proofs.YtljpnngknmpdoaaDoor

/- trothlaw08.awake answers true. -/
namespace Go.Proofs.YtljpnngknmpdoaaDoor
open Go.RowKit

/-- So many noughts, as a body. -/
def zb (n : Nat) : List Int := List.replicate n 0
theorem zb_len (n : Nat) : (zb n).length = n := by simp [zb]
theorem zb_isB (n : Nat) : isB (zb n) := fun x hx => by
  have := (List.mem_replicate.1 hx).2
  omega
theorem noughts_byt (n : Nat) (W : World) (t : TypeId) (hn : n ≤ 1000000) : Byt (W.alloc (.cells (noughts n) t)) (some ⟨W.heap.size, 0, none⟩) n n (zb n) :=
  Byt.of_bk (Bk.new W t _) 0 n n (zb n) (zb_len n) (Nat.le_refl _) (by unfold maxLen; omega) (zb_isB n) (fun i hi => by
    rw [Nat.zero_add]
    unfold noughts madeCells
    simp [zb, hi, Nat.mod_one])
/-- One body of noughts, in a slice of its own. -/
theorem zbods (n : Nat) (W : World) (hn : n ≤ 1000000) : Bods ((W.alloc (.cells (noughts n) 5)).alloc (.cells #[.slice (some ⟨W.heap.size, 0, none⟩) n n] 24)) (some ⟨W.heap.size + 1, 0, none⟩) 1 1 [zb n] [(some ⟨W.heap.size, 0, none⟩, n, n)] := by
  refine ⟨⟨rfl, Nat.le_refl _, by unfold maxLen; omega, (fun e => nomatch e), fun _ => ⟨W.heap.size + 1, 0, rfl, fun j v hv => ?_⟩⟩, rfl, rfl, fun i hi => ?_⟩
  · have h := Bk.new (W.alloc (.cells (noughts n) 5)) 24 #[.slice (some ⟨W.heap.size, 0, none⟩) n n]
    rw [World.size_alloc] at h
    rw [h.cell, Nat.zero_add]
    simpa [slV] using hv
  · obtain rfl : i = 0 := by omega
    exact (noughts_byt n W _ hn).alloc _
theorem zbods_below (n : Nat) (W : World) : Below W.heap.size W ((W.alloc (.cells (noughts n) 5)).alloc (.cells #[.slice (some ⟨W.heap.size, 0, none⟩) n n] 24)) :=
  ((Below.refl _ _).alloc (Nat.le_refl _) _).alloc (by simp) _

theorem zb_all : (allL [zb 300]).length = 306 := by
  have : allL [zb 300] = sealL (zb 300) := by simp [allL]
  rw [this, sealL_size _ (by rw [zb_len]; omega), zb_len]
  rfl
theorem zb_err : layErr 1 7 [zb 300] = 0 := by
  unfold layErr
  rw [zb_all, if_neg (by rintro (h | h) <;> cases h), if_neg (by rintro ⟨b, hb, h⟩; simp at hb; subst hb; rw [zb_len] at h; omega), if_neg (by unfold shN; omega)]
theorem zb_two : shN (allL [zb 300]).length = 2 := by rw [zb_all]; rfl
theorem zb_f0 : fstIn (bgns [zb 300]) 0 = 0 := by rw [fst_is (bs := [zb 300]) (j := 0) (by simp) (by rw [bgn_zero]) (fun m hm => absurd hm (by omega)), bgn_zero]; rfl
theorem zb_f1 : fstIn (bgns [zb 300]) 1 = 255 := fst_none (fun k hk => by
  have : k = 0 := by simpa using hk
  subst this
  rw [bgn_zero]
  omega)

set_option maxRecDepth 100000 in
set_option maxHeartbeats 4000000 in
theorem awake8 (w : World) (hT : Tab w) : Calls Tryd.prog 8 #[] w (Ret (.bool true) w) := by
  have hmk : (Instr.makeSlice 24 (.int .i64 300) (.int .i64 300)).run Tryd.prog w = .ok (.slice (some ⟨w.heap.size, 0, none⟩) 300 300) (w.alloc (.cells (noughts 300) 5)) := make_bytes 300 (by omega) w
  have C1 := lay_any 1 7 _ 1 1 [zb 300] _ _ (zbods 300 w (by omega)) (by omega) ⟨by omega, by omega⟩ ⟨by omega, by omega⟩ (hT.ret (zbods_below 300 w))
  rw [zb_err] at C1
  have C1 := Lib.hid C1
  have B0 := Lib.hid (zbods_below 300 w)
  have HT := Lib.hid hT
  clear hT
  go_enter Tryd.func8, Tryd.ntmps8
  go_wp2_with fail
  refine C1.out.mono ?_
  rintro e w1 ⟨A1, n1, c1, rfl, hS, b1⟩
  have hres : layRes 1 7 [zb 300] = layShs 1 7 [zb 300] := by unfold layRes; rw [zb_err]; rfl
  rw [hres] at hS
  have hn1 : n1 = 2 := by rw [← hS.len, layShs_len, zb_two]
  subst hn1
  have B1 := Lib.hid (B0.out.trans (b1.mono B0.out.size))
  have C2 := Lib.hid (find_any A1 2 c1 _ w1 hS (by omega) (fun x hx => by
    unfold layShs at hx
    obtain ⟨j, hj, rfl⟩ := List.mem_map.1 hx
    simp only
    rw [str_size]
    exact partL_len _ _) (HT.out.ret B1.out))
  have HS := Lib.hid hS
  have hcap := hS.flt.cap
  have hmax := hS.flt.max
  unfold maxLen at hmax
  clear hS b1 C1 hres hmk
  go_wp2_with fail
  refine C2.out.mono ?_
  rintro e w2 ⟨A2, n2, c2, rfl, hF, hl2, ok2, b2⟩
  rw [layShs_fd 1 7 (fun b hb => by simp at hb; subst hb; exact zb_isB 300)] at hF hl2 ok2
  have hall := found_all (bs := [zb 300]) (fun b hb => by simp at hb; subst hb; exact ⟨zb_isB 300, by rw [zb_len]; omega⟩)
  obtain ⟨y, hy⟩ : ∃ y, found (laidL [zb 300]) = [y] := by
    cases hq : found (laidL [zb 300]) with
    | nil => rw [hq] at hall; simp at hall
    | cons a r =>
      rw [hq] at hall
      simp at hall
      exact ⟨a, by rw [hall.2]⟩
  rw [hy] at hF hl2 hall
  have hn2 : n2 = 1 := by simpa using hl2.symm
  subst hn2
  have hy1 : y.1 = zb 300 := by simpa using hall
  obtain ⟨g2, off2, rfl, hc2⟩ := hF.at_get fd0 fndC fndC_len rfl (by omega)
  have d0 : w2.cell? ⟨g2, off2, none⟩ = some (.string (strOfNums (zb 300))) := by
    have := hc2 0 (by omega) 0 _ rfl
    simpa [hy1] using this
  obtain ⟨zs, hzs⟩ : ∃ s, strOfNums (zb 300) = s := ⟨_, rfl⟩
  have hzl : zs.size = 300 := by rw [← hzs, str_size, zb_len]
  rw [hzs] at d0
  have S2 := HS.out.below b2
  obtain ⟨g1, off1, rfl, hc1⟩ := S2.flt.at_get sh0 Sh.cells Sh.cells_len S2.len (by omega)
  have e0 : (layShs 1 7 [zb 300]).getD 0 sh0 = shAt 1 7 [zb 300] 1 0 := shAt_all 1 7 _ 1 0 (by simp) (by rw [zb_two]; omega)
  have e1 : (layShs 1 7 [zb 300]).getD 1 sh0 = shAt 1 7 [zb 300] 1 1 := shAt_all 1 7 _ 1 1 (by simp) (by rw [zb_two]; omega)
  have htk : (bgns [zb 300]).take 1 = bgns [zb 300] := List.take_of_length_le (by rw [bgns_len]; simp)
  have a0 : w2.cell? ⟨g1, off1 + 2, none⟩ = some (.int .i64 0) := by
    have := hc1 0 (by omega) 2 _ rfl
    rw [e0] at this
    unfold shAt at this
    rw [htk] at this
    simp only [Nat.zero_mul, Nat.add_zero] at this
    rw [zb_f0] at this
    exact this
  have a1 : w2.cell? ⟨g1, off1 + 4 + 2, none⟩ = some (.int .i64 255) := by
    have := hc1 1 (by omega) 2 _ rfl
    rw [e1] at this
    unfold shAt at this
    rw [htk] at this
    simp only [Nat.one_mul] at this
    rw [zb_f1] at this
    exact this
  have a2 : w2.cell? ⟨g1, off1 + 4 + 1, none⟩ = some (.int .i64 8) := by
    have := hc1 1 (by omega) 1 (.int .i64 8) (by rw [e1]; rfl)
    simpa using this
  have hcap2 := hF.cap
  have hmax2 := hF.max
  unfold maxLen at hmax2
  have B2 := Lib.hid (B1.out.trans (b2.mono B1.out.size))
  clear hF hl2 ok2 b2 hall hy hy1 hc2 hzs S2 hc1 e0 e1 htk HS B1 C2
  go_wp2_with fail
  go_ret
  refine ⟨?_, B2.out⟩
  simp [hzl]
end Go.Proofs.YtljpnngknmpdoaaDoor

/- what a row's step wants of arguments that are numbers or slices of bytes: how they read, and how long they are. No condition. -/
namespace Go.Proofs.YtljpnngknmpdoaaDoor
open Go.ChangeShapes Go.WideShapes Go.ChangeAt Go.RowKit

theorem own_knob : ownKnob Tryd.prog.godebug = none := by kernel_rfl
theorem laidOut : laidOutB Tryd.prog = true := by kernel_rfl

theorem u64_nat {x : Int} (h : (Lit.int .u64 x).wf = true) : ∃ m : Nat, x = m ∧ m < 18446744073709551616 := by
  simp [Lit.wf, IntKind.min, IntKind.max, IntKind.signed, IntKind.bits] at h
  exact ⟨x.toNat, by omega, by omega⟩

theorem u32_nat {x : Int} (h : (Lit.int .u32 x).wf = true) : ∃ m : Nat, x = m ∧ m < 4294967296 := by
  simp [Lit.wf, IntKind.min, IntKind.max, IntKind.signed, IntKind.bits] at h
  exact ⟨x.toNat, by omega, by omega⟩

theorem i64_bd {x : Int} (h : (Lit.int .i64 x).wf = true) : -9223372036854775808 ≤ x ∧ x ≤ 9223372036854775807 := by
  simp [Lit.wf, IntKind.min, IntKind.max, IntKind.signed, IntKind.bits] at h
  exact ⟨by omega, by omega⟩

theorem u8_bd {x : Int} (h : (Lit.int .u8 x).wf = true) : 0 ≤ x ∧ x < 256 := by
  simp [Lit.wf, IntKind.min, IntKind.max, IntKind.signed, IntKind.bits] at h
  exact ⟨by omega, by omega⟩

theorem bytes8 : Tryd.prog.bytesOf 5 = 1 := by kernel_rfl
theorem cells8 : Tryd.prog.cellsOf 5 = 1 := by kernel_rfl

section
variable {H : Type} {enc : TypeId × Value → H} {W : World}

theorem open_bytes {a : Option Addr} {n c : Nat} {d : DataW H} {p : List MemPlace} (h : DataW.Trod enc Tryd.prog W 0 (fun _ => true) true 24 (.slice a n c) d p) :
    ∃ l, Byt W a n c l ∧ (n = 0 ∨ ∃ el sp, d = .slice el sp ∧ el.length = n) := by
  obtain ⟨fuel, hf⟩ := h
  rcases open_ints Tryd.underlying24 Tryd.underlying5 cells8 hf with ⟨hcs, _⟩ | ⟨x, len, cap, zs, hcs, _, hl, hm, hz, hx, hcell, hwz⟩
  · simp [Value.cells] at hcs
    obtain ⟨rfl, rfl, rfl⟩ := hcs
    exact ⟨[], Byt.nil W, .inl rfl⟩
  · simp [Value.cells] at hcs
    obtain ⟨rfl, rfl, rfl⟩ := hcs
    simp only [Prod.mk.injEq] at hx
    have hzl : zs.length = c := by simpa using hz
    refine ⟨zs.take n, ⟨by simp; omega, hl, hm, fun y hy => u8_bd (hwz y (List.mem_of_mem_take hy)), (fun h => nomatch h), fun hn => ?_⟩, .inr ⟨_, _, hx.1, by simp [lits]; omega⟩⟩
    obtain ⟨g, off, spot⟩ := x
    have hspot : spot = none := by simpa [Addr.add] using World.cell?_spot (hcell 0 (by omega))
    subst hspot
    refine ⟨g, off, rfl, fun i hi => ?_⟩
    have h1 := hcell i (by omega)
    have hadd : (⟨g, off, none⟩ : Addr).add i = ⟨g, off + i, none⟩ := by unfold Addr.add; split <;> simp_all
    rw [hadd] at h1
    rw [h1]
    congr 2
    simp [List.getD, hi]

theorem bytes_reach {ts : List TypeId} {ds : List (DataW H)} (h : (DataW.weightsEach Tryd.prog ts ds).all (· ≤ reachBytes) = true) {j : Nat} {d : DataW H} {n : Nat} (ht : ts[j]? = some 24) (hd : ds[j]? = some d)
    (e : n = 0 ∨ ∃ el sp, d = .slice el sp ∧ el.length = n) : n ≤ 140737488351232 := by
  rcases e with rfl | ⟨el, sp, rfl, hn⟩
  · omega
  · have := sized_slice h ht hd Tryd.underlying24
    rw [bytes8] at this
    simp only [reachBytes] at this
    omega
end
end Go.Proofs.YtljpnngknmpdoaaDoor
