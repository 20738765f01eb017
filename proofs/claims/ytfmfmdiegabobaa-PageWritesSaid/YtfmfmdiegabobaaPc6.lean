/- What it says: contracts and plain mathematics that the laws' walks use, 6 of 8: each part's own remark says what; no condition. -/
import Derived.Test.YtfmfmdiegabobaaPc1
import Derived.Test.YtfmfmdiegabobaaPc2
import Derived.Test.YtfmfmdiegabobaaPc0
import Derived.Test.YtfmfmdiegabobaaPc4
import Derived.Test.YtfmfmdiegabobaaPc5
import Derived.Lib.AppendZerosOnto
import Derived.BigRegion
import Derived.Handy
import Derived.Laws.ResultCell
import Derived.Laws.CopyOwn
import Derived.Lib.MinMax
import Derived.Deep.RegionHeld3
import Derived.Great.BuildSlice
import Derived.Great.FillDense
import Derived.Laws.Tables
import Derived.WalkMore
import Derived.LoopTactic
import Derived.RegionTactic
import Derived.Deep.QuietTactic
import Derived.BigQuiet
import Derived.Test.YtfmfmdiegabobaaRows
import Derived.ProofKit
import Derived.OpenShut
import Derived.ShutString
import Derived.ChangeOld
import Derived.SizedLaws
import Derived.Deep.Slices
import Derived.ChangeArms
import Derived.Deep.MidRow

set_option linter.unusedSimpArgs false
set_option linter.unusedVariables false
set_option linter.deprecated false
set_option linter.unusedSectionVars false
set_option linter.all false

/- slices.Grow of nil, slices.Concat of three slices of cells. -/
namespace Go.Proofs.Ytfmfmdiegabobaa
open Go.RowKit

theorem flatC_drop {α : Type} (f : α → List Value) (k : Nat) (hf : ∀ x, (f x).length = k) (l : List α) (m : Nat) : (l.flatMap f).drop (m * k) = (l.drop m).flatMap f := by
  induction l generalizing m with
  | nil => simp
  | cons x r ih =>
    cases m with
    | zero => simp
    | succ m =>
      rw [List.flatMap_cons, List.drop_succ_cons, List.drop_append, List.drop_of_length_le (by rw [hf, Nat.add_mul]; omega), hf, List.nil_append]
      rw [show (m + 1) * k - k = m * k by rw [Nat.add_mul]; omega, ih]
/-- Three slices in a block. -/
structure Cat3 (w : World) (g : Nat) (v : Nat → Option Addr × Nat × Nat) (ls : Nat → List Cl) : Prop where
  lt : g < w.heap.size
  at_ : ∀ i, i < 3 → w.cell? ⟨g, i, none⟩ = some (.slice (v i).1 (v i).2.1 (v i).2.2) ∧ Pcs w (v i).1 (v i).2.1 (v i).2.2 (ls i)
theorem Cat3.below {w w' : World} {g : Nat} {v : Nat → Option Addr × Nat × Nat} {ls : Nat → List Cl} (h : Cat3 w g v ls) (hb : Below w.heap.size w w') : Cat3 w' g v ls :=
  ⟨Nat.lt_of_lt_of_le h.lt hb.size, fun i hi => ⟨(hb.cell (p := ⟨g, i, none⟩) h.lt).trans (h.at_ i hi).1, (h.at_ i hi).2.below hb⟩⟩
def accC (ls : Nat → List Cl) : Nat → List Cl
  | 0 => []
  | k + 1 => accC ls k ++ ls k

set_option maxRecDepth 100000 in
set_option maxHeartbeats 4000000 in
theorem growC_nil (n : Nat) (w : World) (h0 : 0 < n) (hn : n ≤ 100000) : Calls Try.prog 65 #[.slice none 0 0, .int .i64 n] w
    (fun e w' => ∃ cap, e = .returned (.slice (some ⟨w.heap.size, 0, none⟩) 0 cap) ∧ OwnP w.heap.size w' (some ⟨w.heap.size, 0, none⟩) 0 cap [] ∧ Below w.heap.size w w') := by
  obtain ⟨i0, hi, hz0, hz1, hz2⟩ := info_parts info_cl
  have hrun := fun (ty : TypeId) => Lib.run_append_nil_zeros (P := Try.prog) w 22 3 ty 54 i0 _ .i64 .i64 Try.underlying22 Try.underlying3 hi hz0 n h0 (by omega) (by omega) (by rw [hz2]; omega)
  have hge := grownCap_ge w n 0 54
  have hcm : grownCap w n 0 54 ≤ maxLen := grownCap_le_maxLen w n 0 54 (by unfold maxLen; omega)
  obtain ⟨cap, hcap⟩ : ∃ cap, grownCap w n 0 54 = cap := ⟨_, rfl⟩
  rw [hcap] at hrun hge hcm
  obtain ⟨W, hW⟩ : ∃ W, W = w.drew.alloc (.cells (Builtin.zeroCells (Value.agg #[.string ByteArray.empty, .bool false, .string ByteArray.empty]).cells n ++ Builtin.zeroCells (Value.agg #[.string ByteArray.empty, .bool false, .string ByteArray.empty]).cells (cap - n)) 54) := ⟨_, rfl⟩
  rw [← hW] at hrun
  have R : Hid (OwnP w.heap.size W (some ⟨w.heap.size, 0, none⟩) 0 cap [] ∧ Below w.heap.size w W) := Lib.hid (by
    rw [hW]
    refine ⟨⟨⟨by simp, .inr ⟨w.heap.size, cap, _, rfl, Nat.le_refl _, heap_alloc_new w.drew _, Nat.zero_le _, hcm, ?_, by simp⟩⟩, rfl⟩, (Below.refl _ w).drew.alloc (Nat.le_refl _) _⟩
    simp only [Array.size_append, size_zeroCells, Value.cells]
    simp
    omega)
  have hn0 : (0 : Int) < (n : Int) := by omega
  have hcm' := hcm
  unfold maxLen at hcm'
  clear hW hcap hcm
  go_enter Try.func65, Try.ntmps65
  go_wp2_with (at_builtin; refine Lib.wpList_append_run _ rfl _ _ 22 3 rfl _ _ rfl rfl _ _ (hrun _) ?_)
  go_wp2_with fail
  go_ret
  exact ⟨cap, rfl, R.out.1, R.out.2⟩

theorem info_cs : (Try.prog.info? 22).map (fun i => (i.zero, i.size, i.bytes)) = some (some (.slice none 0 0), 1, 24) := by kernel_rfl
theorem bslice_3 (A B C : Option Addr) (a b c a' b' c' : Nat) (w : World) : (Instr.buildSlice 96 3 #[(0, .slice A a a'), (1, .slice B b b'), (2, .slice C c c')]).run Try.prog w = .ok (.slice (some ⟨w.heap.size, 0, none⟩) 3 3) (w.alloc (.cells #[.slice A a a', .slice B b b', .slice C c c'] 22)) := by
  obtain ⟨i0, hi, hz0, hz1, hz2⟩ := info_parts info_cs
  refine run_buildSlice w 96 22 3 _ _ i0 _ Try.underlying96 hi hz0 (by rw [hz1]; omega) (by rw [hz1]; omega) ?_
  rw [hz1]
  kernel_rfl
theorem one_pcs {w : World} {g : Nat} {x : Cl} (h : Bk w g 54 #[.string x.key, .bool x.val.has, .string x.val.data]) : Pcs w (some ⟨g, 0, none⟩) 1 1 [x] := by
  refine ⟨⟨rfl, Nat.le_refl _, by unfold maxLen; omega, (fun q => nomatch q), fun _ => ⟨g, 0, rfl, fun j v hv => ?_⟩⟩, rfl⟩
  rw [Nat.zero_add, h.cell]
  match j with
  | 0 => simpa [Cl.cells] using hv
  | 1 => simpa [Cl.cells] using hv
  | 2 => simpa [Cl.cells] using hv
  | j + 3 => simp [Cl.cells] at hv
/-- Cells in new memory. -/
def RetCells (l : List Cl) (w : World) (e : Ending) (w' : World) : Prop := ∃ A n c, e = .returned (.slice A n c) ∧ OwnP w.heap.size w' A n c l ∧ Below w.heap.size w w'

set_option maxRecDepth 100000 in
set_option maxHeartbeats 4000000 in
theorem concat3_any (g : Nat) (v : Nat → Option Addr × Nat × Nat) (ls : Nat → List Cl) (w : World) (h : Cat3 w g v ls) (h0 : 0 < (accC ls 3).length) (hl : (accC ls 3).length ≤ 1000) :
    Calls Try.prog 45 #[.slice (some ⟨g, 0, none⟩) 3 3] w (RetCells (accC ls 3) w) := by
  have HB := Lib.hid h
  have hmono : ∀ k, (accC ls k).length ≤ (accC ls (k + 1)).length := fun k => by show _ ≤ (accC ls k ++ ls k).length; rw [List.length_append]; omega
  have hbnd : ∀ k, k ≤ 3 → (accC ls k).length ≤ 1000 := by
    intro k hk
    have h1 : (accC ls 0).length ≤ (accC ls 1).length := hmono 0
    have h2 : (accC ls 1).length ≤ (accC ls 2).length := hmono 1
    have h3 : (accC ls 2).length ≤ (accC ls 3).length := hmono 2
    match k, hk with
    | 0, _ => omega
    | 1, _ => omega
    | 2, _ => omega
    | 3, _ => omega
  have HBD := Lib.hid hbnd
  have HT : Hid (∃ T, (accC ls 3).length = T) := Lib.hid ⟨_, rfl⟩
  obtain ⟨T, hT⟩ := HT.out
  rw [hT] at h0 hl
  have HT := Lib.hid hT
  clear h hmono hbnd hT
  go_enter Try.func45, Try.ntmps45
  go_wp2_with fail
  go_loopw [3, 11] (fun y q wr => ∃ (k : Nat), k ≤ 3 ∧ y = .int .i64 (((accC ls k).length : Nat) : Int) ∧ q = .int .i64 k ∧ wr = w) (fun _ q _ => 3 - (intOf q).toNat)
  case atStart => exact ⟨0, Nat.zero_le _, rfl, rfl, rfl⟩
  case round =>
    obtain ⟨k, hkn, rfl, rfl, rfl⟩ := hrel
    by_cases hlt : k < 3
    · obtain ⟨hx, hby⟩ := HB.out.at_ k hlt
      obtain ⟨B, m, d, hv⟩ : ∃ B m d, v k = (B, m, d) := ⟨_, _, _, rfl⟩
      rw [hv] at hx hby
      have hbm := hby.len
      simp only at hbm hx
      have hnx : (accC ls (k + 1)).length = (accC ls k).length + m := by show (accC ls k ++ ls k).length = _; rw [List.length_append, hbm]
      have hb1 := HBD.out (k + 1) (by omega)
      obtain ⟨a, ha⟩ : ∃ a, (accC ls k).length = a := ⟨_, rfl⟩
      obtain ⟨a2, ha2⟩ : ∃ a, (accC ls (k + 1)).length = a := ⟨_, rfl⟩
      rw [ha, ha2] at hnx
      rw [ha2] at hb1
      rw [ha]
      have H2 := Lib.hid ha2
      have hlt' : (k : Int) < 3 := by omega
      clear hby hv hbm ha ha2
      go_wp2_with fail
      go_roundw
      case rel => exact ⟨k + 1, by omega, by rw [H2.out, hnx]; go_num, by go_num, trivial⟩
      case measure => simp [intOf]; omega
    · have hke : k = 3 := by omega
      subst hke
      rw [HT.out]
      have CG := Lib.hid (growC_nil T wr h0 (by omega))
      clear hlt
      go_wp2_with fail
      refine CG.out.mono ?_
      rintro e w1 ⟨cap, rfl, ho1, b1⟩
      have R0 : Hid (OwnP wr.heap.size w1 (some ⟨wr.heap.size, 0, none⟩) 0 cap (accC ls 0) ∧ Below wr.heap.size wr w1) := Lib.hid ⟨ho1, b1⟩
      obtain ⟨wi, hwi⟩ : ∃ x, x = wr := ⟨_, rfl⟩
      subst hwi
      clear ho1 b1 CG
      go_wp2_with fail
      go_loopw [6, 27] (fun y q wr => ∃ (j : Nat) (A1 : Option Addr) (n1 c1 : Nat), j ≤ 3 ∧ y = .slice A1 n1 c1 ∧ q = .int .i64 j ∧ OwnP wi.heap.size wr A1 n1 c1 (accC ls j) ∧ Below wi.heap.size wi wr) (fun _ q _ => 3 - (intOf q).toNat)
      case atStart => exact ⟨0, some ⟨wi.heap.size, 0, none⟩, 0, cap, Nat.zero_le _, rfl, rfl, R0.out.1, R0.out.2⟩
      case round =>
        obtain ⟨j, A1, n1, c1, hjn, rfl, rfl, hown, hbel⟩ := hrel
        clear R0
        by_cases hlt : j < 3
        · obtain ⟨hx, hby⟩ := (HB.out.below hbel).at_ j hlt
          obtain ⟨B, m, d, hv⟩ : ∃ B m d, v j = (B, m, d) := ⟨_, _, _, rfl⟩
          rw [hv] at hx hby
          simp only at hx
          have hb1 := HBD.out (j + 1) (by omega)
          have hn1 := hown.len
          have hbm := hby.len
          have hnx : (accC ls (j + 1)).length = n1 + m := by show (accC ls j ++ ls j).length = _; rw [List.length_append, hbm, hn1]
          rw [hnx] at hb1
          have HO := Lib.hid hown
          have HBE := Lib.hid hbel
          have hbs := hbel.size
          have HBY := Lib.hid hby
          have hlt' : (j : Int) < 3 := by omega
          clear hby hv hbm hn1 hnx hown hbel
          go_wp2_with (at_builtin; refine wpList_app_cells rfl _ _ rfl wi.heap.size rfl rfl HO.out rfl HBY.out (by omega) hbs ?_)
          intro A2 c2 w2 k1 k2
          have NR : Hid (OwnP wi.heap.size w2 A2 (n1 + m) c2 (accC ls (j + 1)) ∧ Below wi.heap.size wi w2) := Lib.hid ⟨k1, HBE.out.grown k2 hbs (fun q hq => (HO.out.own.lt q hq).1)⟩
          clear k1 k2 HO HBE HBY
          go_wp2_with fail
          go_roundw
          case rel => exact ⟨j + 1, A2, n1 + m, c2, by omega, rfl, by go_num, NR.out.1, NR.out.2⟩
          case measure => simp [intOf]; omega
        · have hjk : j = 3 := by omega
          subst hjk
          have RR : Hid (RetCells (accC ls 3) wi (.returned (.slice A1 n1 c1)) wr) := Lib.hid ⟨A1, n1, c1, rfl, hown, hbel⟩
          clear hown hbel
          go_wp2_with fail
          go_ret
          exact RR.out
end Go.Proofs.Ytfmfmdiegabobaa

/- master.numbers answers the five places of a record. -/
namespace Go.Proofs.Ytfmfmdiegabobaa
open Go.RowKit

/-- The five places of the record at block b. -/
def ptrs5 (b : Nat) : Value := .agg #[.pointer (some ⟨b, 0, none⟩), .pointer (some ⟨b, 1, none⟩), .pointer (some ⟨b, 2, none⟩), .pointer (some ⟨b, 3, none⟩), .pointer (some ⟨b, 4, none⟩)]

/-- 'a[i]' of an array of pointers by value. -/
theorem run_index_ptrs {P : Program} (w : World) (t e te : TypeId) (n : Nat) (cs : Array Value) (i : Nat) (v : Value) (hi : i < n) (hu : P.underlying t = some (.array n e)) (hue : P.underlying e = some (.pointer te)) (hs : (P.info? e).map (·.size) = some 1) (ha : cs[i]? = some v) :
    (Instr.index t (.agg cs) (.int .i64 (i : Int))).run P w = .ok v w := by
  cases hq : P.info? e with
  | none => simp [hq] at hs
  | some ie =>
    have h1 : ie.size = 1 := by simpa [hq] using hs
    have hsz : ∀ w, (sizeOf e).run P w = .ok 1 w := fun w => by simp [sizeOf, typeInfo, hq, h1]
    have hagg : ∀ w, (isAgg e).run P w = .ok false w := fun w => by simp [isAgg, Sem.run_bind, run_underlying hue w]
    have hc : (0 ≤ (i : Int) ∧ (i : Int) < ((n : Nat) : Int)) := by omega
    unfold Instr.index
    simp only [Sem.run_bind, asIntOf, Sem.run_pure, Result.andThen, run_underlying hu w]
    rw [if_pos hc]
    simp only [Sem.run_bind, hsz, Result.andThen, part, hagg, Int.toNat_natCast, Nat.mul_one, ha]
    simp
end Go.Proofs.Ytfmfmdiegabobaa

/- master.encode answers a record's bytes. -/
namespace Go.Proofs.Ytfmfmdiegabobaa
open Go.RowKit

/-- A record's cells. -/
def msC (m : Ms) : Array Value := #[.int .i64 m.gen, .int .i64 m.inc, .int .i64 m.first, .int .i64 m.lsn, .int .i64 m.chk]

end Go.Proofs.Ytfmfmdiegabobaa

/- master.decode answers the five numbers at the beginning of bytes, or the error. -/
namespace Go.Proofs.Ytfmfmdiegabobaa
open Go.RowKit

/-- A struct's cells and one number beside it. -/
theorem results_cellT {P : Program} {fn : Func} {p u : Tmp} {ty : TypeId} (h : fn.results = #[.cell p ty, .tmp u]) (tmps : Array Value) (w : World) (g : Nat) (t : TypeId) (cs : Array Value) (d : TypeDesc)
    (hp : tmps.getD p undef = .pointer (some ⟨g, 0, none⟩)) (hg : Bk w g t cs)
    (hu : P.underlying ty = some d) (hd : (match d with | .struct _ | .array _ _ => true | _ => false) = true) (hi : (P.info? ty).map (·.size) = some cs.size) :
    (results fn tmps).run P w = .ok (.tuple #[.agg cs, tmps.getD u undef]) w := by
  rw [results_cell_tmp h, hp]
  simp [asAddr, run_loadVar_row w g t ty cs (0, 0) d hg hu hd hi, Result.andThen]

theorem ms_one (x0 x1 x2 x3 x4 : Int) : (#[Value.int .i64 x0, .int .i64 x1, .int .i64 x2, .int .i64 x3, .int .i64 x4] : Array Value).all (·.oneCell') = true := by simp [Value.oneCell']
theorem Bk.later {w w' : World} {g : Nat} {t : TypeId} {cs : Array Value} (h : Bk w g t cs) (hb : Below w.heap.size w w') : Bk w' g t cs := h.bel hb h.lt
theorem Bk.row {w : World} {g : Nat} {t : TypeId} {old : Array Value} (h : Bk w g t old) (cs : Array Value) : Bk (w.setRow g cs) g t cs := setRow_heap w g old cs _ _ h

theorem rdNum_any (b g : Nat) (l : List Int) (e : Nat) (w : World) (h : Rd w 87 b g l e) :
    Calls Try.prog 35 #[.pointer (some ⟨b, 0, none⟩), .int .i64 1099511627776] w (RdPost 87 b g (rdL l e) (rdE l e) (.int .i64 (rdV l e)) w) := by
  have := rNum_any b g l e 1099511627776 w h (by omega) (numF l 1099511627776).1 (numF l 1099511627776).2.1 (numF l 1099511627776).2.2 rfl
  rw [rdV_step] at this
  exact this

end Go.Proofs.Ytfmfmdiegabobaa

/- sheet.isSeq, hasFirst, part answer as they should; what is there stands. -/
namespace Go.Proofs.Ytfmfmdiegabobaa
open Go.RowKit

/-- A sheet's cells. -/
structure Sh where
  inc : Int
  pos : Int
  first : Int
  data : ByteArray
def sh0 : Sh := ⟨0, 0, 0, ByteArray.empty⟩
def Sh.cells (x : Sh) : List Value := [.int .i64 x.inc, .int .i64 x.pos, .int .i64 x.first, .string x.data]
def i64R (x : Int) : Prop := -9223372036854775808 ≤ x ∧ x ≤ 9223372036854775807
structure Sh.In (x : Sh) : Prop where
  inc : i64R x.inc
  pos : i64R x.pos
  first : i64R x.first
  data : x.data.size ≤ maxLen

/-- The same world. -/
def Qs (v : Value) (w : World) (e : Ending) (w' : World) : Prop := e = .returned v ∧ w = w'

def isSeqB (n : Int) : Bool := decide (0 ≤ n ∧ n ≤ 1099511627775)
def hasF (first : Int) (k : Nat) : Bool := decide (0 ≤ first ∧ first ≤ (k : Int))

/-- A part of bytes, of no room. -/
def RetPart (m : Nat) (l : List Int) (w : World) (e : Ending) (w' : World) : Prop := ∃ B, e = .returned (.slice B m m) ∧ Bty w B m m l ∧ w = w'

end Go.Proofs.Ytfmfmdiegabobaa

/- 'append' onto a row of the call's own lays it where it was, or in a new block: so two such rows stay apart. No program is named; no condition. -/
namespace Go.Proofs.Ytfmfmdiegabobaa
open Go.RowKit

/-- Where the answer lies. -/
theorem append_where {P : Program} {w : World} {base : Nat} {t ty e : TypeId} {i : TypeInfo} (ht : P.underlying t = some (.slice e)) (hi : P.info? e = some i) (hz : i.zero = some (.int .u8 0)) (hsize : i.size = 1) (hby : i.bytes = 1)
    {v : Value} {k : Nat} {xs : List Value} (hown : w.ownsRow base e 1 v k xs) {ad : Addr} {n c : Nat} {l : List Value} (hl : l.length = n) (hc : ∀ j u, l[j]? = some u → w.cell? (ad.add j) = some u) (h1 : ∀ u ∈ l, u.oneCell' = true) (hbytes : k + n ≤ 140737488355328)
    {v' : Value} {w' : World} (hr : (Builtin.append_ #[t, t] ty #[v, .slice (some ad) n c]).run P w = .ok v' w') : ∀ q, v'.ownBlock = some q → v.ownBlock = some q ∨ w.heap.size ≤ q := by
  have hl' : l.length = n * i.size := by rw [hsize]; omega
  have done : ∀ {x : Value} {w1 : World}, (Builtin.append_ #[t, t] ty #[v, .slice (some ad) n c]).run P w = .ok x w1 → (∀ q, x.ownBlock = some q → v.ownBlock = some q ∨ w.heap.size ≤ q) → ∀ q, v'.ownBlock = some q → v.ownBlock = some q ∨ w.heap.size ≤ q := by
    intro x w1 h h2
    rw [hr] at h
    injection h with h _
    rw [h]
    exact h2
  rcases hown.2 with ⟨rfl, rfl⟩ | ⟨g, cap, cur, rfl, _, hg, hkc, _, hcs, _⟩
  · by_cases hn : n = 0
    · subst hn
      obtain rfl : l = [] := List.eq_nil_of_length_eq_zero hl
      refine done (x := .slice none 0 0) (w1 := w) ?_ (fun q hq => by simp [Value.ownBlock] at hq)
      simp [Builtin.append_, run_underlying ht, sizeOf, typeInfo, hi, Builtin.lenOf, Builtin.firstCells, loadCells, loadCellsFrom]
    · exact done (run_append_nil (P := P) w t ty e i _ ht hi hz ad n c l hl' hc (by omega) (by omega) (by rw [hby]; omega)) (fun q hq => .inr (by simp [Value.ownBlock] at hq; omega))
  · by_cases hroom : k + n ≤ cap
    · exact done (run_append_room (P := P) w t ty e i ht hi g k cap cur hg ad n c l hl' hc h1 hroom (by rw [hl', hcs, hsize]; omega)) (fun q hq => .inl (by simpa [Value.ownBlock] using hq))
    · refine done (run_append_grow (P := P) w t ty e i _ ht hi hz ⟨g, 0, none⟩ k cap xs (by rw [hown.1, hsize]) (hown.cells (g := g) rfl) ad n c l hl' hc (by omega) (by omega) (growslice_fits (by omega) (by rw [hby]; omega))) (fun q hq => .inr (by simp [Value.ownBlock] at hq; omega))

/-- 'out = append(out, xs...)', and where it lies. -/
theorem wpList_append_at {P : Program} {w : World} {ops : Array Oper} {rest : List Oper} {o : Oper} {a : Act} {Q : Exit → Act → World → Prop} (hgd : o.guard = none) (s x : Operand) (t : TypeId)
    (ho : o.op = .call { callee := .builtin .append, args := #[s, x], argTypes := #[t, t] })
    (base : Nat) (e : TypeId) (i : TypeInfo) (ht : P.underlying t = some (.slice e)) (hi : P.info? e = some i) (hz : i.zero = some (.int .u8 0)) (hsize : i.size = 1) (hby : i.bytes = 1)
    (v : Value) (k : Nat) (xs : List Int) (hs : a.eval s = v) (hown : w.ownsRow base e 1 v k (xs.map (Value.int .u8)))
    (A : Option Addr) (n c : Nat) (l : List Int) (hx : a.eval x = .slice A n c) (hl : Byt w A n c l)
    (hbytes : k + n ≤ 140737488355328) (hbase : base ≤ w.heap.size)
    (h : ∀ A' c' w', w'.ownsRow base e 1 (.slice A' (k + n) c') (k + n) ((xs ++ l).map (Value.int .u8)) → w.grownBy w' v.ownBlock → (∀ q, (Value.slice A' (k + n) c').ownBlock = some q → v.ownBlock = some q ∨ w.heap.size ≤ q) → wpList P ops Q rest (a.put o.dst (.slice A' (k + n) c')) w') :
    wpList P ops Q (o :: rest) a w := by
  refine wpList_plain hgd fun K hK => ?_
  have form : ∀ (v' : Value) (w' : World) (m : Nat) (ys : List Value), w'.ownsRow base e 1 v' m ys → ∃ A' c', v' = .slice A' m c' := by
    intro v' w' m ys ho'
    rcases ho'.2 with ⟨h1, h2⟩ | ⟨g, cap, _, h1, _⟩
    · subst h2; exact ⟨none, 0, h1⟩
    · exact ⟨_, _, h1⟩
  cases A with
  | none =>
    obtain ⟨rfl, rfl⟩ := hl.nil_ rfl
    have hl0 : l = [] := List.eq_nil_of_length_eq_zero hl.len
    subst hl0
    have hrun := run_append_owned_none (P := P) (w := w) base t o.type e i 1 ht hi v k _ hown
    obtain ⟨A', c', rfl⟩ := form _ _ _ _ hown
    have h' := h A' c' w
    simp only [Nat.add_zero, List.append_nil] at h'
    unfold Oper.wp
    simp [execOp, ho, resolve, invoke, builtin, hs, hx, hrun, Result.andThen]
    exact hK _ _ (h' hown (World.grownBy.refl w _) (fun q hq => .inl hq))
  | some ad =>
    have hll : (l.map (Value.int .u8)).length = n := by simp [hl.len]
    obtain ⟨v', w', hrun, h1, h2, _⟩ := run_append_own (P := P) w base t o.type e i (.int .u8 0) 1 1 ht hi hz hsize hby rfl (by decide) v k _ hown ad n c (l.map (Value.int .u8)) (by simp [hl.len]) (hl.cells ad rfl) (u8_one l) (by unfold maxLen; omega) (by omega) hbase
    have hw := append_where ht hi hz hsize hby hown hll (hl.cells ad rfl) (u8_one l) hbytes hrun
    obtain ⟨A', c', rfl⟩ := form _ _ _ _ h1
    unfold Oper.wp
    simp [execOp, ho, resolve, invoke, builtin, hs, hx, hrun, Result.andThen]
    exact hK _ _ (h A' c' w' (by simpa using h1) h2 hw)
end Go.Proofs.Ytfmfmdiegabobaa

/- bodies in memory; sheet.join, sheet.cut. -/
namespace Go.Proofs.Ytfmfmdiegabobaa
open Go.RowKit

/-- A slice of slices of bytes. -/
def slV (v : Option Addr × Nat × Nat) : List Value := [.slice v.1 v.2.1 v.2.2]
theorem slV_len (v : Option Addr × Nat × Nat) : (slV v).length = 1 := rfl
def sl0 : Option Addr × Nat × Nat := (none, 0, 0)
structure Bods (w : World) (A : Option Addr) (n c : Nat) (ls : List (List Int)) (vs : List (Option Addr × Nat × Nat)) : Prop where
  flt : Flt w A n c 1 (vs.flatMap slV)
  vl : vs.length = n
  len : ls.length = n
  each : ∀ i, i < n → Byt w (vs.getD i sl0).1 (vs.getD i sl0).2.1 (vs.getD i sl0).2.2 (ls.getD i [])
theorem Bods.below {w w' : World} {A : Option Addr} {n c : Nat} {ls : List (List Int)} {vs : List (Option Addr × Nat × Nat)} (h : Bods w A n c ls vs) (hb : Below w.heap.size w w') : Bods w' A n c ls vs :=
  ⟨h.flt.below hb, h.vl, h.len, fun i hi => (h.each i hi).below hb⟩
/-- Number i. -/
theorem Bods.at_ {w : World} {A : Option Addr} {n c : Nat} {ls : List (List Int)} {vs : List (Option Addr × Nat × Nat)} (h : Bods w A n c ls vs) (hn : 0 < n) :
    ∃ g off, A = some ⟨g, off, none⟩ ∧ ∀ i, i < n → w.cell? ⟨g, off + i, none⟩ = some (.slice (vs.getD i sl0).1 (vs.getD i sl0).2.1 (vs.getD i sl0).2.2) ∧ Byt w (vs.getD i sl0).1 (vs.getD i sl0).2.1 (vs.getD i sl0).2.2 (ls.getD i []) := by
  obtain ⟨g, off, e, hc⟩ := h.flt.at_get sl0 slV slV_len h.vl hn
  refine ⟨g, off, e, fun i hi => ⟨?_, h.each i hi⟩⟩
  have := hc i hi 0 _ rfl
  simpa using this
theorem Bods.nil (w : World) : Bods w none 0 0 [] [] := ⟨Flt.nil w 1, rfl, rfl, fun i hi => absurd hi (by omega)⟩
theorem Bods.isB {w : World} {A : Option Addr} {n c : Nat} {ls : List (List Int)} {vs : List (Option Addr × Nat × Nat)} (h : Bods w A n c ls vs) : ∀ b ∈ ls, isB b := by
  intro b hb
  obtain ⟨i, hi, rfl⟩ := List.getElem_of_mem hb
  have := (h.each i (by rw [← h.len]; exact hi)).rng
  have e : ls.getD i [] = ls[i] := by simp [List.getD, List.getElem?_eq_getElem hi]
  rw [e] at this
  exact this

/-- Numbers, as cells. -/
def intV (x : Nat) : List Value := [.int .i64 (x : Int)]
theorem intV_len (x : Nat) : (intV x).length = 1 := rfl
theorem info_intJ : (Try.prog.info? 3).map (fun i => (i.zero, i.size, i.bytes)) = some (some (.int .i64 0), 1, 8) := by kernel_rfl
theorem info_slJ : (Try.prog.info? 25).map (fun i => (i.zero, i.size, i.bytes)) = some (some (.slice none 0 0), 1, 24) := by kernel_rfl

/-- What join answers: the bytes, where the bodies begin, or the error. -/
def RetJoin (ls : List (List Int)) (w : World) (e : Ending) (w' : World) : Prop :=
  (∃ b ∈ ls, 4096 < b.length) ∧ e = .returned (.tuple #[.slice none 0 0, .slice none 0 0, .int .i64 12]) ∧ Below w.heap.size w w' ∨
  (∀ b ∈ ls, b.length ≤ 4096) ∧ ∃ A n c A2 n2 c2, e = .returned (.tuple #[.slice A n c, .slice A2 n2 c2, .int .i64 0]) ∧ w'.ownsRow w.heap.size 5 1 (.slice A n c) n ((allL ls).map (Value.int .u8)) ∧ Flt w' A2 n2 c2 1 ((bgns ls).flatMap intV) ∧ n2 = ls.length ∧ Below w.heap.size w w'

/-- Where the joining stands. -/
structure JoinRel (w : World) (ls : List (List Int)) (i : Nat) (wr : World) (A : Option Addr) (n c : Nat) (A2 : Option Addr) (c2 : Nat) : Prop where
  all : wr.ownsRow w.heap.size 5 1 (.slice A n c) n ((allL (ls.take i)).map (Value.int .u8))
  bgs : wr.ownsRow w.heap.size 3 1 (.slice A2 i c2) i (((List.range i).map (bgn ls)).flatMap intV)
  bel : Below w.heap.size w wr
  ok : ∀ b ∈ ls.take i, b.length ≤ 4096

theorem sealL_le (b : List Int) (h : b.length ≤ 4096) : (sealL b).length ≤ 4110 := by
  rw [sealL_len]
  have := textL_len b (by omega)
  omega
theorem allL_le : ∀ (ls : List (List Int)), (∀ b ∈ ls, b.length ≤ 4096) → (allL ls).length ≤ 4110 * ls.length
  | [], _ => by simp [allL]
  | b :: r, h => by
    rw [allL_cons, List.length_append, List.length_cons]
    have := sealL_le b (h b (by simp))
    have := allL_le r (fun x hx => h x (by simp [hx]))
    omega

/-- One body more. -/
theorem JoinRel.step1 {w wr w2 w3 : World} {ls : List (List Int)} {i n c c2 : Nat} {A A2 A2' : Option Addr} {c2' : Nat} (h : JoinRel w ls i wr A n c A2 c2) (hi : i < ls.length) (hb : Below wr.heap.size wr w2)
    (k1 : w3.ownsRow w.heap.size 3 1 (.slice A2' (i + 1) c2') (i + 1) (((List.range i).map (bgn ls)).flatMap intV ++ (#[Value.int .i64 (n : Int)] : Array Value).toList)) (k2 : w2.grownBy w3 (Value.slice A2 i c2).ownBlock) :
    w3.ownsRow w.heap.size 5 1 (.slice A n c) n ((allL (ls.take i)).map (Value.int .u8)) ∧ w3.ownsRow w.heap.size 3 1 (.slice A2' (i + 1) c2') (i + 1) (((List.range (i + 1)).map (bgn ls)).flatMap intV) ∧ Below w.heap.size w w3 ∧ Below w.heap.size wr w3 := by
  have a2 := own_stay (w' := w2) h.all (fun q hq => hb.block q (h.all.lt q hq).2)
  have b2 := own_stay (w' := w2) h.bgs (fun q hq => hb.block q (h.bgs.lt q hq).2)
  have hn : bgn ls i = n := by unfold bgn; have := h.all.1; simpa using this
  have hbel : Below w.heap.size wr w3 := (hb.mono h.bel.size).grown k2 (Nat.le_trans h.bel.size hb.size) (fun q hq => (b2.lt q hq).1)
  refine ⟨own_apart b2 a2 (by decide) k2, ?_, h.bel.trans hbel, hbel⟩
  rw [List.range_succ, List.map_append, List.flatMap_append]
  simpa [intV, hn] using k1

theorem JoinRel.step2 {w wr w4 : World} {ls : List (List Int)} {i n c n' c' c2 : Nat} {A A' A2 : Option Addr} {b : List Int} (h1 : wr.ownsRow w.heap.size 5 1 (.slice A n c) n ((allL (ls.take i)).map (Value.int .u8)))
    (h2 : wr.ownsRow w.heap.size 3 1 (.slice A2 (i + 1) c2) (i + 1) (((List.range (i + 1)).map (bgn ls)).flatMap intV)) (h3 : Below w.heap.size w wr) (hok : ∀ b ∈ ls.take i, b.length ≤ 4096) (hi : i < ls.length) (hb : ls.getD i [] = b) (hbl : b.length ≤ 4096)
    (k1 : w4.ownsRow w.heap.size 5 1 (.slice A' n' c') n' ((allL (ls.take i) ++ sealL b).map (Value.int .u8))) (k2 : wr.grownBy w4 (Value.slice A n c).ownBlock) : JoinRel w ls (i + 1) w4 A' n' c' A2 c2 := by
  have e : ls.take (i + 1) = ls.take i ++ [b] := by rw [take_succ_getD ls [] i hi, hb]
  refine ⟨?_, own_apart h1 h2 (by decide) k2, h3.grown k2 h3.size (fun q hq => (h1.lt q hq).1), ?_⟩
  · rw [e, allL_app]
    simpa [allL] using k1
  · rw [e]
    intro x hx
    rcases List.mem_append.1 hx with q | q
    · exact hok x q
    · simp at q; subst q; exact hbl

end Go.Proofs.Ytfmfmdiegabobaa

/- sheet.cut; the statements' own, great, ended. -/
namespace Go.Proofs.Ytfmfmdiegabobaa
open Go.RowKit

def partL (l : List Int) (i : Nat) : List Int := (l.drop (242 * i)).take 242
def partsL (l : List Int) : List (List Int) := (List.range (shN l.length)).map (partL l)

/-- Bodies in new memory. -/
def RetBods (ls : List (List Int)) (w : World) (e : Ending) (w' : World) : Prop := ∃ A n c vs, e = .returned (.slice A n c) ∧ Bods w' A n c ls vs ∧ Below w.heap.size w w'

/-- A row of slices that is gathered. -/
structure GatS (w : World) (f : Nat → List Int) (i : Nat) (wr : World) (A : Option Addr) (c : Nat) (vs : List (Option Addr × Nat × Nat)) : Prop where
  own : wr.ownsRow w.heap.size 25 1 (.slice A i c) i (vs.flatMap slV)
  len : vs.length = i
  each : ∀ j, j < i → Bty wr (vs.getD j sl0).1 (vs.getD j sl0).2.1 (vs.getD j sl0).2.2 (f j)
  bel : Below w.heap.size w wr
theorem GatS.start (w : World) (f : Nat → List Int) : GatS w f 0 w none 0 [] := ⟨World.ownsRow_nil _ _ _ _, rfl, fun j hj => absurd hj (by omega), Below.refl _ _⟩
theorem GatS.next {w wr w2 w3 : World} {f : Nat → List Int} {i c c' : Nat} {A A' : Option Addr} {vs : List (Option Addr × Nat × Nat)} {B : Option Addr} {m d : Nat} (h : GatS w f i wr A c vs) (hb : Below wr.heap.size wr w2) (hB : Bty w2 B m d (f i))
    (k1 : w3.ownsRow w.heap.size 25 1 (.slice A' (i + 1) c') (i + 1) (vs.flatMap slV ++ (#[Value.slice B m d] : Array Value).toList)) (k2 : w2.grownBy w3 (Value.slice A i c).ownBlock) : GatS w f (i + 1) w3 A' c' (vs ++ [(B, m, d)]) := by
  have o2 := own_stay (w' := w2) h.own (fun q hq => hb.block q (h.own.lt q hq).2)
  refine ⟨by rw [List.flatMap_append]; simpa [slV] using k1, by simp [h.len], fun j hj => ?_, h.bel.trans ((hb.mono h.bel.size).grown k2 (Nat.le_trans h.bel.size hb.size) (fun q hq => (o2.lt q hq).1))⟩
  by_cases hji : j < i
  · have e : (vs ++ [(B, m, d)]).getD j sl0 = vs.getD j sl0 := by simp [List.getD, List.getElem?_append_left (show j < vs.length by rw [h.len]; exact hji)]
    rw [e]
    exact ((h.each j hji).below hb).apart o2 (by decide) k2
  · obtain rfl : j = i := by omega
    have e : (vs ++ [(B, m, d)]).getD j sl0 = (B, m, d) := by
      have : (vs ++ [(B, m, d)]).getD vs.length sl0 = (B, m, d) := by simp
      rw [h.len] at this
      exact this
    rw [e]
    exact hB.apart o2 (by decide) k2
theorem GatS.bods {w wr : World} {f : Nat → List Int} {i c : Nat} {A : Option Addr} {vs : List (Option Addr × Nat × Nat)} (h : GatS w f i wr A c vs) (ls : List (List Int)) (hl : ls.length = i) (hf : ∀ j, j < i → ls.getD j [] = f j) : Bods wr A i c ls vs :=
  ⟨Flt.of_own h.own, h.len, hl, fun j hj => by rw [hf j hj]; exact (h.each j hj).byt⟩

theorem parts_get (l : List Int) (j : Nat) (h : j < shN l.length) : (partsL l).getD j [] = partL l j := by
  unfold partsL
  simp [List.getD, h]

/-- More than is played? -/
def greatB (ls : List (List Int)) : Bool := decide (40 < ls.length) || ls.any fun b => decide (1500 < b.length)
theorem greatB_no {ls : List (List Int)} (h : greatB ls = false) : ls.length ≤ 40 ∧ ∀ b ∈ ls, b.length ≤ 1500 := by
  unfold greatB at h
  simp only [Bool.or_eq_false_iff, decide_eq_false_iff_not, List.any_eq_false, decide_eq_true_eq, Nat.not_lt] at h
  exact h

end Go.Proofs.Ytfmfmdiegabobaa

/- bytes that are gathered onto a slice that has no room, or onto a row of one's own. -/
namespace Go.Proofs.Ytfmfmdiegabobaa
open Go.RowKit

/-- Bytes that have no room behind them, or a row of one's own. -/
structure Beg (base : Nat) (w : World) (B : Option Addr) (m d : Nat) (l : List Int) : Prop where
  bty : Bty w B m d l
  own : m = d ∨ w.ownsRow base 5 1 (.slice B m d) m (l.map (Value.int .u8))

/-- What an append onto them leaves. -/
structure AppB (base : Nat) (w w' : World) (B : Option Addr) (m d : Nat) (B' : Option Addr) (m' d' : Nat) (l : List Int) : Prop where
  beg : Beg base w' B' m' d' l
  grown : ∃ row, w.grownBy w' row ∧ ∀ k, row = some k → base ≤ k ∧ (Value.slice B m d).ownBlock = some k
  at_ : ∀ q, (Value.slice B' m' d').ownBlock = some q → (Value.slice B m d).ownBlock = some q ∨ w.heap.size ≤ q

theorem info_u8z : (Try.prog.info? 5).map (fun i => (i.zero, i.size, i.bytes)) = some (some (.int .u8 0), 1, 1) := by kernel_rfl

theorem run_append_none {P : Program} (w : World) (t ty e : TypeId) (i : TypeInfo) (ht : P.underlying t = some (.slice e)) (hi : P.info? e = some i) (hs : i.size = 1)
    (ad : Addr) (m d q : Nat) (hmd : m ≤ d) (C : Option Addr) : (Builtin.append_ #[t, t] ty #[.slice (some ad) m d, .slice C 0 q]).run P w = .ok (.slice (some ad) m d) w := by
  cases C <;> simp [Builtin.append_, run_underlying ht, sizeOf, typeInfo, hi, hs, Builtin.lenOf, Builtin.firstCells, loadCells, loadCellsFrom, storeCells, hmd]

theorem wpList_app_beg {w : World} {ops : Array Oper} {rest : List Oper} {o : Oper} {a : Act} {Q : Exit → Act → World → Prop} (hgd : o.guard = none) (s x : Operand)
    (ho : o.op = .call { callee := .builtin .append, args := #[s, x], argTypes := #[25, 25] }) (base : Nat)
    {B : Option Addr} {m d : Nat} {l : List Int} (hs : a.eval s = .slice B m d) (hB : Beg base w B m d l) (hm : 0 < m) {C : Option Addr} {p q : Nat} {h : List Int} (hx : a.eval x = .slice C p q) (hC : Byt w C p q h)
    (hlim : m + p ≤ 100000000) (hbase : base ≤ w.heap.size)
    (H : ∀ B' d' w', Hid (AppB base w w' B m d B' (m + p) d' (l ++ h)) → wpList Try.prog ops Q rest (a.put o.dst (.slice B' (m + p) d')) w') : wpList Try.prog ops Q (o :: rest) a w := by
  obtain ⟨i0, hi, hz0, hz1, hz2⟩ := info_parts info_u8
  have ht := Try.underlying25
  rcases hB.own with hfull | hown
  · obtain ⟨g, off, rfl, hc⟩ := hB.bty.byt.at_ hm
    by_cases hp : p = 0
    · subst hp
      have hh : h = [] := List.eq_nil_of_length_eq_zero hC.len
      subst hh
      have hrun := run_append_none (P := Try.prog) w 25 o.type 5 i0 ht hi hz1 ⟨g, off, none⟩ m d q hB.bty.byt.cap C
      refine wpList_run hgd (v := .slice (some ⟨g, off, none⟩) m d) (w' := w) ?_ ?_
      · simp [execOp, ho, resolve, invoke, builtin, hs, hx, hrun, Result.andThen]
      · have := H (some ⟨g, off, none⟩) d w (Lib.hid ⟨⟨by simpa using hB.bty, .inl (by simpa using hfull)⟩, ⟨none, World.grownBy.refl w _, fun _ e => nomatch e⟩, fun q hq => .inl (by simpa [Value.ownBlock] using hq)⟩)
        simpa using this
    · obtain ⟨g2, off2, rfl, hc2⟩ := hC.at_ (by omega)
      have hl1 : (l.map (Value.int .u8)).length = m * i0.size := by simp [hB.bty.byt.len, hz1]
      have hl2 : (h.map (Value.int .u8)).length = p * i0.size := by simp [hC.len, hz1]
      have hge := grownCap_ge w (m + p) d 5
      have hcm : grownCap w (m + p) d 5 ≤ maxLen := grownCap_le_maxLen w (m + p) d 5 (by unfold maxLen; omega)
      have hrun := run_append_grow (P := Try.prog) w 25 o.type 5 i0 (.int .u8 0) ht hi hz0 ⟨g, off, none⟩ m d (l.map (Value.int .u8)) hl1 (hB.bty.byt.cells ⟨g, off, none⟩ rfl) ⟨g2, off2, none⟩ p q (h.map (Value.int .u8)) hl2 (hC.cells ⟨g2, off2, none⟩ rfl) (by omega) (by omega) (growslice_fits (by omega) (by rw [hz2]; omega))
      have hex : (execOp a.eval o).run Try.prog w = .ok (.value (.slice (some ⟨w.heap.size, 0, none⟩) (m + p) (grownCap w (m + p) d 5))) (w.drew.alloc (.cells ((l.map (Value.int .u8)).toArray ++ (h.map (Value.int .u8)).toArray ++ Builtin.zeroCells (Value.int .u8 0).cells (grownCap w (m + p) d 5 - (m + p))) 5)) := by
        simp only [execOp, ho, resolve, invoke, builtin, List.map_toArray, List.map_cons, List.map_nil, hs, hx, Sem.run_bind, Sem.run_pure, Result.andThen_ok, hrun]
      refine wpList_run hgd hex ?_
      · have hO : (w.drew.alloc (.cells ((l.map (Value.int .u8)).toArray ++ (h.map (Value.int .u8)).toArray ++ Builtin.zeroCells (Value.int .u8 0).cells (grownCap w (m + p) d 5 - (m + p))) 5)).ownsRow base 5 1
            (.slice (some ⟨w.heap.size, 0, none⟩) (m + p) (grownCap w (m + p) d 5)) (m + p) ((l ++ h).map (Value.int .u8)) := by
          refine ⟨by simp [hB.bty.byt.len, hC.len], .inr ⟨w.heap.size, _, _, rfl, hbase, heap_alloc_new w.drew _, hge, hcm, ?_, ?_⟩⟩
          · simp only [Array.size_append, List.size_toArray, size_zeroCells, List.length_map, hB.bty.byt.len, hC.len, Value.cells]
            simp
            omega
          · simp only [Array.toList_append, List.append_assoc]
            rw [← List.append_assoc, ← List.map_append]
            have : (m + p) * 1 = ((l ++ h).map (Value.int .u8)).length := by simp [hB.bty.byt.len, hC.len]
            rw [this]
            exact List.take_left
        refine H _ _ _ (Lib.hid ⟨⟨Bty.of_own hO (fun x hx => ?_), .inr hO⟩, ⟨none, ⟨rfl, rfl, rfl, by simp, fun k hk _ => heap_alloc_old w.drew _ hk⟩, fun _ e => nomatch e⟩, fun q hq => .inr ?_⟩)
        · rcases List.mem_append.1 hx with k | k
          · exact hB.bty.byt.rng x k
          · exact hC.rng x k
        · simp [Value.ownBlock] at hq
          omega
  · refine wpList_append_at hgd s x 25 ho base 5 i0 ht hi hz0 hz1 hz2 (.slice B m d) m l hs hown C p q h hx hC (by omega) hbase ?_
    intro B' d' w' h1 h2 h3
    refine H B' d' w' (Lib.hid ⟨⟨Bty.of_own h1 (fun x hx => ?_), .inr h1⟩, ⟨_, h2, fun k hk => ⟨(hown.lt k hk).1, hk⟩⟩, h3⟩)
    rcases List.mem_append.1 hx with k | k
    · exact hB.bty.byt.rng x k
    · exact hC.rng x k

/-- What was found, as cells. -/
def fndC (x : List Int × Int) : List Value := [.string (strOfNums x.1), .int .i64 x.2]
theorem fndC_len (x : List Int × Int) : (fndC x).length = 2 := rfl

/-- Blocks from base on, below H. -/
def Mid (base H : Nat) : Nat → Prop := fun k => base ≤ k ∧ k < H
theorem Beg.stay {base : Nat} {w w' : World} {B : Option Addr} {m d : Nat} {l : List Int} (h : Beg base w B m d l) (hk : ∀ q, (Value.slice B m d).ownBlock = some q → w'.heap[q]? = w.heap[q]?) : Beg base w' B m d l :=
  ⟨h.bty.stay (fun a ha => hk a.block (by rw [ha]; rfl)), h.own.imp id (fun o => own_stay o hk)⟩
end Go.Proofs.Ytfmfmdiegabobaa

/- one body more is found, in memory; (*sheet.search).head steps as the plain search does. -/
namespace Go.Proofs.Ytfmfmdiegabobaa
open Go.RowKit

theorem exec_conv {P : Program} {w w' : World} {o : Oper} {a : Act} {s d : TypeId} {x : Operand} (ho : o.op = .convert s d x) {v : Value} (hb : (convert s d (a.eval x)).run P w = .ok v w') : (execOp a.eval o).run P w = .ok (.value v) w' := by
  unfold execOp
  simp only [ho, Sem.run_bind]
  rw [hb]
  rfl
theorem fnd_one (s : ByteArray) (i : Int) : ∀ u ∈ (#[Value.string s, .int .i64 i] : Array Value).toList, u.oneCell' = true := by
  intro u hu
  simp at hu
  rcases hu with rfl | rfl <;> rfl

end Go.Proofs.Ytfmfmdiegabobaa

/- (*sheet.search).bodies steps as the plain search does. -/
namespace Go.Proofs.Ytfmfmdiegabobaa
open Go.RowKit

def lenV : Value → Nat
  | .slice _ n _ => n
  | _ => 0

end Go.Proofs.Ytfmfmdiegabobaa

/- sheet.Find finds what the plain search finds, in new memory. -/
namespace Go.Proofs.Ytfmfmdiegabobaa
open Go.RowKit

theorem Sh.cells_len (x : Sh) : x.cells.length = 4 := rfl
/-- A slice of sheets. -/
structure Shs (w : World) (A : Option Addr) (n c : Nat) (l : List Sh) : Prop where
  flt : Flt w A n c 4 (l.flatMap Sh.cells)
  len : l.length = n
  inn : ∀ x ∈ l, x.In
theorem Shs.below {w w' : World} {A : Option Addr} {n c : Nat} {l : List Sh} (h : Shs w A n c l) (hb : Below w.heap.size w w') : Shs w' A n c l := ⟨h.flt.below hb, h.len, h.inn⟩
def Sh.fd (x : Sh) : Int × List Int := (x.first, nums x.data)
/-- What was found, in new memory. -/
def RetFnd (out : List (List Int × Int)) (w : World) (e : Ending) (w' : World) : Prop :=
  ∃ A n c, e = .returned (.slice A n c) ∧ Flt w' A n c 2 (out.flatMap fndC) ∧ out.length = n ∧ (∀ x ∈ out, isB x.1 ∧ x.1.length ≤ 4096) ∧ Below w.heap.size w w'

theorem fr_below {base H : Nat} {w w1 w2 : World} (hb : Below base w w1) (hB : base ≤ w1.heap.size) (f : Fr (Mid base H) w1 w2) : Below base w w2 := hb.trans (f.below hB (fun k m => m.1))
end Go.Proofs.Ytfmfmdiegabobaa

/- trothref08.Same, SameFound and the statements' bodies say yes of what reads as the same. -/
namespace Go.Proofs.Ytfmfmdiegabobaa
open Go.RowKit

theorem Flt.none_ {w : World} {A : Option Addr} {c k : Nat} {vs : List Value} (h : Flt w A 0 c k vs) : vs = [] := List.eq_nil_of_length_eq_zero (by rw [h.len]; simp)

/-- What was found, in memory. -/
structure Fnds (w : World) (A : Option Addr) (n c : Nat) (out : List (List Int × Int)) : Prop where
  flt : Flt w A n c 2 (out.flatMap fndC)
  len : out.length = n
def fd0 : List Int × Int := ([], 0)
theorem Fnds.below {w w' : World} {A : Option Addr} {n c : Nat} {out : List (List Int × Int)} (h : Fnds w A n c out) (hb : Below w.heap.size w w') : Fnds w' A n c out := ⟨h.flt.below hb, h.len⟩

end Go.Proofs.Ytfmfmdiegabobaa

/- what a row's step wants of arguments that are numbers or slices of bytes: how they read, and how long they are. No condition. -/
namespace Go.Proofs.Ytfmfmdiegabobaa
open Go.ChangeShapes Go.WideShapes Go.ChangeAt Go.RowKit

theorem own_knob : ownKnob Try.prog.godebug = none := by kernel_rfl
theorem laidOut : laidOutB Try.prog = true := by kernel_rfl

theorem u64_nat {x : Int} (h : (Lit.int .u64 x).wf = true) : ∃ m : Nat, x = m ∧ m < 18446744073709551616 := by
  simp [Lit.wf, IntKind.min, IntKind.max, IntKind.signed, IntKind.bits] at h
  exact ⟨x.toNat, by omega, by omega⟩

theorem u32_nat {x : Int} (h : (Lit.int .u32 x).wf = true) : ∃ m : Nat, x = m ∧ m < 4294967296 := by
  simp [Lit.wf, IntKind.min, IntKind.max, IntKind.signed, IntKind.bits] at h
  exact ⟨x.toNat, by omega, by omega⟩

theorem i64_bd {x : Int} (h : (Lit.int .i64 x).wf = true) : -9223372036854775808 ≤ x ∧ x ≤ 9223372036854775807 := by
  simp [Lit.wf, IntKind.min, IntKind.max, IntKind.signed, IntKind.bits] at h
  exact ⟨by omega, by omega⟩

theorem u8_bd {x : Int} (h : (Lit.int .u8 x).wf = true) : 0 ≤ x ∧ x < 256 := by
  simp [Lit.wf, IntKind.min, IntKind.max, IntKind.signed, IntKind.bits] at h
  exact ⟨by omega, by omega⟩

theorem bytes8 : Try.prog.bytesOf 5 = 1 := by kernel_rfl
theorem cells8 : Try.prog.cellsOf 5 = 1 := by kernel_rfl

section
variable {H : Type} {enc : TypeId × Value → H} {W : World}

theorem open_bytes {a : Option Addr} {n c : Nat} {d : DataW H} {p : List MemPlace} (h : DataW.Trod enc Try.prog W 0 (fun _ => true) true 25 (.slice a n c) d p) :
    ∃ l, Byt W a n c l ∧ (n = 0 ∨ ∃ el sp, d = .slice el sp ∧ el.length = n) := by
  obtain ⟨fuel, hf⟩ := h
  rcases open_ints Try.underlying25 Try.underlying5 cells8 hf with ⟨hcs, _⟩ | ⟨x, len, cap, zs, hcs, _, hl, hm, hz, hx, hcell, hwz⟩
  · simp [Value.cells] at hcs
    obtain ⟨rfl, rfl, rfl⟩ := hcs
    exact ⟨[], Byt.nil W, .inl rfl⟩
  · simp [Value.cells] at hcs
    obtain ⟨rfl, rfl, rfl⟩ := hcs
    simp only [Prod.mk.injEq] at hx
    have hzl : zs.length = c := by simpa using hz
    refine ⟨zs.take n, ⟨by simp; omega, hl, hm, fun y hy => u8_bd (hwz y (List.mem_of_mem_take hy)), (fun h => nomatch h), fun hn => ?_⟩, .inr ⟨_, _, hx.1, by simp [lits]; omega⟩⟩
    obtain ⟨g, off, spot⟩ := x
    have hspot : spot = none := by simpa [Addr.add] using World.cell?_spot (hcell 0 (by omega))
    subst hspot
    refine ⟨g, off, rfl, fun i hi => ?_⟩
    have h1 := hcell i (by omega)
    have hadd : (⟨g, off, none⟩ : Addr).add i = ⟨g, off + i, none⟩ := by unfold Addr.add; split <;> simp_all
    rw [hadd] at h1
    rw [h1]
    congr 2
    simp [List.getD, hi]

theorem bytes_reach {ts : List TypeId} {ds : List (DataW H)} (h : (DataW.weightsEach Try.prog ts ds).all (· ≤ reachBytes) = true) {j : Nat} {d : DataW H} {n : Nat} (ht : ts[j]? = some 25) (hd : ds[j]? = some d)
    (e : n = 0 ∨ ∃ el sp, d = .slice el sp ∧ el.length = n) : n ≤ 140737488351232 := by
  rcases e with rfl | ⟨el, sp, rfl, hn⟩
  · omega
  · have := sized_slice h ht hd Try.underlying25
    rw [bytes8] at this
    simp only [reachBytes] at this
    omega
end
end Go.Proofs.Ytfmfmdiegabobaa

/- bodies and sheets as they come in: what they read as. -/
namespace Go.Proofs.Ytfmfmdiegabobaa
open Go.RowKit Go.ChangeShapes Go.WideShapes Go.ChangeAt

structure BodsE (w : World) (A : Option Addr) (n c : Nat) (ls : List (List Int)) : Prop where
  ex : ∃ vs, Bods w A n c ls vs

theorem lstO {α : Type} (d : α) (P : Nat → α → Prop) : ∀ n : Nat, (∀ i, i < n → ∃ x, P i x) → ∃ l : List α, l.length = n ∧ ∀ i, i < n → P i (l.getD i d)
  | 0, _ => ⟨[], rfl, fun i hi => absurd hi (by omega)⟩
  | n + 1, h => by
    obtain ⟨l, hl, hp⟩ := lstO d P n (fun i hi => h i (by omega))
    obtain ⟨x, hx⟩ := h n (by omega)
    refine ⟨l ++ [x], by simp [hl], fun i hi => ?_⟩
    by_cases he : i < n
    · have := hp i he
      have e : (l ++ [x]).getD i d = l.getD i d := by simp [List.getD, List.getElem?_append_left (show i < l.length by omega)]
      rwa [e]
    · obtain rfl : i = n := by omega
      have : (l ++ [x]).getD l.length d = x := by simp
      rw [hl] at this
      rw [this]
      exact hx

section
variable {H : Type} {enc : TypeId × Value → H} {W : World}
theorem coO_int : Try.prog.cellsOf 3 = 1 := by kernel_rfl
theorem coO_str : Try.prog.cellsOf 9 = 1 := by kernel_rfl
theorem coO_bytes : Try.prog.cellsOf 25 = 1 := by kernel_rfl
theorem addrO {g off : Nat} (i j : Nat) : ((⟨g, off, none⟩ : Addr).add i).add j = ⟨g, off + i + j, none⟩ := by
  by_cases hi : i = 0 <;> by_cases hj : j = 0 <;> simp [Addr.add, hi, hj]

end
end Go.Proofs.Ytfmfmdiegabobaa

/- sheet.Lay lays bodies into sheets, or answers the error. -/
namespace Go.Proofs.Ytfmfmdiegabobaa
open Go.RowKit

/-- What is laid. -/
def layShs (inc pos : Int) (ls : List (List Int)) : List Sh := (List.range (shN (allL ls).length)).map (fun (i : Nat) => ⟨inc, pos + (i : Int), fstIn (bgns ls) i, strOfNums (partL (allL ls) i)⟩)
def layErr (inc pos : Int) (ls : List (List Int)) : Int :=
  if isSeqB inc = false ∨ isSeqB pos = false then 1 else if ∃ b ∈ ls, 4096 < b.length then 12 else if 1099511627776 < pos + (shN (allL ls).length : Int) then 162 else 0
def layRes (inc pos : Int) (ls : List (List Int)) : List Sh := if layErr inc pos ls = 0 then layShs inc pos ls else []
theorem layShs_fd (inc pos : Int) {ls : List (List Int)} (h : ∀ b ∈ ls, isB b) : (layShs inc pos ls).map Sh.fd = laidL ls := by
  unfold layShs laidL
  rw [List.map_map]
  refine List.map_congr_left (fun i _ => ?_)
  simp only [Function.comp, Sh.fd, laidAt]
  rw [nums_str]
  · rfl
  · exact ((allL_isB h).drop _).take _
theorem layShs_len (inc pos : Int) (ls : List (List Int)) : (layShs inc pos ls).length = shN (allL ls).length := by simp [layShs]
/-- Sheets, and an error beside them. -/
def RetLay (x : Int) (l : List Sh) (w : World) (e : Ending) (w' : World) : Prop := ∃ A n c, e = .returned (.tuple #[.slice A n c, .int .i64 x]) ∧ Shs w' A n c l ∧ Below w.heap.size w w'
theorem Shs.nil (w : World) : Shs w none 0 0 [] := ⟨Flt.nil w 4, rfl, fun x hx => (by cases hx)⟩

theorem cells4 (x : Sh) (j : Nat) (v : Value) (h : x.cells[j]? = some v) : j < 4 := (List.getElem?_eq_some_iff.1 h).1
end Go.Proofs.Ytfmfmdiegabobaa

/- sheet.Lay answers the sheets, or the error, in new memory. -/
namespace Go.Proofs.Ytfmfmdiegabobaa
open Go.RowKit

theorem fstIn_snoc (l : List Nat) (b j : Nat) : fstIn (l ++ [b]) j = if fstIn l j = 255 ∧ b / 242 = j then ((b % 242 : Nat) : Int) else fstIn l j := by
  unfold fstIn
  rw [List.find?_append]
  cases hf : l.find? (fun b => b / 242 == j) with
  | some x =>
    have : ((x % 242 : Nat) : Int) ≠ 255 := by have := Nat.mod_lt x (show 242 > 0 by omega); omega
    simp only [Option.some_or]
    rw [if_neg (fun q => this q.1)]
  | none =>
    simp only [Option.none_or, true_and]
    by_cases q : b / 242 = j
    · simp [List.find?, q]
    · have : (b / 242 == j) = false := by simpa using q
      simp [List.find?, this, q]
theorem bgns_len (ls : List (List Int)) : (bgns ls).length = ls.length := by simp [bgns]
theorem bgns_getD (ls : List (List Int)) (i : Nat) (h : i < ls.length) : (bgns ls).getD i 0 = bgn ls i := by simp [List.getD, bgns_get i h]
theorem fstIn_rng (l : List Nat) (j : Nat) : 0 ≤ fstIn l j ∧ fstIn l j ≤ 255 := by
  unfold fstIn
  split
  · rename_i b _
    have := Nat.mod_lt b (show 242 > 0 by omega)
    omega
  · omega
theorem partL_len (l : List Int) (i : Nat) : (partL l i).length ≤ 242 := by unfold partL; rw [List.length_take]; omega

/-- The sheets while they are laid: firsts stand for the first k begins. -/
def shAt (inc pos : Int) (ls : List (List Int)) (k : Nat) (j : Nat) : Sh := ⟨inc, pos + (j : Int), fstIn ((bgns ls).take k) j, strOfNums (partL (allL ls) j)⟩
theorem shAt_all (inc pos : Int) (ls : List (List Int)) (k j : Nat) (hk : ls.length ≤ k) (hj : j < shN (allL ls).length) : (layShs inc pos ls).getD j sh0 = shAt inc pos ls k j := by
  unfold layShs shAt
  rw [List.take_of_length_le (by rw [bgns_len]; exact hk)]
  simp [List.getD, hj]
theorem layShs_in {inc pos : Int} {ls : List (List Int)} (hi : 0 ≤ inc ∧ inc ≤ 1099511627776) (hp : 0 ≤ pos) (hN : pos + (shN (allL ls).length : Int) ≤ 1099511627776) : ∀ x ∈ layShs inc pos ls, x.In := by
  intro x hx
  unfold layShs at hx
  obtain ⟨j, hj, rfl⟩ := List.mem_map.1 hx
  have hj := List.mem_range.1 hj
  have hf := fstIn_rng (bgns ls) j
  have hl := partL_len (allL ls) j
  exact ⟨⟨by simp only; omega, by simp only; omega⟩, ⟨by simp only; omega, by simp only; omega⟩, ⟨by simp only; omega, by simp only; omega⟩, by simp only; rw [str_size]; unfold maxLen; omega⟩

theorem shAt_next (inc pos : Int) (ls : List (List Int)) (k j : Nat) (hk : k < ls.length) : shAt inc pos ls (k + 1) j = if fstIn ((bgns ls).take k) j = 255 ∧ bgn ls k / 242 = j then ⟨(shAt inc pos ls k j).inc, (shAt inc pos ls k j).pos, ((bgn ls k % 242 : Nat) : Int), (shAt inc pos ls k j).data⟩ else shAt inc pos ls k j := by
  unfold shAt
  rw [take_succ_getD (bgns ls) 0 k (by rw [bgns_len]; exact hk), bgns_getD ls k hk, fstIn_snoc]
  split <;> rfl

theorem sh_one4 (x0 x1 x2 : Int) (x3 : ByteArray) : (#[Value.int .i64 x0, .int .i64 x1, .int .i64 x2, .string x3] : Array Value).all (·.oneCell') = true := by simp [Value.oneCell']

/-- Sheets, and an error beside them; the sheets lie in new memory. -/
def RetLayN (x : Int) (l : List Sh) (w : World) (e : Ending) (w' : World) : Prop := ∃ A n c, e = .returned (.tuple #[.slice A n c, .int .i64 x]) ∧ Shs w' A n c l ∧ Below w.heap.size w w' ∧ ∀ a, A = some a → w.heap.size ≤ a.block
end Go.Proofs.Ytfmfmdiegabobaa

/- the statements' ended tells how many bodies end in the first sheets. -/
namespace Go.Proofs.Ytfmfmdiegabobaa
open Go.RowKit

theorem sealL_size (b : List Int) (h : b.length ≤ 1500) : (sealL b).length = b.length + 5 + if 127 < b.length then 1 else 0 := by
  have e : (shortL b.length).length = 1 + if 127 < b.length then 1 else 0 := by
    unfold shortL
    by_cases q : 127 < b.length
    · rw [if_pos q]
      obtain ⟨k, hk⟩ : ∃ k, b.length / 128 = k + 1 := ⟨b.length / 128 - 1, by omega⟩
      have h0 : (k + 1) / 128 = 0 := by omega
      rw [hk, hiD]
      simp [hiD, h0]
    · rw [if_neg q]
      have h0 : b.length / 128 = 0 := by omega
      rw [h0, hiD]
      simp
  rw [sealL_len]
  unfold textL
  rw [List.length_append, e]
  split <;> omega

end Go.Proofs.Ytfmfmdiegabobaa

/- trothlaw08.awake answers true. -/
namespace Go.Proofs.Ytfmfmdiegabobaa
open Go.RowKit

/-- So many noughts, as a body. -/
def zb (n : Nat) : List Int := List.replicate n 0
theorem zb_len (n : Nat) : (zb n).length = n := by simp [zb]
theorem zb_isB (n : Nat) : isB (zb n) := fun x hx => by
  have := (List.mem_replicate.1 hx).2
  omega
theorem noughts_byt (n : Nat) (W : World) (t : TypeId) (hn : n ≤ 1000000) : Byt (W.alloc (.cells (noughts n) t)) (some ⟨W.heap.size, 0, none⟩) n n (zb n) :=
  Byt.of_bk (Bk.new W t _) 0 n n (zb n) (zb_len n) (Nat.le_refl _) (by unfold maxLen; omega) (zb_isB n) (fun i hi => by
    rw [Nat.zero_add]
    unfold noughts madeCells
    simp [zb, hi, Nat.mod_one])
/-- One body of noughts, in a slice of its own. -/
theorem zbods (n : Nat) (W : World) (hn : n ≤ 1000000) : Bods ((W.alloc (.cells (noughts n) 5)).alloc (.cells #[.slice (some ⟨W.heap.size, 0, none⟩) n n] 25)) (some ⟨W.heap.size + 1, 0, none⟩) 1 1 [zb n] [(some ⟨W.heap.size, 0, none⟩, n, n)] := by
  refine ⟨⟨rfl, Nat.le_refl _, by unfold maxLen; omega, (fun e => nomatch e), fun _ => ⟨W.heap.size + 1, 0, rfl, fun j v hv => ?_⟩⟩, rfl, rfl, fun i hi => ?_⟩
  · have h := Bk.new (W.alloc (.cells (noughts n) 5)) 25 #[.slice (some ⟨W.heap.size, 0, none⟩) n n]
    rw [World.size_alloc] at h
    rw [h.cell, Nat.zero_add]
    simpa [slV] using hv
  · obtain rfl : i = 0 := by omega
    exact (noughts_byt n W _ hn).alloc _
theorem zbods_below (n : Nat) (W : World) : Below W.heap.size W ((W.alloc (.cells (noughts n) 5)).alloc (.cells #[.slice (some ⟨W.heap.size, 0, none⟩) n n] 25)) :=
  ((Below.refl _ _).alloc (Nat.le_refl _) _).alloc (by simp) _

theorem zb_all : (allL [zb 300]).length = 306 := by
  have : allL [zb 300] = sealL (zb 300) := by simp [allL]
  rw [this, sealL_size _ (by rw [zb_len]; omega), zb_len]
  rfl
theorem zb_err : layErr 1 7 [zb 300] = 0 := by
  unfold layErr
  rw [zb_all, if_neg (by rintro (h | h) <;> cases h), if_neg (by rintro ⟨b, hb, h⟩; simp at hb; subst hb; rw [zb_len] at h; omega), if_neg (by unfold shN; omega)]
theorem zb_two : shN (allL [zb 300]).length = 2 := by rw [zb_all]; rfl
theorem zb_f0 : fstIn (bgns [zb 300]) 0 = 0 := by rw [fst_is (bs := [zb 300]) (j := 0) (by simp) (by rw [bgn_zero]) (fun m hm => absurd hm (by omega)), bgn_zero]; rfl
theorem zb_f1 : fstIn (bgns [zb 300]) 1 = 255 := fst_none (fun k hk => by
  have : k = 0 := by simpa using hk
  subst this
  rw [bgn_zero]
  omega)

end Go.Proofs.Ytfmfmdiegabobaa

/- slices of sheets, of what was found, and of bodies: appended onto a row of one's own, and cut. -/
namespace Go.Proofs.Ytfmfmdiegabobaa
open Go.RowKit

theorem wpList_append_flt {P : Program} {w : World} {ops : Array Oper} {rest : List Oper} {o : Oper} {a : Act} {Q : Exit → Act → World → Prop} (hgd : o.guard = none) (s x : Operand) (t : TypeId)
    (ho : o.op = .call { callee := .builtin .append, args := #[s, x], argTypes := #[t, t] }) (base : Nat) (e : TypeId) (i : TypeInfo) (z : Value) (size bytes : Nat) (ht : P.underlying t = some (.slice e)) (hi : P.info? e = some i) (hz : i.zero = some z)
    (hsize : i.size = size) (hby : i.bytes = bytes) (hzs : z.cells.size = size) (hpos : 0 < size) {v : Value} {n : Nat} {xs : List Value} (hs : a.eval s = v) (hown : w.ownsRow base e size v n xs)
    {A : Option Addr} {m c : Nat} {vs : List Value} (hx : a.eval x = .slice A m c) (hl : Flt w A m c size vs) (h1 : ∀ u ∈ vs, u.oneCell' = true) (hn : n + m ≤ 1000000) (hbb : bytes ≤ 1000) (hbase : base ≤ w.heap.size)
    (h : ∀ A' c' w', w'.ownsRow base e size (.slice A' (n + m) c') (n + m) (xs ++ vs) → w.grownBy w' v.ownBlock → wpList P ops Q rest (a.put o.dst (.slice A' (n + m) c')) w') : wpList P ops Q (o :: rest) a w := by
  refine wpList_plain hgd fun K hK => ?_
  cases A with
  | none =>
    obtain ⟨rfl, rfl⟩ := hl.nil_ rfl
    have hv0 : vs = [] := List.eq_nil_of_length_eq_zero (by rw [hl.len]; simp)
    subst hv0
    obtain ⟨A', c', rfl⟩ := own_form hown
    have hrun := run_append_owned_none (P := P) (w := w) base t o.type e i size ht hi (.slice A' n c') n _ hown
    have h' := h A' c' w (by simpa using hown) (World.grownBy.refl w _)
    simp only [Nat.add_zero] at h'
    unfold Oper.wp
    simp only [execOp, ho, resolve, invoke, builtin, List.map_toArray, List.map_cons, List.map_nil, hs, hx, Sem.run_bind, Sem.run_pure, Result.andThen_ok, hrun]
    exact hK _ _ h'
  | some ad =>
    have hbt : (n + m) * bytes ≤ 140737488355328 := Nat.le_trans (Nat.mul_le_mul hn hbb) (by omega)
    refine wp_append_own w s x t ho base e i z size bytes ht hi hz hsize hby hzs hpos v n xs hs hown ad m c vs hx (by rw [hl.len]) (hl.news ad rfl) h1 (by unfold maxLen; omega) hbt hbase ?_
    intro v' w' k1 k2 _
    obtain ⟨A', c', rfl⟩ := own_form k1
    exact hK _ _ (h A' c' w' k1 k2)

theorem sh_ones (l : List Sh) : ∀ u ∈ l.flatMap Sh.cells, u.oneCell' = true := by
  intro u hu
  obtain ⟨x, _, hx⟩ := List.mem_flatMap.1 hu
  simp [Sh.cells] at hx
  rcases hx with rfl | rfl | rfl | rfl <;> rfl

theorem addr0 (A : Option Addr) (s : Nat) : A.map (·.add (0 * s)) = A := by
  cases A with
  | none => rfl
  | some a => simp [Addr.add]

/-- 's[:k]' of whatever elements. -/
theorem cutF_h {w : World} {A : Option Addr} {n c size : Nat} {vs : List Value} {t e : TypeId} {i : TypeInfo} (ht : Try.prog.underlying t = some (.slice e)) (hi : Try.prog.info? e = some i) (h : Flt w A n c size vs) (k : Nat) (hk : k ≤ n) (zk : Int) (ek : zk = k) :
    (∀ v, (Instr.slice t (.slice A n c) none (some (.int .i64 zk)) none).run Try.prog v = .ok (.slice A k c) v) ∧ Flt w A k c size (vs.take (k * size)) := by
  have hcap := h.cap
  subst ek
  have hel : Try.prog.elem t = e := by simp [Program.elem, ht]
  refine ⟨fun v => ?_, h.take k hk⟩
  rw [run_slice_h (P := Try.prog) (w := v) t A n c (by rw [hel]; exact ht) .i64 k (by omega) (by omega), hel]
  have : (sizeOf e).run Try.prog v = .ok i.size v := by simp [sizeOf, typeInfo, hi]
  rw [this]
  simp only [Result.andThen, sliced, Int.toNat_natCast, Nat.sub_zero, addr0, ite_self]

/-- 's[k:]' of whatever elements. -/
theorem cutF_l {w : World} {A : Option Addr} {n c size : Nat} {vs : List Value} {t e : TypeId} {i : TypeInfo} (ht : Try.prog.underlying t = some (.slice e)) (hi : Try.prog.info? e = some i) (hsz : i.size = size) (h : Flt w A n c size vs) (k : Nat) (hk : k ≤ n) (zk : Int) (ek : zk = k) :
    ∃ B d, (∀ v, (Instr.slice t (.slice A n c) (some (.int .i64 zk)) none none).run Try.prog v = .ok (.slice B (n - k) d) v) ∧ Flt w B (n - k) d size (vs.drop (k * size)) := by
  have hcap := h.cap
  have hmax := h.max
  subst ek
  have hel : Try.prog.elem t = e := by simp [Program.elem, ht]
  refine ⟨if c = k then A else A.map (·.add (k * size)), c - k, fun v => ?_, ⟨?_, by omega, by omega, fun eq => ?_, fun hn => ?_⟩⟩
  · rw [run_slice_l (P := Try.prog) (w := v) t A n c (by rw [hel]; exact ht) .i64 k (by omega) (by omega), hel]
    have : (sizeOf e).run Try.prog v = .ok i.size v := by simp [sizeOf, typeInfo, hi]
    rw [this, hsz]
    simp only [Result.andThen, sliced, Int.toNat_natCast]
  · rw [List.length_drop, h.len, Nat.sub_mul]
  · by_cases q : c = k
    · omega
    · rw [if_neg q] at eq
      cases A with
      | none => have := h.nil_ rfl; omega
      | some a => simp at eq
  · obtain ⟨g, off, rfl, hc⟩ := h.at_ (by omega)
    refine ⟨g, off + k * size, ?_, fun j v hv => ?_⟩
    · rw [if_neg (by omega)]
      simp [Addr.add]
    · rw [List.getElem?_drop] at hv
      rw [Nat.add_assoc]
      exact hc _ v hv
end Go.Proofs.Ytfmfmdiegabobaa

/- page.Set answers the page with another value of a key, or the error. -/
namespace Go.Proofs.Ytfmfmdiegabobaa
open Go.RowKit

/-- A page in new memory, and an error. -/
def RetPg (r : Pg × Nat) (w : World) (e : Ending) (w' : World) : Prop := ∃ A n c, e = .returned (.tuple #[pgV r.1.lsn A n c, .int .i64 r.2]) ∧ OwnP w.heap.size w' A n c r.1.cells ∧ Below w.heap.size w w'

/-- What Set has in memory: the page, the value, what it answers, the new cell. -/
structure SetW (w : World) (r : Nat) (lsn0 : Int) (A : Option Addr) (n c : Nat) (x : Cl) : Prop where
  pg : Bk w r 24 #[.int .i64 lsn0, .slice A n c]
  vl : Bk w (r + 1) 42 #[.bool x.val.has, .string x.val.data]
  out : Bk w (r + 2) 24 #[.int .i64 0, .slice none 0 0]
  cl : Bk w (r + 3) 54 #[.string x.key, .bool x.val.has, .string x.val.data]
theorem SetW.below {w w' : World} {r : Nat} {lsn0 : Int} {A : Option Addr} {n c : Nat} {x : Cl} (h : SetW w r lsn0 A n c x) (hb : Below w.heap.size w w') : SetW w' r lsn0 A n c x :=
  ⟨h.pg.bel hb h.pg.lt, h.vl.bel hb h.vl.lt, h.out.bel hb h.out.lt, h.cl.bel hb h.cl.lt⟩
theorem SetW.new (w : World) (lsn0 : Int) (A : Option Addr) (n c : Nat) (x : Cl) : SetW ((((w.alloc (.cells #[.int .i64 lsn0, .slice A n c] 24)).alloc (.cells #[.bool x.val.has, .string x.val.data] 42)).alloc (.cells #[.int .i64 0, .slice none 0 0] 24)).alloc (.cells #[.string x.key, .bool x.val.has, .string x.val.data] 54)) w.heap.size lsn0 A n c x := by
  obtain ⟨w1, h1⟩ : ∃ x, x = w.alloc (.cells #[.int .i64 lsn0, .slice A n c] 24) := ⟨_, rfl⟩
  obtain ⟨w2, h2⟩ : ∃ v, v = w1.alloc (.cells #[.bool x.val.has, .string x.val.data] 42) := ⟨_, rfl⟩
  obtain ⟨w3, h3⟩ : ∃ v, v = w2.alloc (.cells #[.int .i64 0, .slice none 0 0] 24) := ⟨_, rfl⟩
  obtain ⟨w4, h4⟩ : ∃ v, v = w3.alloc (.cells #[.string x.key, .bool x.val.has, .string x.val.data] 54) := ⟨_, rfl⟩
  rw [← h1, ← h2, ← h3, ← h4]
  have s1 : w1.heap.size = w.heap.size + 1 := by rw [h1, World.size_alloc]
  have s2 : w2.heap.size = w.heap.size + 2 := by rw [h2, World.size_alloc, s1]
  have s3 : w3.heap.size = w.heap.size + 3 := by rw [h3, World.size_alloc, s2]
  have b2 : Below w1.heap.size w1 w2 := by rw [h2]; exact (Below.refl _ _).alloc (Nat.le_refl _) _
  have b3 : Below w2.heap.size w2 w3 := by rw [h3]; exact (Below.refl _ _).alloc (Nat.le_refl _) _
  have b4 : Below w3.heap.size w3 w4 := by rw [h4]; exact (Below.refl _ _).alloc (Nat.le_refl _) _
  have k1 : Bk w1 w.heap.size 24 #[.int .i64 lsn0, .slice A n c] := by rw [h1]; exact Bk.new w _ _
  have k2 : Bk w2 (w.heap.size + 1) 42 #[.bool x.val.has, .string x.val.data] := by rw [h2, ← s1]; exact Bk.new w1 _ _
  have k3 : Bk w3 (w.heap.size + 2) 24 #[.int .i64 0, .slice none 0 0] := by rw [h3, ← s2]; exact Bk.new w2 _ _
  have k4 : Bk w4 (w.heap.size + 3) 54 #[.string x.key, .bool x.val.has, .string x.val.data] := by rw [h4, ← s3]; exact Bk.new w3 _ _
  exact ⟨((k1.bel b2 (by omega)).bel b3 (by omega)).bel b4 (by omega), (k2.bel b3 (by omega)).bel b4 (by omega), k3.bel b4 (by omega), k4⟩
theorem setW_below (w : World) (lsn0 : Int) (A : Option Addr) (n c : Nat) (x : Cl) : Below w.heap.size w ((((w.alloc (.cells #[.int .i64 lsn0, .slice A n c] 24)).alloc (.cells #[.bool x.val.has, .string x.val.data] 42)).alloc (.cells #[.int .i64 0, .slice none 0 0] 24)).alloc (.cells #[.string x.key, .bool x.val.has, .string x.val.data] 54)) :=
  ((((Below.refl _ _).alloc (Nat.le_refl _) _).alloc (by simp) _).alloc (by simp; omega) _).alloc (by simp; omega) _

/-- The answer beside an error. -/
theorem SetW.zero {w w' : World} {lsn0 : Int} {A : Option Addr} {n c : Nat} {x : Cl} (h : SetW w' w.heap.size lsn0 A n c x) (hb : Below w.heap.size w w') (er : Nat) :
    Bk ((w'.setCell ⟨w.heap.size + 2, 0, none⟩ (.int .i64 0)).setCell ⟨w.heap.size + 2, 1, none⟩ (.slice none 0 0)) (w.heap.size + 2) 24 #[.int .i64 0, .slice none 0 0] ∧
    RetPg (pg0, er) w (.returned (.tuple #[pgV 0 none 0 0, .int .i64 er])) ((w'.setCell ⟨w.heap.size + 2, 0, none⟩ (.int .i64 0)).setCell ⟨w.heap.size + 2, 1, none⟩ (.slice none 0 0)) := by
  refine ⟨by simpa using (h.out.setc 0 (.int .i64 0)).setc 1 (.slice none 0 0), none, 0, 0, rfl, OwnP.nil _ _, ?_⟩
  exact (hb.setCell (p := ⟨w.heap.size + 2, 0, none⟩) (by simp) _).setCell (p := ⟨w.heap.size + 2, 1, none⟩) (by simp) _

set_option maxRecDepth 100000 in
set_option maxHeartbeats 4000000 in
theorem set_no (lsn0 : Int) (A : Option Addr) (n c : Nat) (l : List Cl) (lsn : Int) (x : Cl) (w : World) (h : Pcs w A n c l) (hno : ¬ ((⟨lsn0, l⟩ : Pg).ok ∧ clOk x ∧ 1 ≤ lsn ∧ lsn ≤ 1099511627776)) :
    Calls Try.prog 17 #[pgV lsn0 A n c, .int .i64 lsn, .string x.key, vlV x.val] w (RetPg (pg0, 1) w) := by
  obtain ⟨key, ⟨hs, d⟩⟩ := x
  obtain ⟨W0, hW0⟩ : ∃ W, W = (((w.alloc (.cells #[.int .i64 lsn0, .slice A n c] 24)).alloc (.cells #[.bool hs, .string d] 42)).alloc (.cells #[.int .i64 0, .slice none 0 0] 24)).alloc (.cells #[.string key, .bool hs, .string d] 54) := ⟨_, rfl⟩
  have HB : Hid (Below w.heap.size w W0) := Lib.hid (by rw [hW0]; exact setW_below w lsn0 A n c ⟨key, ⟨hs, d⟩⟩)
  have SW : Hid (SetW W0 w.heap.size lsn0 A n c ⟨key, ⟨hs, d⟩⟩) := Lib.hid (by rw [hW0]; exact SetW.new w lsn0 A n c ⟨key, ⟨hs, d⟩⟩)
  have p0 : W0.cell? ⟨w.heap.size, 0, none⟩ = some (.int .i64 lsn0) := SW.out.pg.cell 0
  have p1 : W0.cell? ⟨w.heap.size, 1, none⟩ = some (.slice A n c) := SW.out.pg.cell 1
  have C := isPage_any lsn0 A n c l W0 (h.below HB.out)
  have CC := fun W => isCell_any ⟨key, ⟨hs, d⟩⟩ W
  have HW := Lib.hid hW0
  clear h hW0
  have FIN : Hid (∀ w', Below W0.heap.size W0 w' → w'.frozen? ⟨w.heap.size + 2, 0, none⟩ = false ∧ w'.frozen? ⟨w.heap.size + 2, 1, none⟩ = false ∧ w'.cell? ⟨w.heap.size + 2, 0, none⟩ = some (.int .i64 0) ∧ w'.cell? ⟨w.heap.size + 2, 1, none⟩ = some (.slice none 0 0) ∧
      w'.cell? ⟨w.heap.size + 3, 0, none⟩ = some (.string key) ∧ w'.cell? ⟨w.heap.size + 3, 1, none⟩ = some (.bool hs) ∧ w'.cell? ⟨w.heap.size + 3, 2, none⟩ = some (.string d)) := Lib.hid (fun w' hb => by
    have s := SW.out.below hb
    exact ⟨s.out.frz 0, s.out.frz 1, s.out.cell 0, s.out.cell 1, s.cl.cell 0, s.cl.cell 1, s.cl.cell 2⟩)
  have ZE : Hid (∀ w', Below W0.heap.size W0 w' → Bk ((w'.setCell ⟨w.heap.size + 2, 0, none⟩ (.int .i64 0)).setCell ⟨w.heap.size + 2, 1, none⟩ (.slice none 0 0)) (w.heap.size + 2) 24 #[.int .i64 0, .slice none 0 0] ∧
    RetPg (pg0, 1) w (.returned (.tuple #[pgV 0 none 0 0, .int .i64 1])) ((w'.setCell ⟨w.heap.size + 2, 0, none⟩ (.int .i64 0)).setCell ⟨w.heap.size + 2, 1, none⟩ (.slice none 0 0))) := Lib.hid (fun w' hb => (SW.out.below hb).zero (Below.then HB.out hb) 1)
  by_cases hp : (⟨lsn0, l⟩ : Pg).ok
  · rw [decide_eq_true hp] at C
    by_cases hc : clOk ⟨key, ⟨hs, d⟩⟩
    · have hl : ¬ (1 ≤ lsn ∧ lsn ≤ 1099511627776) := fun q => hno ⟨hp, hc, q⟩
      rw [decide_eq_true hc] at CC
      have C := Lib.hid C
      have CC := Lib.hid CC
      clear hno hp hc
      by_cases h1 : 1 ≤ lsn
      · have h2 : ¬ lsn ≤ 1099511627776 := fun q => hl ⟨h1, q⟩
        clear hl
        go_enter Try.func17, Try.ntmps17
        go_upto_region 2 with fail
        rw [← HW.out]
        go_wp2_with fail
        refine C.out.mono ?_
        rintro e w1 ⟨rfl, b1⟩
        have B1 := Lib.hid b1
        obtain ⟨_, _, _, _, k0, k1, k2⟩ := FIN.out w1 b1
        clear b1 C p0 p1
        go_wp2_with fail
        refine (CC.out _).mono ?_
        rintro e w2 ⟨rfl, b2⟩
        obtain ⟨f0, f1, z0, z1, _, _, _⟩ := FIN.out _ (Below.then B1.out b2)
        have Z := Lib.hid (ZE.out _ (Below.then B1.out b2))
        clear b2 CC k0 k1 k2
        go_wp2_with fail
        (try simp only [Exit.inBlock, Exit.then])
        refine bodyPost_ret (results_cellT rfl _ _ (w.heap.size + 2) 24 _ _ rfl Z.out.1 Try.underlying24 rfl pg_inf) rfl ?_
        exact Z.out.2
      · clear hl
        go_enter Try.func17, Try.ntmps17
        go_upto_region 2 with fail
        rw [← HW.out]
        go_wp2_with fail
        refine C.out.mono ?_
        rintro e w1 ⟨rfl, b1⟩
        have B1 := Lib.hid b1
        obtain ⟨_, _, _, _, k0, k1, k2⟩ := FIN.out w1 b1
        clear b1 C p0 p1
        go_wp2_with fail
        refine (CC.out _).mono ?_
        rintro e w2 ⟨rfl, b2⟩
        obtain ⟨f0, f1, z0, z1, _, _, _⟩ := FIN.out _ (Below.then B1.out b2)
        have Z := Lib.hid (ZE.out _ (Below.then B1.out b2))
        clear b2 CC k0 k1 k2
        go_wp2_with fail
        (try simp only [Exit.inBlock, Exit.then])
        refine bodyPost_ret (results_cellT rfl _ _ (w.heap.size + 2) 24 _ _ rfl Z.out.1 Try.underlying24 rfl pg_inf) rfl ?_
        exact Z.out.2
    · rw [decide_eq_false hc] at CC
      have C := Lib.hid C
      have CC := Lib.hid CC
      clear hno hp hc
      go_enter Try.func17, Try.ntmps17
      go_upto_region 2 with fail
      rw [← HW.out]
      go_wp2_with fail
      refine C.out.mono ?_
      rintro e w1 ⟨rfl, b1⟩
      have B1 := Lib.hid b1
      obtain ⟨_, _, _, _, k0, k1, k2⟩ := FIN.out w1 b1
      clear b1 C p0 p1
      go_wp2_with fail
      refine (CC.out _).mono ?_
      rintro e w2 ⟨rfl, b2⟩
      obtain ⟨f0, f1, z0, z1, _, _, _⟩ := FIN.out _ (Below.then B1.out b2)
      have Z := Lib.hid (ZE.out _ (Below.then B1.out b2))
      clear b2 CC k0 k1 k2
      go_wp2_with fail
      (try simp only [Exit.inBlock, Exit.then])
      refine bodyPost_ret (results_cellT rfl _ _ (w.heap.size + 2) 24 _ _ rfl Z.out.1 Try.underlying24 rfl pg_inf) rfl ?_
      exact Z.out.2
  · rw [decide_eq_false hp] at C
    have C := Lib.hid C
    clear CC hno hp
    go_enter Try.func17, Try.ntmps17
    go_upto_region 2 with fail
    rw [← HW.out]
    go_wp2_with fail
    refine C.out.mono ?_
    rintro e w1 ⟨rfl, b1⟩
    obtain ⟨f0, f1, z0, z1, _, _, _⟩ := FIN.out _ (b1)
    have Z := Lib.hid (ZE.out _ (b1))
    clear b1 C p0 p1
    go_wp2_with fail
    (try simp only [Exit.inBlock, Exit.then])
    refine bodyPost_ret (results_cellT rfl _ _ (w.heap.size + 2) 24 _ _ rfl Z.out.1 Try.underlying24 rfl pg_inf) rfl ?_
    exact Z.out.2

set_option maxRecDepth 100000 in
set_option maxHeartbeats 4000000 in
theorem set_full (lsn0 : Int) (A : Option Addr) (n c : Nat) (l : List Cl) (lsn : Int) (x : Cl) (w : World) (h : Pcs w A n c l) (hyes : (⟨lsn0, l⟩ : Pg).ok ∧ clOk x ∧ 1 ≤ lsn ∧ lsn ≤ 1099511627776) (hr : roomC l x.key = false) :
    Calls Try.prog 17 #[pgV lsn0 A n c, .int .i64 lsn, .string x.key, vlV x.val] w (RetPg (pg0, 100) w) := by
  obtain ⟨key, ⟨hs, d⟩⟩ := x
  obtain ⟨hp, hc, hl1, hl2⟩ := hyes
  simp only at hr
  obtain ⟨W0, hW0⟩ : ∃ W, W = (((w.alloc (.cells #[.int .i64 lsn0, .slice A n c] 24)).alloc (.cells #[.bool hs, .string d] 42)).alloc (.cells #[.int .i64 0, .slice none 0 0] 24)).alloc (.cells #[.string key, .bool hs, .string d] 54) := ⟨_, rfl⟩
  have HB : Hid (Below w.heap.size w W0) := Lib.hid (by rw [hW0]; exact setW_below w lsn0 A n c ⟨key, ⟨hs, d⟩⟩)
  have SW : Hid (SetW W0 w.heap.size lsn0 A n c ⟨key, ⟨hs, d⟩⟩) := Lib.hid (by rw [hW0]; exact SetW.new w lsn0 A n c ⟨key, ⟨hs, d⟩⟩)
  have HP := Lib.hid (h.below HB.out)
  have p0 : W0.cell? ⟨w.heap.size, 0, none⟩ = some (.int .i64 lsn0) := SW.out.pg.cell 0
  have p1 : W0.cell? ⟨w.heap.size, 1, none⟩ = some (.slice A n c) := SW.out.pg.cell 1
  have C := isPage_any lsn0 A n c l W0 HP.out
  have CC := fun W => isCell_any ⟨key, ⟨hs, d⟩⟩ W
  have CR := fun W (hW : Pcs W A n c l) => room_any lsn0 A n c l key W hW
  rw [hr] at CR
  rw [decide_eq_true hp] at C
  rw [decide_eq_true hc] at CC
  have C := Lib.hid C
  have CC := Lib.hid CC
  have CR := Lib.hid CR
  have HW := Lib.hid hW0
  clear h hW0
  have FIN : Hid (∀ w', Below W0.heap.size W0 w' → w'.frozen? ⟨w.heap.size + 2, 0, none⟩ = false ∧ w'.frozen? ⟨w.heap.size + 2, 1, none⟩ = false ∧ w'.cell? ⟨w.heap.size + 2, 0, none⟩ = some (.int .i64 0) ∧ w'.cell? ⟨w.heap.size + 2, 1, none⟩ = some (.slice none 0 0) ∧
      w'.cell? ⟨w.heap.size + 3, 0, none⟩ = some (.string key) ∧ w'.cell? ⟨w.heap.size + 3, 1, none⟩ = some (.bool hs) ∧ w'.cell? ⟨w.heap.size + 3, 2, none⟩ = some (.string d)) := Lib.hid (fun w' hb => by
    have s := SW.out.below hb
    exact ⟨s.out.frz 0, s.out.frz 1, s.out.cell 0, s.out.cell 1, s.cl.cell 0, s.cl.cell 1, s.cl.cell 2⟩)
  have PGC : Hid (∀ w', Below W0.heap.size W0 w' → w'.cell? ⟨w.heap.size, 0, none⟩ = some (.int .i64 lsn0) ∧ w'.cell? ⟨w.heap.size, 1, none⟩ = some (.slice A n c)) := Lib.hid (fun w' hb => by
    have s := SW.out.below hb
    exact ⟨s.pg.cell 0, s.pg.cell 1⟩)
  have ZE : Hid (∀ w', Below W0.heap.size W0 w' → Bk ((w'.setCell ⟨w.heap.size + 2, 0, none⟩ (.int .i64 0)).setCell ⟨w.heap.size + 2, 1, none⟩ (.slice none 0 0)) (w.heap.size + 2) 24 #[.int .i64 0, .slice none 0 0] ∧
    RetPg (pg0, 100) w (.returned (.tuple #[pgV 0 none 0 0, .int .i64 100])) ((w'.setCell ⟨w.heap.size + 2, 0, none⟩ (.int .i64 0)).setCell ⟨w.heap.size + 2, 1, none⟩ (.slice none 0 0))) := Lib.hid (fun w' hb => (SW.out.below hb).zero (Below.then HB.out hb) 100)
  clear hp hc hr
  go_enter Try.func17, Try.ntmps17
  go_upto_region 2 with fail
  rw [← HW.out]
  go_wp2_with fail
  refine C.out.mono ?_
  rintro e w1 ⟨rfl, b1⟩
  have B1 := Lib.hid b1
  obtain ⟨_, _, _, _, k0, k1, k2⟩ := FIN.out w1 b1
  clear b1 C p0 p1
  go_wp2_with fail
  refine (CC.out _).mono ?_
  rintro e w2 ⟨rfl, b2⟩
  have B2 := Lib.hid (Below.then B1.out b2)
  obtain ⟨p0, p1⟩ := PGC.out w2 B2.out
  clear b2 CC k0 k1 k2
  go_wp2_with fail
  refine (CR.out _ (HP.out.below B2.out)).mono ?_
  rintro e w3 ⟨rfl, b3⟩
  obtain ⟨f0, f1, z0, z1, _, _, _⟩ := FIN.out _ (Below.then B2.out b3)
  have Z := Lib.hid (ZE.out _ (Below.then B2.out b3))
  clear b3 CR p0 p1
  go_wp2_with fail
  (try simp only [Exit.inBlock, Exit.then])
  refine bodyPost_ret (results_cellT rfl _ _ (w.heap.size + 2) 24 _ _ rfl Z.out.1 Try.underlying24 rfl pg_inf) rfl ?_
  exact Z.out.2

set_option maxRecDepth 100000 in
set_option maxHeartbeats 4000000 in
theorem set_ok (lsn0 : Int) (A : Option Addr) (n c : Nat) (l : List Cl) (lsn : Int) (x : Cl) (w : World) (h : Pcs w A n c l) (hyes : (⟨lsn0, l⟩ : Pg).ok ∧ clOk x ∧ 1 ≤ lsn ∧ lsn ≤ 1099511627776) (hr : roomC l x.key = true) :
    Calls Try.prog 17 #[pgV lsn0 A n c, .int .i64 lsn, .string x.key, vlV x.val] w (RetPg ((⟨lsn, setC l x⟩ : Pg), 0) w) := by
  obtain ⟨key, ⟨hs, d⟩⟩ := x
  obtain ⟨hp, hc, hl1, hl2⟩ := hyes
  simp only at hr
  obtain ⟨W0, hW0⟩ : ∃ W, W = (((w.alloc (.cells #[.int .i64 lsn0, .slice A n c] 24)).alloc (.cells #[.bool hs, .string d] 42)).alloc (.cells #[.int .i64 0, .slice none 0 0] 24)).alloc (.cells #[.string key, .bool hs, .string d] 54) := ⟨_, rfl⟩
  have HB : Hid (Below w.heap.size w W0) := Lib.hid (by rw [hW0]; exact setW_below w lsn0 A n c ⟨key, ⟨hs, d⟩⟩)
  have SW : Hid (SetW W0 w.heap.size lsn0 A n c ⟨key, ⟨hs, d⟩⟩) := Lib.hid (by rw [hW0]; exact SetW.new w lsn0 A n c ⟨key, ⟨hs, d⟩⟩)
  have HP := Lib.hid (h.below HB.out)
  have p0 : W0.cell? ⟨w.heap.size, 0, none⟩ = some (.int .i64 lsn0) := SW.out.pg.cell 0
  have p1 : W0.cell? ⟨w.heap.size, 1, none⟩ = some (.slice A n c) := SW.out.pg.cell 1
  have C := isPage_any lsn0 A n c l W0 HP.out
  have CC := fun W => isCell_any ⟨key, ⟨hs, d⟩⟩ W
  have CR := fun W (hW : Pcs W A n c l) => room_any lsn0 A n c l key W hW
  rw [hr] at CR
  rw [decide_eq_true hp] at C
  rw [decide_eq_true hc] at CC
  have C := Lib.hid C
  have CC := Lib.hid CC
  have CR := Lib.hid CR
  have HW := Lib.hid hW0
  clear h hW0
  have FIN : Hid (∀ w', Below W0.heap.size W0 w' → w'.frozen? ⟨w.heap.size + 2, 0, none⟩ = false ∧ w'.frozen? ⟨w.heap.size + 2, 1, none⟩ = false ∧ w'.cell? ⟨w.heap.size + 2, 0, none⟩ = some (.int .i64 0) ∧ w'.cell? ⟨w.heap.size + 2, 1, none⟩ = some (.slice none 0 0) ∧
      w'.cell? ⟨w.heap.size + 3, 0, none⟩ = some (.string key) ∧ w'.cell? ⟨w.heap.size + 3, 1, none⟩ = some (.bool hs) ∧ w'.cell? ⟨w.heap.size + 3, 2, none⟩ = some (.string d)) := Lib.hid (fun w' hb => by
    have s := SW.out.below hb
    exact ⟨s.out.frz 0, s.out.frz 1, s.out.cell 0, s.out.cell 1, s.cl.cell 0, s.cl.cell 1, s.cl.cell 2⟩)
  have PGC : Hid (∀ w', Below W0.heap.size W0 w' → w'.cell? ⟨w.heap.size, 0, none⟩ = some (.int .i64 lsn0) ∧ w'.cell? ⟨w.heap.size, 1, none⟩ = some (.slice A n c)) := Lib.hid (fun w' hb => by
    have s := SW.out.below hb
    exact ⟨s.pg.cell 0, s.pg.cell 1⟩)
  have CB := Lib.hid (fun W (hW : Pcs W A n c l) => bsearch_any A n c l key W hW ((clsOk_pw l).1 hp.2.2).2 (by rw [← HP.out.len]; have := hp.2.1; simp only at this; omega))
  have hlen := Lib.hid HP.out.len
  have hn4 : n ≤ 4 := by rw [← HP.out.len]; exact hp.2.1
  obtain ⟨i0, hi, hz0, hz1, hz2⟩ := info_parts info_cl
  have HI := Lib.hid hi
  have HZ := Lib.hid hz1
  clear hi hz0 hz1 hz2
  have HLN : Hid ((setC l ⟨key, ⟨hs, d⟩⟩).length ≤ 4) := Lib.hid (setPg_isok ⟨hp, hc, hl1, hl2⟩ hr).2.1
  clear hp hc hr
  go_enter Try.func17, Try.ntmps17
  go_upto_region 2 with fail
  rw [← HW.out]
  go_wp2_with fail
  refine C.out.mono ?_
  rintro e w1 ⟨rfl, b1⟩
  have B1 := Lib.hid b1
  obtain ⟨_, _, _, _, k0, k1, k2⟩ := FIN.out w1 b1
  clear b1 C p0 p1
  go_wp2_with fail
  refine (CC.out _).mono ?_
  rintro e w2 ⟨rfl, b2⟩
  have B2 := Lib.hid (Below.then B1.out b2)
  obtain ⟨p0, p1⟩ := PGC.out w2 B2.out
  clear b2 CC k0 k1 k2
  go_wp2_with fail
  refine (CR.out _ (HP.out.below B2.out)).mono ?_
  rintro e w3 ⟨rfl, b3⟩
  have B3 := Lib.hid (Below.then B2.out b3)
  obtain ⟨p0, p1⟩ := PGC.out w3 B3.out
  clear b3 CR
  go_wp2_with fail
  refine (CB.out _ (HP.out.below B3.out)).mono ?_
  rintro e w4 ⟨rfl, b4⟩
  have B4 := Lib.hid (Below.then B3.out b4)
  clear b4 CB p0 p1
  obtain ⟨bb, hat⟩ : ∃ b, isAt l key = b := ⟨_, rfl⟩
  rw [hat]
  cases bb
  · have hbh : behC l key = atC l key := by unfold behC; rw [hat]; rfl
    obtain ⟨at0, hat0⟩ : ∃ z, atC l key = z := ⟨_, rfl⟩
    obtain ⟨bh, hbh0⟩ : ∃ z, behC l key = z := ⟨_, rfl⟩
    have hal : at0 ≤ n := by rw [← hat0, ← hlen.out]; exact atC_le l key
    have hbl : bh ≤ n := by rw [← hbh0, ← hlen.out]; exact behC_le l key
    rw [hat0, hbh0] at hbh
    rw [hat0]
    obtain ⟨hc1, hf1⟩ := cutF_h Try.underlying22 HI.out (HP.out.below B4.out).flt at0 hal (at0 : Int) rfl
    obtain ⟨BB, dd, hc2, hf2⟩ := cutF_l Try.underlying22 HI.out HZ.out (HP.out.below B4.out).flt bh hbl (at0 : Int) (by rw [hbh])
    rw [flatL_take Cl.cells 3 Cl.cells_len] at hf1
    rw [flatC_drop Cl.cells 3 Cl.cells_len] at hf2
    have KS : Hid (∀ w', Below w4.heap.size w4 w' → w'.cell? ⟨w.heap.size, 1, none⟩ = some (.slice A n c) ∧ w'.cell? ⟨w.heap.size + 3, 0, none⟩ = some (.string key) ∧ w'.cell? ⟨w.heap.size + 3, 1, none⟩ = some (.bool hs) ∧ w'.cell? ⟨w.heap.size + 3, 2, none⟩ = some (.string d)) := Lib.hid (fun w' hb => by
      have hb' := Below.then B4.out hb
      have q := FIN.out w' hb'
      exact ⟨(PGC.out w' hb').2, q.2.2.2.2⟩)
    clear hat
    go_wp2_with fail
    have hS0 := KS.out w4.drew (Below.refl _ _).drew
    refine wp_region_noPanic ?_
    refine upto_start (fun w' => w'.cell? ⟨w.heap.size, 1, none⟩ = some (.slice A n c) ∧ w'.cell? ⟨w.heap.size + 3, 0, none⟩ = some (.string key) ∧ w'.cell? ⟨w.heap.size + 3, 1, none⟩ = some (.bool hs) ∧ w'.cell? ⟨w.heap.size + 3, 2, none⟩ = some (.string d)) 13 (by kernel_rfl) ?_
    change Upto _ _ _ _ _ 16 _ _ _
    refine Upto.take (i := 0) (v := ?_) rfl (by kernel_rfl) (fun _ _ _ h => h) rfl (fun w' hS => ?_) hS0 ?_
    rotate_left
    · (try dsimp only at hS)
      go_split_ands
      go_simp
      (try with_reducible rfl)
    simp only [Act.put, List.setIfInBounds_toArray, List.set_cons_zero, List.set_cons_succ]
    refine Upto.take (i := 1) (v := ?_) rfl (by kernel_rfl) (fun _ _ _ h => h) rfl (fun w' hS => ?_) hS0 ?_
    rotate_left
    · (try dsimp only at hS)
      go_split_ands
      go_simp
      (try with_reducible rfl)
    simp only [Act.put, List.setIfInBounds_toArray, List.set_cons_zero, List.set_cons_succ]
    refine Upto.take (i := 2) (v := ?_) rfl (by kernel_rfl) (fun _ _ _ h => h) rfl (fun w' hS => ?_) hS0 ?_
    rotate_left
    · (try dsimp only at hS)
      go_split_ands
      go_simp
      (try with_reducible rfl)
    simp only [Act.put, List.setIfInBounds_toArray, List.set_cons_zero, List.set_cons_succ]
    refine Upto.take (i := 3) (v := ?_) rfl (by kernel_rfl) (fun _ _ _ h => h) rfl (fun w' hS => ?_) hS0 ?_
    rotate_left
    · (try dsimp only at hS)
      go_split_ands
      go_simp
      (try with_reducible rfl)
    simp only [Act.put, List.setIfInBounds_toArray, List.set_cons_zero, List.set_cons_succ]
    refine Upto.take (i := 4) rfl (by kernel_rfl) (fun _ _ _ h => h) rfl (fun w' hS => exec_slice rfl (by exact hc1 _)) hS0 ?_
    simp only [Act.put, List.setIfInBounds_toArray, List.set_cons_zero, List.set_cons_succ]
    refine Upto.take (i := 5) (v := ?_) rfl (by kernel_rfl) (fun _ _ _ h => h) rfl (fun w' hS => ?_) hS0 ?_
    rotate_left
    · (try dsimp only at hS)
      go_split_ands
      go_simp
      (try with_reducible rfl)
    simp only [Act.put, List.setIfInBounds_toArray, List.set_cons_zero, List.set_cons_succ]
    refine Upto.take (i := 7) (v := ?_) rfl (by kernel_rfl) (fun _ _ _ h => h) rfl (fun w' hS => ?_) hS0 ?_
    rotate_left
    · (try dsimp only at hS)
      go_split_ands
      go_simp
      (try with_reducible rfl)
    simp only [Act.put, List.setIfInBounds_toArray, List.set_cons_zero, List.set_cons_succ]
    refine Upto.take (i := 8) (v := ?_) rfl (by kernel_rfl) (fun _ _ _ h => h) rfl (fun w' hS => ?_) hS0 ?_
    rotate_left
    · (try dsimp only at hS)
      go_split_ands
      go_simp
      (try with_reducible rfl)
    simp only [Act.put, List.setIfInBounds_toArray, List.set_cons_zero, List.set_cons_succ]
    refine Upto.take (i := 9) (v := ?_) rfl (by kernel_rfl) (fun _ _ _ h => h) rfl (fun w' hS => ?_) hS0 ?_
    rotate_left
    · (try dsimp only at hS)
      go_split_ands
      go_simp
      (try with_reducible rfl)
    simp only [Act.put, List.setIfInBounds_toArray, List.set_cons_zero, List.set_cons_succ]
    refine Upto.take (i := 10) rfl (by kernel_rfl) (fun _ _ _ h => h) rfl (fun w' hS => exec_slice rfl (by exact hc2 _)) hS0 ?_
    simp only [Act.put, List.setIfInBounds_toArray, List.set_cons_zero, List.set_cons_succ]
    refine Upto.only (i := 6) rfl (by kernel_rfl) rfl (exec_buildSlice rfl [(0, .agg #[.string key, .bool hs, .string d])] (by rfl) (bslice_1 key hs d _)) ?_ ?_
    · exact KS.out _ ((Below.refl _ w4).drew.alloc (Nat.le_refl _) _)
    simp only [Act.put, List.setIfInBounds_toArray, List.set_cons_zero, List.set_cons_succ]
    obtain ⟨W5, hW5⟩ : ∃ W, W = w4.drew.alloc (.cells #[.string key, .bool hs, .string d] 54) := ⟨_, rfl⟩
    have b5 : Below w4.heap.size w4 W5 := by rw [hW5]; exact (Below.refl _ w4).drew.alloc (Nat.le_refl _) _
    have k5 : Bk W5 w4.heap.size 54 #[.string key, .bool hs, .string d] := by rw [hW5]; exact Bk.new w4.drew _ _
    rw [← hW5]
    refine Upto.only (i := 11) rfl (by kernel_rfl) rfl (exec_buildSlice rfl [(0, .slice A at0 c), (1, .slice (some ⟨w4.drew.heap.size, 0, none⟩) 1 1), (2, .slice BB (n - bh) dd)] (by rfl) (bslice_3 _ _ _ _ _ _ _ _ _ _)) ?_ ?_
    · exact KS.out _ (Below.then b5 ((Below.refl _ W5).alloc (Nat.le_refl _) _))
    simp only [Act.put, List.setIfInBounds_toArray, List.set_cons_zero, List.set_cons_succ]
    obtain ⟨W6, hW6⟩ : ∃ W, W = W5.alloc (.cells #[.slice A at0 c, .slice (some ⟨w4.drew.heap.size, 0, none⟩) 1 1, .slice BB (n - bh) dd] 22) := ⟨_, rfl⟩
    have b6 : Below W5.heap.size W5 W6 := by rw [hW6]; exact (Below.refl _ W5).alloc (Nat.le_refl _) _
    have b46 := Below.then b5 b6
    have k6 : Bk W6 W5.heap.size 22 #[.slice A at0 c, .slice (some ⟨w4.drew.heap.size, 0, none⟩) 1 1, .slice BB (n - bh) dd] := by rw [hW6]; exact Bk.new W5 _ _
    rw [← hW6]
    have CT : Hid (Cat3 W6 W5.heap.size (fun i => if i = 0 then (A, at0, c) else if i = 1 then (some ⟨w4.heap.size, 0, none⟩, 1, 1) else (BB, n - bh, dd)) (fun i => if i = 0 then l.take at0 else if i = 1 then [⟨key, ⟨hs, d⟩⟩] else l.drop bh)) := Lib.hid (by
      refine ⟨k6.lt, fun i hi => ?_⟩
      match i, hi with
      | 0, _ => exact ⟨k6.cell 0, ⟨hf1.below b46, by show (l.take at0).length = at0; rw [List.length_take, hlen.out]; exact Nat.min_eq_left hal⟩⟩
      | 1, _ => exact ⟨k6.cell 1, one_pcs (k5.bel b6 k5.lt)⟩
      | 2, _ => exact ⟨k6.cell 2, ⟨hf2.below b46, by show (l.drop bh).length = n - bh; rw [List.length_drop, hlen.out]⟩⟩)
    have AC : Hid (accC (fun i => if i = 0 then l.take at0 else if i = 1 then [⟨key, ⟨hs, d⟩⟩] else l.drop bh) 3 = setC l ⟨key, ⟨hs, d⟩⟩) := Lib.hid (by
      unfold setC
      simp only [hat0, hbh0]
      show (([] ++ l.take at0) ++ [_]) ++ l.drop bh = _
      rw [List.nil_append])
    have C3 := concat3_any _ _ _ _ CT.out (by rw [AC.out]; unfold setC; simp; omega) (by rw [AC.out]; have := HLN.out; omega)
    rw [AC.out] at C3
    have C3 := Lib.hid C3
    have B46 := Lib.hid b46
    clear hW5 b5 k5 hW6 b6 k6 hf1 hf2 CT AC b46
    refine Upto.law (i := 12) rfl (by kernel_rfl) rfl (fun K hK => ?_)
    refine wp_enter (f := 45) (args := #[.slice (some ⟨W5.heap.size, 0, none⟩) 3 3]) (by go_simp) C3.out ?_
    rintro e w7 ⟨A', n', c', rfl, ho7, b7⟩
    have B47 := Lib.hid (Below.then B46.out b7)
    refine ⟨_, rfl, hK _ _ (KS.out _ B47.out) ?_⟩
    have HO7 := Lib.hid (ho7.lo (base' := w.heap.size) (Nat.le_trans (Nat.le_trans HB.out.size B4.out.size) B46.out.size))
    obtain ⟨f0, f1, z0, z1, _, _, _⟩ := FIN.out w7 (Below.then B4.out B47.out)
    have S7 := Lib.hid (SW.out.below (Below.then B4.out B47.out))
    have BW := Lib.hid (Below.then HB.out (Below.then B4.out B47.out))
    clear hK ho7 b7 C3 KS hS0 hc1 hc2
    simp only [Act.put, List.setIfInBounds_toArray, List.set_cons_zero, List.set_cons_succ]
    refine Upto.tail rfl (by kernel_rfl) ?_
    simp only [List.drop_succ_cons, List.drop_zero]
    go_wp2_with fail
    have FB : Hid (Bk ((w7.setCell ⟨w.heap.size + 2, 0, none⟩ (.int .i64 lsn)).setCell ⟨w.heap.size + 2, 1, none⟩ (.slice A' n' c')) (w.heap.size + 2) 24 #[.int .i64 lsn, .slice A' n' c']) := Lib.hid (by simpa using (S7.out.out.setc 0 (.int .i64 lsn)).setc 1 (.slice A' n' c'))
    have R : Hid (RetPg (⟨lsn, setC l ⟨key, ⟨hs, d⟩⟩⟩, 0) w (.returned (.tuple #[pgV lsn A' n' c', .int .i64 0])) ((w7.setCell ⟨w.heap.size + 2, 0, none⟩ (.int .i64 lsn)).setCell ⟨w.heap.size + 2, 1, none⟩ (.slice A' n' c'))) := Lib.hid ⟨A', n', c', rfl,
      ⟨own_set (own_set HO7.out.own S7.out.out (by decide)) (S7.out.out.setc 0 _) (by decide), HO7.out.len⟩, (BW.out.setCell (p := ⟨w.heap.size + 2, 0, none⟩) (by simp) _).setCell (p := ⟨w.heap.size + 2, 1, none⟩) (by simp) _⟩
    clear HO7 S7 BW B47 B46 FIN PGC SW HP HB B4
    refine NoPanic.normal ?_
    go_wp2_with fail
    (try simp only [Exit.inBlock, Exit.then])
    refine bodyPost_ret (results_cellT rfl _ _ (w.heap.size + 2) 24 _ _ rfl FB.out Try.underlying24 rfl pg_inf) rfl ?_
    exact R.out
  · have hbh : behC l key = atC l key + 1 := by unfold behC; rw [hat]; rfl
    obtain ⟨at0, hat0⟩ : ∃ z, atC l key = z := ⟨_, rfl⟩
    obtain ⟨bh, hbh0⟩ : ∃ z, behC l key = z := ⟨_, rfl⟩
    have hal : at0 ≤ n := by rw [← hat0, ← hlen.out]; exact atC_le l key
    have hbl : bh ≤ n := by rw [← hbh0, ← hlen.out]; exact behC_le l key
    rw [hat0, hbh0] at hbh
    rw [hat0]
    obtain ⟨hc1, hf1⟩ := cutF_h Try.underlying22 HI.out (HP.out.below B4.out).flt at0 hal (at0 : Int) rfl
    obtain ⟨BB, dd, hc2, hf2⟩ := cutF_l Try.underlying22 HI.out HZ.out (HP.out.below B4.out).flt bh hbl ((at0 : Int) + 1) (by rw [hbh]; rfl)
    rw [flatL_take Cl.cells 3 Cl.cells_len] at hf1
    rw [flatC_drop Cl.cells 3 Cl.cells_len] at hf2
    have KS : Hid (∀ w', Below w4.heap.size w4 w' → w'.cell? ⟨w.heap.size, 1, none⟩ = some (.slice A n c) ∧ w'.cell? ⟨w.heap.size + 3, 0, none⟩ = some (.string key) ∧ w'.cell? ⟨w.heap.size + 3, 1, none⟩ = some (.bool hs) ∧ w'.cell? ⟨w.heap.size + 3, 2, none⟩ = some (.string d)) := Lib.hid (fun w' hb => by
      have hb' := Below.then B4.out hb
      have q := FIN.out w' hb'
      exact ⟨(PGC.out w' hb').2, q.2.2.2.2⟩)
    clear hat
    go_wp2_with fail
    have hS0 := KS.out w4.drew (Below.refl _ _).drew
    refine wp_region_noPanic ?_
    refine upto_start (fun w' => w'.cell? ⟨w.heap.size, 1, none⟩ = some (.slice A n c) ∧ w'.cell? ⟨w.heap.size + 3, 0, none⟩ = some (.string key) ∧ w'.cell? ⟨w.heap.size + 3, 1, none⟩ = some (.bool hs) ∧ w'.cell? ⟨w.heap.size + 3, 2, none⟩ = some (.string d)) 13 (by kernel_rfl) ?_
    change Upto _ _ _ _ _ 16 _ _ _
    refine Upto.take (i := 0) (v := ?_) rfl (by kernel_rfl) (fun _ _ _ h => h) rfl (fun w' hS => ?_) hS0 ?_
    rotate_left
    · (try dsimp only at hS)
      go_split_ands
      go_simp
      (try with_reducible rfl)
    simp only [Act.put, List.setIfInBounds_toArray, List.set_cons_zero, List.set_cons_succ]
    refine Upto.take (i := 1) (v := ?_) rfl (by kernel_rfl) (fun _ _ _ h => h) rfl (fun w' hS => ?_) hS0 ?_
    rotate_left
    · (try dsimp only at hS)
      go_split_ands
      go_simp
      (try with_reducible rfl)
    simp only [Act.put, List.setIfInBounds_toArray, List.set_cons_zero, List.set_cons_succ]
    refine Upto.take (i := 2) (v := ?_) rfl (by kernel_rfl) (fun _ _ _ h => h) rfl (fun w' hS => ?_) hS0 ?_
    rotate_left
    · (try dsimp only at hS)
      go_split_ands
      go_simp
      (try with_reducible rfl)
    simp only [Act.put, List.setIfInBounds_toArray, List.set_cons_zero, List.set_cons_succ]
    refine Upto.take (i := 3) (v := ?_) rfl (by kernel_rfl) (fun _ _ _ h => h) rfl (fun w' hS => ?_) hS0 ?_
    rotate_left
    · (try dsimp only at hS)
      go_split_ands
      go_simp
      (try with_reducible rfl)
    simp only [Act.put, List.setIfInBounds_toArray, List.set_cons_zero, List.set_cons_succ]
    refine Upto.take (i := 4) rfl (by kernel_rfl) (fun _ _ _ h => h) rfl (fun w' hS => exec_slice rfl (by exact hc1 _)) hS0 ?_
    simp only [Act.put, List.setIfInBounds_toArray, List.set_cons_zero, List.set_cons_succ]
    refine Upto.take (i := 5) (v := ?_) rfl (by kernel_rfl) (fun _ _ _ h => h) rfl (fun w' hS => ?_) hS0 ?_
    rotate_left
    · (try dsimp only at hS)
      go_split_ands
      go_simp
      (try with_reducible rfl)
    simp only [Act.put, List.setIfInBounds_toArray, List.set_cons_zero, List.set_cons_succ]
    refine Upto.take (i := 7) (v := ?_) rfl (by kernel_rfl) (fun _ _ _ h => h) rfl (fun w' hS => ?_) hS0 ?_
    rotate_left
    · (try dsimp only at hS)
      go_split_ands
      go_simp
      (try with_reducible rfl)
    simp only [Act.put, List.setIfInBounds_toArray, List.set_cons_zero, List.set_cons_succ]
    refine Upto.take (i := 8) (v := ?_) rfl (by kernel_rfl) (fun _ _ _ h => h) rfl (fun w' hS => ?_) hS0 ?_
    rotate_left
    · (try dsimp only at hS)
      go_split_ands
      go_simp
      (try with_reducible rfl)
    simp only [Act.put, List.setIfInBounds_toArray, List.set_cons_zero, List.set_cons_succ]
    refine Upto.take (i := 9) (v := ?_) rfl (by kernel_rfl) (fun _ _ _ h => h) rfl (fun w' hS => ?_) hS0 ?_
    rotate_left
    · (try dsimp only at hS)
      go_split_ands
      go_simp
      (try with_reducible rfl)
    simp only [Act.put, List.setIfInBounds_toArray, List.set_cons_zero, List.set_cons_succ]
    refine Upto.take (i := 10) rfl (by kernel_rfl) (fun _ _ _ h => h) rfl (fun w' hS => exec_slice rfl (by exact hc2 _)) hS0 ?_
    simp only [Act.put, List.setIfInBounds_toArray, List.set_cons_zero, List.set_cons_succ]
    refine Upto.only (i := 6) rfl (by kernel_rfl) rfl (exec_buildSlice rfl [(0, .agg #[.string key, .bool hs, .string d])] (by rfl) (bslice_1 key hs d _)) ?_ ?_
    · exact KS.out _ ((Below.refl _ w4).drew.alloc (Nat.le_refl _) _)
    simp only [Act.put, List.setIfInBounds_toArray, List.set_cons_zero, List.set_cons_succ]
    obtain ⟨W5, hW5⟩ : ∃ W, W = w4.drew.alloc (.cells #[.string key, .bool hs, .string d] 54) := ⟨_, rfl⟩
    have b5 : Below w4.heap.size w4 W5 := by rw [hW5]; exact (Below.refl _ w4).drew.alloc (Nat.le_refl _) _
    have k5 : Bk W5 w4.heap.size 54 #[.string key, .bool hs, .string d] := by rw [hW5]; exact Bk.new w4.drew _ _
    rw [← hW5]
    refine Upto.only (i := 11) rfl (by kernel_rfl) rfl (exec_buildSlice rfl [(0, .slice A at0 c), (1, .slice (some ⟨w4.drew.heap.size, 0, none⟩) 1 1), (2, .slice BB (n - bh) dd)] (by rfl) (bslice_3 _ _ _ _ _ _ _ _ _ _)) ?_ ?_
    · exact KS.out _ (Below.then b5 ((Below.refl _ W5).alloc (Nat.le_refl _) _))
    simp only [Act.put, List.setIfInBounds_toArray, List.set_cons_zero, List.set_cons_succ]
    obtain ⟨W6, hW6⟩ : ∃ W, W = W5.alloc (.cells #[.slice A at0 c, .slice (some ⟨w4.drew.heap.size, 0, none⟩) 1 1, .slice BB (n - bh) dd] 22) := ⟨_, rfl⟩
    have b6 : Below W5.heap.size W5 W6 := by rw [hW6]; exact (Below.refl _ W5).alloc (Nat.le_refl _) _
    have b46 := Below.then b5 b6
    have k6 : Bk W6 W5.heap.size 22 #[.slice A at0 c, .slice (some ⟨w4.drew.heap.size, 0, none⟩) 1 1, .slice BB (n - bh) dd] := by rw [hW6]; exact Bk.new W5 _ _
    rw [← hW6]
    have CT : Hid (Cat3 W6 W5.heap.size (fun i => if i = 0 then (A, at0, c) else if i = 1 then (some ⟨w4.heap.size, 0, none⟩, 1, 1) else (BB, n - bh, dd)) (fun i => if i = 0 then l.take at0 else if i = 1 then [⟨key, ⟨hs, d⟩⟩] else l.drop bh)) := Lib.hid (by
      refine ⟨k6.lt, fun i hi => ?_⟩
      match i, hi with
      | 0, _ => exact ⟨k6.cell 0, ⟨hf1.below b46, by show (l.take at0).length = at0; rw [List.length_take, hlen.out]; exact Nat.min_eq_left hal⟩⟩
      | 1, _ => exact ⟨k6.cell 1, one_pcs (k5.bel b6 k5.lt)⟩
      | 2, _ => exact ⟨k6.cell 2, ⟨hf2.below b46, by show (l.drop bh).length = n - bh; rw [List.length_drop, hlen.out]⟩⟩)
    have AC : Hid (accC (fun i => if i = 0 then l.take at0 else if i = 1 then [⟨key, ⟨hs, d⟩⟩] else l.drop bh) 3 = setC l ⟨key, ⟨hs, d⟩⟩) := Lib.hid (by
      unfold setC
      simp only [hat0, hbh0]
      show (([] ++ l.take at0) ++ [_]) ++ l.drop bh = _
      rw [List.nil_append])
    have C3 := concat3_any _ _ _ _ CT.out (by rw [AC.out]; unfold setC; simp; omega) (by rw [AC.out]; have := HLN.out; omega)
    rw [AC.out] at C3
    have C3 := Lib.hid C3
    have B46 := Lib.hid b46
    clear hW5 b5 k5 hW6 b6 k6 hf1 hf2 CT AC b46
    refine Upto.law (i := 12) rfl (by kernel_rfl) rfl (fun K hK => ?_)
    refine wp_enter (f := 45) (args := #[.slice (some ⟨W5.heap.size, 0, none⟩) 3 3]) (by go_simp) C3.out ?_
    rintro e w7 ⟨A', n', c', rfl, ho7, b7⟩
    have B47 := Lib.hid (Below.then B46.out b7)
    refine ⟨_, rfl, hK _ _ (KS.out _ B47.out) ?_⟩
    have HO7 := Lib.hid (ho7.lo (base' := w.heap.size) (Nat.le_trans (Nat.le_trans HB.out.size B4.out.size) B46.out.size))
    obtain ⟨f0, f1, z0, z1, _, _, _⟩ := FIN.out w7 (Below.then B4.out B47.out)
    have S7 := Lib.hid (SW.out.below (Below.then B4.out B47.out))
    have BW := Lib.hid (Below.then HB.out (Below.then B4.out B47.out))
    clear hK ho7 b7 C3 KS hS0 hc1 hc2
    simp only [Act.put, List.setIfInBounds_toArray, List.set_cons_zero, List.set_cons_succ]
    refine Upto.tail rfl (by kernel_rfl) ?_
    simp only [List.drop_succ_cons, List.drop_zero]
    go_wp2_with fail
    have FB : Hid (Bk ((w7.setCell ⟨w.heap.size + 2, 0, none⟩ (.int .i64 lsn)).setCell ⟨w.heap.size + 2, 1, none⟩ (.slice A' n' c')) (w.heap.size + 2) 24 #[.int .i64 lsn, .slice A' n' c']) := Lib.hid (by simpa using (S7.out.out.setc 0 (.int .i64 lsn)).setc 1 (.slice A' n' c'))
    have R : Hid (RetPg (⟨lsn, setC l ⟨key, ⟨hs, d⟩⟩⟩, 0) w (.returned (.tuple #[pgV lsn A' n' c', .int .i64 0])) ((w7.setCell ⟨w.heap.size + 2, 0, none⟩ (.int .i64 lsn)).setCell ⟨w.heap.size + 2, 1, none⟩ (.slice A' n' c'))) := Lib.hid ⟨A', n', c', rfl,
      ⟨own_set (own_set HO7.out.own S7.out.out (by decide)) (S7.out.out.setc 0 _) (by decide), HO7.out.len⟩, (BW.out.setCell (p := ⟨w.heap.size + 2, 0, none⟩) (by simp) _).setCell (p := ⟨w.heap.size + 2, 1, none⟩) (by simp) _⟩
    clear HO7 S7 BW B47 B46 FIN PGC SW HP HB B4
    refine NoPanic.normal ?_
    go_wp2_with fail
    (try simp only [Exit.inBlock, Exit.then])
    refine bodyPost_ret (results_cellT rfl _ _ (w.heap.size + 2) 24 _ _ rfl FB.out Try.underlying24 rfl pg_inf) rfl ?_
    exact R.out
end Go.Proofs.Ytfmfmdiegabobaa
