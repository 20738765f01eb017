/- What it says: contracts and plain mathematics that the laws' walks use, 3 of 5: each part's own remark says what; no condition. -/
import Derived.Test.YtfmfmdiegabobaaPa1
import Derived.Test.YtfmfmdiegabobaaPa2
import Derived.Great.BuildSlice
import Derived.Lib.Bytealg
import Derived.Lib.AppendZerosOnto
import Derived.BigRegion
import Derived.Handy
import Derived.Laws.ResultCell
import Derived.Laws.CopyOwn
import Derived.Lib.MinMax
import Derived.Deep.RegionHeld3
import Derived.Great.FillDense
import Derived.Laws.Tables
import Derived.WalkMore
import Derived.LoopTactic
import Derived.RegionTactic
import Derived.Deep.QuietTactic
import Derived.BigQuiet
import Derived.Test.YtfmfmdiegabobaaRows
import Derived.ProofKit
import Derived.OpenShut
import Derived.ShutString
import Derived.ChangeOld
import Derived.SizedLaws
import Derived.Deep.Slices
import Derived.ChangeArms
import Derived.Deep.MidRow

set_option linter.unusedSimpArgs false
set_option linter.unusedVariables false
set_option linter.deprecated false
set_option linter.unusedSectionVars false
set_option linter.all false
namespace Go.Proofs.Ytfmfmdiegabobaa

/- cells that are appended onto a row of one's own; trothref10.Copy, Same, Great. -/
section
open Go.RowKit
theorem cl_one (c : Cl) : ∀ u ∈ c.cells, u.oneCell' = true := by
  intro u hu
  simp [Cl.cells] at hu
  rcases hu with rfl | rfl | rfl <;> rfl
theorem cls_one (l : List Cl) : ∀ u ∈ l.flatMap Cl.cells, u.oneCell' = true := by
  intro u hu
  obtain ⟨x, _, hx⟩ := List.mem_flatMap.1 hu
  exact cl_one x u hx
structure OwnP (base : Nat) (w : World) (A : Option Addr) (n c : Nat) (l : List Cl) : Prop where
  own : w.ownsRow base 54 3 (.slice A n c) n (l.flatMap Cl.cells)
  len : l.length = n
theorem OwnP.pcs {base : Nat} {w : World} {A : Option Addr} {n c : Nat} {l : List Cl} (h : OwnP base w A n c l) : Pcs w A n c l := ⟨Flt.of_own h.own, h.len⟩
theorem OwnP.nil (base : Nat) (w : World) : OwnP base w none 0 0 [] := ⟨⟨by simp, .inl ⟨rfl, rfl⟩⟩, rfl⟩
theorem OwnP.below {base : Nat} {w w' : World} {A : Option Addr} {n c : Nat} {l : List Cl} (h : OwnP base w A n c l) (hb : Below w.heap.size w w') : OwnP base w' A n c l :=
  ⟨own_stay h.own (fun q hq => hb.block q (h.own.lt q hq).2), h.len⟩
theorem OwnP.lo {base base' : Nat} {w : World} {A : Option Addr} {n c : Nat} {l : List Cl} (h : OwnP base w A n c l) (hb : base' ≤ base) : OwnP base' w A n c l := by
  refine ⟨⟨h.own.1, ?_⟩, h.len⟩
  rcases h.own.2 with q | ⟨g, cap, cur, q1, q2, q3⟩
  · exact .inl q
  · exact .inr ⟨g, cap, cur, q1, Nat.le_trans hb q2, q3⟩
theorem info_cl : (Try.prog.info? 54).map (fun i => (i.zero, i.size, i.bytes)) = some (some (.agg #[.string ByteArray.empty, .bool false, .string ByteArray.empty]), 3, 40) := by kernel_rfl
section
variable {w : World} {o : Oper} {a : Act} {K : Act → World → Prop} {Q : Exit → Act → World → Prop}
theorem wp_app_cells (s x : Operand) (ho : o.op = .call { callee := .builtin .append, args := #[s, x], argTypes := #[22, 22] }) (base : Nat)
    {v : Value} {A0 : Option Addr} {n c0 : Nat} {xs : List Cl} (hv : v = .slice A0 n c0) (hs : a.eval s = v) (hown : OwnP base w A0 n c0 xs) {A : Option Addr} {m c : Nat} {vs : List Cl} (hx : a.eval x = .slice A m c) (hl : Pcs w A m c vs) (hn : n + m ≤ 1000000) (hbase : base ≤ w.heap.size)
    (h : ∀ A' c' w', OwnP base w' A' (n + m) c' (xs ++ vs) → w.grownBy w' v.ownBlock → K (a.put o.dst (.slice A' (n + m) c')) w') : o.wp Try.prog a w K Q := by
  obtain ⟨i0, hi, hz0, hz1, hz2⟩ := info_parts info_cl
  have hlen : (xs ++ vs).length = n + m := by rw [List.length_append, hown.len, hl.len]
  have ho1 := hown.own
  rw [← hv] at ho1
  cases A with
  | none =>
    obtain ⟨rfl, rfl⟩ := hl.flt.nil_ rfl
    have hv0 : vs = [] := List.eq_nil_of_length_eq_zero hl.len
    subst hv0
    have hrun := run_append_owned_none (P := Try.prog) (w := w) base 22 o.type 54 i0 3 Try.underlying22 hi v n _ ho1
    have h' := h A0 c0 w (by simpa using hown) (World.grownBy.refl w _)
    simp only [Nat.add_zero] at h'
    unfold Oper.wp
    simp only [execOp, ho, resolve, invoke, builtin, List.map_toArray, List.map_cons, List.map_nil, hs, hx, Sem.run_bind, Sem.run_pure, Result.andThen_ok, hrun]
    rw [hv]
    exact h'
  | some ad =>
    refine wp_append_own w s x 22 ho base 54 i0 _ 3 40 Try.underlying22 hi hz0 hz1 hz2 (by rfl) (by omega) v n (xs.flatMap Cl.cells) hs ho1 ad m c (vs.flatMap Cl.cells) hx (by rw [hl.flt.len]) (hl.flt.news ad rfl) (cls_one vs) (by unfold maxLen; omega) (by omega) hbase ?_
    intro v' w' k1 k2 _
    obtain ⟨A', c', rfl⟩ := own_form k1
    exact h A' c' w' ⟨by rw [List.flatMap_append]; exact k1, hlen⟩ k2
end
theorem wpList_app_cells {w : World} {ops : Array Oper} {rest : List Oper} {o : Oper} {a : Act} {Q : Exit → Act → World → Prop} (hgd : o.guard = none) (s x : Operand) (ho : o.op = .call { callee := .builtin .append, args := #[s, x], argTypes := #[22, 22] }) (base : Nat)
    {v : Value} {A0 : Option Addr} {n c0 : Nat} {xs : List Cl} (hv : v = .slice A0 n c0) (hs : a.eval s = v) (hown : OwnP base w A0 n c0 xs) {A : Option Addr} {m c : Nat} {vs : List Cl} (hx : a.eval x = .slice A m c) (hl : Pcs w A m c vs) (hn : n + m ≤ 1000000) (hbase : base ≤ w.heap.size)
    (h : ∀ A' c' w', OwnP base w' A' (n + m) c' (xs ++ vs) → w.grownBy w' v.ownBlock → wpList Try.prog ops Q rest (a.put o.dst (.slice A' (n + m) c')) w') : wpList Try.prog ops Q (o :: rest) a w :=
  wpList_plain hgd fun _ hK => wp_app_cells s x ho base hv hs hown hx hl hn hbase fun A' c' w' k1 k2 => hK _ _ (h A' c' w' k1 k2)
theorem bslice_0 (w : World) : (Instr.buildSlice 22 0 #[]).run Try.prog w = .ok (.slice (some ⟨w.heap.size, 0, none⟩) 0 0) (w.alloc (.cells #[] 54)) := by
  obtain ⟨i0, hi, hz0, hz1, hz2⟩ := info_parts info_cl
  simp [Instr.buildSlice, run_underlying (P := Try.prog) Try.underlying22, sizeOf, typeInfo, hi, Instr.fill, newRow, Result.andThen, show Array.range 0 = #[] from rfl]
theorem bslice_1 (k : ByteArray) (hs : Bool) (d : ByteArray) (w : World) : (Instr.buildSlice 22 1 #[(0, .agg #[.string k, .bool hs, .string d])]).run Try.prog w = .ok (.slice (some ⟨w.heap.size, 0, none⟩) 1 1) (w.alloc (.cells #[.string k, .bool hs, .string d] 54)) := by
  obtain ⟨i0, hi, hz0, hz1, hz2⟩ := info_parts info_cl
  refine Go.run_buildSlice w 22 54 1 _ _ i0 _ Try.underlying22 hi hz0 (by rw [hz1]; omega) (by rw [hz1]; omega) ?_
  rw [hz1]
  kernel_rfl
def RetPg1 (lsn : Int) (l : List Cl) (w : World) (e : Ending) (w' : World) : Prop := ∃ A n c, e = .returned (pgV lsn A n c) ∧ OwnP w.heap.size w' A n c l ∧ Below w.heap.size w w'
set_option maxRecDepth 100000 in
set_option maxHeartbeats 4000000 in
theorem copy_any (lsn : Int) (A : Option Addr) (n c : Nat) (l : List Cl) (w : World) (h : Pcs w A n c l) (hn : n ≤ 1000) :
    Calls Try.prog 11 #[pgV lsn A n c] w (RetPg1 lsn l w) := by
  obtain ⟨W0, hW0⟩ : ∃ W, W = (w.alloc (.cells #[.int .i64 lsn, .slice A n c] 24)).alloc (.cells #[.int .i64 0, .slice none 0 0] 24) := ⟨_, rfl⟩
  have HB : Hid (Below w.heap.size w W0) := Lib.hid (by rw [hW0]; exact ((Below.refl _ _).alloc (Nat.le_refl _) _).alloc (by simp) _)
  have BP : Hid (Bk W0 w.heap.size 24 #[.int .i64 lsn, .slice A n c]) := Lib.hid (by rw [hW0]; exact (Bk.new w _ _).bel ((Below.refl _ _).alloc (Nat.le_refl _) _) (by simp))
  have BV : Hid (Bk W0 (w.heap.size + 1) 24 #[.int .i64 0, .slice none 0 0]) := Lib.hid (by
    rw [hW0]
    have := Bk.new (w.alloc (.cells #[.int .i64 lsn, .slice A n c] 24)) 24 #[.int .i64 0, .slice none 0 0]
    rwa [World.size_alloc] at this)
  have HP := Lib.hid (h.below HB.out)
  have KS : Hid (∀ W, Below W0.heap.size W0 W → W.cell? ⟨w.heap.size, 0, none⟩ = some (.int .i64 lsn) ∧ W.cell? ⟨w.heap.size, 1, none⟩ = some (.slice A n c)) := Lib.hid (fun W hb => ⟨(BP.out.bel hb BP.out.lt).cell 0, (BP.out.bel hb BP.out.lt).cell 1⟩)
  have HW := Lib.hid hW0
  clear h hW0
  go_enter Try.func11, Try.ntmps11
  go_upto_region 1 with fail
  rw [← HW.out]
  have hS0 := KS.out W0.drew (Below.refl _ _).drew
  refine wp_region_noPanic ?_
  refine upto_start (fun w' => w'.cell? ⟨w.heap.size, 0, none⟩ = some (.int .i64 lsn) ∧ w'.cell? ⟨w.heap.size, 1, none⟩ = some (.slice A n c)) 6 (by kernel_rfl) ?_
  change Upto _ _ _ _ _ 8 _ _ _
  refine Upto.take (i := 0) (v := ?_) rfl (by kernel_rfl) (fun _ _ _ h => h) rfl (fun w' hS => ?_) hS0 ?_
  rotate_left
  · (try dsimp only at hS)
    go_split_ands
    go_simp
    (try with_reducible rfl)
  simp only [Act.put, List.setIfInBounds_toArray, List.set_cons_zero, List.set_cons_succ]
  refine Upto.take (i := 1) (v := ?_) rfl (by kernel_rfl) (fun _ _ _ h => h) rfl (fun w' hS => ?_) hS0 ?_
  rotate_left
  · (try dsimp only at hS)
    go_split_ands
    go_simp
    (try with_reducible rfl)
  simp only [Act.put, List.setIfInBounds_toArray, List.set_cons_zero, List.set_cons_succ]
  refine Upto.take (i := 3) (v := ?_) rfl (by kernel_rfl) (fun _ _ _ h => h) rfl (fun w' hS => ?_) hS0 ?_
  rotate_left
  · (try dsimp only at hS)
    go_split_ands
    go_simp
    (try with_reducible rfl)
  simp only [Act.put, List.setIfInBounds_toArray, List.set_cons_zero, List.set_cons_succ]
  refine Upto.take (i := 4) (v := ?_) rfl (by kernel_rfl) (fun _ _ _ h => h) rfl (fun w' hS => ?_) hS0 ?_
  rotate_left
  · (try dsimp only at hS)
    go_split_ands
    go_simp
    (try with_reducible rfl)
  simp only [Act.put, List.setIfInBounds_toArray, List.set_cons_zero, List.set_cons_succ]
  refine Upto.only (i := 2) rfl (by kernel_rfl) rfl (exec_buildSlice rfl [] (by rfl) (bslice_0 _)) ?_ ?_
  · exact KS.out _ ((Below.refl _ W0).drew.alloc (Nat.le_refl _) _)
  simp only [Act.put, List.setIfInBounds_toArray, List.set_cons_zero, List.set_cons_succ]
  have hbA : Below W0.heap.size W0 (W0.drew.alloc (.cells #[] 54)) := (Below.refl _ W0).drew.alloc (Nat.le_refl _) _
  have hown0 : OwnP W0.heap.size (W0.drew.alloc (.cells #[] 54)) (some ⟨W0.drew.heap.size, 0, none⟩) 0 0 [] := ⟨World.ownsRow_made (base := W0.heap.size) (e := 54) (size := 3) W0.drew #[] 0 (Nat.le_refl _) (Nat.zero_le _) rfl, rfl⟩
  refine Upto.law (i := 5) rfl (by kernel_rfl) rfl (fun K hK => ?_)
  refine wp_app_cells _ _ (by rfl) W0.heap.size rfl (by rfl) hown0 (by rfl) (HP.out.below hbA) (by omega) hbA.size ?_
  intro A' c' W3 hv3 hg3
  have hbB : Below W0.heap.size W0 W3 := hbA.grown hg3 hbA.size (fun k hk => by simp [Value.ownBlock] at hk; omega)
  refine hK _ _ (KS.out _ hbB) ?_
  clear hK hown0 hg3
  rw [Nat.zero_add, List.nil_append] at hv3
  have HV := Lib.hid hv3
  have HB3 := Lib.hid hbB
  have hz3 := BV.out.bel HB3.out BV.out.lt
  have HZ3 := Lib.hid hz3
  have y0 : W3.cell? ⟨w.heap.size + 1, 0, none⟩ = some (.int .i64 0) := hz3.cell 0
  have y1 : W3.cell? ⟨w.heap.size + 1, 1, none⟩ = some (.slice none 0 0) := hz3.cell 1
  have yf := hz3.frz 0
  have yf1 := hz3.frz 1
  clear hv3 hbA hbB hz3 KS hS0
  simp only [Act.put, List.setIfInBounds_toArray, List.set_cons_zero, List.set_cons_succ, Nat.zero_add]
  refine Upto.tail rfl (by kernel_rfl) ?_
  simp only [List.drop_succ_cons, List.drop_zero]
  go_wp2_with fail
  have FB : Hid (Bk ((W3.setCell ⟨w.heap.size + 1, 0, none⟩ (.int .i64 lsn)).setCell ⟨w.heap.size + 1, 1, none⟩ (.slice A' n c')) (w.heap.size + 1) 24 #[.int .i64 lsn, .slice A' n c']) := Lib.hid (by simpa using (HZ3.out.setc 0 (.int .i64 lsn)).setc 1 (.slice A' n c'))
  have RB : Hid (Below w.heap.size w ((W3.setCell ⟨w.heap.size + 1, 0, none⟩ (.int .i64 lsn)).setCell ⟨w.heap.size + 1, 1, none⟩ (.slice A' n c'))) := Lib.hid (((Below.then HB.out HB3.out).setCell (p := ⟨w.heap.size + 1, 0, none⟩) (by simp) _).setCell (p := ⟨w.heap.size + 1, 1, none⟩) (by simp) _)
  have OW : Hid (OwnP w.heap.size ((W3.setCell ⟨w.heap.size + 1, 0, none⟩ (.int .i64 lsn)).setCell ⟨w.heap.size + 1, 1, none⟩ (.slice A' n c')) A' n c' l) := Lib.hid (OwnP.lo ⟨own_set (own_set HV.out.own HZ3.out (by decide)) (HZ3.out.setc 0 _) (by decide), HV.out.len⟩ HB.out.size)
  clear HV HB3 HZ3 y0 y1 yf yf1 HP BV BP HW
  refine NoPanic.normal ?_
  go_wp2_with fail
  (try simp only [Exit.inBlock, Exit.then])
  refine bodyPost_ret (results_cell_row (p := 2) (ty := 24) rfl _ _ (w.heap.size + 1) 24 _ (0, 0) _ rfl FB.out Try.underlying24 rfl pg_inf) rfl ?_
  exact ⟨A', n, c', rfl, OW.out, RB.out⟩
set_option maxRecDepth 100000 in
set_option maxHeartbeats 4000000 in
theorem samePg_yes (lsn : Int) (A : Option Addr) (n c : Nat) (A' : Option Addr) (n' c' : Nat) (l : List Cl) (w : World) (h : Pcs w A n c l) (h' : Pcs w A' n' c' l) :
    Calls Try.prog 16 #[pgV lsn A n c, pgV lsn A' n' c'] w (Ret (.bool true) w) := by
  obtain rfl : n' = n := by rw [← h.len, ← h'.len]
  have hcap := h.flt.cap
  have hmax := h.flt.max
  have hcap' := h'.flt.cap
  have hmax' := h'.flt.max
  unfold maxLen at hmax hmax'
  obtain ⟨W0, hW0⟩ : ∃ W, W = (w.alloc (.cells #[.int .i64 lsn, .slice A n' c] 24)).alloc (.cells #[.int .i64 lsn, .slice A' n' c'] 24) := ⟨_, rfl⟩
  have HB : Hid (Below w.heap.size w W0) := Lib.hid (by rw [hW0]; exact ((Below.refl _ _).alloc (Nat.le_refl _) _).alloc (by simp) _)
  have BP : Hid (Bk W0 w.heap.size 24 #[.int .i64 lsn, .slice A n' c]) := Lib.hid (by rw [hW0]; exact (Bk.new w _ _).bel ((Below.refl _ _).alloc (Nat.le_refl _) _) (by simp))
  have BV : Hid (Bk W0 (w.heap.size + 1) 24 #[.int .i64 lsn, .slice A' n' c']) := Lib.hid (by
    rw [hW0]
    have := Bk.new (w.alloc (.cells #[.int .i64 lsn, .slice A n' c] 24)) 24 #[.int .i64 lsn, .slice A' n' c']
    rwa [World.size_alloc] at this)
  have HP := Lib.hid (h.below HB.out)
  have HP' := Lib.hid (h'.below HB.out)
  have p0 : W0.cell? ⟨w.heap.size, 0, none⟩ = some (.int .i64 lsn) := BP.out.cell 0
  have p1 : W0.cell? ⟨w.heap.size, 1, none⟩ = some (.slice A n' c) := BP.out.cell 1
  have q0 : W0.cell? ⟨w.heap.size + 1, 0, none⟩ = some (.int .i64 lsn) := BV.out.cell 0
  have q1 : W0.cell? ⟨w.heap.size + 1, 1, none⟩ = some (.slice A' n' c') := BV.out.cell 1
  have HW := Lib.hid hW0
  clear h h' hW0
  go_enter Try.func16, Try.ntmps16
  go_upto_region 1 with fail
  rw [← HW.out]
  go_wp2_with fail
  go_loopw [5] (fun i wr => ∃ k : Nat, k ≤ n' ∧ i = .int .i64 k ∧ ∃ m, wr = W0.drewN m) (fun i _ => n' - (intOf i).toNat)
  case atStart => exact ⟨0, Nat.zero_le _, rfl, 0, rfl⟩
  case round =>
    obtain ⟨k, hk, rfl, m, rfl⟩ := hrel
    by_cases hlt : k < n'
    · obtain ⟨g, off, rfl, _, hc⟩ := HP.out.get (by omega)
      obtain ⟨g', off', rfl, _, hc'⟩ := HP'.out.get (by omega)
      obtain ⟨a0, a1, a2⟩ := hc k hlt
      obtain ⟨b0, b1, b2⟩ := hc' k hlt
      obtain ⟨x, hx⟩ : ∃ x, l.getD k default = x := ⟨_, rfl⟩
      rw [hx] at a0 a1 a2 b0 b1 b2
      obtain ⟨key, ⟨hs, d⟩⟩ := x
      simp only at a0 a1 a2 b0 b1 b2
      clear hc hc' hx
      go_wp2
      go_quiet (fail)
      go_wp2
      go_roundw
      case rel => exact ⟨k + 1, by omega, by go_num, _, rfl⟩
      case measure => simp [intOf]; omega
    · obtain rfl : k = n' := by omega
      have RB := Lib.hid (below_drewN HB.out m)
      go_wp2
      go_ret
      exact ⟨rfl, RB.out⟩
def Few (l : List Cl) : Prop := l.length ≤ 20 ∧ ∀ x ∈ l, x.key.size ≤ 100 ∧ x.val.data.size ≤ 100
def RetGr (l : List Cl) (w : World) (e : Ending) (w' : World) : Prop := ∃ b, e = .returned (.bool b) ∧ (b = false → Few l) ∧ Below w.heap.size w w'
set_option maxRecDepth 100000 in
set_option maxHeartbeats 4000000 in
theorem greatPg_any (lsn : Int) (A : Option Addr) (n c : Nat) (l : List Cl) (w : World) (h : Pcs w A n c l) :
    Calls Try.prog 8 #[pgV lsn A n c] w (RetGr l w) := by
  have hcap := h.flt.cap
  have hmax := h.flt.max
  unfold maxLen at hmax
  have hlen := Lib.hid h.len
  obtain ⟨W0, hW0⟩ : ∃ W, W = w.alloc (.cells #[.int .i64 lsn, .slice A n c] 24) := ⟨_, rfl⟩
  have HB : Hid (Below w.heap.size w W0) := Lib.hid (by rw [hW0]; exact (Below.refl _ _).alloc (Nat.le_refl _) _)
  have BP : Hid (Bk W0 w.heap.size 24 #[.int .i64 lsn, .slice A n c]) := Lib.hid (by rw [hW0]; exact Bk.new w _ _)
  have YES : Hid (RetGr l w (.returned (.bool true)) W0) := Lib.hid ⟨true, rfl, (fun q => nomatch q), HB.out⟩
  have HP := Lib.hid (h.below HB.out)
  have p1 : W0.cell? ⟨w.heap.size, 1, none⟩ = some (.slice A n c) := BP.out.cell 1
  have HW := Lib.hid hW0
  clear h hW0
  by_cases h20 : (20 : Int) < (n : Int)
  · go_enter Try.func8, Try.ntmps8
    go_upto_region 1 with fail
    rw [← HW.out]
    go_wp2_with fail
    go_ret
    exact YES.out
  · go_enter Try.func8, Try.ntmps8
    go_upto_region 1 with fail
    rw [← HW.out]
    go_wp2_with fail
    go_loopw [3] (fun i wr => ∃ k : Nat, k ≤ n ∧ i = .int .i64 k ∧ wr = W0 ∧ ∀ i, i < k → (l.getD i default).key.size ≤ 100 ∧ (l.getD i default).val.data.size ≤ 100) (fun i _ => n - (intOf i).toNat)
    case atStart => exact ⟨0, Nat.zero_le _, rfl, rfl, fun i hi => absurd hi (by omega)⟩
    case round =>
      obtain ⟨k, hk, rfl, rfl, hu⟩ := hrel
      have HU := Lib.hid hu
      by_cases hlt : k < n
      · obtain ⟨g, off, rfl, _, hc⟩ := HP.out.get (by omega)
        obtain ⟨a0, a1, a2⟩ := hc k hlt
        obtain ⟨x, hx⟩ : ∃ x, l.getD k default = x := ⟨_, rfl⟩
        rw [hx] at a0 a1 a2
        obtain ⟨key, ⟨hs, d⟩⟩ := x
        simp only at a0 a1 a2
        have HX := Lib.hid hx
        clear hc hu hx
        by_cases h1 : (100 : Int) < (key.size : Int)
        · go_wp2_with fail
          (try rw [Exit.noGoto_ret])
          go_ret
          exact YES.out
        · by_cases h2 : (100 : Int) < (d.size : Int)
          · go_wp2_with fail
            (try rw [Exit.noGoto_ret])
            go_ret
            exact YES.out
          · have HN : Hid (∀ i, i < k + 1 → (l.getD i default).key.size ≤ 100 ∧ (l.getD i default).val.data.size ≤ 100) := Lib.hid (fun i hi => by
              rcases Nat.lt_or_ge i k with q | q
              · exact HU.out i q
              · obtain rfl : i = k := by omega
                rw [HX.out]
                exact ⟨by simp only; omega, by simp only; omega⟩)
            clear HU HX
            go_wp2_with fail
            go_roundw
            case rel => exact ⟨k + 1, by omega, by go_num, trivial, HN.out⟩
            case measure => simp [intOf]; omega
      · obtain rfl : k = n := by omega
        have R : Hid (RetGr l w (.returned (.bool false)) wr) := Lib.hid ⟨false, rfl, fun _ => ⟨by rw [hlen.out]; omega, fun x hx => by
          obtain ⟨i, hi, rfl⟩ := List.getElem_of_mem hx
          have := HU.out i (by rw [← hlen.out]; exact hi)
          rwa [List.getD_eq_getElem?_getD, List.getElem?_eq_getElem hi] at this⟩, HB.out⟩
        clear hu hlt HU
        go_wp2_with fail
        go_ret
        exact R.out
end

/- strings.Compare, the comparison that page.Set passes on, slices.BinarySearchFunc with it: where a key's cell stands, or would. -/
section
open Go.RowKit
theorem cmp_lists : ∀ (x y : List UInt8), (Lib.compareBytes x y < 0 ↔ x < y) ∧ (Lib.compareBytes x y = 0 ↔ x = y)
  | [], [] => by simp [Lib.compareBytes]
  | [], _ :: _ => by simp [Lib.compareBytes]
  | _ :: _, [] => by simp [Lib.compareBytes]
  | a :: x, b :: y => by
    obtain ⟨h1, h2⟩ := cmp_lists x y
    unfold Lib.compareBytes
    rw [List.cons_lt_cons_iff]
    by_cases hab : a < b
    · have hne : a ≠ b := fun e => UInt8.lt_irrefl b (e ▸ hab)
      simp [hab, hne]
    · by_cases hba : b < a
      · have hne : a ≠ b := fun e => UInt8.lt_irrefl a (by rw [e] at hba ⊢; exact hba)
        simp [hab, hba, hne]
      · have he : a = b := by
          have := UInt8.not_lt.1 hab
          have := UInt8.not_lt.1 hba
          exact UInt8.le_antisymm ‹_› ‹_›
        subst he
        simp [hab, h1, h2]
def cmpB (a b : ByteArray) : Int := Lib.compareBytes a.data.toList b.data.toList
theorem cmpB_lt (a b : ByteArray) : cmpB a b < 0 ↔ kLt a b := by rw [kLt_iff, Lib.toList_data, Lib.toList_data]; exact (cmp_lists _ _).1
theorem cmpB_eq (a b : ByteArray) : cmpB a b = 0 ↔ a = b := by
  rw [show (cmpB a b = 0 ↔ _) from (cmp_lists _ _).2]
  constructor
  · intro h; exact ByteArray.ext (Array.ext' h)
  · intro h; rw [h]
set_option maxHeartbeats 1000000 in
theorem compareString_any (a b : ByteArray) (w : World) : Calls Try.prog 64 #[.string a, .string b] w (Ret (.int .i64 (cmpB a b)) w) := by
  go_enter Try.func64, Try.ntmps64
  go_wp2_with fail
  rw [run_callFunc_extern Try.func79 (by kernel_rfl) (by kernel_rfl) (by kernel_rfl) (e := Extern.BytealgCompare.compare) (by kernel_rfl), Lib.run_compareString]
  simp only [Result.andThen]
  rw [Oper.upon_value]
  go_wp2_with fail
  go_ret
  exact ⟨rfl, Below.refl _ _⟩
set_option maxHeartbeats 1000000 in
theorem compare_any (a b : ByteArray) (w : World) : Calls Try.prog 44 #[.string a, .string b] w (Ret (.int .i64 (cmpB a b)) w) := by
  go_enter Try.func44, Try.ntmps44
  go_wp2_with fail
  refine (compareString_any a b w).mono ?_
  rintro e w1 ⟨rfl, b1⟩
  have B1 := Lib.hid b1
  clear b1
  go_wp2_with fail
  go_ret
  exact ⟨rfl, B1.out⟩
set_option maxHeartbeats 1000000 in
theorem setCmp_any (x : Cl) (k : ByteArray) (w : World) : Calls Try.prog 43 #[.agg x.cells.toArray, .string k] w (Ret (.int .i64 (cmpB x.key k)) w) := by
  obtain ⟨key, ⟨hs, d⟩⟩ := x
  show Calls _ _ #[.agg #[.string key, .bool hs, .string d], .string k] w _
  have HB : Hid (Below w.heap.size w (w.alloc (.cells #[.string key, .bool hs, .string d] 54))) := Lib.hid ((Below.refl _ _).alloc (Nat.le_refl _) _)
  go_enter Try.func43, Try.ntmps43
  go_wp2_with fail
  refine (compare_any key k _).mono ?_
  rintro e w1 ⟨rfl, b1⟩
  have B1 := Lib.hid (Below.then HB.out b1)
  clear b1
  go_wp2_with fail
  go_ret
  exact ⟨rfl, B1.out⟩
structure Bis (l : List Cl) (k : ByteArray) (i j : Nat) : Prop where
  le : i ≤ j
  top : j ≤ l.length
  lo : ∀ m, m < i → kLt (l.getD m default).key k
  hi : ∀ m, j ≤ m → m < l.length → ¬ kLt (l.getD m default).key k
theorem Bis.start (l : List Cl) (k : ByteArray) : Bis l k 0 l.length := ⟨Nat.zero_le _, Nat.le_refl _, fun m h => absurd h (by omega), fun m h1 h2 => absurd h1 (by omega)⟩
theorem Bis.up {l : List Cl} {k : ByteArray} {i j h : Nat} (b : Bis l k i j) (hp : l.Pairwise qCl) (h2 : h < j) (hk : kLt (l.getD h default).key k) : Bis l k (h + 1) j :=
  ⟨h2, b.top, fun m hm => by
    rcases Nat.lt_or_ge m h with q | q
    · exact kLt_trans (pw_get hp q (by have := b.top; omega)) hk
    · obtain rfl : m = h := by omega
      exact hk, b.hi⟩
theorem Bis.down {l : List Cl} {k : ByteArray} {i j h : Nat} (b : Bis l k i j) (hp : l.Pairwise qCl) (h1 : i ≤ h) (h2 : h < j) (hk : ¬ kLt (l.getD h default).key k) : Bis l k i h :=
  ⟨h1, by have := b.top; omega, b.lo, fun m hm hl => by
    rcases Nat.lt_or_ge h m with q | q
    · exact fun z => hk (kLt_trans (pw_get hp q hl) z)
    · obtain rfl : m = h := by omega
      exact hk⟩
theorem Bis.fin {l : List Cl} {k : ByteArray} {i : Nat} (b : Bis l k i i) : atC l k = i := atC_uniq b.top b.lo b.hi
def RetAt (l : List Cl) (k : ByteArray) (w : World) (e : Ending) (w' : World) : Prop := e = .returned (.tuple #[.int .i64 (atC l k), .bool (isAt l k)]) ∧ Below w.heap.size w w'
set_option maxRecDepth 100000 in
set_option maxHeartbeats 4000000 in
theorem bsearch_any (A : Option Addr) (n c : Nat) (l : List Cl) (k : ByteArray) (w : World) (h : Pcs w A n c l) (hp : l.Pairwise qCl) (hn : n ≤ 1000) :
    Calls Try.prog 42 #[.slice A n c, .string k, .func (.func 43) #[] #[]] w (RetAt l k w) := by
  have hcap := h.flt.cap
  have hmax := h.flt.max
  unfold maxLen at hmax
  have HP := Lib.hid h
  have hlen := Lib.hid h.len
  have HW := Lib.hid hp
  clear h hp
  go_enter Try.func42, Try.ntmps42
  go_wp2_with fail
  go_loopw [9, 10] (fun y z wr => ∃ i j : Nat, y = .int .i64 i ∧ z = .int .i64 j ∧ Bis l k i j ∧ Below w.heap.size w wr) (fun y z _ => (intOf z).toNat - (intOf y).toNat)
  case atStart => exact ⟨0, n, rfl, rfl, by rw [← hlen.out]; exact Bis.start l k, Below.refl _ _⟩
  case round =>
    obtain ⟨i, j, rfl, rfl, hbis, hb⟩ := hrel
    have HB := Lib.hid hb
    have HI := Lib.hid hbis
    have hij := hbis.le
    have hjn : j ≤ n := by have := hbis.top; rw [hlen.out] at this; exact this
    by_cases hlt : i < j
    · obtain ⟨m, hm⟩ : ∃ m, (i + j) / 2 = m := ⟨_, rfl⟩
      obtain ⟨g, off, rfl, _, hc⟩ := (HP.out.below hb).get (by omega)
      obtain ⟨a0, a1, a2⟩ := hc m (by omega)
      obtain ⟨x, hx⟩ : ∃ x, l.getD m default = x := ⟨_, rfl⟩
      rw [hx] at a0 a1 a2
      obtain ⟨key, ⟨hs, d⟩⟩ := x
      simp only at a0 a1 a2
      have HX := Lib.hid hx
      clear hc hbis hx hb
      have C := setCmp_any ⟨key, ⟨hs, d⟩⟩ k wr
      have HCL : Hid (cmpB key k < 0 ↔ kLt key k) := Lib.hid (cmpB_lt key k)
      obtain ⟨z, hz⟩ : ∃ z, cmpB key k = z := ⟨_, rfl⟩
      simp only [hz] at C
      rw [hz] at HCL
      have C := Lib.hid C
      clear hz
      go_wp2_with fail
      refine C.out.mono ?_
      rintro e w1 ⟨rfl, b1⟩
      have B1 := Lib.hid (Below.then HB.out b1)
      clear b1 C a0 a1 a2
      by_cases hzl : z < 0
      · have HN : Hid (Bis l k (m + 1) j) := Lib.hid (HI.out.up HW.out (by omega) (by rw [HX.out]; exact HCL.out.1 hzl))
        have e : ((i : Int) + j) / 2 + 1 = ((m + 1 : Nat) : Int) := by omega
        clear HI HX HCL
        go_wp2_with fail
        go_roundw
        case rel => exact ⟨m + 1, j, by congr 1, rfl, HN.out, B1.out⟩
        case measure => simp [intOf]; omega
      · have HN : Hid (Bis l k i m) := Lib.hid (HI.out.down HW.out (by omega) (by omega) (by rw [HX.out]; exact fun q => hzl (HCL.out.2 q)))
        have e : ((i : Int) + j) / 2 = ((m : Nat) : Int) := by omega
        clear HI HX HCL
        go_wp2_with fail
        go_roundw
        case rel => exact ⟨i, m, rfl, by congr 1, HN.out, B1.out⟩
        case measure => simp [intOf]; omega
    · obtain rfl : i = j := by omega
      have hat := hbis.fin
      by_cases hin : i < n
      · obtain ⟨g, off, rfl, _, hc⟩ := (HP.out.below hb).get (by omega)
        obtain ⟨a0, a1, a2⟩ := hc i hin
        obtain ⟨x, hx⟩ : ∃ x, l.getD i default = x := ⟨_, rfl⟩
        rw [hx] at a0 a1 a2
        obtain ⟨key, ⟨hs, d⟩⟩ := x
        simp only at a0 a1 a2
        have C := setCmp_any ⟨key, ⟨hs, d⟩⟩ k wr
        have HCL : Hid (isAt l k = (cmpB key k == 0)) := Lib.hid (by
          unfold isAt
          rw [hat, hx]
          by_cases hz : cmpB key k = 0
          · rw [show (cmpB key k == 0) = true from beq_iff_eq.2 hz]; exact decide_eq_true ⟨by rw [hlen.out]; exact hin, (cmpB_eq key k).1 hz⟩
          · rw [show (cmpB key k == 0) = false from beq_eq_false_iff_ne.2 hz]; exact decide_eq_false (fun q => hz ((cmpB_eq key k).2 q.2)))
        obtain ⟨z, hz⟩ : ∃ z, cmpB key k = z := ⟨_, rfl⟩
        simp only [hz] at C
        rw [hz] at HCL
        have C := Lib.hid C
        have HAT := Lib.hid hat
        clear hz hc hbis hx hb hat hlt HI
        go_wp2_with fail
        refine C.out.mono ?_
        rintro e w1 ⟨rfl, b1⟩
        have R : Hid (RetAt l k w (.returned (.tuple #[.int .i64 i, .bool (z == 0)])) w1) := Lib.hid ⟨by rw [HAT.out, HCL.out], Below.then HB.out b1⟩
        clear b1 C a0 a1 a2 HB HCL
        go_wp2_with fail
        go_ret2
        exact R.out
      · obtain rfl : i = n := by omega
        have R : Hid (RetAt l k w (.returned (.tuple #[.int .i64 i, .bool false])) wr) := Lib.hid ⟨by rw [hat, show isAt l k = false from decide_eq_false (fun q => by have := q.1; rw [hat, hlen.out] at this; omega)], HB.out⟩
        clear hbis hb hat hlt HI HB
        go_wp2_with fail
        go_ret2
        exact R.out
end

/- slices.Grow of nil, slices.Concat of three slices of cells. -/
section
open Go.RowKit
theorem flatC_drop {α : Type} (f : α → List Value) (k : Nat) (hf : ∀ x, (f x).length = k) (l : List α) (m : Nat) : (l.flatMap f).drop (m * k) = (l.drop m).flatMap f := by
  induction l generalizing m with
  | nil => simp
  | cons x r ih =>
    cases m with
    | zero => simp
    | succ m =>
      rw [List.flatMap_cons, List.drop_succ_cons, List.drop_append, List.drop_of_length_le (by rw [hf, Nat.add_mul]; omega), hf, List.nil_append]
      rw [show (m + 1) * k - k = m * k by rw [Nat.add_mul]; omega, ih]
structure Cat3 (w : World) (g : Nat) (v : Nat → Option Addr × Nat × Nat) (ls : Nat → List Cl) : Prop where
  lt : g < w.heap.size
  at_ : ∀ i, i < 3 → w.cell? ⟨g, i, none⟩ = some (.slice (v i).1 (v i).2.1 (v i).2.2) ∧ Pcs w (v i).1 (v i).2.1 (v i).2.2 (ls i)
theorem Cat3.below {w w' : World} {g : Nat} {v : Nat → Option Addr × Nat × Nat} {ls : Nat → List Cl} (h : Cat3 w g v ls) (hb : Below w.heap.size w w') : Cat3 w' g v ls :=
  ⟨Nat.lt_of_lt_of_le h.lt hb.size, fun i hi => ⟨(hb.cell (p := ⟨g, i, none⟩) h.lt).trans (h.at_ i hi).1, (h.at_ i hi).2.below hb⟩⟩
def accC (ls : Nat → List Cl) : Nat → List Cl
  | 0 => []
  | k + 1 => accC ls k ++ ls k
set_option maxRecDepth 100000 in
set_option maxHeartbeats 4000000 in
theorem growC_nil (n : Nat) (w : World) (h0 : 0 < n) (hn : n ≤ 100000) : Calls Try.prog 65 #[.slice none 0 0, .int .i64 n] w
    (fun e w' => ∃ cap, e = .returned (.slice (some ⟨w.heap.size, 0, none⟩) 0 cap) ∧ OwnP w.heap.size w' (some ⟨w.heap.size, 0, none⟩) 0 cap [] ∧ Below w.heap.size w w') := by
  obtain ⟨i0, hi, hz0, hz1, hz2⟩ := info_parts info_cl
  have hrun := fun (ty : TypeId) => Lib.run_append_nil_zeros (P := Try.prog) w 22 3 ty 54 i0 _ .i64 .i64 Try.underlying22 Try.underlying3 hi hz0 n h0 (by omega) (by omega) (by rw [hz2]; omega)
  have hge := grownCap_ge w n 0 54
  have hcm : grownCap w n 0 54 ≤ maxLen := grownCap_le_maxLen w n 0 54 (by unfold maxLen; omega)
  obtain ⟨cap, hcap⟩ : ∃ cap, grownCap w n 0 54 = cap := ⟨_, rfl⟩
  rw [hcap] at hrun hge hcm
  obtain ⟨W, hW⟩ : ∃ W, W = w.drew.alloc (.cells (Builtin.zeroCells (Value.agg #[.string ByteArray.empty, .bool false, .string ByteArray.empty]).cells n ++ Builtin.zeroCells (Value.agg #[.string ByteArray.empty, .bool false, .string ByteArray.empty]).cells (cap - n)) 54) := ⟨_, rfl⟩
  rw [← hW] at hrun
  have R : Hid (OwnP w.heap.size W (some ⟨w.heap.size, 0, none⟩) 0 cap [] ∧ Below w.heap.size w W) := Lib.hid (by
    rw [hW]
    refine ⟨⟨⟨by simp, .inr ⟨w.heap.size, cap, _, rfl, Nat.le_refl _, heap_alloc_new w.drew _, Nat.zero_le _, hcm, ?_, by simp⟩⟩, rfl⟩, (Below.refl _ w).drew.alloc (Nat.le_refl _) _⟩
    simp only [Array.size_append, size_zeroCells, Value.cells]
    simp
    omega)
  have hn0 : (0 : Int) < (n : Int) := by omega
  have hcm' := hcm
  unfold maxLen at hcm'
  clear hW hcap hcm
  go_enter Try.func65, Try.ntmps65
  go_wp2_with (at_builtin; refine Lib.wpList_append_run _ rfl _ _ 22 3 rfl _ _ rfl rfl _ _ (hrun _) ?_)
  go_wp2_with fail
  go_ret
  exact ⟨cap, rfl, R.out.1, R.out.2⟩
theorem info_cs : (Try.prog.info? 22).map (fun i => (i.zero, i.size, i.bytes)) = some (some (.slice none 0 0), 1, 24) := by kernel_rfl
theorem bslice_3 (A B C : Option Addr) (a b c a' b' c' : Nat) (w : World) : (Instr.buildSlice 96 3 #[(0, .slice A a a'), (1, .slice B b b'), (2, .slice C c c')]).run Try.prog w = .ok (.slice (some ⟨w.heap.size, 0, none⟩) 3 3) (w.alloc (.cells #[.slice A a a', .slice B b b', .slice C c c'] 22)) := by
  obtain ⟨i0, hi, hz0, hz1, hz2⟩ := info_parts info_cs
  refine run_buildSlice w 96 22 3 _ _ i0 _ Try.underlying96 hi hz0 (by rw [hz1]; omega) (by rw [hz1]; omega) ?_
  rw [hz1]
  kernel_rfl
theorem one_pcs {w : World} {g : Nat} {x : Cl} (h : Bk w g 54 #[.string x.key, .bool x.val.has, .string x.val.data]) : Pcs w (some ⟨g, 0, none⟩) 1 1 [x] := by
  refine ⟨⟨rfl, Nat.le_refl _, by unfold maxLen; omega, (fun q => nomatch q), fun _ => ⟨g, 0, rfl, fun j v hv => ?_⟩⟩, rfl⟩
  rw [Nat.zero_add, h.cell]
  match j with
  | 0 => simpa [Cl.cells] using hv
  | 1 => simpa [Cl.cells] using hv
  | 2 => simpa [Cl.cells] using hv
  | j + 3 => simp [Cl.cells] at hv
def RetCells (l : List Cl) (w : World) (e : Ending) (w' : World) : Prop := ∃ A n c, e = .returned (.slice A n c) ∧ OwnP w.heap.size w' A n c l ∧ Below w.heap.size w w'
set_option maxRecDepth 100000 in
set_option maxHeartbeats 4000000 in
theorem concat3_any (g : Nat) (v : Nat → Option Addr × Nat × Nat) (ls : Nat → List Cl) (w : World) (h : Cat3 w g v ls) (h0 : 0 < (accC ls 3).length) (hl : (accC ls 3).length ≤ 1000) :
    Calls Try.prog 45 #[.slice (some ⟨g, 0, none⟩) 3 3] w (RetCells (accC ls 3) w) := by
  have HB := Lib.hid h
  have hmono : ∀ k, (accC ls k).length ≤ (accC ls (k + 1)).length := fun k => by show _ ≤ (accC ls k ++ ls k).length; rw [List.length_append]; omega
  have hbnd : ∀ k, k ≤ 3 → (accC ls k).length ≤ 1000 := by
    intro k hk
    have h1 : (accC ls 0).length ≤ (accC ls 1).length := hmono 0
    have h2 : (accC ls 1).length ≤ (accC ls 2).length := hmono 1
    have h3 : (accC ls 2).length ≤ (accC ls 3).length := hmono 2
    match k, hk with
    | 0, _ => omega
    | 1, _ => omega
    | 2, _ => omega
    | 3, _ => omega
  have HBD := Lib.hid hbnd
  have HT : Hid (∃ T, (accC ls 3).length = T) := Lib.hid ⟨_, rfl⟩
  obtain ⟨T, hT⟩ := HT.out
  rw [hT] at h0 hl
  have HT := Lib.hid hT
  clear h hmono hbnd hT
  go_enter Try.func45, Try.ntmps45
  go_wp2_with fail
  go_loopw [3, 11] (fun y q wr => ∃ (k : Nat), k ≤ 3 ∧ y = .int .i64 (((accC ls k).length : Nat) : Int) ∧ q = .int .i64 k ∧ wr = w) (fun _ q _ => 3 - (intOf q).toNat)
  case atStart => exact ⟨0, Nat.zero_le _, rfl, rfl, rfl⟩
  case round =>
    obtain ⟨k, hkn, rfl, rfl, rfl⟩ := hrel
    by_cases hlt : k < 3
    · obtain ⟨hx, hby⟩ := HB.out.at_ k hlt
      obtain ⟨B, m, d, hv⟩ : ∃ B m d, v k = (B, m, d) := ⟨_, _, _, rfl⟩
      rw [hv] at hx hby
      have hbm := hby.len
      simp only at hbm hx
      have hnx : (accC ls (k + 1)).length = (accC ls k).length + m := by show (accC ls k ++ ls k).length = _; rw [List.length_append, hbm]
      have hb1 := HBD.out (k + 1) (by omega)
      obtain ⟨a, ha⟩ : ∃ a, (accC ls k).length = a := ⟨_, rfl⟩
      obtain ⟨a2, ha2⟩ : ∃ a, (accC ls (k + 1)).length = a := ⟨_, rfl⟩
      rw [ha, ha2] at hnx
      rw [ha2] at hb1
      rw [ha]
      have H2 := Lib.hid ha2
      have hlt' : (k : Int) < 3 := by omega
      clear hby hv hbm ha ha2
      go_wp2_with fail
      go_roundw
      case rel => exact ⟨k + 1, by omega, by rw [H2.out, hnx]; go_num, by go_num, trivial⟩
      case measure => simp [intOf]; omega
    · have hke : k = 3 := by omega
      subst hke
      rw [HT.out]
      have CG := Lib.hid (growC_nil T wr h0 (by omega))
      clear hlt
      go_wp2_with fail
      refine CG.out.mono ?_
      rintro e w1 ⟨cap, rfl, ho1, b1⟩
      have R0 : Hid (OwnP wr.heap.size w1 (some ⟨wr.heap.size, 0, none⟩) 0 cap (accC ls 0) ∧ Below wr.heap.size wr w1) := Lib.hid ⟨ho1, b1⟩
      obtain ⟨wi, hwi⟩ : ∃ x, x = wr := ⟨_, rfl⟩
      subst hwi
      clear ho1 b1 CG
      go_wp2_with fail
      go_loopw [6, 27] (fun y q wr => ∃ (j : Nat) (A1 : Option Addr) (n1 c1 : Nat), j ≤ 3 ∧ y = .slice A1 n1 c1 ∧ q = .int .i64 j ∧ OwnP wi.heap.size wr A1 n1 c1 (accC ls j) ∧ Below wi.heap.size wi wr) (fun _ q _ => 3 - (intOf q).toNat)
      case atStart => exact ⟨0, some ⟨wi.heap.size, 0, none⟩, 0, cap, Nat.zero_le _, rfl, rfl, R0.out.1, R0.out.2⟩
      case round =>
        obtain ⟨j, A1, n1, c1, hjn, rfl, rfl, hown, hbel⟩ := hrel
        clear R0
        by_cases hlt : j < 3
        · obtain ⟨hx, hby⟩ := (HB.out.below hbel).at_ j hlt
          obtain ⟨B, m, d, hv⟩ : ∃ B m d, v j = (B, m, d) := ⟨_, _, _, rfl⟩
          rw [hv] at hx hby
          simp only at hx
          have hb1 := HBD.out (j + 1) (by omega)
          have hn1 := hown.len
          have hbm := hby.len
          have hnx : (accC ls (j + 1)).length = n1 + m := by show (accC ls j ++ ls j).length = _; rw [List.length_append, hbm, hn1]
          rw [hnx] at hb1
          have HO := Lib.hid hown
          have HBE := Lib.hid hbel
          have hbs := hbel.size
          have HBY := Lib.hid hby
          have hlt' : (j : Int) < 3 := by omega
          clear hby hv hbm hn1 hnx hown hbel
          go_wp2_with (at_builtin; refine wpList_app_cells rfl _ _ rfl wi.heap.size rfl rfl HO.out rfl HBY.out (by omega) hbs ?_)
          intro A2 c2 w2 k1 k2
          have NR : Hid (OwnP wi.heap.size w2 A2 (n1 + m) c2 (accC ls (j + 1)) ∧ Below wi.heap.size wi w2) := Lib.hid ⟨k1, HBE.out.grown k2 hbs (fun q hq => (HO.out.own.lt q hq).1)⟩
          clear k1 k2 HO HBE HBY
          go_wp2_with fail
          go_roundw
          case rel => exact ⟨j + 1, A2, n1 + m, c2, by omega, rfl, by go_num, NR.out.1, NR.out.2⟩
          case measure => simp [intOf]; omega
        · have hjk : j = 3 := by omega
          subst hjk
          have RR : Hid (RetCells (accC ls 3) wi (.returned (.slice A1 n1 c1)) wr) := Lib.hid ⟨A1, n1, c1, rfl, hown, hbel⟩
          clear hown hbel
          go_wp2_with fail
          go_ret
          exact RR.out
end

/- master.numbers answers the five places of a record. -/
section
open Go.RowKit
end

/- master.encode answers a record's bytes. -/
section
open Go.RowKit
end

/- master.decode answers the five numbers at the beginning of bytes, or the error. -/
section
open Go.RowKit
theorem results_cellT {P : Program} {fn : Func} {p u : Tmp} {ty : TypeId} (h : fn.results = #[.cell p ty, .tmp u]) (tmps : Array Value) (w : World) (g : Nat) (t : TypeId) (cs : Array Value) (d : TypeDesc)
    (hp : tmps.getD p undef = .pointer (some ⟨g, 0, none⟩)) (hg : Bk w g t cs)
    (hu : P.underlying ty = some d) (hd : (match d with | .struct _ | .array _ _ => true | _ => false) = true) (hi : (P.info? ty).map (·.size) = some cs.size) :
    (results fn tmps).run P w = .ok (.tuple #[.agg cs, tmps.getD u undef]) w := by
  rw [results_cell_tmp h, hp]
  simp [asAddr, run_loadVar_row w g t ty cs (0, 0) d hg hu hd hi, Result.andThen]
theorem Bk.row {w : World} {g : Nat} {t : TypeId} {old : Array Value} (h : Bk w g t old) (cs : Array Value) : Bk (w.setRow g cs) g t cs := setRow_heap w g old cs _ _ h
end

/- sheet.isSeq, hasFirst, part answer as they should; what is there stands. -/
section
open Go.RowKit
structure Sh where
  inc : Int
  pos : Int
  first : Int
  data : ByteArray
def Sh.cells (x : Sh) : List Value := [.int .i64 x.inc, .int .i64 x.pos, .int .i64 x.first, .string x.data]
def i64R (x : Int) : Prop := -9223372036854775808 ≤ x ∧ x ≤ 9223372036854775807
structure Sh.In (x : Sh) : Prop where
  inc : i64R x.inc
  pos : i64R x.pos
  first : i64R x.first
  data : x.data.size ≤ maxLen
end

/- 'append' onto a row of the call's own lays it where it was, or in a new block: so two such rows stay apart. No program is named; no condition. -/
section
open Go.RowKit
end

/- bodies in memory; sheet.join, sheet.cut. -/
section
open Go.RowKit
def slV (v : Option Addr × Nat × Nat) : List Value := [.slice v.1 v.2.1 v.2.2]
theorem slV_len (v : Option Addr × Nat × Nat) : (slV v).length = 1 := rfl
def sl0 : Option Addr × Nat × Nat := (none, 0, 0)
structure Bods (w : World) (A : Option Addr) (n c : Nat) (ls : List (List Int)) (vs : List (Option Addr × Nat × Nat)) : Prop where
  flt : Flt w A n c 1 (vs.flatMap slV)
  vl : vs.length = n
  len : ls.length = n
  each : ∀ i, i < n → Byt w (vs.getD i sl0).1 (vs.getD i sl0).2.1 (vs.getD i sl0).2.2 (ls.getD i [])
theorem Bods.below {w w' : World} {A : Option Addr} {n c : Nat} {ls : List (List Int)} {vs : List (Option Addr × Nat × Nat)} (h : Bods w A n c ls vs) (hb : Below w.heap.size w w') : Bods w' A n c ls vs :=
  ⟨h.flt.below hb, h.vl, h.len, fun i hi => (h.each i hi).below hb⟩
theorem Bods.at_ {w : World} {A : Option Addr} {n c : Nat} {ls : List (List Int)} {vs : List (Option Addr × Nat × Nat)} (h : Bods w A n c ls vs) (hn : 0 < n) :
    ∃ g off, A = some ⟨g, off, none⟩ ∧ ∀ i, i < n → w.cell? ⟨g, off + i, none⟩ = some (.slice (vs.getD i sl0).1 (vs.getD i sl0).2.1 (vs.getD i sl0).2.2) ∧ Byt w (vs.getD i sl0).1 (vs.getD i sl0).2.1 (vs.getD i sl0).2.2 (ls.getD i []) := by
  obtain ⟨g, off, e, hc⟩ := h.flt.at_get sl0 slV slV_len h.vl hn
  refine ⟨g, off, e, fun i hi => ⟨?_, h.each i hi⟩⟩
  have := hc i hi 0 _ rfl
  simpa using this
theorem Bods.nil (w : World) : Bods w none 0 0 [] [] := ⟨Flt.nil w 1, rfl, rfl, fun i hi => absurd hi (by omega)⟩
end

/- sheet.cut; the statements' own, great, ended. -/
section
open Go.RowKit
structure GatS (w : World) (f : Nat → List Int) (i : Nat) (wr : World) (A : Option Addr) (c : Nat) (vs : List (Option Addr × Nat × Nat)) : Prop where
  own : wr.ownsRow w.heap.size 25 1 (.slice A i c) i (vs.flatMap slV)
  len : vs.length = i
  each : ∀ j, j < i → Bty wr (vs.getD j sl0).1 (vs.getD j sl0).2.1 (vs.getD j sl0).2.2 (f j)
  bel : Below w.heap.size w wr
theorem GatS.start (w : World) (f : Nat → List Int) : GatS w f 0 w none 0 [] := ⟨World.ownsRow_nil _ _ _ _, rfl, fun j hj => absurd hj (by omega), Below.refl _ _⟩
end

/- bytes that are gathered onto a slice that has no room, or onto a row of one's own. -/
section
open Go.RowKit
def fndC (x : List Int × Int) : List Value := [.string (strOfNums x.1), .int .i64 x.2]
end

/- one body more is found, in memory; (*sheet.search).head steps as the plain search does. -/
section
open Go.RowKit
end

/- (*sheet.search).bodies steps as the plain search does. -/
section
open Go.RowKit
end

/- sheet.Find finds what the plain search finds, in new memory. -/
section
open Go.RowKit
theorem Sh.cells_len (x : Sh) : x.cells.length = 4 := rfl
structure Shs (w : World) (A : Option Addr) (n c : Nat) (l : List Sh) : Prop where
  flt : Flt w A n c 4 (l.flatMap Sh.cells)
  len : l.length = n
  inn : ∀ x ∈ l, x.In
theorem Shs.below {w w' : World} {A : Option Addr} {n c : Nat} {l : List Sh} (h : Shs w A n c l) (hb : Below w.heap.size w w') : Shs w' A n c l := ⟨h.flt.below hb, h.len, h.inn⟩
end

/- trothref08.Same, SameFound and the statements' bodies say yes of what reads as the same. -/
section
open Go.RowKit
structure Fnds (w : World) (A : Option Addr) (n c : Nat) (out : List (List Int × Int)) : Prop where
  flt : Flt w A n c 2 (out.flatMap fndC)
  len : out.length = n
theorem Fnds.below {w w' : World} {A : Option Addr} {n c : Nat} {out : List (List Int × Int)} (h : Fnds w A n c out) (hb : Below w.heap.size w w') : Fnds w' A n c out := ⟨h.flt.below hb, h.len⟩
end

/- what a row's step wants of arguments that are numbers or slices of bytes: how they read, and how long they are. No condition. -/
section
open Go.ChangeShapes Go.WideShapes Go.ChangeAt Go.RowKit
theorem own_knob : ownKnob Try.prog.godebug = none := by kernel_rfl
theorem laidOut : laidOutB Try.prog = true := by kernel_rfl
theorem i64_bd {x : Int} (h : (Lit.int .i64 x).wf = true) : -9223372036854775808 ≤ x ∧ x ≤ 9223372036854775807 := by
  simp [Lit.wf, IntKind.min, IntKind.max, IntKind.signed, IntKind.bits] at h
  exact ⟨by omega, by omega⟩
section
variable {H : Type} {enc : TypeId × Value → H} {W : World}
end
end

/- bodies and sheets as they come in: what they read as. -/
section
open Go.RowKit Go.ChangeShapes Go.WideShapes Go.ChangeAt
section
variable {H : Type} {enc : TypeId × Value → H} {W : World}
end
end

/- sheet.Lay lays bodies into sheets, or answers the error. -/
section
open Go.RowKit
theorem Shs.nil (w : World) : Shs w none 0 0 [] := ⟨Flt.nil w 4, rfl, fun x hx => (by cases hx)⟩
end

/- sheet.Lay answers the sheets, or the error, in new memory. -/
section
open Go.RowKit
end

/- the statements' ended tells how many bodies end in the first sheets. -/
section
open Go.RowKit
end

/- trothlaw08.awake answers true. -/
section
open Go.RowKit
end

/- slices of sheets, of what was found, and of bodies: appended onto a row of one's own, and cut. -/
section
open Go.RowKit
theorem addr0 (A : Option Addr) (s : Nat) : A.map (·.add (0 * s)) = A := by
  cases A with
  | none => rfl
  | some a => simp [Addr.add]
theorem cutF_h {w : World} {A : Option Addr} {n c size : Nat} {vs : List Value} {t e : TypeId} {i : TypeInfo} (ht : Try.prog.underlying t = some (.slice e)) (hi : Try.prog.info? e = some i) (h : Flt w A n c size vs) (k : Nat) (hk : k ≤ n) (zk : Int) (ek : zk = k) :
    (∀ v, (Instr.slice t (.slice A n c) none (some (.int .i64 zk)) none).run Try.prog v = .ok (.slice A k c) v) ∧ Flt w A k c size (vs.take (k * size)) := by
  have hcap := h.cap
  subst ek
  have hel : Try.prog.elem t = e := by simp [Program.elem, ht]
  refine ⟨fun v => ?_, h.take k hk⟩
  rw [run_slice_h (P := Try.prog) (w := v) t A n c (by rw [hel]; exact ht) .i64 k (by omega) (by omega), hel]
  have : (sizeOf e).run Try.prog v = .ok i.size v := by simp [sizeOf, typeInfo, hi]
  rw [this]
  simp only [Result.andThen, sliced, Int.toNat_natCast, Nat.sub_zero, addr0, ite_self]
theorem cutF_l {w : World} {A : Option Addr} {n c size : Nat} {vs : List Value} {t e : TypeId} {i : TypeInfo} (ht : Try.prog.underlying t = some (.slice e)) (hi : Try.prog.info? e = some i) (hsz : i.size = size) (h : Flt w A n c size vs) (k : Nat) (hk : k ≤ n) (zk : Int) (ek : zk = k) :
    ∃ B d, (∀ v, (Instr.slice t (.slice A n c) (some (.int .i64 zk)) none none).run Try.prog v = .ok (.slice B (n - k) d) v) ∧ Flt w B (n - k) d size (vs.drop (k * size)) := by
  have hcap := h.cap
  have hmax := h.max
  subst ek
  have hel : Try.prog.elem t = e := by simp [Program.elem, ht]
  refine ⟨if c = k then A else A.map (·.add (k * size)), c - k, fun v => ?_, ⟨?_, by omega, by omega, fun eq => ?_, fun hn => ?_⟩⟩
  · rw [run_slice_l (P := Try.prog) (w := v) t A n c (by rw [hel]; exact ht) .i64 k (by omega) (by omega), hel]
    have : (sizeOf e).run Try.prog v = .ok i.size v := by simp [sizeOf, typeInfo, hi]
    rw [this, hsz]
    simp only [Result.andThen, sliced, Int.toNat_natCast]
  · rw [List.length_drop, h.len, Nat.sub_mul]
  · by_cases q : c = k
    · omega
    · rw [if_neg q] at eq
      cases A with
      | none => have := h.nil_ rfl; omega
      | some a => simp at eq
  · obtain ⟨g, off, rfl, hc⟩ := h.at_ (by omega)
    refine ⟨g, off + k * size, ?_, fun j v hv => ?_⟩
    · rw [if_neg (by omega)]
      simp [Addr.add]
    · rw [List.getElem?_drop] at hv
      rw [Nat.add_assoc]
      exact hc _ v hv
end

/- page.Set answers the page with another value of a key, or the error. -/
section
open Go.RowKit
def RetPg (r : Pg × Nat) (w : World) (e : Ending) (w' : World) : Prop := ∃ A n c, e = .returned (.tuple #[pgV r.1.lsn A n c, .int .i64 r.2]) ∧ OwnP w.heap.size w' A n c r.1.cells ∧ Below w.heap.size w w'
structure SetW (w : World) (r : Nat) (lsn0 : Int) (A : Option Addr) (n c : Nat) (x : Cl) : Prop where
  pg : Bk w r 24 #[.int .i64 lsn0, .slice A n c]
  vl : Bk w (r + 1) 42 #[.bool x.val.has, .string x.val.data]
  out : Bk w (r + 2) 24 #[.int .i64 0, .slice none 0 0]
  cl : Bk w (r + 3) 54 #[.string x.key, .bool x.val.has, .string x.val.data]
theorem SetW.below {w w' : World} {r : Nat} {lsn0 : Int} {A : Option Addr} {n c : Nat} {x : Cl} (h : SetW w r lsn0 A n c x) (hb : Below w.heap.size w w') : SetW w' r lsn0 A n c x :=
  ⟨h.pg.bel hb h.pg.lt, h.vl.bel hb h.vl.lt, h.out.bel hb h.out.lt, h.cl.bel hb h.cl.lt⟩
theorem SetW.new (w : World) (lsn0 : Int) (A : Option Addr) (n c : Nat) (x : Cl) : SetW ((((w.alloc (.cells #[.int .i64 lsn0, .slice A n c] 24)).alloc (.cells #[.bool x.val.has, .string x.val.data] 42)).alloc (.cells #[.int .i64 0, .slice none 0 0] 24)).alloc (.cells #[.string x.key, .bool x.val.has, .string x.val.data] 54)) w.heap.size lsn0 A n c x := by
  obtain ⟨w1, h1⟩ : ∃ x, x = w.alloc (.cells #[.int .i64 lsn0, .slice A n c] 24) := ⟨_, rfl⟩
  obtain ⟨w2, h2⟩ : ∃ v, v = w1.alloc (.cells #[.bool x.val.has, .string x.val.data] 42) := ⟨_, rfl⟩
  obtain ⟨w3, h3⟩ : ∃ v, v = w2.alloc (.cells #[.int .i64 0, .slice none 0 0] 24) := ⟨_, rfl⟩
  obtain ⟨w4, h4⟩ : ∃ v, v = w3.alloc (.cells #[.string x.key, .bool x.val.has, .string x.val.data] 54) := ⟨_, rfl⟩
  rw [← h1, ← h2, ← h3, ← h4]
  have s1 : w1.heap.size = w.heap.size + 1 := by rw [h1, World.size_alloc]
  have s2 : w2.heap.size = w.heap.size + 2 := by rw [h2, World.size_alloc, s1]
  have s3 : w3.heap.size = w.heap.size + 3 := by rw [h3, World.size_alloc, s2]
  have b2 : Below w1.heap.size w1 w2 := by rw [h2]; exact (Below.refl _ _).alloc (Nat.le_refl _) _
  have b3 : Below w2.heap.size w2 w3 := by rw [h3]; exact (Below.refl _ _).alloc (Nat.le_refl _) _
  have b4 : Below w3.heap.size w3 w4 := by rw [h4]; exact (Below.refl _ _).alloc (Nat.le_refl _) _
  have k1 : Bk w1 w.heap.size 24 #[.int .i64 lsn0, .slice A n c] := by rw [h1]; exact Bk.new w _ _
  have k2 : Bk w2 (w.heap.size + 1) 42 #[.bool x.val.has, .string x.val.data] := by rw [h2, ← s1]; exact Bk.new w1 _ _
  have k3 : Bk w3 (w.heap.size + 2) 24 #[.int .i64 0, .slice none 0 0] := by rw [h3, ← s2]; exact Bk.new w2 _ _
  have k4 : Bk w4 (w.heap.size + 3) 54 #[.string x.key, .bool x.val.has, .string x.val.data] := by rw [h4, ← s3]; exact Bk.new w3 _ _
  exact ⟨((k1.bel b2 (by omega)).bel b3 (by omega)).bel b4 (by omega), (k2.bel b3 (by omega)).bel b4 (by omega), k3.bel b4 (by omega), k4⟩
theorem setW_below (w : World) (lsn0 : Int) (A : Option Addr) (n c : Nat) (x : Cl) : Below w.heap.size w ((((w.alloc (.cells #[.int .i64 lsn0, .slice A n c] 24)).alloc (.cells #[.bool x.val.has, .string x.val.data] 42)).alloc (.cells #[.int .i64 0, .slice none 0 0] 24)).alloc (.cells #[.string x.key, .bool x.val.has, .string x.val.data] 54)) :=
  ((((Below.refl _ _).alloc (Nat.le_refl _) _).alloc (by simp) _).alloc (by simp; omega) _).alloc (by simp; omega) _
theorem SetW.zero {w w' : World} {lsn0 : Int} {A : Option Addr} {n c : Nat} {x : Cl} (h : SetW w' w.heap.size lsn0 A n c x) (hb : Below w.heap.size w w') (er : Nat) :
    Bk ((w'.setCell ⟨w.heap.size + 2, 0, none⟩ (.int .i64 0)).setCell ⟨w.heap.size + 2, 1, none⟩ (.slice none 0 0)) (w.heap.size + 2) 24 #[.int .i64 0, .slice none 0 0] ∧
    RetPg (pg0, er) w (.returned (.tuple #[pgV 0 none 0 0, .int .i64 er])) ((w'.setCell ⟨w.heap.size + 2, 0, none⟩ (.int .i64 0)).setCell ⟨w.heap.size + 2, 1, none⟩ (.slice none 0 0)) := by
  refine ⟨by simpa using (h.out.setc 0 (.int .i64 0)).setc 1 (.slice none 0 0), none, 0, 0, rfl, OwnP.nil _ _, ?_⟩
  exact (hb.setCell (p := ⟨w.heap.size + 2, 0, none⟩) (by simp) _).setCell (p := ⟨w.heap.size + 2, 1, none⟩) (by simp) _
set_option maxRecDepth 100000 in
set_option maxHeartbeats 4000000 in
theorem set_no (lsn0 : Int) (A : Option Addr) (n c : Nat) (l : List Cl) (lsn : Int) (x : Cl) (w : World) (h : Pcs w A n c l) (hno : ¬ ((⟨lsn0, l⟩ : Pg).ok ∧ clOk x ∧ 1 ≤ lsn ∧ lsn ≤ 1099511627776)) :
    Calls Try.prog 17 #[pgV lsn0 A n c, .int .i64 lsn, .string x.key, vlV x.val] w (RetPg (pg0, 1) w) := by
  obtain ⟨key, ⟨hs, d⟩⟩ := x
  obtain ⟨W0, hW0⟩ : ∃ W, W = (((w.alloc (.cells #[.int .i64 lsn0, .slice A n c] 24)).alloc (.cells #[.bool hs, .string d] 42)).alloc (.cells #[.int .i64 0, .slice none 0 0] 24)).alloc (.cells #[.string key, .bool hs, .string d] 54) := ⟨_, rfl⟩
  have HB : Hid (Below w.heap.size w W0) := Lib.hid (by rw [hW0]; exact setW_below w lsn0 A n c ⟨key, ⟨hs, d⟩⟩)
  have SW : Hid (SetW W0 w.heap.size lsn0 A n c ⟨key, ⟨hs, d⟩⟩) := Lib.hid (by rw [hW0]; exact SetW.new w lsn0 A n c ⟨key, ⟨hs, d⟩⟩)
  have p0 : W0.cell? ⟨w.heap.size, 0, none⟩ = some (.int .i64 lsn0) := SW.out.pg.cell 0
  have p1 : W0.cell? ⟨w.heap.size, 1, none⟩ = some (.slice A n c) := SW.out.pg.cell 1
  have C := isPage_any lsn0 A n c l W0 (h.below HB.out)
  have CC := fun W => isCell_any ⟨key, ⟨hs, d⟩⟩ W
  have HW := Lib.hid hW0
  clear h hW0
  have FIN : Hid (∀ w', Below W0.heap.size W0 w' → w'.frozen? ⟨w.heap.size + 2, 0, none⟩ = false ∧ w'.frozen? ⟨w.heap.size + 2, 1, none⟩ = false ∧ w'.cell? ⟨w.heap.size + 2, 0, none⟩ = some (.int .i64 0) ∧ w'.cell? ⟨w.heap.size + 2, 1, none⟩ = some (.slice none 0 0) ∧
      w'.cell? ⟨w.heap.size + 3, 0, none⟩ = some (.string key) ∧ w'.cell? ⟨w.heap.size + 3, 1, none⟩ = some (.bool hs) ∧ w'.cell? ⟨w.heap.size + 3, 2, none⟩ = some (.string d)) := Lib.hid (fun w' hb => by
    have s := SW.out.below hb
    exact ⟨s.out.frz 0, s.out.frz 1, s.out.cell 0, s.out.cell 1, s.cl.cell 0, s.cl.cell 1, s.cl.cell 2⟩)
  have ZE : Hid (∀ w', Below W0.heap.size W0 w' → Bk ((w'.setCell ⟨w.heap.size + 2, 0, none⟩ (.int .i64 0)).setCell ⟨w.heap.size + 2, 1, none⟩ (.slice none 0 0)) (w.heap.size + 2) 24 #[.int .i64 0, .slice none 0 0] ∧
    RetPg (pg0, 1) w (.returned (.tuple #[pgV 0 none 0 0, .int .i64 1])) ((w'.setCell ⟨w.heap.size + 2, 0, none⟩ (.int .i64 0)).setCell ⟨w.heap.size + 2, 1, none⟩ (.slice none 0 0))) := Lib.hid (fun w' hb => (SW.out.below hb).zero (Below.then HB.out hb) 1)
  by_cases hp : (⟨lsn0, l⟩ : Pg).ok
  · rw [decide_eq_true hp] at C
    by_cases hc : clOk ⟨key, ⟨hs, d⟩⟩
    · have hl : ¬ (1 ≤ lsn ∧ lsn ≤ 1099511627776) := fun q => hno ⟨hp, hc, q⟩
      rw [decide_eq_true hc] at CC
      have C := Lib.hid C
      have CC := Lib.hid CC
      clear hno hp hc
      by_cases h1 : 1 ≤ lsn
      · have h2 : ¬ lsn ≤ 1099511627776 := fun q => hl ⟨h1, q⟩
        clear hl
        go_enter Try.func17, Try.ntmps17
        go_upto_region 2 with fail
        rw [← HW.out]
        go_wp2_with fail
        refine C.out.mono ?_
        rintro e w1 ⟨rfl, b1⟩
        have B1 := Lib.hid b1
        obtain ⟨_, _, _, _, k0, k1, k2⟩ := FIN.out w1 b1
        clear b1 C p0 p1
        go_wp2_with fail
        refine (CC.out _).mono ?_
        rintro e w2 ⟨rfl, b2⟩
        obtain ⟨f0, f1, z0, z1, _, _, _⟩ := FIN.out _ (Below.then B1.out b2)
        have Z := Lib.hid (ZE.out _ (Below.then B1.out b2))
        clear b2 CC k0 k1 k2
        go_wp2_with fail
        (try simp only [Exit.inBlock, Exit.then])
        refine bodyPost_ret (results_cellT rfl _ _ (w.heap.size + 2) 24 _ _ rfl Z.out.1 Try.underlying24 rfl pg_inf) rfl ?_
        exact Z.out.2
      · clear hl
        go_enter Try.func17, Try.ntmps17
        go_upto_region 2 with fail
        rw [← HW.out]
        go_wp2_with fail
        refine C.out.mono ?_
        rintro e w1 ⟨rfl, b1⟩
        have B1 := Lib.hid b1
        obtain ⟨_, _, _, _, k0, k1, k2⟩ := FIN.out w1 b1
        clear b1 C p0 p1
        go_wp2_with fail
        refine (CC.out _).mono ?_
        rintro e w2 ⟨rfl, b2⟩
        obtain ⟨f0, f1, z0, z1, _, _, _⟩ := FIN.out _ (Below.then B1.out b2)
        have Z := Lib.hid (ZE.out _ (Below.then B1.out b2))
        clear b2 CC k0 k1 k2
        go_wp2_with fail
        (try simp only [Exit.inBlock, Exit.then])
        refine bodyPost_ret (results_cellT rfl _ _ (w.heap.size + 2) 24 _ _ rfl Z.out.1 Try.underlying24 rfl pg_inf) rfl ?_
        exact Z.out.2
    · rw [decide_eq_false hc] at CC
      have C := Lib.hid C
      have CC := Lib.hid CC
      clear hno hp hc
      go_enter Try.func17, Try.ntmps17
      go_upto_region 2 with fail
      rw [← HW.out]
      go_wp2_with fail
      refine C.out.mono ?_
      rintro e w1 ⟨rfl, b1⟩
      have B1 := Lib.hid b1
      obtain ⟨_, _, _, _, k0, k1, k2⟩ := FIN.out w1 b1
      clear b1 C p0 p1
      go_wp2_with fail
      refine (CC.out _).mono ?_
      rintro e w2 ⟨rfl, b2⟩
      obtain ⟨f0, f1, z0, z1, _, _, _⟩ := FIN.out _ (Below.then B1.out b2)
      have Z := Lib.hid (ZE.out _ (Below.then B1.out b2))
      clear b2 CC k0 k1 k2
      go_wp2_with fail
      (try simp only [Exit.inBlock, Exit.then])
      refine bodyPost_ret (results_cellT rfl _ _ (w.heap.size + 2) 24 _ _ rfl Z.out.1 Try.underlying24 rfl pg_inf) rfl ?_
      exact Z.out.2
  · rw [decide_eq_false hp] at C
    have C := Lib.hid C
    clear CC hno hp
    go_enter Try.func17, Try.ntmps17
    go_upto_region 2 with fail
    rw [← HW.out]
    go_wp2_with fail
    refine C.out.mono ?_
    rintro e w1 ⟨rfl, b1⟩
    obtain ⟨f0, f1, z0, z1, _, _, _⟩ := FIN.out _ (b1)
    have Z := Lib.hid (ZE.out _ (b1))
    clear b1 C p0 p1
    go_wp2_with fail
    (try simp only [Exit.inBlock, Exit.then])
    refine bodyPost_ret (results_cellT rfl _ _ (w.heap.size + 2) 24 _ _ rfl Z.out.1 Try.underlying24 rfl pg_inf) rfl ?_
    exact Z.out.2
set_option maxRecDepth 100000 in
set_option maxHeartbeats 4000000 in
theorem set_full (lsn0 : Int) (A : Option Addr) (n c : Nat) (l : List Cl) (lsn : Int) (x : Cl) (w : World) (h : Pcs w A n c l) (hyes : (⟨lsn0, l⟩ : Pg).ok ∧ clOk x ∧ 1 ≤ lsn ∧ lsn ≤ 1099511627776) (hr : roomC l x.key = false) :
    Calls Try.prog 17 #[pgV lsn0 A n c, .int .i64 lsn, .string x.key, vlV x.val] w (RetPg (pg0, 100) w) := by
  obtain ⟨key, ⟨hs, d⟩⟩ := x
  obtain ⟨hp, hc, hl1, hl2⟩ := hyes
  simp only at hr
  obtain ⟨W0, hW0⟩ : ∃ W, W = (((w.alloc (.cells #[.int .i64 lsn0, .slice A n c] 24)).alloc (.cells #[.bool hs, .string d] 42)).alloc (.cells #[.int .i64 0, .slice none 0 0] 24)).alloc (.cells #[.string key, .bool hs, .string d] 54) := ⟨_, rfl⟩
  have HB : Hid (Below w.heap.size w W0) := Lib.hid (by rw [hW0]; exact setW_below w lsn0 A n c ⟨key, ⟨hs, d⟩⟩)
  have SW : Hid (SetW W0 w.heap.size lsn0 A n c ⟨key, ⟨hs, d⟩⟩) := Lib.hid (by rw [hW0]; exact SetW.new w lsn0 A n c ⟨key, ⟨hs, d⟩⟩)
  have HP := Lib.hid (h.below HB.out)
  have p0 : W0.cell? ⟨w.heap.size, 0, none⟩ = some (.int .i64 lsn0) := SW.out.pg.cell 0
  have p1 : W0.cell? ⟨w.heap.size, 1, none⟩ = some (.slice A n c) := SW.out.pg.cell 1
  have C := isPage_any lsn0 A n c l W0 HP.out
  have CC := fun W => isCell_any ⟨key, ⟨hs, d⟩⟩ W
  have CR := fun W (hW : Pcs W A n c l) => room_any lsn0 A n c l key W hW
  rw [hr] at CR
  rw [decide_eq_true hp] at C
  rw [decide_eq_true hc] at CC
  have C := Lib.hid C
  have CC := Lib.hid CC
  have CR := Lib.hid CR
  have HW := Lib.hid hW0
  clear h hW0
  have FIN : Hid (∀ w', Below W0.heap.size W0 w' → w'.frozen? ⟨w.heap.size + 2, 0, none⟩ = false ∧ w'.frozen? ⟨w.heap.size + 2, 1, none⟩ = false ∧ w'.cell? ⟨w.heap.size + 2, 0, none⟩ = some (.int .i64 0) ∧ w'.cell? ⟨w.heap.size + 2, 1, none⟩ = some (.slice none 0 0) ∧
      w'.cell? ⟨w.heap.size + 3, 0, none⟩ = some (.string key) ∧ w'.cell? ⟨w.heap.size + 3, 1, none⟩ = some (.bool hs) ∧ w'.cell? ⟨w.heap.size + 3, 2, none⟩ = some (.string d)) := Lib.hid (fun w' hb => by
    have s := SW.out.below hb
    exact ⟨s.out.frz 0, s.out.frz 1, s.out.cell 0, s.out.cell 1, s.cl.cell 0, s.cl.cell 1, s.cl.cell 2⟩)
  have PGC : Hid (∀ w', Below W0.heap.size W0 w' → w'.cell? ⟨w.heap.size, 0, none⟩ = some (.int .i64 lsn0) ∧ w'.cell? ⟨w.heap.size, 1, none⟩ = some (.slice A n c)) := Lib.hid (fun w' hb => by
    have s := SW.out.below hb
    exact ⟨s.pg.cell 0, s.pg.cell 1⟩)
  have ZE : Hid (∀ w', Below W0.heap.size W0 w' → Bk ((w'.setCell ⟨w.heap.size + 2, 0, none⟩ (.int .i64 0)).setCell ⟨w.heap.size + 2, 1, none⟩ (.slice none 0 0)) (w.heap.size + 2) 24 #[.int .i64 0, .slice none 0 0] ∧
    RetPg (pg0, 100) w (.returned (.tuple #[pgV 0 none 0 0, .int .i64 100])) ((w'.setCell ⟨w.heap.size + 2, 0, none⟩ (.int .i64 0)).setCell ⟨w.heap.size + 2, 1, none⟩ (.slice none 0 0))) := Lib.hid (fun w' hb => (SW.out.below hb).zero (Below.then HB.out hb) 100)
  clear hp hc hr
  go_enter Try.func17, Try.ntmps17
  go_upto_region 2 with fail
  rw [← HW.out]
  go_wp2_with fail
  refine C.out.mono ?_
  rintro e w1 ⟨rfl, b1⟩
  have B1 := Lib.hid b1
  obtain ⟨_, _, _, _, k0, k1, k2⟩ := FIN.out w1 b1
  clear b1 C p0 p1
  go_wp2_with fail
  refine (CC.out _).mono ?_
  rintro e w2 ⟨rfl, b2⟩
  have B2 := Lib.hid (Below.then B1.out b2)
  obtain ⟨p0, p1⟩ := PGC.out w2 B2.out
  clear b2 CC k0 k1 k2
  go_wp2_with fail
  refine (CR.out _ (HP.out.below B2.out)).mono ?_
  rintro e w3 ⟨rfl, b3⟩
  obtain ⟨f0, f1, z0, z1, _, _, _⟩ := FIN.out _ (Below.then B2.out b3)
  have Z := Lib.hid (ZE.out _ (Below.then B2.out b3))
  clear b3 CR p0 p1
  go_wp2_with fail
  (try simp only [Exit.inBlock, Exit.then])
  refine bodyPost_ret (results_cellT rfl _ _ (w.heap.size + 2) 24 _ _ rfl Z.out.1 Try.underlying24 rfl pg_inf) rfl ?_
  exact Z.out.2
set_option maxRecDepth 100000 in
set_option maxHeartbeats 4000000 in
theorem set_ok (lsn0 : Int) (A : Option Addr) (n c : Nat) (l : List Cl) (lsn : Int) (x : Cl) (w : World) (h : Pcs w A n c l) (hyes : (⟨lsn0, l⟩ : Pg).ok ∧ clOk x ∧ 1 ≤ lsn ∧ lsn ≤ 1099511627776) (hr : roomC l x.key = true) :
    Calls Try.prog 17 #[pgV lsn0 A n c, .int .i64 lsn, .string x.key, vlV x.val] w (RetPg ((⟨lsn, setC l x⟩ : Pg), 0) w) := by
  obtain ⟨key, ⟨hs, d⟩⟩ := x
  obtain ⟨hp, hc, hl1, hl2⟩ := hyes
  simp only at hr
  obtain ⟨W0, hW0⟩ : ∃ W, W = (((w.alloc (.cells #[.int .i64 lsn0, .slice A n c] 24)).alloc (.cells #[.bool hs, .string d] 42)).alloc (.cells #[.int .i64 0, .slice none 0 0] 24)).alloc (.cells #[.string key, .bool hs, .string d] 54) := ⟨_, rfl⟩
  have HB : Hid (Below w.heap.size w W0) := Lib.hid (by rw [hW0]; exact setW_below w lsn0 A n c ⟨key, ⟨hs, d⟩⟩)
  have SW : Hid (SetW W0 w.heap.size lsn0 A n c ⟨key, ⟨hs, d⟩⟩) := Lib.hid (by rw [hW0]; exact SetW.new w lsn0 A n c ⟨key, ⟨hs, d⟩⟩)
  have HP := Lib.hid (h.below HB.out)
  have p0 : W0.cell? ⟨w.heap.size, 0, none⟩ = some (.int .i64 lsn0) := SW.out.pg.cell 0
  have p1 : W0.cell? ⟨w.heap.size, 1, none⟩ = some (.slice A n c) := SW.out.pg.cell 1
  have C := isPage_any lsn0 A n c l W0 HP.out
  have CC := fun W => isCell_any ⟨key, ⟨hs, d⟩⟩ W
  have CR := fun W (hW : Pcs W A n c l) => room_any lsn0 A n c l key W hW
  rw [hr] at CR
  rw [decide_eq_true hp] at C
  rw [decide_eq_true hc] at CC
  have C := Lib.hid C
  have CC := Lib.hid CC
  have CR := Lib.hid CR
  have HW := Lib.hid hW0
  clear h hW0
  have FIN : Hid (∀ w', Below W0.heap.size W0 w' → w'.frozen? ⟨w.heap.size + 2, 0, none⟩ = false ∧ w'.frozen? ⟨w.heap.size + 2, 1, none⟩ = false ∧ w'.cell? ⟨w.heap.size + 2, 0, none⟩ = some (.int .i64 0) ∧ w'.cell? ⟨w.heap.size + 2, 1, none⟩ = some (.slice none 0 0) ∧
      w'.cell? ⟨w.heap.size + 3, 0, none⟩ = some (.string key) ∧ w'.cell? ⟨w.heap.size + 3, 1, none⟩ = some (.bool hs) ∧ w'.cell? ⟨w.heap.size + 3, 2, none⟩ = some (.string d)) := Lib.hid (fun w' hb => by
    have s := SW.out.below hb
    exact ⟨s.out.frz 0, s.out.frz 1, s.out.cell 0, s.out.cell 1, s.cl.cell 0, s.cl.cell 1, s.cl.cell 2⟩)
  have PGC : Hid (∀ w', Below W0.heap.size W0 w' → w'.cell? ⟨w.heap.size, 0, none⟩ = some (.int .i64 lsn0) ∧ w'.cell? ⟨w.heap.size, 1, none⟩ = some (.slice A n c)) := Lib.hid (fun w' hb => by
    have s := SW.out.below hb
    exact ⟨s.pg.cell 0, s.pg.cell 1⟩)
  have CB := Lib.hid (fun W (hW : Pcs W A n c l) => bsearch_any A n c l key W hW ((clsOk_pw l).1 hp.2.2).2 (by rw [← HP.out.len]; have := hp.2.1; simp only at this; omega))
  have hlen := Lib.hid HP.out.len
  have hn4 : n ≤ 4 := by rw [← HP.out.len]; exact hp.2.1
  obtain ⟨i0, hi, hz0, hz1, hz2⟩ := info_parts info_cl
  have HI := Lib.hid hi
  have HZ := Lib.hid hz1
  clear hi hz0 hz1 hz2
  have HLN : Hid ((setC l ⟨key, ⟨hs, d⟩⟩).length ≤ 4) := Lib.hid (setPg_isok ⟨hp, hc, hl1, hl2⟩ hr).2.1
  clear hp hc hr
  go_enter Try.func17, Try.ntmps17
  go_upto_region 2 with fail
  rw [← HW.out]
  go_wp2_with fail
  refine C.out.mono ?_
  rintro e w1 ⟨rfl, b1⟩
  have B1 := Lib.hid b1
  obtain ⟨_, _, _, _, k0, k1, k2⟩ := FIN.out w1 b1
  clear b1 C p0 p1
  go_wp2_with fail
  refine (CC.out _).mono ?_
  rintro e w2 ⟨rfl, b2⟩
  have B2 := Lib.hid (Below.then B1.out b2)
  obtain ⟨p0, p1⟩ := PGC.out w2 B2.out
  clear b2 CC k0 k1 k2
  go_wp2_with fail
  refine (CR.out _ (HP.out.below B2.out)).mono ?_
  rintro e w3 ⟨rfl, b3⟩
  have B3 := Lib.hid (Below.then B2.out b3)
  obtain ⟨p0, p1⟩ := PGC.out w3 B3.out
  clear b3 CR
  go_wp2_with fail
  refine (CB.out _ (HP.out.below B3.out)).mono ?_
  rintro e w4 ⟨rfl, b4⟩
  have B4 := Lib.hid (Below.then B3.out b4)
  clear b4 CB p0 p1
  obtain ⟨bb, hat⟩ : ∃ b, isAt l key = b := ⟨_, rfl⟩
  rw [hat]
  cases bb
  · have hbh : behC l key = atC l key := by unfold behC; rw [hat]; rfl
    obtain ⟨at0, hat0⟩ : ∃ z, atC l key = z := ⟨_, rfl⟩
    obtain ⟨bh, hbh0⟩ : ∃ z, behC l key = z := ⟨_, rfl⟩
    have hal : at0 ≤ n := by rw [← hat0, ← hlen.out]; exact atC_le l key
    have hbl : bh ≤ n := by rw [← hbh0, ← hlen.out]; exact behC_le l key
    rw [hat0, hbh0] at hbh
    rw [hat0]
    obtain ⟨hc1, hf1⟩ := cutF_h Try.underlying22 HI.out (HP.out.below B4.out).flt at0 hal (at0 : Int) rfl
    obtain ⟨BB, dd, hc2, hf2⟩ := cutF_l Try.underlying22 HI.out HZ.out (HP.out.below B4.out).flt bh hbl (at0 : Int) (by rw [hbh])
    rw [flatL_take Cl.cells 3 Cl.cells_len] at hf1
    rw [flatC_drop Cl.cells 3 Cl.cells_len] at hf2
    have KS : Hid (∀ w', Below w4.heap.size w4 w' → w'.cell? ⟨w.heap.size, 1, none⟩ = some (.slice A n c) ∧ w'.cell? ⟨w.heap.size + 3, 0, none⟩ = some (.string key) ∧ w'.cell? ⟨w.heap.size + 3, 1, none⟩ = some (.bool hs) ∧ w'.cell? ⟨w.heap.size + 3, 2, none⟩ = some (.string d)) := Lib.hid (fun w' hb => by
      have hb' := Below.then B4.out hb
      have q := FIN.out w' hb'
      exact ⟨(PGC.out w' hb').2, q.2.2.2.2⟩)
    clear hat
    go_wp2_with fail
    have hS0 := KS.out w4.drew (Below.refl _ _).drew
    refine wp_region_noPanic ?_
    refine upto_start (fun w' => w'.cell? ⟨w.heap.size, 1, none⟩ = some (.slice A n c) ∧ w'.cell? ⟨w.heap.size + 3, 0, none⟩ = some (.string key) ∧ w'.cell? ⟨w.heap.size + 3, 1, none⟩ = some (.bool hs) ∧ w'.cell? ⟨w.heap.size + 3, 2, none⟩ = some (.string d)) 13 (by kernel_rfl) ?_
    change Upto _ _ _ _ _ 16 _ _ _
    refine Upto.take (i := 0) (v := ?_) rfl (by kernel_rfl) (fun _ _ _ h => h) rfl (fun w' hS => ?_) hS0 ?_
    rotate_left
    · (try dsimp only at hS)
      go_split_ands
      go_simp
      (try with_reducible rfl)
    simp only [Act.put, List.setIfInBounds_toArray, List.set_cons_zero, List.set_cons_succ]
    refine Upto.take (i := 1) (v := ?_) rfl (by kernel_rfl) (fun _ _ _ h => h) rfl (fun w' hS => ?_) hS0 ?_
    rotate_left
    · (try dsimp only at hS)
      go_split_ands
      go_simp
      (try with_reducible rfl)
    simp only [Act.put, List.setIfInBounds_toArray, List.set_cons_zero, List.set_cons_succ]
    refine Upto.take (i := 2) (v := ?_) rfl (by kernel_rfl) (fun _ _ _ h => h) rfl (fun w' hS => ?_) hS0 ?_
    rotate_left
    · (try dsimp only at hS)
      go_split_ands
      go_simp
      (try with_reducible rfl)
    simp only [Act.put, List.setIfInBounds_toArray, List.set_cons_zero, List.set_cons_succ]
    refine Upto.take (i := 3) (v := ?_) rfl (by kernel_rfl) (fun _ _ _ h => h) rfl (fun w' hS => ?_) hS0 ?_
    rotate_left
    · (try dsimp only at hS)
      go_split_ands
      go_simp
      (try with_reducible rfl)
    simp only [Act.put, List.setIfInBounds_toArray, List.set_cons_zero, List.set_cons_succ]
    refine Upto.take (i := 4) rfl (by kernel_rfl) (fun _ _ _ h => h) rfl (fun w' hS => exec_slice rfl (by exact hc1 _)) hS0 ?_
    simp only [Act.put, List.setIfInBounds_toArray, List.set_cons_zero, List.set_cons_succ]
    refine Upto.take (i := 5) (v := ?_) rfl (by kernel_rfl) (fun _ _ _ h => h) rfl (fun w' hS => ?_) hS0 ?_
    rotate_left
    · (try dsimp only at hS)
      go_split_ands
      go_simp
      (try with_reducible rfl)
    simp only [Act.put, List.setIfInBounds_toArray, List.set_cons_zero, List.set_cons_succ]
    refine Upto.take (i := 7) (v := ?_) rfl (by kernel_rfl) (fun _ _ _ h => h) rfl (fun w' hS => ?_) hS0 ?_
    rotate_left
    · (try dsimp only at hS)
      go_split_ands
      go_simp
      (try with_reducible rfl)
    simp only [Act.put, List.setIfInBounds_toArray, List.set_cons_zero, List.set_cons_succ]
    refine Upto.take (i := 8) (v := ?_) rfl (by kernel_rfl) (fun _ _ _ h => h) rfl (fun w' hS => ?_) hS0 ?_
    rotate_left
    · (try dsimp only at hS)
      go_split_ands
      go_simp
      (try with_reducible rfl)
    simp only [Act.put, List.setIfInBounds_toArray, List.set_cons_zero, List.set_cons_succ]
    refine Upto.take (i := 9) (v := ?_) rfl (by kernel_rfl) (fun _ _ _ h => h) rfl (fun w' hS => ?_) hS0 ?_
    rotate_left
    · (try dsimp only at hS)
      go_split_ands
      go_simp
      (try with_reducible rfl)
    simp only [Act.put, List.setIfInBounds_toArray, List.set_cons_zero, List.set_cons_succ]
    refine Upto.take (i := 10) rfl (by kernel_rfl) (fun _ _ _ h => h) rfl (fun w' hS => exec_slice rfl (by exact hc2 _)) hS0 ?_
    simp only [Act.put, List.setIfInBounds_toArray, List.set_cons_zero, List.set_cons_succ]
    refine Upto.only (i := 6) rfl (by kernel_rfl) rfl (exec_buildSlice rfl [(0, .agg #[.string key, .bool hs, .string d])] (by rfl) (bslice_1 key hs d _)) ?_ ?_
    · exact KS.out _ ((Below.refl _ w4).drew.alloc (Nat.le_refl _) _)
    simp only [Act.put, List.setIfInBounds_toArray, List.set_cons_zero, List.set_cons_succ]
    obtain ⟨W5, hW5⟩ : ∃ W, W = w4.drew.alloc (.cells #[.string key, .bool hs, .string d] 54) := ⟨_, rfl⟩
    have b5 : Below w4.heap.size w4 W5 := by rw [hW5]; exact (Below.refl _ w4).drew.alloc (Nat.le_refl _) _
    have k5 : Bk W5 w4.heap.size 54 #[.string key, .bool hs, .string d] := by rw [hW5]; exact Bk.new w4.drew _ _
    rw [← hW5]
    refine Upto.only (i := 11) rfl (by kernel_rfl) rfl (exec_buildSlice rfl [(0, .slice A at0 c), (1, .slice (some ⟨w4.drew.heap.size, 0, none⟩) 1 1), (2, .slice BB (n - bh) dd)] (by rfl) (bslice_3 _ _ _ _ _ _ _ _ _ _)) ?_ ?_
    · exact KS.out _ (Below.then b5 ((Below.refl _ W5).alloc (Nat.le_refl _) _))
    simp only [Act.put, List.setIfInBounds_toArray, List.set_cons_zero, List.set_cons_succ]
    obtain ⟨W6, hW6⟩ : ∃ W, W = W5.alloc (.cells #[.slice A at0 c, .slice (some ⟨w4.drew.heap.size, 0, none⟩) 1 1, .slice BB (n - bh) dd] 22) := ⟨_, rfl⟩
    have b6 : Below W5.heap.size W5 W6 := by rw [hW6]; exact (Below.refl _ W5).alloc (Nat.le_refl _) _
    have b46 := Below.then b5 b6
    have k6 : Bk W6 W5.heap.size 22 #[.slice A at0 c, .slice (some ⟨w4.drew.heap.size, 0, none⟩) 1 1, .slice BB (n - bh) dd] := by rw [hW6]; exact Bk.new W5 _ _
    rw [← hW6]
    have CT : Hid (Cat3 W6 W5.heap.size (fun i => if i = 0 then (A, at0, c) else if i = 1 then (some ⟨w4.heap.size, 0, none⟩, 1, 1) else (BB, n - bh, dd)) (fun i => if i = 0 then l.take at0 else if i = 1 then [⟨key, ⟨hs, d⟩⟩] else l.drop bh)) := Lib.hid (by
      refine ⟨k6.lt, fun i hi => ?_⟩
      match i, hi with
      | 0, _ => exact ⟨k6.cell 0, ⟨hf1.below b46, by show (l.take at0).length = at0; rw [List.length_take, hlen.out]; exact Nat.min_eq_left hal⟩⟩
      | 1, _ => exact ⟨k6.cell 1, one_pcs (k5.bel b6 k5.lt)⟩
      | 2, _ => exact ⟨k6.cell 2, ⟨hf2.below b46, by show (l.drop bh).length = n - bh; rw [List.length_drop, hlen.out]⟩⟩)
    have AC : Hid (accC (fun i => if i = 0 then l.take at0 else if i = 1 then [⟨key, ⟨hs, d⟩⟩] else l.drop bh) 3 = setC l ⟨key, ⟨hs, d⟩⟩) := Lib.hid (by
      unfold setC
      simp only [hat0, hbh0]
      show (([] ++ l.take at0) ++ [_]) ++ l.drop bh = _
      rw [List.nil_append])
    have C3 := concat3_any _ _ _ _ CT.out (by rw [AC.out]; unfold setC; simp; omega) (by rw [AC.out]; have := HLN.out; omega)
    rw [AC.out] at C3
    have C3 := Lib.hid C3
    have B46 := Lib.hid b46
    clear hW5 b5 k5 hW6 b6 k6 hf1 hf2 CT AC b46
    refine Upto.law (i := 12) rfl (by kernel_rfl) rfl (fun K hK => ?_)
    refine wp_enter (f := 45) (args := #[.slice (some ⟨W5.heap.size, 0, none⟩) 3 3]) (by go_simp) C3.out ?_
    rintro e w7 ⟨A', n', c', rfl, ho7, b7⟩
    have B47 := Lib.hid (Below.then B46.out b7)
    refine ⟨_, rfl, hK _ _ (KS.out _ B47.out) ?_⟩
    have HO7 := Lib.hid (ho7.lo (base' := w.heap.size) (Nat.le_trans (Nat.le_trans HB.out.size B4.out.size) B46.out.size))
    obtain ⟨f0, f1, z0, z1, _, _, _⟩ := FIN.out w7 (Below.then B4.out B47.out)
    have S7 := Lib.hid (SW.out.below (Below.then B4.out B47.out))
    have BW := Lib.hid (Below.then HB.out (Below.then B4.out B47.out))
    clear hK ho7 b7 C3 KS hS0 hc1 hc2
    simp only [Act.put, List.setIfInBounds_toArray, List.set_cons_zero, List.set_cons_succ]
    refine Upto.tail rfl (by kernel_rfl) ?_
    simp only [List.drop_succ_cons, List.drop_zero]
    go_wp2_with fail
    have FB : Hid (Bk ((w7.setCell ⟨w.heap.size + 2, 0, none⟩ (.int .i64 lsn)).setCell ⟨w.heap.size + 2, 1, none⟩ (.slice A' n' c')) (w.heap.size + 2) 24 #[.int .i64 lsn, .slice A' n' c']) := Lib.hid (by simpa using (S7.out.out.setc 0 (.int .i64 lsn)).setc 1 (.slice A' n' c'))
    have R : Hid (RetPg (⟨lsn, setC l ⟨key, ⟨hs, d⟩⟩⟩, 0) w (.returned (.tuple #[pgV lsn A' n' c', .int .i64 0])) ((w7.setCell ⟨w.heap.size + 2, 0, none⟩ (.int .i64 lsn)).setCell ⟨w.heap.size + 2, 1, none⟩ (.slice A' n' c'))) := Lib.hid ⟨A', n', c', rfl,
      ⟨own_set (own_set HO7.out.own S7.out.out (by decide)) (S7.out.out.setc 0 _) (by decide), HO7.out.len⟩, (BW.out.setCell (p := ⟨w.heap.size + 2, 0, none⟩) (by simp) _).setCell (p := ⟨w.heap.size + 2, 1, none⟩) (by simp) _⟩
    clear HO7 S7 BW B47 B46 FIN PGC SW HP HB B4
    refine NoPanic.normal ?_
    go_wp2_with fail
    (try simp only [Exit.inBlock, Exit.then])
    refine bodyPost_ret (results_cellT rfl _ _ (w.heap.size + 2) 24 _ _ rfl FB.out Try.underlying24 rfl pg_inf) rfl ?_
    exact R.out
  · have hbh : behC l key = atC l key + 1 := by unfold behC; rw [hat]; rfl
    obtain ⟨at0, hat0⟩ : ∃ z, atC l key = z := ⟨_, rfl⟩
    obtain ⟨bh, hbh0⟩ : ∃ z, behC l key = z := ⟨_, rfl⟩
    have hal : at0 ≤ n := by rw [← hat0, ← hlen.out]; exact atC_le l key
    have hbl : bh ≤ n := by rw [← hbh0, ← hlen.out]; exact behC_le l key
    rw [hat0, hbh0] at hbh
    rw [hat0]
    obtain ⟨hc1, hf1⟩ := cutF_h Try.underlying22 HI.out (HP.out.below B4.out).flt at0 hal (at0 : Int) rfl
    obtain ⟨BB, dd, hc2, hf2⟩ := cutF_l Try.underlying22 HI.out HZ.out (HP.out.below B4.out).flt bh hbl ((at0 : Int) + 1) (by rw [hbh]; rfl)
    rw [flatL_take Cl.cells 3 Cl.cells_len] at hf1
    rw [flatC_drop Cl.cells 3 Cl.cells_len] at hf2
    have KS : Hid (∀ w', Below w4.heap.size w4 w' → w'.cell? ⟨w.heap.size, 1, none⟩ = some (.slice A n c) ∧ w'.cell? ⟨w.heap.size + 3, 0, none⟩ = some (.string key) ∧ w'.cell? ⟨w.heap.size + 3, 1, none⟩ = some (.bool hs) ∧ w'.cell? ⟨w.heap.size + 3, 2, none⟩ = some (.string d)) := Lib.hid (fun w' hb => by
      have hb' := Below.then B4.out hb
      have q := FIN.out w' hb'
      exact ⟨(PGC.out w' hb').2, q.2.2.2.2⟩)
    clear hat
    go_wp2_with fail
    have hS0 := KS.out w4.drew (Below.refl _ _).drew
    refine wp_region_noPanic ?_
    refine upto_start (fun w' => w'.cell? ⟨w.heap.size, 1, none⟩ = some (.slice A n c) ∧ w'.cell? ⟨w.heap.size + 3, 0, none⟩ = some (.string key) ∧ w'.cell? ⟨w.heap.size + 3, 1, none⟩ = some (.bool hs) ∧ w'.cell? ⟨w.heap.size + 3, 2, none⟩ = some (.string d)) 13 (by kernel_rfl) ?_
    change Upto _ _ _ _ _ 16 _ _ _
    refine Upto.take (i := 0) (v := ?_) rfl (by kernel_rfl) (fun _ _ _ h => h) rfl (fun w' hS => ?_) hS0 ?_
    rotate_left
    · (try dsimp only at hS)
      go_split_ands
      go_simp
      (try with_reducible rfl)
    simp only [Act.put, List.setIfInBounds_toArray, List.set_cons_zero, List.set_cons_succ]
    refine Upto.take (i := 1) (v := ?_) rfl (by kernel_rfl) (fun _ _ _ h => h) rfl (fun w' hS => ?_) hS0 ?_
    rotate_left
    · (try dsimp only at hS)
      go_split_ands
      go_simp
      (try with_reducible rfl)
    simp only [Act.put, List.setIfInBounds_toArray, List.set_cons_zero, List.set_cons_succ]
    refine Upto.take (i := 2) (v := ?_) rfl (by kernel_rfl) (fun _ _ _ h => h) rfl (fun w' hS => ?_) hS0 ?_
    rotate_left
    · (try dsimp only at hS)
      go_split_ands
      go_simp
      (try with_reducible rfl)
    simp only [Act.put, List.setIfInBounds_toArray, List.set_cons_zero, List.set_cons_succ]
    refine Upto.take (i := 3) (v := ?_) rfl (by kernel_rfl) (fun _ _ _ h => h) rfl (fun w' hS => ?_) hS0 ?_
    rotate_left
    · (try dsimp only at hS)
      go_split_ands
      go_simp
      (try with_reducible rfl)
    simp only [Act.put, List.setIfInBounds_toArray, List.set_cons_zero, List.set_cons_succ]
    refine Upto.take (i := 4) rfl (by kernel_rfl) (fun _ _ _ h => h) rfl (fun w' hS => exec_slice rfl (by exact hc1 _)) hS0 ?_
    simp only [Act.put, List.setIfInBounds_toArray, List.set_cons_zero, List.set_cons_succ]
    refine Upto.take (i := 5) (v := ?_) rfl (by kernel_rfl) (fun _ _ _ h => h) rfl (fun w' hS => ?_) hS0 ?_
    rotate_left
    · (try dsimp only at hS)
      go_split_ands
      go_simp
      (try with_reducible rfl)
    simp only [Act.put, List.setIfInBounds_toArray, List.set_cons_zero, List.set_cons_succ]
    refine Upto.take (i := 7) (v := ?_) rfl (by kernel_rfl) (fun _ _ _ h => h) rfl (fun w' hS => ?_) hS0 ?_
    rotate_left
    · (try dsimp only at hS)
      go_split_ands
      go_simp
      (try with_reducible rfl)
    simp only [Act.put, List.setIfInBounds_toArray, List.set_cons_zero, List.set_cons_succ]
    refine Upto.take (i := 8) (v := ?_) rfl (by kernel_rfl) (fun _ _ _ h => h) rfl (fun w' hS => ?_) hS0 ?_
    rotate_left
    · (try dsimp only at hS)
      go_split_ands
      go_simp
      (try with_reducible rfl)
    simp only [Act.put, List.setIfInBounds_toArray, List.set_cons_zero, List.set_cons_succ]
    refine Upto.take (i := 9) (v := ?_) rfl (by kernel_rfl) (fun _ _ _ h => h) rfl (fun w' hS => ?_) hS0 ?_
    rotate_left
    · (try dsimp only at hS)
      go_split_ands
      go_simp
      (try with_reducible rfl)
    simp only [Act.put, List.setIfInBounds_toArray, List.set_cons_zero, List.set_cons_succ]
    refine Upto.take (i := 10) rfl (by kernel_rfl) (fun _ _ _ h => h) rfl (fun w' hS => exec_slice rfl (by exact hc2 _)) hS0 ?_
    simp only [Act.put, List.setIfInBounds_toArray, List.set_cons_zero, List.set_cons_succ]
    refine Upto.only (i := 6) rfl (by kernel_rfl) rfl (exec_buildSlice rfl [(0, .agg #[.string key, .bool hs, .string d])] (by rfl) (bslice_1 key hs d _)) ?_ ?_
    · exact KS.out _ ((Below.refl _ w4).drew.alloc (Nat.le_refl _) _)
    simp only [Act.put, List.setIfInBounds_toArray, List.set_cons_zero, List.set_cons_succ]
    obtain ⟨W5, hW5⟩ : ∃ W, W = w4.drew.alloc (.cells #[.string key, .bool hs, .string d] 54) := ⟨_, rfl⟩
    have b5 : Below w4.heap.size w4 W5 := by rw [hW5]; exact (Below.refl _ w4).drew.alloc (Nat.le_refl _) _
    have k5 : Bk W5 w4.heap.size 54 #[.string key, .bool hs, .string d] := by rw [hW5]; exact Bk.new w4.drew _ _
    rw [← hW5]
    refine Upto.only (i := 11) rfl (by kernel_rfl) rfl (exec_buildSlice rfl [(0, .slice A at0 c), (1, .slice (some ⟨w4.drew.heap.size, 0, none⟩) 1 1), (2, .slice BB (n - bh) dd)] (by rfl) (bslice_3 _ _ _ _ _ _ _ _ _ _)) ?_ ?_
    · exact KS.out _ (Below.then b5 ((Below.refl _ W5).alloc (Nat.le_refl _) _))
    simp only [Act.put, List.setIfInBounds_toArray, List.set_cons_zero, List.set_cons_succ]
    obtain ⟨W6, hW6⟩ : ∃ W, W = W5.alloc (.cells #[.slice A at0 c, .slice (some ⟨w4.drew.heap.size, 0, none⟩) 1 1, .slice BB (n - bh) dd] 22) := ⟨_, rfl⟩
    have b6 : Below W5.heap.size W5 W6 := by rw [hW6]; exact (Below.refl _ W5).alloc (Nat.le_refl _) _
    have b46 := Below.then b5 b6
    have k6 : Bk W6 W5.heap.size 22 #[.slice A at0 c, .slice (some ⟨w4.drew.heap.size, 0, none⟩) 1 1, .slice BB (n - bh) dd] := by rw [hW6]; exact Bk.new W5 _ _
    rw [← hW6]
    have CT : Hid (Cat3 W6 W5.heap.size (fun i => if i = 0 then (A, at0, c) else if i = 1 then (some ⟨w4.heap.size, 0, none⟩, 1, 1) else (BB, n - bh, dd)) (fun i => if i = 0 then l.take at0 else if i = 1 then [⟨key, ⟨hs, d⟩⟩] else l.drop bh)) := Lib.hid (by
      refine ⟨k6.lt, fun i hi => ?_⟩
      match i, hi with
      | 0, _ => exact ⟨k6.cell 0, ⟨hf1.below b46, by show (l.take at0).length = at0; rw [List.length_take, hlen.out]; exact Nat.min_eq_left hal⟩⟩
      | 1, _ => exact ⟨k6.cell 1, one_pcs (k5.bel b6 k5.lt)⟩
      | 2, _ => exact ⟨k6.cell 2, ⟨hf2.below b46, by show (l.drop bh).length = n - bh; rw [List.length_drop, hlen.out]⟩⟩)
    have AC : Hid (accC (fun i => if i = 0 then l.take at0 else if i = 1 then [⟨key, ⟨hs, d⟩⟩] else l.drop bh) 3 = setC l ⟨key, ⟨hs, d⟩⟩) := Lib.hid (by
      unfold setC
      simp only [hat0, hbh0]
      show (([] ++ l.take at0) ++ [_]) ++ l.drop bh = _
      rw [List.nil_append])
    have C3 := concat3_any _ _ _ _ CT.out (by rw [AC.out]; unfold setC; simp; omega) (by rw [AC.out]; have := HLN.out; omega)
    rw [AC.out] at C3
    have C3 := Lib.hid C3
    have B46 := Lib.hid b46
    clear hW5 b5 k5 hW6 b6 k6 hf1 hf2 CT AC b46
    refine Upto.law (i := 12) rfl (by kernel_rfl) rfl (fun K hK => ?_)
    refine wp_enter (f := 45) (args := #[.slice (some ⟨W5.heap.size, 0, none⟩) 3 3]) (by go_simp) C3.out ?_
    rintro e w7 ⟨A', n', c', rfl, ho7, b7⟩
    have B47 := Lib.hid (Below.then B46.out b7)
    refine ⟨_, rfl, hK _ _ (KS.out _ B47.out) ?_⟩
    have HO7 := Lib.hid (ho7.lo (base' := w.heap.size) (Nat.le_trans (Nat.le_trans HB.out.size B4.out.size) B46.out.size))
    obtain ⟨f0, f1, z0, z1, _, _, _⟩ := FIN.out w7 (Below.then B4.out B47.out)
    have S7 := Lib.hid (SW.out.below (Below.then B4.out B47.out))
    have BW := Lib.hid (Below.then HB.out (Below.then B4.out B47.out))
    clear hK ho7 b7 C3 KS hS0 hc1 hc2
    simp only [Act.put, List.setIfInBounds_toArray, List.set_cons_zero, List.set_cons_succ]
    refine Upto.tail rfl (by kernel_rfl) ?_
    simp only [List.drop_succ_cons, List.drop_zero]
    go_wp2_with fail
    have FB : Hid (Bk ((w7.setCell ⟨w.heap.size + 2, 0, none⟩ (.int .i64 lsn)).setCell ⟨w.heap.size + 2, 1, none⟩ (.slice A' n' c')) (w.heap.size + 2) 24 #[.int .i64 lsn, .slice A' n' c']) := Lib.hid (by simpa using (S7.out.out.setc 0 (.int .i64 lsn)).setc 1 (.slice A' n' c'))
    have R : Hid (RetPg (⟨lsn, setC l ⟨key, ⟨hs, d⟩⟩⟩, 0) w (.returned (.tuple #[pgV lsn A' n' c', .int .i64 0])) ((w7.setCell ⟨w.heap.size + 2, 0, none⟩ (.int .i64 lsn)).setCell ⟨w.heap.size + 2, 1, none⟩ (.slice A' n' c'))) := Lib.hid ⟨A', n', c', rfl,
      ⟨own_set (own_set HO7.out.own S7.out.out (by decide)) (S7.out.out.setc 0 _) (by decide), HO7.out.len⟩, (BW.out.setCell (p := ⟨w.heap.size + 2, 0, none⟩) (by simp) _).setCell (p := ⟨w.heap.size + 2, 1, none⟩) (by simp) _⟩
    clear HO7 S7 BW B47 B46 FIN PGC SW HP HB B4
    refine NoPanic.normal ?_
    go_wp2_with fail
    (try simp only [Exit.inBlock, Exit.then])
    refine bodyPost_ret (results_cellT rfl _ _ (w.heap.size + 2) 24 _ _ rfl FB.out Try.underlying24 rfl pg_inf) rfl ?_
    exact R.out
end
end Go.Proofs.Ytfmfmdiegabobaa
