/- What it says: contracts and plain mathematics that the laws' walks use, 31 of 31: each part's own remark says what; no condition. -/
import Derived.Test.YtambbjmchopaiaaPr1
import Derived.Test.YtambbjmchopaiaaPr6
import Derived.Test.YtambbjmchopaiaaPr28
import Derived.Test.YtambbjmchopaiaaPr30
import Derived.Test.YtambbjmchopaiaaRows
import Derived.ProofKit
import Derived.OpenShut
import Derived.ShutString
import Derived.ChangeOld
import Derived.SizedLaws
import Derived.Deep.Slices
import Derived.Lib.SmallJoins
import Derived.ChangeArms

set_option linter.unusedSimpArgs false
set_option linter.unusedVariables false
set_option linter.deprecated false
set_option linter.unusedSectionVars false
set_option linter.all false

/- trothref07.May answers true just of records that may be. -/
namespace Go.Proofs.Ytambbjmchopaiaa
open Go.RowKit BigFrame
theorem quiet_load_row {P : Program} {ops : Array Oper} {C : World → Prop} {Q : Act → Prop} {a : Act} {o : Oper} {rest : List Oper} (hw : Region.wanted o (yielded ops a.tmps) = true) (ty : TypeId) (x : Operand) (ho : o.op = .load ty x)
    (g : Nat) (hx : a.eval x = .pointer (some ⟨g, 0, none⟩)) (t : TypeId) (cs : Array Value) (fr : Nat × Nat) (d : TypeDesc) (hg : ∀ w, C w → w.heap[g]? = some (.cells cs t fr))
    (hu : P.underlying ty = some d) (hd : (match d with | .struct _ | .array _ _ => true | _ => false) = true) (hi : (P.info? ty).map (·.size) = some cs.size)
    (h : wpQuiet P ops C Q rest (a.put o.dst (.agg cs))) : wpQuiet P ops C Q (o :: rest) a :=
  wpQuiet_want hw fun K hK => ⟨.agg cs, fun w hc => by
    unfold Oper.quietAt execOp
    simp only [ho, hx, Instr.loadAt, Instr.sureAddr, Sem.run_bind, Sem.run_pure, Result.andThen_ok, run_loadVar_row w g t ty cs fr d (hg w hc) hu hd hi]
    exact ⟨rfl, rfl⟩, hK _ h⟩
theorem RetBB.bool {P : Prop} {b : Bool} {p : Program} {f : FuncId} {args : Array Value} {w : World} (h : Calls p f args w (RetBB P w)) (hb : b = true ↔ P) : Calls p f args w (Ret (.bool b) w) :=
  h.mono fun e w' ⟨c, he, hc, hw⟩ => ⟨by rw [he]; congr 2; exact Bool.eq_iff_iff.2 (hc.trans hb.symm), hw⟩
theorem onlyX_or (x : Xr) (H : Nat) (w : World) (h : XrIn H w x) : (x.rows.map Xw.row = (onlyX x).rows.map Xw.row ∧ x.dirty = (onlyX x).dirty ∧ x.deeds.map Xd.deed = (onlyX x).deeds.map Xd.deed ∧ x.past = (onlyX x).past) ∨ ¬ (x.rn = (onlyX x).rn ∧ x.dn = (onlyX x).dn ∧ x.en = (onlyX x).en ∧ x.past = (onlyX x).past) := by
  by_cases q : x.rn = (onlyX x).rn ∧ x.dn = (onlyX x).dn ∧ x.en = (onlyX x).en ∧ x.past = (onlyX x).past
  · left
    have h' := onlyX_in x H w h
    have l1 := h.rows.len
    have l2 := h.dirty.len
    have l3 := h.deeds.len
    obtain ⟨q1, q2, q3, q4⟩ := q
    by_cases k8 : x.kind = 8
    · obtain ⟨kind, tx, prev, next, key, ⟨oh, od⟩, ⟨nh, nd⟩, co, mA, mn, mc, mem, kA, kn, kc, lks, rA, rn, rc, rows, dA, dn, dc, dirty, eA, en, ec, deeds, pA, pn, pc, past⟩ := x
      simp only at k8
      subst k8
      exact ⟨rfl, rfl, rfl, rfl⟩
    · have e : (onlyX x).rows = [] ∧ (onlyX x).rn = 0 ∧ (onlyX x).dirty = [] ∧ (onlyX x).dn = 0 ∧ (onlyX x).deeds = [] ∧ (onlyX x).en = 0 := by
        obtain ⟨kind, tx, prev, next, key, ⟨oh, od⟩, ⟨nh, nd⟩, co, mA, mn, mc, mem, kA, kn, kc, lks, rA, rn, rc, rows, dA, dn, dc, dirty, eA, en, ec, deeds, pA, pn, pc, past⟩ := x
        simp only at k8
        unfold onlyX
        simp only
        split
        · exact ⟨rfl, rfl, rfl, rfl, rfl, rfl⟩
        split
        · exact ⟨rfl, rfl, rfl, rfl, rfl, rfl⟩
        split
        · exact ⟨rfl, rfl, rfl, rfl, rfl, rfl⟩
        split
        · exact ⟨rfl, rfl, rfl, rfl, rfl, rfl⟩
        split
        · exact ⟨rfl, rfl, rfl, rfl, rfl, rfl⟩
        split <;> exact ⟨rfl, rfl, rfl, rfl, rfl, rfl⟩
      obtain ⟨e1, e2, e3, e4, e5, e6⟩ := e
      rw [e2] at q1
      rw [e4] at q2
      rw [e6] at q3
      refine ⟨?_, ?_, ?_, q4⟩
      · rw [e1, List.length_eq_zero_iff.1 (l1.trans q1)]
      · rw [e3, List.length_eq_zero_iff.1 (l2.trans q2)]
      · rw [e5, List.length_eq_zero_iff.1 (l3.trans q3)]
  · exact .inr q
set_option maxRecDepth 100000 in
set_option maxHeartbeats 16000000 in
theorem may7_any (x : Xr) (H : Nat) (w : World) (hx : XrIn H w x) : Calls Try.prog 12 #[x.val] w (RetBB x.read.ok w) := by
  obtain ⟨RD, hRD⟩ : ∃ RD, RD = x.read := ⟨_, rfl⟩
  rw [← hRD]
  have OR := onlyX_or x H w hx
  have CO0 := fun (hk : 1 ≤ x.kind ∧ x.kind ≤ 10) W => only_any x W hk
  have CC0 := fun W (hc : Calm H w W) => refCheck_any x H W (hx.calm hc)
  have CS0 := fun W (hc : Calm H w W) => same7_any x (onlyX x) H H W (hx.calm hc) ((onlyX_in x H w hx).calm hc) OR
  have OE := onlyX_read x
  obtain ⟨OX, hOX⟩ : ∃ OX, OX = (onlyX x).val := ⟨_, rfl⟩
  rw [← hOX] at CS0
  simp only [← hOX] at CO0
  have SB0 : (1 ≤ x.kind ∧ x.kind ≤ 10) → ((x.read = (onlyX x).read) ↔ (onlyRc RD = RD)) := fun hk => by rw [OE hk, hRD]; exact eq_comm
  obtain ⟨sb, hsb⟩ : ∃ sb : Bool, sb = true ↔ x.read = (onlyX x).read := by
    by_cases q : x.read = (onlyX x).read
    · exact ⟨true, fun _ => q, fun _ => rfl⟩
    · exact ⟨false, (fun z => nomatch z), fun z => absurd z q⟩
  have CS1 := fun W (hc : Calm H w W) => RetBB.bool (CS0 W hc) hsb
  have SB : Hid ((1 ≤ x.kind ∧ x.kind ≤ 10) → (sb = true ↔ (onlyRc RD = RD))) := Lib.hid (fun hk => hsb.trans (SB0 hk))
  clear CS0 hsb SB0 OE OR hOX
  have LD : RD = x.read := hRD
  rw [← hRD] at CC0
  clear hRD
  obtain ⟨kind, tx, prev, next, key, ⟨oh, od⟩, ⟨nh, nd⟩, co, mA, mn, mc, mem, kA, kn, kc, lks, rA, rn, rc, rows, dA, dn, dc, dirty, eA, en, ec, deeds, pA, pn, pc, past⟩ := x
  have LK : Hid (RD.kind = kind ∧ RD.tx = tx ∧ RD.prev = prev ∧ RD.next = next ∧ RD.key = key ∧ RD.old = ⟨oh, od⟩ ∧ RD.new = ⟨nh, nd⟩ ∧ RD.co = co ∧ RD.mem = mem ∧ RD.lks = lks) := Lib.hid (by rw [LD]; exact ⟨rfl, rfl, rfl, rfl, rfl, rfl, rfl, rfl, rfl, rfl⟩)
  clear LD
  unfold Xr.val at CO0 CC0 CS1 ⊢
  simp only at CO0 CC0 CS1 SB ⊢
  obtain ⟨r, hrr⟩ : ∃ r, w.heap.size = r := ⟨_, rfl⟩
  obtain ⟨W1, hW1⟩ : ∃ W1, W1 = w.alloc (.cells #[.int .i64 kind, .int .i64 tx, .int .i64 prev, .int .i64 next, .string key, .bool oh, .string od, .bool nh, .string nd, .int .i64 co, .slice mA mn mc, .slice kA kn kc, .slice rA rn rc, .slice dA dn dc, .slice eA en ec, .slice pA pn pc] 30) := ⟨_, rfl⟩
  have hb : Below w.heap.size w W1 := by rw [hW1]; exact (Below.refl _ _).alloc (Nat.le_refl _) _
  have V0 : Bk W1 r 30 #[.int .i64 kind, .int .i64 tx, .int .i64 prev, .int .i64 next, .string key, .bool oh, .string od, .bool nh, .string nd, .int .i64 co, .slice mA mn mc, .slice kA kn kc, .slice rA rn rc, .slice dA dn dc, .slice eA en ec, .slice pA pn pc] := by rw [hW1, ← hrr]; exact Bk.new w _ _
  have HBK : Hid (∀ w', (∃ p : Regrown, w' = Go.Sort.grow (redrawn W1 p.d) p.os) → w'.heap[r]? = some (.cells #[.int .i64 kind, .int .i64 tx, .int .i64 prev, .int .i64 next, .string key, .bool oh, .string od, .bool nh, .string nd, .int .i64 co, .slice mA mn mc, .slice kA kn kc, .slice rA rn rc, .slice dA dn dc, .slice eA en ec, .slice pA pn pc] 30 (0, 0))) := Lib.hid (fun w' ⟨p, hp⟩ => by rw [hp]; exact V0.bel (below_regrown W1 p.d p.os) V0.lt)
  have CO : Hid ((1 ≤ kind ∧ kind ≤ 10) → ∀ W, Calls Try.prog 25 #[.agg #[.int .i64 kind, .int .i64 tx, .int .i64 prev, .int .i64 next, .string key, .bool oh, .string od, .bool nh, .string nd, .int .i64 co, .slice mA mn mc, .slice kA kn kc, .slice rA rn rc, .slice dA dn dc, .slice eA en ec, .slice pA pn pc]] W (Ret OX W)) := Lib.hid CO0
  have CS : Hid (∀ d os, Calls Try.prog 17 #[.agg #[.int .i64 kind, .int .i64 tx, .int .i64 prev, .int .i64 next, .string key, .bool oh, .string od, .bool nh, .string nd, .int .i64 co, .slice mA mn mc, .slice kA kn kc, .slice rA rn rc, .slice dA dn dc, .slice eA en ec, .slice pA pn pc], OX] (Go.Sort.grow (redrawn W1 d) os) (Ret (.bool sb) (Go.Sort.grow (redrawn W1 d) os))) := Lib.hid (fun d os => CS1 _ (Calm.of_below (Below.then hb (below_regrown W1 d os))))
  have CC : Hid (∀ W, Below W1.heap.size W1 W → Calls Try.prog 26 #[.agg #[.int .i64 kind, .int .i64 tx, .int .i64 prev, .int .i64 next, .string key, .bool oh, .string od, .bool nh, .string nd, .int .i64 co, .slice mA mn mc, .slice kA kn kc, .slice rA rn rc, .slice dA dn dc, .slice eA en ec, .slice pA pn pc]] W (RetBB (checkOk RD) W)) := Lib.hid (fun W hw => CC0 W (Calm.of_below (Below.then hb hw)))
  have HX := Lib.hid (hx.calm (Calm.of_below hb))
  have HV := Lib.hid V0
  have HCell : Hid (∀ W, Below W1.heap.size W1 W → W.cell? ⟨r, 0, none⟩ = some (.int .i64 kind) ∧ W.cell? ⟨r, 1, none⟩ = some (.int .i64 tx) ∧ W.cell? ⟨r, 2, none⟩ = some (.int .i64 prev) ∧ W.cell? ⟨r, 3, none⟩ = some (.int .i64 next) ∧ W.cell? ⟨r, 4, none⟩ = some (.string key) ∧ W.cell? ⟨r, 5, none⟩ = some (.bool oh) ∧ W.cell? ⟨r, 6, none⟩ = some (.string od) ∧ W.cell? ⟨r, 7, none⟩ = some (.bool nh) ∧ W.cell? ⟨r, 8, none⟩ = some (.string nd) ∧ W.cell? ⟨r, 9, none⟩ = some (.int .i64 co) ∧ W.cell? ⟨r, 10, none⟩ = some (.slice mA mn mc) ∧ W.cell? ⟨r, 11, none⟩ = some (.slice kA kn kc)) :=
    Lib.hid (fun W hb => ⟨(hb.cell (p := ⟨r, 0, none⟩) V0.lt).trans (V0.cell 0), (hb.cell (p := ⟨r, 1, none⟩) V0.lt).trans (V0.cell 1), (hb.cell (p := ⟨r, 2, none⟩) V0.lt).trans (V0.cell 2), (hb.cell (p := ⟨r, 3, none⟩) V0.lt).trans (V0.cell 3), (hb.cell (p := ⟨r, 4, none⟩) V0.lt).trans (V0.cell 4), (hb.cell (p := ⟨r, 5, none⟩) V0.lt).trans (V0.cell 5), (hb.cell (p := ⟨r, 6, none⟩) V0.lt).trans (V0.cell 6), (hb.cell (p := ⟨r, 7, none⟩) V0.lt).trans (V0.cell 7), (hb.cell (p := ⟨r, 8, none⟩) V0.lt).trans (V0.cell 8), (hb.cell (p := ⟨r, 9, none⟩) V0.lt).trans (V0.cell 9), (hb.cell (p := ⟨r, 10, none⟩) V0.lt).trans (V0.cell 10), (hb.cell (p := ⟨r, 11, none⟩) V0.lt).trans (V0.cell 11)⟩)
  have NO : Hid (¬ RD.ok → ∀ W, Below W1.heap.size W1 W → RetBB RD.ok w (.returned (.bool false)) W) := Lib.hid (fun q W hw => RetBB.of ⟨(fun z => nomatch z), fun z => absurd z q⟩ (Below.then hb hw))
  have YES : Hid (RD.ok → ∀ W, Below W1.heap.size W1 W → RetBB RD.ok w (.returned (.bool true)) W) := Lib.hid (fun q W hw => RetBB.of ⟨fun _ => q, fun _ => rfl⟩ (Below.then hb hw))
  have f0 : ∀ d' os, (Go.Sort.grow (redrawn W1 d') os).cell? ⟨r, 0, none⟩ = some (.int .i64 kind) := cell_regrown (V0.cell 0)
  have HW := Lib.hid hW1
  clear hx hb hW1 V0 CO0 CC0 CS1
  go_enter Try.func12, Try.ntmps12
  go_upto_region 1 with fail
  (try rw [hrr])
  rw [← HW.out]
  clear HW hrr
  by_cases k1 : kind < 1
  · have k1' : decide (kind < 1) = true := decide_eq_true k1
    have HNO : Hid (¬ RD.ok) := Lib.hid (fun q => by have := q.kind.1; rw [LK.out.1] at this; omega)
    refine wp_region_quiet_below (by kernel_rfl) (by kernel_rfl) ?_
    repeat (any_goals (first | go_big_quiet_step ((first | (go_at_call 25; exact Calls.regrown_of (CO.out _)) | (go_at_call 17; exact Calls.regrown_of (CS.out _ _)))) | quiet_step ((first | (go_at_call 25; exact Calls.regrown_of (CO.out _)) | (go_at_call 17; exact Calls.regrown_of (CS.out _ _))))))
    refine wpQuiet_nil ?_
    intro _ hw'
    obtain ⟨⟨dq, osq⟩, hw''⟩ := hw'
    subst hw''
    have R := Lib.hid (NO.out HNO.out _ (below_regrown W1 dq osq))
    clear NO YES HCell CC CO CS SB HX HV HBK f0
    go_wp2_with fail
    go_ret
    exact R.out
  have k1' : decide (kind < 1) = false := decide_eq_false k1
  by_cases k2 : 10 < kind
  · have k2' : decide (10 < kind) = true := decide_eq_true k2
    have HNO : Hid (¬ RD.ok) := Lib.hid (fun q => by have := q.kind.2; rw [LK.out.1] at this; omega)
    refine wp_region_quiet_below (by kernel_rfl) (by kernel_rfl) ?_
    repeat (any_goals (first | go_big_quiet_step ((first | (go_at_call 25; exact Calls.regrown_of (CO.out _)) | (go_at_call 17; exact Calls.regrown_of (CS.out _ _)))) | quiet_step ((first | (go_at_call 25; exact Calls.regrown_of (CO.out _)) | (go_at_call 17; exact Calls.regrown_of (CS.out _ _))))))
    refine wpQuiet_nil ?_
    intro _ hw'
    obtain ⟨⟨dq, osq⟩, hw''⟩ := hw'
    subst hw''
    have R := Lib.hid (NO.out HNO.out _ (below_regrown W1 dq osq))
    clear NO YES HCell CC CO CS SB HX HV HBK f0
    go_wp2_with fail
    go_ret
    exact R.out
  have k2' : decide (10 < kind) = false := decide_eq_false k2
  have CO := Lib.hid (CO.out ⟨by omega, by omega⟩)
  have SB := Lib.hid (SB.out ⟨by omega, by omega⟩)
  have KR : Hid (1 ≤ kind ∧ kind ≤ 10) := Lib.hid ⟨by omega, by omega⟩
  cases sb with
  | false =>
    have HNO : Hid (¬ RD.ok) := Lib.hid (fun q => by have := SB.out.2 q.only; cases this)
    refine wp_region_quiet_below (by kernel_rfl) (by kernel_rfl) ?_
    repeat (any_goals (first | (refine quiet_load_row rfl 30 _ rfl r rfl 30 _ (0, 0) _ (fun w' hw => HBK.out w' hw) Try.underlying30 rfl inf_rec ?_; simp only [Act.put, List.setIfInBounds_toArray, List.set_cons_zero, List.set_cons_succ]) | go_big_quiet_step ((first | (go_at_call 25; exact Calls.regrown_of (CO.out _)) | (go_at_call 17; exact Calls.regrown_of (CS.out _ _)))) | quiet_step ((first | (go_at_call 25; exact Calls.regrown_of (CO.out _)) | (go_at_call 17; exact Calls.regrown_of (CS.out _ _))))))
    refine wpQuiet_nil ?_
    intro _ hw'
    obtain ⟨⟨dq, osq⟩, hw''⟩ := hw'
    subst hw''
    have R := Lib.hid (NO.out HNO.out _ (below_regrown W1 dq osq))
    clear NO YES HCell CC CO CS SB HX HV HBK f0
    go_wp2_with fail
    go_ret
    exact R.out
  | true =>
    have HON := Lib.hid (SB.out.1 rfl)
    refine wp_region_quiet_below (by kernel_rfl) (by kernel_rfl) ?_
    repeat (any_goals (first | (refine quiet_load_row rfl 30 _ rfl r rfl 30 _ (0, 0) _ (fun w' hw => HBK.out w' hw) Try.underlying30 rfl inf_rec ?_; simp only [Act.put, List.setIfInBounds_toArray, List.set_cons_zero, List.set_cons_succ]) | go_big_quiet_step ((first | (go_at_call 25; exact Calls.regrown_of (CO.out _)) | (go_at_call 17; exact Calls.regrown_of (CS.out _ _)))) | quiet_step ((first | (go_at_call 25; exact Calls.regrown_of (CO.out _)) | (go_at_call 17; exact Calls.regrown_of (CS.out _ _))))))
    refine wpQuiet_nil ?_
    intro _ hw'
    obtain ⟨⟨dq, osq⟩, hw''⟩ := hw'
    subst hw''
    obtain ⟨W2, hW2⟩ : ∃ W2, W2 = Go.Sort.grow (redrawn W1 dq) osq := ⟨_, rfl⟩
    have B2 : Hid (Below W1.heap.size W1 W2) := Lib.hid (by rw [hW2]; exact below_regrown W1 dq osq)
    rw [← hW2]
    clear hW2 CO CS SB f0 k1 k2 k1' k2'
    have HV2 := Lib.hid (HV.out.bel B2.out HV.out.lt)
    obtain ⟨c0, c1, c2, c3, c4, c5, c6, c7, c8, c9, c10, c11⟩ := HCell.out W2 B2.out
    by_cases k7 : kind = 7
    · have R := Lib.hid (YES.out ⟨by rw [LK.out.1]; exact KR.out, HON.out, fun q => by rw [LK.out.1] at q; omega, fun q => absurd (LK.out.1.trans k7) q, fun q => by rw [LK.out.1] at q; omega, fun q => absurd (LK.out.1.trans k7) q⟩ _ B2.out)
      subst k7
      clear NO YES HCell CC HX HV HBK HV2
      go_wp2_with fail
      go_ret
      exact R.out
    have k7' : (kind == 7) = false := by simpa using k7
    by_cases k8 : kind = 8
    · have Y8 : Hid (RD.ok ↔ checkOk RD) := Lib.hid ⟨fun q => q.check (LK.out.1.trans k8), fun q => ⟨by rw [LK.out.1]; exact KR.out, HON.out, fun _ => q, fun _ q => absurd (LK.out.1.trans k8) q, fun q => by rw [LK.out.1] at q; omega, fun _ q => absurd (LK.out.1.trans k8) q⟩⟩
      have C8 := Lib.hid (CC.out W2 B2.out)
      have RB8 : Hid (∀ b W, (b = true ↔ RD.ok) → Below W1.heap.size W1 W → RetBB RD.ok w (.returned (.bool b)) W) := Lib.hid (fun b W q hw => by
        cases b with
        | true => exact YES.out (q.1 rfl) W hw
        | false => exact NO.out (fun z => by have := q.2 z; cases this) W hw)
      subst k8
      clear NO YES HCell CC HX HBK k7
      go_wp2_with (refine wpList_load_row rfl 30 _ rfl r rfl 30 _ (0, 0) _ HV2.out Try.underlying30 rfl inf_rec ?_)
      refine C8.out.mono ?_
      rintro e w3 ⟨b, rfl, hb, hw3⟩
      have R := Lib.hid (RB8.out b _ (hb.trans Y8.out.symm) (Below.then B2.out hw3))
      clear hb hw3 RB8 C8 Y8
      go_wp2_with fail
      go_ret
      exact R.out
    have k8' : (kind == 8) = false := by simpa using k8
    have HK : Hid (¬ RD.kind = 7 ∧ ¬ RD.kind = 8) := Lib.hid (by rw [LK.out.1]; exact ⟨k7, k8⟩)
    have NS : Hid (¬ (seqOk 1 tx ∧ seqOk 0 prev ∧ seqOk 0 next) → ¬ RD.ok) := Lib.hid (fun q z => q (by have := z.seq HK.out.1 HK.out.2; rw [LK.out.2.1, LK.out.2.2.1, LK.out.2.2.2.1] at this; exact this))
    clear CC k7 k8 HBK HV
    go_wp2_with fail
    refine (refSeq_any tx 1 W2).mono ?_
    rintro e wq ⟨b, rfl, hb, m1, rfl⟩
    cases b with
    | false =>
      have R := Lib.hid (NO.out (NS.out (fun q => by have := hb.2 q.1; cases this)) _ (below_drewN B2.out m1))
      clear NO YES HCell HX HK NS hb
      go_wp2_with fail
      go_ret
      first | exact R.out | (rw [World.drewN_drewN]; exact R.out)
    | true =>
      have Stx := Lib.hid (hb.1 rfl)
      clear hb
      go_wp2_with fail
      refine (refSeq_any prev 0 (W2.drewN m1)).mono ?_
      rintro e wq ⟨b, rfl, hb, m2, rfl⟩
      cases b with
      | false =>
        have R := Lib.hid (NO.out (NS.out (fun q => by have := hb.2 q.2.1; cases this)) _ (below_drewN B2.out (m1 + m2)))
        clear NO YES HCell HX HK NS hb
        go_wp2_with fail
        go_ret
        first | exact R.out | (rw [World.drewN_drewN]; exact R.out)
      | true =>
        have Sprev := Lib.hid (hb.1 rfl)
        clear hb
        go_wp2_with fail
        refine (refSeq_any next 0 (W2.drewN (m1 + m2))).mono ?_
        rintro e wq ⟨b, rfl, hb, m3, rfl⟩
        cases b with
        | false =>
          have R := Lib.hid (NO.out (NS.out (fun q => by have := hb.2 q.2.2; cases this)) _ (below_drewN B2.out (m1 + m2 + m3)))
          clear NO YES HCell HX HK NS hb
          go_wp2_with fail
          go_ret
          first | exact R.out | (rw [World.drewN_drewN]; exact R.out)
        | true =>
          have Snext := Lib.hid (hb.1 rfl)
          clear hb
          have B3 : Hid (Below W1.heap.size W1 (W2.drewN (m1 + m2 + m3))) := Lib.hid (below_drewN B2.out _)
          have HS : Hid (seqOk 1 RD.tx ∧ seqOk 0 RD.prev ∧ seqOk 0 RD.next) := Lib.hid (by rw [LK.out.2.1, LK.out.2.2.1, LK.out.2.2.2.1]; exact ⟨Stx.out, Sprev.out, Snext.out⟩)
          by_cases h12 : kind = 1 ∨ kind = 2
          · have Y12 : Hid (RD.ok ↔ (keyOk key ∧ vlOk ⟨oh, od⟩ ∧ vlOk ⟨nh, nd⟩)) := Lib.hid (by
              have := LK.out
              obtain ⟨l1, _, _, _, l5, l6, l7, _⟩ := this
              rw [← l5, ← l6, ← l7]
              exact ⟨fun q => q.vals (by rw [l1]; exact h12), fun q => ⟨by rw [l1]; exact KR.out, HON.out, fun z => absurd z HK.out.2, fun _ _ => HS.out, fun _ => q, fun _ _ z1 z2 => by rw [l1] at z1 z2; omega⟩⟩)
            have e12 : (kind == 1) = true ∨ ((kind == 1) = false ∧ (kind == 2) = true) := by
              rcases h12 with q | q
              · left; rw [q]; rfl
              · right; rw [q]; exact ⟨rfl, rfl⟩
            have HX3 := Lib.hid (HCell.out _ B3.out)
            clear HK HS NS h12 k7' k8' HX
            rcases e12 with e1 | ⟨e1, e2⟩
            · go_wp2_with fail
              refine (refKey_any key (W2.drewN (m1 + m2 + m3))).mono ?_
              rintro e wq ⟨b, rfl, hb, m4, rfl⟩
              cases b with
              | false =>
                have R := Lib.hid (NO.out (fun q => by have := hb.2 (Y12.out.1 q).1; cases this) _ (below_drewN B2.out (m1 + m2 + m3 + m4)))
                clear NO YES HCell Y12 hb
                go_wp2_with fail
                go_ret
                first | exact R.out | (rw [World.drewN_drewN]; exact R.out)
              | true =>
                have SK := Lib.hid (hb.1 rfl)
                clear hb
                go_wp2_with fail
                refine (refVal_any oh od (W2.drewN (m1 + m2 + m3 + m4))).mono ?_
                rintro e wq ⟨b, rfl, hb, hwq⟩
                have B4 := Lib.hid (Below.then (below_drewN B2.out (m1 + m2 + m3 + m4)) hwq)
                clear hwq
                cases b with
                | false =>
                  have R := Lib.hid (NO.out (fun q => by have := hb.2 (Y12.out.1 q).2.1; cases this) _ (B4.out))
                  clear NO YES HCell Y12 hb
                  go_wp2_with fail
                  go_ret
                  first | exact R.out | (rw [World.drewN_drewN]; exact R.out)
                | true =>
                  have SO := Lib.hid (hb.1 rfl)
                  clear hb c0 c1 c2 c3 c4 c5 c6 c7 c8 c9 c10 c11
                  obtain ⟨c0, c1, c2, c3, c4, c5, c6, c7, c8, c9, c10, c11⟩ := HCell.out wq B4.out
                  go_wp2_with fail
                  refine (refVal_any nh nd wq).mono ?_
                  rintro e wr ⟨b, rfl, hb, hwr⟩
                  have B5 := Lib.hid (Below.then B4.out hwr)
                  clear hwr
                  cases b with
                  | false =>
                    have R := Lib.hid (NO.out (fun q => by have := hb.2 (Y12.out.1 q).2.2; cases this) _ (B5.out))
                    clear NO YES HCell Y12 hb
                    go_wp2_with fail
                    go_ret
                    first | exact R.out | (rw [World.drewN_drewN]; exact R.out)
                  | true =>
                    have R := Lib.hid (YES.out (Y12.out.2 ⟨SK.out, SO.out, hb.1 rfl⟩) _ B5.out)
                    clear NO YES HCell Y12 hb SK SO
                    go_wp2_with fail
                    go_ret
                    exact R.out
            · go_wp2_with fail
              refine (refKey_any key (W2.drewN (m1 + m2 + m3))).mono ?_
              rintro e wq ⟨b, rfl, hb, m4, rfl⟩
              cases b with
              | false =>
                have R := Lib.hid (NO.out (fun q => by have := hb.2 (Y12.out.1 q).1; cases this) _ (below_drewN B2.out (m1 + m2 + m3 + m4)))
                clear NO YES HCell Y12 hb
                go_wp2_with fail
                go_ret
                first | exact R.out | (rw [World.drewN_drewN]; exact R.out)
              | true =>
                have SK := Lib.hid (hb.1 rfl)
                clear hb
                go_wp2_with fail
                refine (refVal_any oh od (W2.drewN (m1 + m2 + m3 + m4))).mono ?_
                rintro e wq ⟨b, rfl, hb, hwq⟩
                have B4 := Lib.hid (Below.then (below_drewN B2.out (m1 + m2 + m3 + m4)) hwq)
                clear hwq
                cases b with
                | false =>
                  have R := Lib.hid (NO.out (fun q => by have := hb.2 (Y12.out.1 q).2.1; cases this) _ (B4.out))
                  clear NO YES HCell Y12 hb
                  go_wp2_with fail
                  go_ret
                  first | exact R.out | (rw [World.drewN_drewN]; exact R.out)
                | true =>
                  have SO := Lib.hid (hb.1 rfl)
                  clear hb c0 c1 c2 c3 c4 c5 c6 c7 c8 c9 c10 c11
                  obtain ⟨c0, c1, c2, c3, c4, c5, c6, c7, c8, c9, c10, c11⟩ := HCell.out wq B4.out
                  go_wp2_with fail
                  refine (refVal_any nh nd wq).mono ?_
                  rintro e wr ⟨b, rfl, hb, hwr⟩
                  have B5 := Lib.hid (Below.then B4.out hwr)
                  clear hwr
                  cases b with
                  | false =>
                    have R := Lib.hid (NO.out (fun q => by have := hb.2 (Y12.out.1 q).2.2; cases this) _ (B5.out))
                    clear NO YES HCell Y12 hb
                    go_wp2_with fail
                    go_ret
                    first | exact R.out | (rw [World.drewN_drewN]; exact R.out)
                  | true =>
                    have R := Lib.hid (YES.out (Y12.out.2 ⟨SK.out, SO.out, hb.1 rfl⟩) _ B5.out)
                    clear NO YES HCell Y12 hb SK SO
                    go_wp2_with fail
                    go_ret
                    exact R.out
          have e1 : (kind == 1) = false := by simp; omega
          have e2 : (kind == 2) = false := by simp; omega
          have Y3 : Hid (RD.ok ↔ ((0 ≤ co ∧ co ≤ 7) ∧ memOk mem ∧ lksOk lks)) := Lib.hid (by
            have := LK.out
            obtain ⟨l1, _, _, _, _, _, _, l8, l9, l10⟩ := this
            rw [← l8, ← l9, ← l10]
            exact ⟨fun q => q.rest HK.out.1 HK.out.2 (by rw [l1]; omega) (by rw [l1]; omega), fun q => ⟨by rw [l1]; exact KR.out, HON.out, fun z => absurd z HK.out.2, fun _ _ => HS.out, fun z => by rw [l1] at z; omega, fun _ _ _ _ => q⟩⟩)
          clear HK HS NS h12 k7' k8'
          by_cases s1 : 0 ≤ co
          rotate_left
          · have s1' : decide (0 ≤ co) = false := decide_eq_false s1
            have R := Lib.hid (NO.out (fun q => s1 (Y3.out.1 q).1.1) _ B3.out)
            clear NO YES HCell Y3
            go_wp2_with fail
            go_ret
            first | exact R.out | (rw [World.drewN_drewN]; exact R.out)
          have s1' : decide (0 ≤ co) = true := decide_eq_true s1
          by_cases s2 : co ≤ 7
          rotate_left
          · have s2' : decide (co ≤ 7) = false := decide_eq_false s2
            have R := Lib.hid (NO.out (fun q => s2 (Y3.out.1 q).1.2) _ B3.out)
            clear NO YES HCell Y3
            go_wp2_with fail
            go_ret
            first | exact R.out | (rw [World.drewN_drewN]; exact R.out)
          have s2' : decide (co ≤ 7) = true := decide_eq_true s2
          have SC : Hid (0 ≤ co ∧ co ≤ 7) := Lib.hid ⟨s1, s2⟩
          clear s1 s2
          go_wp2_with fail
          refine (refMem_any mA mn mc H mem (W2.drewN (m1 + m2 + m3)) (HX.out.mem.calm (Calm.of_below (H := H) B3.out))).mono ?_
          rintro e wq ⟨b, rfl, hb, m4, rfl⟩
          cases b with
          | false =>
            have R := Lib.hid (NO.out (fun q => by have := hb.2 (Y3.out.1 q).2.1; cases this) _ (below_drewN B2.out (m1 + m2 + m3 + m4)))
            clear NO YES HCell Y3 hb
            go_wp2_with fail
            go_ret
            first | exact R.out | (rw [World.drewN_drewN]; exact R.out)
          | true =>
            have SM := Lib.hid (hb.1 rfl)
            clear hb
            go_wp2_with fail
            refine (refLks_any kA kn kc H lks (W2.drewN (m1 + m2 + m3 + m4)) (HX.out.lks.calm (Calm.of_below (H := H) (below_drewN B2.out (m1 + m2 + m3 + m4))))).mono ?_
            rintro e wq ⟨b, rfl, hb, m5, rfl⟩
            cases b with
            | false =>
              have R := Lib.hid (NO.out (fun q => by have := hb.2 (Y3.out.1 q).2.2; cases this) _ (below_drewN B2.out (m1 + m2 + m3 + m4 + m5)))
              clear NO YES HCell Y3 hb
              go_wp2_with fail
              go_ret
              first | exact R.out | (rw [World.drewN_drewN]; exact R.out)
            | true =>
              have R := Lib.hid (YES.out (Y3.out.2 ⟨SC.out, SM.out, hb.1 rfl⟩) _ (below_drewN B2.out (m1 + m2 + m3 + m4 + m5)))
              clear NO YES HCell Y3 hb
              go_wp2_with fail
              go_ret
              first | exact R.out | (rw [World.drewN_drewN]; exact R.out)
end Go.Proofs.Ytambbjmchopaiaa

/- what a row's step wants of arguments that are numbers or slices of bytes: how they read, and how long they are. No condition. -/
namespace Go.Proofs.Ytambbjmchopaiaa
open Go.ChangeShapes Go.WideShapes Go.ChangeAt Go.RowKit

theorem own_knob : ownKnob Try.prog.godebug = none := by kernel_rfl
theorem laidOut : laidOutB Try.prog = true := by kernel_rfl

theorem u64_nat {x : Int} (h : (Lit.int .u64 x).wf = true) : ∃ m : Nat, x = m ∧ m < 18446744073709551616 := by
  simp [Lit.wf, IntKind.min, IntKind.max, IntKind.signed, IntKind.bits] at h
  exact ⟨x.toNat, by omega, by omega⟩

theorem u32_nat {x : Int} (h : (Lit.int .u32 x).wf = true) : ∃ m : Nat, x = m ∧ m < 4294967296 := by
  simp [Lit.wf, IntKind.min, IntKind.max, IntKind.signed, IntKind.bits] at h
  exact ⟨x.toNat, by omega, by omega⟩

theorem i64_bd {x : Int} (h : (Lit.int .i64 x).wf = true) : -9223372036854775808 ≤ x ∧ x ≤ 9223372036854775807 := by
  simp [Lit.wf, IntKind.min, IntKind.max, IntKind.signed, IntKind.bits] at h
  exact ⟨by omega, by omega⟩

theorem u8_bd {x : Int} (h : (Lit.int .u8 x).wf = true) : 0 ≤ x ∧ x < 256 := by
  simp [Lit.wf, IntKind.min, IntKind.max, IntKind.signed, IntKind.bits] at h
  exact ⟨by omega, by omega⟩

theorem bytes8 : Try.prog.bytesOf 5 = 1 := by kernel_rfl
theorem cells8 : Try.prog.cellsOf 5 = 1 := by kernel_rfl

section
variable {H : Type} {enc : TypeId × Value → H} {W : World}

theorem open_bytes {a : Option Addr} {n c : Nat} {d : DataW H} {p : List MemPlace} (h : DataW.Trod enc Try.prog W 0 (fun _ => true) true 33 (.slice a n c) d p) :
    ∃ l, Byt W a n c l ∧ (n = 0 ∨ ∃ el sp, d = .slice el sp ∧ el.length = n) := by
  obtain ⟨fuel, hf⟩ := h
  rcases open_ints Try.underlying33 Try.underlying5 cells8 hf with ⟨hcs, _⟩ | ⟨x, len, cap, zs, hcs, _, hl, hm, hz, hx, hcell, hwz⟩
  · simp [Value.cells] at hcs
    obtain ⟨rfl, rfl, rfl⟩ := hcs
    exact ⟨[], Byt.nil W, .inl rfl⟩
  · simp [Value.cells] at hcs
    obtain ⟨rfl, rfl, rfl⟩ := hcs
    simp only [Prod.mk.injEq] at hx
    have hzl : zs.length = c := by simpa using hz
    refine ⟨zs.take n, ⟨by simp; omega, hl, hm, fun y hy => u8_bd (hwz y (List.mem_of_mem_take hy)), (fun h => nomatch h), fun hn => ?_⟩, .inr ⟨_, _, hx.1, by simp [lits]; omega⟩⟩
    obtain ⟨g, off, spot⟩ := x
    have hspot : spot = none := by simpa [Addr.add] using World.cell?_spot (hcell 0 (by omega))
    subst hspot
    refine ⟨g, off, rfl, fun i hi => ?_⟩
    have h1 := hcell i (by omega)
    have hadd : (⟨g, off, none⟩ : Addr).add i = ⟨g, off + i, none⟩ := by unfold Addr.add; split <;> simp_all
    rw [hadd] at h1
    rw [h1]
    congr 2
    simp [List.getD, hi]

theorem bytes_reach {ts : List TypeId} {ds : List (DataW H)} (h : (DataW.weightsEach Try.prog ts ds).all (· ≤ reachBytes) = true) {j : Nat} {d : DataW H} {n : Nat} (ht : ts[j]? = some 33) (hd : ds[j]? = some d)
    (e : n = 0 ∨ ∃ el sp, d = .slice el sp ∧ el.length = n) : n ≤ 140737488351232 := by
  rcases e with rfl | ⟨el, sp, rfl, hn⟩
  · omega
  · have := sized_slice h ht hd Try.underlying33
    rw [bytes8] at this
    simp only [reachBytes] at this
    omega
end
end Go.Proofs.Ytambbjmchopaiaa

/- a log record as it comes in: what it reads as. -/
namespace Go.Proofs.Ytambbjmchopaiaa
open Go.RowKit Go.ChangeShapes Go.WideShapes Go.ChangeAt

theorem lst_of {α : Type} (d : α) (P : Nat → α → Prop) : ∀ n : Nat, (∀ i, i < n → ∃ x, P i x) → ∃ l : List α, l.length = n ∧ ∀ i, i < n → P i (l.getD i d)
  | 0, _ => ⟨[], rfl, fun i hi => absurd hi (by omega)⟩
  | n + 1, h => by
    obtain ⟨l, hl, hp⟩ := lst_of d P n (fun i hi => h i (by omega))
    obtain ⟨x, hx⟩ := h n (by omega)
    refine ⟨l ++ [x], by simp [hl], fun i hi => ?_⟩
    by_cases he : i < n
    · have := hp i he
      have e : (l ++ [x]).getD i d = l.getD i d := by simp [List.getD, List.getElem?_append_left (show i < l.length by omega)]
      rwa [e]
    · obtain rfl : i = n := by omega
      have : (l ++ [x]).getD l.length d = x := by simp
      rw [hl] at this
      rw [this]
      exact hx

section
variable {H : Type} {enc : TypeId × Value → H} {W : World}

theorem open_sl {α : Type} [Inhabited α] (E : El α) {sl : TypeId} (ht : Try.prog.underlying sl = some (.slice E.ty)) (hc : Try.prog.cellsOf E.ty = E.size)
    (each : ∀ k cs x, cs.length = E.size → DataW.trod enc Try.prog W 0 (fun _ => true) true k E.ty cs = some x → ∃ a, E.inn W.heap.size W a ∧ cs = E.cells a)
    {k : Nat} {v : Value} {x : DataW H × List MemPlace} (hf : DataW.trod enc Try.prog W 0 (fun _ => true) true k sl [v] = some x) : ∃ A n c l, v = .slice A n c ∧ Sl E W.heap.size W A n c l := by
  rcases Go.Deep.open_slice ht hf with ⟨hcs, _⟩ | ⟨a, n, c, m, k, D, Pl, hcs, _, hl, hm, hmm, _, hx⟩
  · obtain rfl : v = .slice none 0 0 := by simpa using hcs
    exact ⟨none, 0, 0, [], rfl, Sl.nil E _ W⟩
  · obtain rfl : v = .slice (some a) n c := by simpa using hcs
    have hmc : m = c := by simpa using hmm
    subst hmc
    have ex : ∀ i, i < n → ∃ y : α, E.inn W.heap.size W y ∧ ∀ j v, (E.cells y)[j]? = some v → W.cell? ((a.add (i * E.size)).add j) = some v := by
      intro i hi
      obtain ⟨cs', hcc, ht'⟩ := hx i (by omega)
      rw [hc] at hcc
      obtain ⟨_, hcl, hat⟩ := World.cells?_some hcc
      obtain ⟨y, hy, rfl⟩ := each _ _ _ hcl ht'
      refine ⟨y, hy, fun j v hv => ?_⟩
      have hj : j < E.size := by rw [← E.len y]; exact (List.getElem?_eq_some_iff.1 hv).1
      rw [hat j hj]
      exact hv
    obtain ⟨ys, hlen, hys⟩ := lst_of (default : α) _ n ex
    refine ⟨some a, n, m, ys, rfl, hlen, hl, hm, (fun h => nomatch h), fun y hy => ?_, fun hn => ?_⟩
    · obtain ⟨i, hi, rfl⟩ := List.getElem_of_mem hy
      have := (hys i (by omega)).1
      rwa [List.getD_eq_getElem?_getD, List.getElem?_eq_getElem hi] at this
    · obtain ⟨g, off, spot⟩ := a
      have hpos : ∀ i, i < n → ∃ v, (E.cells (ys.getD i default))[0]? = some v := fun i _ => ⟨_, List.getElem?_eq_getElem (by rw [E.len]; exact E.pos)⟩
      have hspot : spot = none := by
        obtain ⟨v, hv⟩ := hpos 0 hn
        have := (hys 0 hn).2 0 _ hv
        have h2 := World.cell?_spot this
        simpa [Addr.add] using h2
      subst hspot
      have hadd : ∀ i j : Nat, ((⟨g, off, none⟩ : Addr).add i).add j = ⟨g, off + i + j, none⟩ := by
        intro i j
        by_cases hi : i = 0 <;> by_cases hj : j = 0 <;> simp [Addr.add, hi, hj]
      have hgl : g < W.heap.size := by
        obtain ⟨v, hv⟩ := hpos 0 hn
        have := (hys 0 hn).2 0 _ hv
        rw [hadd] at this
        exact World.block_lt_of_cell? W _ this
      refine ⟨g, off, rfl, ⟨hgl, .inl trivial, .inl hgl⟩, fun i hi j v hv => ?_⟩
      have := (hys i hi).2 j v hv
      rwa [hadd] at this

theorem co_int : Try.prog.cellsOf 3 = 1 := by kernel_rfl
theorem co_str : Try.prog.cellsOf 9 = 1 := by kernel_rfl
theorem co_bool : Try.prog.cellsOf 4 = 1 := by kernel_rfl
theorem co_val : Try.prog.cellsOf 23 = 2 := by kernel_rfl
theorem co_lock : Try.prog.cellsOf 49 = 2 := by kernel_rfl
theorem co_row : Try.prog.cellsOf 51 = 8 := by kernel_rfl
theorem co_dirty : Try.prog.cellsOf 89 = 2 := by kernel_rfl
theorem co_deed : Try.prog.cellsOf 53 = 2 := by kernel_rfl
theorem co_rec : Try.prog.cellsOf 30 = 16 := by kernel_rfl
theorem co_ints : Try.prog.cellsOf 24 = 1 := by kernel_rfl
theorem co_locks : Try.prog.cellsOf 25 = 1 := by kernel_rfl
theorem co_rows : Try.prog.cellsOf 26 = 1 := by kernel_rfl
theorem co_dirties : Try.prog.cellsOf 27 = 1 := by kernel_rfl
theorem co_deeds : Try.prog.cellsOf 28 = 1 := by kernel_rfl

abbrev Trd (enc : TypeId × Value → H) (W : World) (k : Nat) (t : TypeId) (cs : List Value) (x : DataW H × List MemPlace) : Prop := DataW.trod enc Try.prog W 0 (fun _ => true) true k t cs = some x
theorem op_int {k : Nat} {v : Value} {x : DataW H × List MemPlace} (h : Trd enc W k 3 [v] x) : ∃ z, v = .int .i64 z ∧ i64 z := by
  obtain ⟨z, e, _, w⟩ := DataW.trod_int Try.underlying3 h
  simp at e
  exact ⟨z, e, wf_i64 w⟩
theorem op_str {k : Nat} {v : Value} {x : DataW H × List MemPlace} (h : Trd enc W k 9 [v] x) : ∃ s : ByteArray, v = .string s := by
  obtain ⟨s, e, _⟩ := DataW.trod_string Try.underlying9 h
  simp at e
  exact ⟨s, e⟩
theorem op_bool {k : Nat} {v : Value} {x : DataW H × List MemPlace} (h : Trd enc W k 4 [v] x) : ∃ b, v = .bool b := by
  obtain ⟨b, e, _⟩ := DataW.trod_bool Try.underlying4 h
  simp at e
  exact ⟨b, e⟩
theorem op_ints {k : Nat} {v : Value} {x : DataW H × List MemPlace} (h : Trd enc W k 24 [v] x) : ∃ A n c l, v = .slice A n c ∧ Sl elI W.heap.size W A n c l :=
  open_sl elI Try.underlying24 co_int (fun k cs x hl h => by
    match cs, hl with
    | [v], _ =>
      obtain ⟨z, rfl, hz⟩ := op_int h
      exact ⟨z, hz, rfl⟩) h
theorem op_locks {k : Nat} {v : Value} {x : DataW H × List MemPlace} (h : Trd enc W k 25 [v] x) : ∃ A n c l, v = .slice A n c ∧ Sl elL W.heap.size W A n c l :=
  open_sl elL Try.underlying25 co_lock (fun k cs x hl h => by
    match cs, hl with
    | [v0, v1], _ =>
      obtain ⟨xs, k', _, _, _, hxl, hfld⟩ := DataW.trod_struct Try.underlying49 h
      match xs, hxl with
      | [x0, x1], _ =>
        have f0 : Trd enc W k' 9 (List.take (Try.prog.cellsOf 9) [v0, v1]) x0 := hfld 0 _ rfl
        have f1 : Trd enc W k' 4 (List.take (Try.prog.cellsOf 4) [v1]) x1 := hfld 1 _ rfl
        rw [co_str] at f0
        rw [co_bool] at f1
        obtain ⟨s, rfl⟩ := op_str f0
        obtain ⟨b, rfl⟩ := op_bool f1
        exact ⟨⟨s, b⟩, Nat.zero_le _, rfl⟩) h
theorem op_dirty {k : Nat} {v : Value} {x : DataW H × List MemPlace} (h : Trd enc W k 27 [v] x) : ∃ A n c l, v = .slice A n c ∧ Sl elD W.heap.size W A n c l :=
  open_sl elD Try.underlying27 co_dirty (fun k cs x hl h => by
    match cs, hl with
    | [v0, v1], _ =>
      obtain ⟨xs, k', _, _, _, hxl, hfld⟩ := DataW.trod_struct Try.underlying89 h
      match xs, hxl with
      | [x0, x1], _ =>
        have f0 : Trd enc W k' 3 (List.take (Try.prog.cellsOf 3) [v0, v1]) x0 := hfld 0 _ rfl
        have f1 : Trd enc W k' 3 (List.take (Try.prog.cellsOf 3) [v1]) x1 := hfld 1 _ rfl
        rw [co_int] at f0 f1
        obtain ⟨a, rfl, ha⟩ := op_int f0
        obtain ⟨b, rfl, hb⟩ := op_int f1
        exact ⟨⟨a, b⟩, ⟨ha, hb⟩, rfl⟩) h
theorem op_deeds {k : Nat} {v : Value} {x : DataW H × List MemPlace} (h : Trd enc W k 28 [v] x) : ∃ A n c l, v = .slice A n c ∧ Sl elE W.heap.size W A n c l :=
  open_sl elE Try.underlying28 co_deed (fun k cs x hl h => by
    match cs, hl with
    | [v0, v1], _ =>
      obtain ⟨xs, k', _, _, _, hxl, hfld⟩ := DataW.trod_struct Try.underlying53 h
      match xs, hxl with
      | [x0, x1], _ =>
        have f0 : Trd enc W k' 3 (List.take (Try.prog.cellsOf 3) [v0, v1]) x0 := hfld 0 _ rfl
        have f1 : Trd enc W k' 24 (List.take (Try.prog.cellsOf 24) [v1]) x1 := hfld 1 _ rfl
        rw [co_int] at f0
        rw [co_ints] at f1
        obtain ⟨a, rfl, ha⟩ := op_int f0
        obtain ⟨A, n, c, l, rfl, hb⟩ := op_ints f1
        exact ⟨⟨a, A, n, c, l⟩, ⟨ha, hb⟩, rfl⟩) h
set_option maxRecDepth 100000 in
theorem op_rows {k : Nat} {v : Value} {x : DataW H × List MemPlace} (h : Trd enc W k 26 [v] x) : ∃ A n c l, v = .slice A n c ∧ Sl elR W.heap.size W A n c l :=
  open_sl elR Try.underlying26 co_row (fun k cs x hl h => by
    match cs, hl with
    | [v0, v1, v2, v3, v4, v5, v6, v7], _ =>
      obtain ⟨xs, k', _, _, _, hxl, hfld⟩ := DataW.trod_struct Try.underlying51 h
      match xs, hxl with
      | [x0, x1, x2, x3, x4, x5, x6, x7], _ =>
        have f0 : Trd enc W k' 3 (List.take (Try.prog.cellsOf 3) [v0, v1, v2, v3, v4, v5, v6, v7]) x0 := hfld 0 _ rfl
        have f1 : Trd enc W k' 3 (List.take (Try.prog.cellsOf 3) [v1, v2, v3, v4, v5, v6, v7]) x1 := hfld 1 _ rfl
        have f2 : Trd enc W k' 3 (List.take (Try.prog.cellsOf 3) [v2, v3, v4, v5, v6, v7]) x2 := hfld 2 _ rfl
        have f3 : Trd enc W k' 3 (List.take (Try.prog.cellsOf 3) [v3, v4, v5, v6, v7]) x3 := hfld 3 _ rfl
        have f4 : Trd enc W k' 3 (List.take (Try.prog.cellsOf 3) [v4, v5, v6, v7]) x4 := hfld 4 _ rfl
        have f5 : Trd enc W k' 3 (List.take (Try.prog.cellsOf 3) [v5, v6, v7]) x5 := hfld 5 _ rfl
        have f6 : Trd enc W k' 24 (List.take (Try.prog.cellsOf 24) [v6, v7]) x6 := hfld 6 _ rfl
        have f7 : Trd enc W k' 25 (List.take (Try.prog.cellsOf 25) [v7]) x7 := hfld 7 _ rfl
        rw [co_int] at f0 f1 f2 f3 f4 f5
        rw [co_ints] at f6
        rw [co_locks] at f7
        obtain ⟨z0, rfl, h0⟩ := op_int f0
        obtain ⟨z1, rfl, h1⟩ := op_int f1
        obtain ⟨z2, rfl, h2⟩ := op_int f2
        obtain ⟨z3, rfl, h3⟩ := op_int f3
        obtain ⟨z4, rfl, h4⟩ := op_int f4
        obtain ⟨z5, rfl, h5⟩ := op_int f5
        obtain ⟨A, n, c, l, rfl, h6⟩ := op_ints f6
        obtain ⟨B, m, d, l', rfl, h7⟩ := op_locks f7
        exact ⟨⟨z0, z1, z2, z3, z4, z5, A, n, c, l, B, m, d, l'⟩, ⟨h0, h1, h2, h3, h4, h5, h6, h7⟩, rfl⟩) h
theorem op_val {k : Nat} {v0 v1 : Value} {x : DataW H × List MemPlace} (h : Trd enc W k 23 [v0, v1] x) : ∃ v : Vl, v0 = .bool v.has ∧ v1 = .string v.data := by
  obtain ⟨xs, k', _, _, _, hxl, hfld⟩ := DataW.trod_struct Try.underlying23 h
  match xs, hxl with
  | [x0, x1], _ =>
    have f0 : Trd enc W k' 4 (List.take (Try.prog.cellsOf 4) [v0, v1]) x0 := hfld 0 _ rfl
    have f1 : Trd enc W k' 9 (List.take (Try.prog.cellsOf 9) [v1]) x1 := hfld 1 _ rfl
    rw [co_bool] at f0
    rw [co_str] at f1
    obtain ⟨b, rfl⟩ := op_bool f0
    obtain ⟨s, rfl⟩ := op_str f1
    exact ⟨⟨b, s⟩, rfl, rfl⟩

set_option maxRecDepth 100000 in
set_option maxHeartbeats 1000000 in
theorem open_rec16 {k : Nat} {v0 v1 v2 v3 v4 v5 v6 v7 v8 v9 v10 v11 v12 v13 v14 v15 : Value} {x : DataW H × List MemPlace} (h : Trd enc W k 30 [v0, v1, v2, v3, v4, v5, v6, v7, v8, v9, v10, v11, v12, v13, v14, v15] x) :
    ∃ r : Xr, .agg #[v0, v1, v2, v3, v4, v5, v6, v7, v8, v9, v10, v11, v12, v13, v14, v15] = r.val ∧ XrIn W.heap.size W r := by
  obtain ⟨xs, k', _, _, _, hxl, hfld⟩ := DataW.trod_struct Try.underlying30 h
  match xs, hxl with
  | [x0, x1, x2, x3, x4, x5, x6, x7, x8, x9, x10, x11, x12, x13], _ =>
    have f0 : Trd enc W k' 3 (List.take (Try.prog.cellsOf 3) [v0, v1, v2, v3, v4, v5, v6, v7, v8, v9, v10, v11, v12, v13, v14, v15]) x0 := hfld 0 _ rfl
    have f1 : Trd enc W k' 3 (List.take (Try.prog.cellsOf 3) [v1, v2, v3, v4, v5, v6, v7, v8, v9, v10, v11, v12, v13, v14, v15]) x1 := hfld 1 _ rfl
    have f2 : Trd enc W k' 3 (List.take (Try.prog.cellsOf 3) [v2, v3, v4, v5, v6, v7, v8, v9, v10, v11, v12, v13, v14, v15]) x2 := hfld 2 _ rfl
    have f3 : Trd enc W k' 3 (List.take (Try.prog.cellsOf 3) [v3, v4, v5, v6, v7, v8, v9, v10, v11, v12, v13, v14, v15]) x3 := hfld 3 _ rfl
    have f4 : Trd enc W k' 9 (List.take (Try.prog.cellsOf 9) [v4, v5, v6, v7, v8, v9, v10, v11, v12, v13, v14, v15]) x4 := hfld 4 _ rfl
    have f5 : Trd enc W k' 23 (List.take (Try.prog.cellsOf 23) [v5, v6, v7, v8, v9, v10, v11, v12, v13, v14, v15]) x5 := hfld 5 _ rfl
    have f6 : Trd enc W k' 23 (List.take (Try.prog.cellsOf 23) [v7, v8, v9, v10, v11, v12, v13, v14, v15]) x6 := hfld 6 _ rfl
    have f7 : Trd enc W k' 3 (List.take (Try.prog.cellsOf 3) [v9, v10, v11, v12, v13, v14, v15]) x7 := hfld 7 _ rfl
    have f8 : Trd enc W k' 24 (List.take (Try.prog.cellsOf 24) [v10, v11, v12, v13, v14, v15]) x8 := hfld 8 _ rfl
    have f9 : Trd enc W k' 25 (List.take (Try.prog.cellsOf 25) [v11, v12, v13, v14, v15]) x9 := hfld 9 _ rfl
    have f10 : Trd enc W k' 26 (List.take (Try.prog.cellsOf 26) [v12, v13, v14, v15]) x10 := hfld 10 _ rfl
    have f11 : Trd enc W k' 27 (List.take (Try.prog.cellsOf 27) [v13, v14, v15]) x11 := hfld 11 _ rfl
    have f12 : Trd enc W k' 28 (List.take (Try.prog.cellsOf 28) [v14, v15]) x12 := hfld 12 _ rfl
    have f13 : Trd enc W k' 24 (List.take (Try.prog.cellsOf 24) [v15]) x13 := hfld 13 _ rfl
    rw [co_int] at f0 f1 f2 f3 f7
    rw [co_str] at f4
    rw [co_val] at f5 f6
    rw [co_ints] at f8 f13
    rw [co_locks] at f9
    rw [co_rows] at f10
    rw [co_dirties] at f11
    rw [co_deeds] at f12
    obtain ⟨z0, rfl, h0⟩ := op_int f0
    obtain ⟨z1, rfl, h1⟩ := op_int f1
    obtain ⟨z2, rfl, h2⟩ := op_int f2
    obtain ⟨z3, rfl, h3⟩ := op_int f3
    obtain ⟨s, rfl⟩ := op_str f4
    obtain ⟨a, rfl, rfl⟩ := op_val f5
    obtain ⟨b, rfl, rfl⟩ := op_val f6
    obtain ⟨z7, rfl, h7⟩ := op_int f7
    obtain ⟨A1, n1, c1, l1, rfl, h8⟩ := op_ints f8
    obtain ⟨A2, n2, c2, l2, rfl, h9⟩ := op_locks f9
    obtain ⟨A3, n3, c3, l3, rfl, h10⟩ := op_rows f10
    obtain ⟨A4, n4, c4, l4, rfl, h11⟩ := op_dirty f11
    obtain ⟨A5, n5, c5, l5, rfl, h12⟩ := op_deeds f12
    obtain ⟨A6, n6, c6, l6, rfl, h13⟩ := op_ints f13
    exact ⟨⟨z0, z1, z2, z3, s, a, b, z7, A1, n1, c1, l1, A2, n2, c2, l2, A3, n3, c3, l3, A4, n4, c4, l4, A5, n5, c5, l5, A6, n6, c6, l6⟩, rfl, h0, h1, h2, h3, Nat.zero_le _, Nat.zero_le _, Nat.zero_le _, h7, h8, h9, h10, h11, h12, h13⟩

set_option maxRecDepth 100000 in
theorem open_rec {r : Reach} {b0 : Nat} {v : Value} {d : DataW H} {p : List MemPlace} (hv : Value.okWide Try.prog W r b0 30 v) (h : DataW.Trod enc Try.prog W 0 (fun _ => true) true 30 v d p) :
    ∃ x : Xr, v = x.val ∧ XrIn W.heap.size W x := by
  obtain ⟨cs, rfl, hsz⟩ := okWide_struct Try.underlying30 hv
  rw [co_rec] at hsz
  obtain ⟨fuel, hf⟩ := h
  obtain ⟨l⟩ := cs
  match l, hsz with
  | [v0, v1, v2, v3, v4, v5, v6, v7, v8, v9, v10, v11, v12, v13, v14, v15], _ => exact open_rec16 hf
end
end Go.Proofs.Ytambbjmchopaiaa
