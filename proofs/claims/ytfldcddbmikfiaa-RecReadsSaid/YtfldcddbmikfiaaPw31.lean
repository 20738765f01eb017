/- What it says: contracts and plain mathematics that the laws' walks use, 31 of 34: each part's own remark says what; no condition. -/
import Derived.Test.YtfldcddbmikfiaaPw6
import Derived.Test.YtfldcddbmikfiaaPw0
import Derived.Test.YtfldcddbmikfiaaPw28
import Derived.Test.YtfldcddbmikfiaaPw30
import Derived.Deep.CutBlock

set_option linter.unusedSimpArgs false
set_option linter.unusedVariables false
set_option linter.deprecated false
set_option linter.unusedSectionVars false
set_option linter.all false

/- trothref07.May answers true just of records that may be. -/
namespace Go.Proofs.Ytfldcddbmikfiaa
open Go.RowKit BigFrame
theorem quiet_load_row {P : Program} {ops : Array Oper} {C : World → Prop} {Q : Act → Prop} {a : Act} {o : Oper} {rest : List Oper} (hw : Region.wanted o (yielded ops a.tmps) = true) (ty : TypeId) (x : Operand) (ho : o.op = .load ty x)
    (g : Nat) (hx : a.eval x = .pointer (some ⟨g, 0, none⟩)) (t : TypeId) (cs : Array Value) (fr : Nat × Nat) (d : TypeDesc) (hg : ∀ w, C w → w.heap[g]? = some (.cells cs t fr))
    (hu : P.underlying ty = some d) (hd : (match d with | .struct _ | .array _ _ => true | _ => false) = true) (hi : (P.info? ty).map (·.size) = some cs.size)
    (h : wpQuiet P ops C Q rest (a.put o.dst (.agg cs))) : wpQuiet P ops C Q (o :: rest) a :=
  wpQuiet_want hw fun K hK => ⟨.agg cs, fun w hc => by
    unfold Oper.quietAt execOp
    simp only [ho, hx, Instr.loadAt, Instr.sureAddr, Sem.run_bind, Sem.run_pure, Result.andThen_ok, run_loadVar_row w g t ty cs fr d (hg w hc) hu hd hi]
    exact ⟨rfl, rfl⟩, hK _ h⟩
theorem RetBB.bool {P : Prop} {b : Bool} {p : Program} {f : FuncId} {args : Array Value} {w : World} (h : Calls p f args w (RetBB P w)) (hb : b = true ↔ P) : Calls p f args w (Ret (.bool b) w) :=
  h.mono fun e w' ⟨c, he, hc, hw⟩ => ⟨by rw [he]; congr 2; exact Bool.eq_iff_iff.2 (hc.trans hb.symm), hw⟩
theorem onlyX_or (x : Xr) (H : Nat) (w : World) (h : XrIn H w x) : (x.rows.map Xw.row = (onlyX x).rows.map Xw.row ∧ x.dirty = (onlyX x).dirty ∧ x.deeds.map Xd.deed = (onlyX x).deeds.map Xd.deed ∧ x.past = (onlyX x).past) ∨ ¬ (x.rn = (onlyX x).rn ∧ x.dn = (onlyX x).dn ∧ x.en = (onlyX x).en ∧ x.past = (onlyX x).past) := by
  by_cases q : x.rn = (onlyX x).rn ∧ x.dn = (onlyX x).dn ∧ x.en = (onlyX x).en ∧ x.past = (onlyX x).past
  · left
    have h' := onlyX_in x H w h
    have l1 := h.rows.len
    have l2 := h.dirty.len
    have l3 := h.deeds.len
    obtain ⟨q1, q2, q3, q4⟩ := q
    by_cases k8 : x.kind = 8
    · obtain ⟨kind, tx, prev, next, key, ⟨oh, od⟩, ⟨nh, nd⟩, co, mA, mn, mc, mem, kA, kn, kc, lks, rA, rn, rc, rows, dA, dn, dc, dirty, eA, en, ec, deeds, pA, pn, pc, past⟩ := x
      simp only at k8
      subst k8
      exact ⟨rfl, rfl, rfl, rfl⟩
    · have e : (onlyX x).rows = [] ∧ (onlyX x).rn = 0 ∧ (onlyX x).dirty = [] ∧ (onlyX x).dn = 0 ∧ (onlyX x).deeds = [] ∧ (onlyX x).en = 0 := by
        obtain ⟨kind, tx, prev, next, key, ⟨oh, od⟩, ⟨nh, nd⟩, co, mA, mn, mc, mem, kA, kn, kc, lks, rA, rn, rc, rows, dA, dn, dc, dirty, eA, en, ec, deeds, pA, pn, pc, past⟩ := x
        simp only at k8
        unfold onlyX
        simp only
        split
        · exact ⟨rfl, rfl, rfl, rfl, rfl, rfl⟩
        split
        · exact ⟨rfl, rfl, rfl, rfl, rfl, rfl⟩
        split
        · exact ⟨rfl, rfl, rfl, rfl, rfl, rfl⟩
        split
        · exact ⟨rfl, rfl, rfl, rfl, rfl, rfl⟩
        split
        · exact ⟨rfl, rfl, rfl, rfl, rfl, rfl⟩
        split <;> exact ⟨rfl, rfl, rfl, rfl, rfl, rfl⟩
      obtain ⟨e1, e2, e3, e4, e5, e6⟩ := e
      rw [e2] at q1
      rw [e4] at q2
      rw [e6] at q3
      refine ⟨?_, ?_, ?_, q4⟩
      · rw [e1, List.length_eq_zero_iff.1 (l1.trans q1)]
      · rw [e3, List.length_eq_zero_iff.1 (l2.trans q2)]
      · rw [e5, List.length_eq_zero_iff.1 (l3.trans q3)]
  · exact .inr q
set_option maxRecDepth 100000 in
set_option maxHeartbeats 16000000 in
theorem may7_any (x : Xr) (H : Nat) (w : World) (hx : XrIn H w x) : Calls Try.prog 11 #[x.val] w (RetBB x.read.ok w) := by
  obtain ⟨RD, hRD⟩ : ∃ RD, RD = x.read := ⟨_, rfl⟩
  rw [← hRD]
  have OR := onlyX_or x H w hx
  have CO0 := fun (hk : 1 ≤ x.kind ∧ x.kind ≤ 10) W => only_any x W hk
  have CC0 := fun W (hc : Calm H w W) => refCheck_any x H W (hx.calm hc)
  have CS0 := fun W (hc : Calm H w W) => same7_any x (onlyX x) H H W (hx.calm hc) ((onlyX_in x H w hx).calm hc) OR
  have OE := onlyX_read x
  obtain ⟨OX, hOX⟩ : ∃ OX, OX = (onlyX x).val := ⟨_, rfl⟩
  rw [← hOX] at CS0
  simp only [← hOX] at CO0
  have SB0 : (1 ≤ x.kind ∧ x.kind ≤ 10) → ((x.read = (onlyX x).read) ↔ (onlyRc RD = RD)) := fun hk => by rw [OE hk, hRD]; exact eq_comm
  obtain ⟨sb, hsb⟩ : ∃ sb : Bool, sb = true ↔ x.read = (onlyX x).read := by
    by_cases q : x.read = (onlyX x).read
    · exact ⟨true, fun _ => q, fun _ => rfl⟩
    · exact ⟨false, (fun z => nomatch z), fun z => absurd z q⟩
  have CS1 := fun W (hc : Calm H w W) => RetBB.bool (CS0 W hc) hsb
  have SB : Hid ((1 ≤ x.kind ∧ x.kind ≤ 10) → (sb = true ↔ (onlyRc RD = RD))) := Lib.hid (fun hk => hsb.trans (SB0 hk))
  clear CS0 hsb SB0 OE OR hOX
  have LD : RD = x.read := hRD
  rw [← hRD] at CC0
  clear hRD
  obtain ⟨kind, tx, prev, next, key, ⟨oh, od⟩, ⟨nh, nd⟩, co, mA, mn, mc, mem, kA, kn, kc, lks, rA, rn, rc, rows, dA, dn, dc, dirty, eA, en, ec, deeds, pA, pn, pc, past⟩ := x
  have LK : Hid (RD.kind = kind ∧ RD.tx = tx ∧ RD.prev = prev ∧ RD.next = next ∧ RD.key = key ∧ RD.old = ⟨oh, od⟩ ∧ RD.new = ⟨nh, nd⟩ ∧ RD.co = co ∧ RD.mem = mem ∧ RD.lks = lks) := Lib.hid (by rw [LD]; exact ⟨rfl, rfl, rfl, rfl, rfl, rfl, rfl, rfl, rfl, rfl⟩)
  clear LD
  unfold Xr.val at CO0 CC0 CS1 ⊢
  simp only at CO0 CC0 CS1 SB ⊢
  obtain ⟨r, hrr⟩ : ∃ r, w.heap.size = r := ⟨_, rfl⟩
  obtain ⟨W1, hW1⟩ : ∃ W1, W1 = w.alloc (.cells #[.int .i64 kind, .int .i64 tx, .int .i64 prev, .int .i64 next, .string key, .bool oh, .string od, .bool nh, .string nd, .int .i64 co, .slice mA mn mc, .slice kA kn kc, .slice rA rn rc, .slice dA dn dc, .slice eA en ec, .slice pA pn pc] 30) := ⟨_, rfl⟩
  have hb : Below w.heap.size w W1 := by rw [hW1]; exact (Below.refl _ _).alloc (Nat.le_refl _) _
  have V0 : Bk W1 r 30 #[.int .i64 kind, .int .i64 tx, .int .i64 prev, .int .i64 next, .string key, .bool oh, .string od, .bool nh, .string nd, .int .i64 co, .slice mA mn mc, .slice kA kn kc, .slice rA rn rc, .slice dA dn dc, .slice eA en ec, .slice pA pn pc] := by rw [hW1, ← hrr]; exact Bk.new w _ _
  have HBK : Hid (∀ w', (∃ p : Regrown, w' = Go.Sort.grow (redrawn W1 p.d) p.os) → w'.heap[r]? = some (.cells #[.int .i64 kind, .int .i64 tx, .int .i64 prev, .int .i64 next, .string key, .bool oh, .string od, .bool nh, .string nd, .int .i64 co, .slice mA mn mc, .slice kA kn kc, .slice rA rn rc, .slice dA dn dc, .slice eA en ec, .slice pA pn pc] 30 (0, 0))) := Lib.hid (fun w' ⟨p, hp⟩ => by rw [hp]; exact V0.bel (below_regrown W1 p.d p.os) V0.lt)
  have CO : Hid ((1 ≤ kind ∧ kind ≤ 10) → ∀ W, Calls Try.prog 24 #[.agg #[.int .i64 kind, .int .i64 tx, .int .i64 prev, .int .i64 next, .string key, .bool oh, .string od, .bool nh, .string nd, .int .i64 co, .slice mA mn mc, .slice kA kn kc, .slice rA rn rc, .slice dA dn dc, .slice eA en ec, .slice pA pn pc]] W (Ret OX W)) := Lib.hid CO0
  have CS : Hid (∀ d os, Calls Try.prog 16 #[.agg #[.int .i64 kind, .int .i64 tx, .int .i64 prev, .int .i64 next, .string key, .bool oh, .string od, .bool nh, .string nd, .int .i64 co, .slice mA mn mc, .slice kA kn kc, .slice rA rn rc, .slice dA dn dc, .slice eA en ec, .slice pA pn pc], OX] (Go.Sort.grow (redrawn W1 d) os) (Ret (.bool sb) (Go.Sort.grow (redrawn W1 d) os))) := Lib.hid (fun d os => CS1 _ (Calm.of_below (Below.then hb (below_regrown W1 d os))))
  have CC : Hid (∀ W, Below W1.heap.size W1 W → Calls Try.prog 25 #[.agg #[.int .i64 kind, .int .i64 tx, .int .i64 prev, .int .i64 next, .string key, .bool oh, .string od, .bool nh, .string nd, .int .i64 co, .slice mA mn mc, .slice kA kn kc, .slice rA rn rc, .slice dA dn dc, .slice eA en ec, .slice pA pn pc]] W (RetBB (checkOk RD) W)) := Lib.hid (fun W hw => CC0 W (Calm.of_below (Below.then hb hw)))
  have HX := Lib.hid (hx.calm (Calm.of_below hb))
  have HV := Lib.hid V0
  have HCell : Hid (∀ W, Below W1.heap.size W1 W → W.cell? ⟨r, 0, none⟩ = some (.int .i64 kind) ∧ W.cell? ⟨r, 1, none⟩ = some (.int .i64 tx) ∧ W.cell? ⟨r, 2, none⟩ = some (.int .i64 prev) ∧ W.cell? ⟨r, 3, none⟩ = some (.int .i64 next) ∧ W.cell? ⟨r, 4, none⟩ = some (.string key) ∧ W.cell? ⟨r, 5, none⟩ = some (.bool oh) ∧ W.cell? ⟨r, 6, none⟩ = some (.string od) ∧ W.cell? ⟨r, 7, none⟩ = some (.bool nh) ∧ W.cell? ⟨r, 8, none⟩ = some (.string nd) ∧ W.cell? ⟨r, 9, none⟩ = some (.int .i64 co) ∧ W.cell? ⟨r, 10, none⟩ = some (.slice mA mn mc) ∧ W.cell? ⟨r, 11, none⟩ = some (.slice kA kn kc)) :=
    Lib.hid (fun W hb => ⟨(hb.cell (p := ⟨r, 0, none⟩) V0.lt).trans (V0.cell 0), (hb.cell (p := ⟨r, 1, none⟩) V0.lt).trans (V0.cell 1), (hb.cell (p := ⟨r, 2, none⟩) V0.lt).trans (V0.cell 2), (hb.cell (p := ⟨r, 3, none⟩) V0.lt).trans (V0.cell 3), (hb.cell (p := ⟨r, 4, none⟩) V0.lt).trans (V0.cell 4), (hb.cell (p := ⟨r, 5, none⟩) V0.lt).trans (V0.cell 5), (hb.cell (p := ⟨r, 6, none⟩) V0.lt).trans (V0.cell 6), (hb.cell (p := ⟨r, 7, none⟩) V0.lt).trans (V0.cell 7), (hb.cell (p := ⟨r, 8, none⟩) V0.lt).trans (V0.cell 8), (hb.cell (p := ⟨r, 9, none⟩) V0.lt).trans (V0.cell 9), (hb.cell (p := ⟨r, 10, none⟩) V0.lt).trans (V0.cell 10), (hb.cell (p := ⟨r, 11, none⟩) V0.lt).trans (V0.cell 11)⟩)
  have NO : Hid (¬ RD.ok → ∀ W, Below W1.heap.size W1 W → RetBB RD.ok w (.returned (.bool false)) W) := Lib.hid (fun q W hw => RetBB.of ⟨(fun z => nomatch z), fun z => absurd z q⟩ (Below.then hb hw))
  have YES : Hid (RD.ok → ∀ W, Below W1.heap.size W1 W → RetBB RD.ok w (.returned (.bool true)) W) := Lib.hid (fun q W hw => RetBB.of ⟨fun _ => q, fun _ => rfl⟩ (Below.then hb hw))
  have f0 : ∀ d' os, (Go.Sort.grow (redrawn W1 d') os).cell? ⟨r, 0, none⟩ = some (.int .i64 kind) := cell_regrown (V0.cell 0)
  have HW := Lib.hid hW1
  clear hx hb hW1 V0 CO0 CC0 CS1
  go_enter Try.func11, Try.ntmps11
  go_upto_region 1 with fail
  (try rw [hrr])
  rw [← HW.out]
  clear HW hrr
  by_cases k1 : kind < 1
  · have k1' : decide (kind < 1) = true := decide_eq_true k1
    have HNO : Hid (¬ RD.ok) := Lib.hid (fun q => by have := q.kind.1; rw [LK.out.1] at this; omega)
    refine wp_region_quiet_below (by kernel_rfl) (by kernel_rfl) ?_
    repeat (any_goals (first | go_big_quiet_step ((first | (go_at_call 24; exact Calls.regrown_of (CO.out _)) | (go_at_call 16; exact Calls.regrown_of (CS.out _ _)))) | quiet_step ((first | (go_at_call 24; exact Calls.regrown_of (CO.out _)) | (go_at_call 16; exact Calls.regrown_of (CS.out _ _))))))
    refine wpQuiet_nil ?_
    intro _ hw'
    obtain ⟨⟨dq, osq⟩, hw''⟩ := hw'
    subst hw''
    have R := Lib.hid (NO.out HNO.out _ (below_regrown W1 dq osq))
    clear NO YES HCell CC CO CS SB HX HV HBK f0
    go_wp2_with fail
    go_ret
    exact R.out
  have k1' : decide (kind < 1) = false := decide_eq_false k1
  by_cases k2 : 10 < kind
  · have k2' : decide (10 < kind) = true := decide_eq_true k2
    have HNO : Hid (¬ RD.ok) := Lib.hid (fun q => by have := q.kind.2; rw [LK.out.1] at this; omega)
    refine wp_region_quiet_below (by kernel_rfl) (by kernel_rfl) ?_
    repeat (any_goals (first | go_big_quiet_step ((first | (go_at_call 24; exact Calls.regrown_of (CO.out _)) | (go_at_call 16; exact Calls.regrown_of (CS.out _ _)))) | quiet_step ((first | (go_at_call 24; exact Calls.regrown_of (CO.out _)) | (go_at_call 16; exact Calls.regrown_of (CS.out _ _))))))
    refine wpQuiet_nil ?_
    intro _ hw'
    obtain ⟨⟨dq, osq⟩, hw''⟩ := hw'
    subst hw''
    have R := Lib.hid (NO.out HNO.out _ (below_regrown W1 dq osq))
    clear NO YES HCell CC CO CS SB HX HV HBK f0
    go_wp2_with fail
    go_ret
    exact R.out
  have k2' : decide (10 < kind) = false := decide_eq_false k2
  have CO := Lib.hid (CO.out ⟨by omega, by omega⟩)
  have SB := Lib.hid (SB.out ⟨by omega, by omega⟩)
  have KR : Hid (1 ≤ kind ∧ kind ≤ 10) := Lib.hid ⟨by omega, by omega⟩
  cases sb with
  | false =>
    have HNO : Hid (¬ RD.ok) := Lib.hid (fun q => by have := SB.out.2 q.only; cases this)
    refine wp_region_quiet_below (by kernel_rfl) (by kernel_rfl) ?_
    repeat (any_goals (first | (refine quiet_load_row rfl 30 _ rfl r rfl 30 _ (0, 0) _ (fun w' hw => HBK.out w' hw) Try.underlying30 rfl inf_rec ?_; simp only [Act.put, List.setIfInBounds_toArray, List.set_cons_zero, List.set_cons_succ]) | go_big_quiet_step ((first | (go_at_call 24; exact Calls.regrown_of (CO.out _)) | (go_at_call 16; exact Calls.regrown_of (CS.out _ _)))) | quiet_step ((first | (go_at_call 24; exact Calls.regrown_of (CO.out _)) | (go_at_call 16; exact Calls.regrown_of (CS.out _ _))))))
    refine wpQuiet_nil ?_
    intro _ hw'
    obtain ⟨⟨dq, osq⟩, hw''⟩ := hw'
    subst hw''
    have R := Lib.hid (NO.out HNO.out _ (below_regrown W1 dq osq))
    clear NO YES HCell CC CO CS SB HX HV HBK f0
    go_wp2_with fail
    go_ret
    exact R.out
  | true =>
    have HON := Lib.hid (SB.out.1 rfl)
    refine wp_region_quiet_below (by kernel_rfl) (by kernel_rfl) ?_
    repeat (any_goals (first | (refine quiet_load_row rfl 30 _ rfl r rfl 30 _ (0, 0) _ (fun w' hw => HBK.out w' hw) Try.underlying30 rfl inf_rec ?_; simp only [Act.put, List.setIfInBounds_toArray, List.set_cons_zero, List.set_cons_succ]) | go_big_quiet_step ((first | (go_at_call 24; exact Calls.regrown_of (CO.out _)) | (go_at_call 16; exact Calls.regrown_of (CS.out _ _)))) | quiet_step ((first | (go_at_call 24; exact Calls.regrown_of (CO.out _)) | (go_at_call 16; exact Calls.regrown_of (CS.out _ _))))))
    refine wpQuiet_nil ?_
    intro _ hw'
    obtain ⟨⟨dq, osq⟩, hw''⟩ := hw'
    subst hw''
    obtain ⟨W2, hW2⟩ : ∃ W2, W2 = Go.Sort.grow (redrawn W1 dq) osq := ⟨_, rfl⟩
    have B2 : Hid (Below W1.heap.size W1 W2) := Lib.hid (by rw [hW2]; exact below_regrown W1 dq osq)
    rw [← hW2]
    clear hW2 CO CS SB f0 k1 k2 k1' k2'
    have HV2 := Lib.hid (HV.out.bel B2.out HV.out.lt)
    obtain ⟨c0, c1, c2, c3, c4, c5, c6, c7, c8, c9, c10, c11⟩ := HCell.out W2 B2.out
    by_cases k7 : kind = 7
    · have R := Lib.hid (YES.out ⟨by rw [LK.out.1]; exact KR.out, HON.out, fun q => by rw [LK.out.1] at q; omega, fun q => absurd (LK.out.1.trans k7) q, fun q => by rw [LK.out.1] at q; omega, fun q => absurd (LK.out.1.trans k7) q⟩ _ B2.out)
      subst k7
      clear NO YES HCell CC HX HV HBK HV2
      go_wp2_with fail
      go_ret
      exact R.out
    have k7' : (kind == 7) = false := by simpa using k7
    by_cases k8 : kind = 8
    · have Y8 : Hid (RD.ok ↔ checkOk RD) := Lib.hid ⟨fun q => q.check (LK.out.1.trans k8), fun q => ⟨by rw [LK.out.1]; exact KR.out, HON.out, fun _ => q, fun _ q => absurd (LK.out.1.trans k8) q, fun q => by rw [LK.out.1] at q; omega, fun _ q => absurd (LK.out.1.trans k8) q⟩⟩
      have C8 := Lib.hid (CC.out W2 B2.out)
      have RB8 : Hid (∀ b W, (b = true ↔ RD.ok) → Below W1.heap.size W1 W → RetBB RD.ok w (.returned (.bool b)) W) := Lib.hid (fun b W q hw => by
        cases b with
        | true => exact YES.out (q.1 rfl) W hw
        | false => exact NO.out (fun z => by have := q.2 z; cases this) W hw)
      subst k8
      clear NO YES HCell CC HX HBK k7
      go_wp2_with (refine wpList_load_row rfl 30 _ rfl r rfl 30 _ (0, 0) _ HV2.out Try.underlying30 rfl inf_rec ?_)
      refine C8.out.mono ?_
      rintro e w3 ⟨b, rfl, hb, hw3⟩
      have R := Lib.hid (RB8.out b _ (hb.trans Y8.out.symm) (Below.then B2.out hw3))
      clear hb hw3 RB8 C8 Y8
      go_wp2_with fail
      go_ret
      exact R.out
    have k8' : (kind == 8) = false := by simpa using k8
    have HK : Hid (¬ RD.kind = 7 ∧ ¬ RD.kind = 8) := Lib.hid (by rw [LK.out.1]; exact ⟨k7, k8⟩)
    have NS : Hid (¬ (seqOk 1 tx ∧ seqOk 0 prev ∧ seqOk 0 next) → ¬ RD.ok) := Lib.hid (fun q z => q (by have := z.seq HK.out.1 HK.out.2; rw [LK.out.2.1, LK.out.2.2.1, LK.out.2.2.2.1] at this; exact this))
    clear CC k7 k8 HBK HV
    go_wp2_with fail
    refine (refSeq_any tx 1 W2).mono ?_
    rintro e wq ⟨b, rfl, hb, m1, rfl⟩
    cases b with
    | false =>
      have R := Lib.hid (NO.out (NS.out (fun q => by have := hb.2 q.1; cases this)) _ (below_drewN B2.out m1))
      clear NO YES HCell HX HK NS hb
      go_wp2_with fail
      go_ret
      first | exact R.out | (rw [World.drewN_drewN]; exact R.out)
    | true =>
      have Stx := Lib.hid (hb.1 rfl)
      clear hb
      go_wp2_with fail
      refine (refSeq_any prev 0 (W2.drewN m1)).mono ?_
      rintro e wq ⟨b, rfl, hb, m2, rfl⟩
      cases b with
      | false =>
        have R := Lib.hid (NO.out (NS.out (fun q => by have := hb.2 q.2.1; cases this)) _ (below_drewN B2.out (m1 + m2)))
        clear NO YES HCell HX HK NS hb
        go_wp2_with fail
        go_ret
        first | exact R.out | (rw [World.drewN_drewN]; exact R.out)
      | true =>
        have Sprev := Lib.hid (hb.1 rfl)
        clear hb
        go_wp2_with fail
        refine (refSeq_any next 0 (W2.drewN (m1 + m2))).mono ?_
        rintro e wq ⟨b, rfl, hb, m3, rfl⟩
        cases b with
        | false =>
          have R := Lib.hid (NO.out (NS.out (fun q => by have := hb.2 q.2.2; cases this)) _ (below_drewN B2.out (m1 + m2 + m3)))
          clear NO YES HCell HX HK NS hb
          go_wp2_with fail
          go_ret
          first | exact R.out | (rw [World.drewN_drewN]; exact R.out)
        | true =>
          have Snext := Lib.hid (hb.1 rfl)
          clear hb
          have B3 : Hid (Below W1.heap.size W1 (W2.drewN (m1 + m2 + m3))) := Lib.hid (below_drewN B2.out _)
          have HS : Hid (seqOk 1 RD.tx ∧ seqOk 0 RD.prev ∧ seqOk 0 RD.next) := Lib.hid (by rw [LK.out.2.1, LK.out.2.2.1, LK.out.2.2.2.1]; exact ⟨Stx.out, Sprev.out, Snext.out⟩)
          by_cases h12 : kind = 1 ∨ kind = 2
          · have Y12 : Hid (RD.ok ↔ (keyOk key ∧ vlOk ⟨oh, od⟩ ∧ vlOk ⟨nh, nd⟩)) := Lib.hid (by
              have := LK.out
              obtain ⟨l1, _, _, _, l5, l6, l7, _⟩ := this
              rw [← l5, ← l6, ← l7]
              exact ⟨fun q => q.vals (by rw [l1]; exact h12), fun q => ⟨by rw [l1]; exact KR.out, HON.out, fun z => absurd z HK.out.2, fun _ _ => HS.out, fun _ => q, fun _ _ z1 z2 => by rw [l1] at z1 z2; omega⟩⟩)
            have e12 : (kind == 1) = true ∨ ((kind == 1) = false ∧ (kind == 2) = true) := by
              rcases h12 with q | q
              · left; rw [q]; rfl
              · right; rw [q]; exact ⟨rfl, rfl⟩
            have HX3 := Lib.hid (HCell.out _ B3.out)
            clear HK HS NS h12 k7' k8' HX
            rcases e12 with e1 | ⟨e1, e2⟩
            · go_wp2_with fail
              refine (refKey_any key (W2.drewN (m1 + m2 + m3))).mono ?_
              rintro e wq ⟨b, rfl, hb, m4, rfl⟩
              cases b with
              | false =>
                have R := Lib.hid (NO.out (fun q => by have := hb.2 (Y12.out.1 q).1; cases this) _ (below_drewN B2.out (m1 + m2 + m3 + m4)))
                clear NO YES HCell Y12 hb
                go_wp2_with fail
                go_ret
                first | exact R.out | (rw [World.drewN_drewN]; exact R.out)
              | true =>
                have SK := Lib.hid (hb.1 rfl)
                clear hb
                go_wp2_with fail
                refine (refVal_any oh od (W2.drewN (m1 + m2 + m3 + m4))).mono ?_
                rintro e wq ⟨b, rfl, hb, hwq⟩
                have B4 := Lib.hid (Below.then (below_drewN B2.out (m1 + m2 + m3 + m4)) hwq)
                clear hwq
                cases b with
                | false =>
                  have R := Lib.hid (NO.out (fun q => by have := hb.2 (Y12.out.1 q).2.1; cases this) _ (B4.out))
                  clear NO YES HCell Y12 hb
                  go_wp2_with fail
                  go_ret
                  first | exact R.out | (rw [World.drewN_drewN]; exact R.out)
                | true =>
                  have SO := Lib.hid (hb.1 rfl)
                  clear hb c0 c1 c2 c3 c4 c5 c6 c7 c8 c9 c10 c11
                  obtain ⟨c0, c1, c2, c3, c4, c5, c6, c7, c8, c9, c10, c11⟩ := HCell.out wq B4.out
                  go_wp2_with fail
                  refine (refVal_any nh nd wq).mono ?_
                  rintro e wr ⟨b, rfl, hb, hwr⟩
                  have B5 := Lib.hid (Below.then B4.out hwr)
                  clear hwr
                  cases b with
                  | false =>
                    have R := Lib.hid (NO.out (fun q => by have := hb.2 (Y12.out.1 q).2.2; cases this) _ (B5.out))
                    clear NO YES HCell Y12 hb
                    go_wp2_with fail
                    go_ret
                    first | exact R.out | (rw [World.drewN_drewN]; exact R.out)
                  | true =>
                    have R := Lib.hid (YES.out (Y12.out.2 ⟨SK.out, SO.out, hb.1 rfl⟩) _ B5.out)
                    clear NO YES HCell Y12 hb SK SO
                    go_wp2_with fail
                    go_ret
                    exact R.out
            · go_wp2_with fail
              refine (refKey_any key (W2.drewN (m1 + m2 + m3))).mono ?_
              rintro e wq ⟨b, rfl, hb, m4, rfl⟩
              cases b with
              | false =>
                have R := Lib.hid (NO.out (fun q => by have := hb.2 (Y12.out.1 q).1; cases this) _ (below_drewN B2.out (m1 + m2 + m3 + m4)))
                clear NO YES HCell Y12 hb
                go_wp2_with fail
                go_ret
                first | exact R.out | (rw [World.drewN_drewN]; exact R.out)
              | true =>
                have SK := Lib.hid (hb.1 rfl)
                clear hb
                go_wp2_with fail
                refine (refVal_any oh od (W2.drewN (m1 + m2 + m3 + m4))).mono ?_
                rintro e wq ⟨b, rfl, hb, hwq⟩
                have B4 := Lib.hid (Below.then (below_drewN B2.out (m1 + m2 + m3 + m4)) hwq)
                clear hwq
                cases b with
                | false =>
                  have R := Lib.hid (NO.out (fun q => by have := hb.2 (Y12.out.1 q).2.1; cases this) _ (B4.out))
                  clear NO YES HCell Y12 hb
                  go_wp2_with fail
                  go_ret
                  first | exact R.out | (rw [World.drewN_drewN]; exact R.out)
                | true =>
                  have SO := Lib.hid (hb.1 rfl)
                  clear hb c0 c1 c2 c3 c4 c5 c6 c7 c8 c9 c10 c11
                  obtain ⟨c0, c1, c2, c3, c4, c5, c6, c7, c8, c9, c10, c11⟩ := HCell.out wq B4.out
                  go_wp2_with fail
                  refine (refVal_any nh nd wq).mono ?_
                  rintro e wr ⟨b, rfl, hb, hwr⟩
                  have B5 := Lib.hid (Below.then B4.out hwr)
                  clear hwr
                  cases b with
                  | false =>
                    have R := Lib.hid (NO.out (fun q => by have := hb.2 (Y12.out.1 q).2.2; cases this) _ (B5.out))
                    clear NO YES HCell Y12 hb
                    go_wp2_with fail
                    go_ret
                    first | exact R.out | (rw [World.drewN_drewN]; exact R.out)
                  | true =>
                    have R := Lib.hid (YES.out (Y12.out.2 ⟨SK.out, SO.out, hb.1 rfl⟩) _ B5.out)
                    clear NO YES HCell Y12 hb SK SO
                    go_wp2_with fail
                    go_ret
                    exact R.out
          have e1 : (kind == 1) = false := by simp; omega
          have e2 : (kind == 2) = false := by simp; omega
          have Y3 : Hid (RD.ok ↔ ((0 ≤ co ∧ co ≤ 7) ∧ memOk mem ∧ lksOk lks)) := Lib.hid (by
            have := LK.out
            obtain ⟨l1, _, _, _, _, _, _, l8, l9, l10⟩ := this
            rw [← l8, ← l9, ← l10]
            exact ⟨fun q => q.rest HK.out.1 HK.out.2 (by rw [l1]; omega) (by rw [l1]; omega), fun q => ⟨by rw [l1]; exact KR.out, HON.out, fun z => absurd z HK.out.2, fun _ _ => HS.out, fun z => by rw [l1] at z; omega, fun _ _ _ _ => q⟩⟩)
          clear HK HS NS h12 k7' k8'
          by_cases s1 : 0 ≤ co
          rotate_left
          · have s1' : decide (0 ≤ co) = false := decide_eq_false s1
            have R := Lib.hid (NO.out (fun q => s1 (Y3.out.1 q).1.1) _ B3.out)
            clear NO YES HCell Y3
            go_wp2_with fail
            go_ret
            first | exact R.out | (rw [World.drewN_drewN]; exact R.out)
          have s1' : decide (0 ≤ co) = true := decide_eq_true s1
          by_cases s2 : co ≤ 7
          rotate_left
          · have s2' : decide (co ≤ 7) = false := decide_eq_false s2
            have R := Lib.hid (NO.out (fun q => s2 (Y3.out.1 q).1.2) _ B3.out)
            clear NO YES HCell Y3
            go_wp2_with fail
            go_ret
            first | exact R.out | (rw [World.drewN_drewN]; exact R.out)
          have s2' : decide (co ≤ 7) = true := decide_eq_true s2
          have SC : Hid (0 ≤ co ∧ co ≤ 7) := Lib.hid ⟨s1, s2⟩
          clear s1 s2
          go_wp2_with fail
          refine (refMem_any mA mn mc H mem (W2.drewN (m1 + m2 + m3)) (HX.out.mem.calm (Calm.of_below (H := H) B3.out))).mono ?_
          rintro e wq ⟨b, rfl, hb, m4, rfl⟩
          cases b with
          | false =>
            have R := Lib.hid (NO.out (fun q => by have := hb.2 (Y3.out.1 q).2.1; cases this) _ (below_drewN B2.out (m1 + m2 + m3 + m4)))
            clear NO YES HCell Y3 hb
            go_wp2_with fail
            go_ret
            first | exact R.out | (rw [World.drewN_drewN]; exact R.out)
          | true =>
            have SM := Lib.hid (hb.1 rfl)
            clear hb
            go_wp2_with fail
            refine (refLks_any kA kn kc H lks (W2.drewN (m1 + m2 + m3 + m4)) (HX.out.lks.calm (Calm.of_below (H := H) (below_drewN B2.out (m1 + m2 + m3 + m4))))).mono ?_
            rintro e wq ⟨b, rfl, hb, m5, rfl⟩
            cases b with
            | false =>
              have R := Lib.hid (NO.out (fun q => by have := hb.2 (Y3.out.1 q).2.2; cases this) _ (below_drewN B2.out (m1 + m2 + m3 + m4 + m5)))
              clear NO YES HCell Y3 hb
              go_wp2_with fail
              go_ret
              first | exact R.out | (rw [World.drewN_drewN]; exact R.out)
            | true =>
              have R := Lib.hid (YES.out (Y3.out.2 ⟨SC.out, SM.out, hb.1 rfl⟩) _ (below_drewN B2.out (m1 + m2 + m3 + m4 + m5)))
              clear NO YES HCell Y3 hb
              go_wp2_with fail
              go_ret
              first | exact R.out | (rw [World.drewN_drewN]; exact R.out)
end Go.Proofs.Ytfldcddbmikfiaa

/- what trothref07 writes of a number, a value, a list of numbers, a list of locks: the bytes of RcMath, in new memory. -/
namespace Go.Proofs.Ytfldcddbmikfiaa
open Go.RowKit

/-- Bytes that a call appends to: a row of its own. -/
structure Acc (w0 W : World) (A : Option Addr) (n c : Nat) (l : List Int) : Prop where
  own : W.ownsRow w0.heap.size 5 1 (.slice A n c) n (l.map (Value.int .u8))
  rng : ∀ x ∈ l, 0 ≤ x ∧ x < 256
  bel : Below w0.heap.size w0 W
theorem Acc.of {w0 W : World} {A : Option Addr} {n c : Nat} {l : List Int} (ho : W.ownsRow w0.heap.size 5 1 (.slice A n c) n (l.map (Value.int .u8))) (hr : ∀ x ∈ l, 0 ≤ x ∧ x < 256) (hb : Below w0.heap.size w0 W) : Acc w0 W A n c l := ⟨ho, hr, hb⟩
theorem Acc.below {w0 W W' : World} {A : Option Addr} {n c : Nat} {l : List Int} (h : Acc w0 W A n c l) (hb : Below W.heap.size W W') : Acc w0 W' A n c l :=
  ⟨h.own.kept (row := none) ⟨hb.os, hb.tape, hb.output, hb.size, fun k hk _ => hb.block k hk⟩ (by
    cases A with
    | none => exact .inl rfl
    | some a => exact .inr (by simp [Value.ownBlock])), h.rng, h.bel.trans (hb.mono h.bel.size)⟩
theorem Acc.app {w0 W W' : World} {A A' : Option Addr} {n c k c' : Nat} {l m : List Int} (h : Acc w0 W A n c l) (hm : ∀ x ∈ m, 0 ≤ x ∧ x < 256) (h1 : W'.ownsRow w0.heap.size 5 1 (.slice A' k c') k (l.map (Value.int .u8) ++ m.map (Value.int .u8)))
    (h2 : W.grownBy W' (Value.ownBlock (.slice A n c))) : Acc w0 W' A' k c' (l ++ m) :=
  ⟨by rw [List.map_append]; exact h1, fun x hx => (List.mem_append.1 hx).elim (h.rng x) (hm x), h.bel.grown h2 h.bel.size (fun q hq => (h.own.lt q hq).1)⟩
theorem Acc.ret {w0 W : World} {A : Option Addr} {n c : Nat} {l : List Int} (h : Acc w0 W A n c l) : RetOwn l w0 (.returned (.slice A n c)) W := ⟨A, n, c, rfl, h.own, h.rng, h.bel⟩
theorem Acc.len {w0 W : World} {A : Option Addr} {n c : Nat} {l : List Int} (h : Acc w0 W A n c l) : l.length = n := by
  have q := h.own.1
  rw [List.length_map] at q
  omega
theorem Acc.lit {w W1 : World} (hb : Below w.heap.size w W1) (z : Int) (hz : 0 ≤ z ∧ z < 256) : Acc w (W1.alloc (.cells #[.int .u8 z] 5)) (some ⟨W1.heap.size, 0, none⟩) 1 1 [z] :=
  ⟨⟨by simp, .inr ⟨W1.heap.size, 1, #[.int .u8 z], rfl, hb.size, heap_alloc_new W1 _, Nat.le_refl _, by unfold maxLen; omega, rfl, by simp⟩⟩, by simpa using hz, hb.alloc hb.size _⟩
theorem take_getD {α : Type} [Inhabited α] (l : List α) {k : Nat} (h : k < l.length) : l.take (k + 1) = l.take k ++ [l.getD k default] := by
  rw [List.take_add_one, List.getD_eq_getElem?_getD, List.getElem?_eq_getElem h]
  rfl

set_option maxHeartbeats 1000000 in
theorem rNum7_any (z : Int) (w : World) (hz : -9223372036854775808 ≤ z ∧ z ≤ 9223372036854775807) :
    Calls Try.prog 18 #[.int .i64 z] w (RetOwn (numL z) w) := by
  go_enter Try.func18, Try.ntmps18
  go_wp2_with fail
  refine (refNum_own z w hz).mono ?_
  rintro e w1 ⟨A, k, c, rfl, R⟩
  have R := Lib.hid R
  go_wp2_with fail
  go_ret
  exact ⟨A, k, c, rfl, R.out⟩

set_option maxHeartbeats 4000000 in
theorem rInts7_any (A : Option Addr) (n c H : Nat) (l : List Int) (w : World) (h : Sl elI H w A n c l) (hn : n ≤ 100000) :
    Calls Try.prog 22 #[.slice A n c] w (RetOwn (intsL l) w) := by
  obtain ⟨i0, hi, hz0, hz1, hz2⟩ := info_parts info_u8
  have hl := h.len
  have hcap := h.cap
  have hmax := h.max
  unfold maxLen at hmax
  have HS := Lib.hid h
  have HL := Lib.hid hl
  clear h hl
  go_enter Try.func22, Try.ntmps22
  go_wp2_with fail
  refine (rNum7_any (n : Int) w (by omega)).mono ?_
  rintro e w1 ⟨A1, n1, c1, rfl, ho, hr, hb⟩
  have R1 := Lib.hid (Acc.of ho hr hb)
  have N1 : n1 ≤ 10 := by rw [← R1.out.len]; exact numL_len _ (by omega)
  clear ho hr hb
  go_wp2_with fail
  go_loopw [3, 4] (fun o q wr => ∃ k A3 n3 c3, k ≤ n ∧ q = .int .i64 (k : Nat) ∧ o = .slice A3 n3 c3 ∧ n3 ≤ 10 + 10 * k ∧ Acc w wr A3 n3 c3 (numL n ++ (l.take k).flatMap numL)) (fun _ q _ => n - (intOf q).toNat)
  case atStart => exact ⟨0, A1, n1, c1, Nat.zero_le _, rfl, rfl, by omega, by simpa using R1.out⟩
  case round =>
    obtain ⟨k, A3, n3, c3, hk, rfl, rfl, hn3, hacc⟩ := hrel
    obtain ⟨L, hL⟩ : ∃ L, numL (n : Int) ++ (l.take k).flatMap numL = L := ⟨_, rfl⟩
    rw [hL] at hacc
    have HA := Lib.hid hacc
    have HLL := Lib.hid hL
    clear R1 hL
    by_cases hlt : k < n
    · have hs := HS.out.calm (Calm.of_below hacc.bel)
      obtain ⟨g, off, rfl, _, hrr⟩ := hs.at_ (by omega)
      have hx : wr.cell? ⟨g, off + k, none⟩ = some (.int .i64 (l.getD k default)) := by have := hrr k hlt 0 _ rfl; simpa [elI] using this
      have hx0 := HS.out.get hlt
      obtain ⟨x, ex⟩ : ∃ x, l.getD k default = x := ⟨_, rfl⟩
      rw [ex] at hx hx0
      have HX := Lib.hid ex
      have HX0 := Lib.hid hx0
      have CN := Lib.hid (rNum7_any x wr hx0)
      clear ex hs hrr hacc hx0
      go_wp2_with fail
      refine CN.out.mono ?_
      rintro e w4 ⟨A4, n4, c4, rfl, ho, hr, hb⟩
      have HA4 := Lib.hid (HA.out.below hb)
      have HY4 := Lib.hid (Byt.of_own ho hr)
      have HR4 := Lib.hid hr
      have N4 : n4 ≤ 10 := by rw [← HY4.out.len]; exact numL_len _ HX0.out.2
      clear ho hr hb CN
      go_wp2_with (at_builtin; refine wpList_append_byt rfl _ _ 33 rfl w.heap.size 5 i0 Try.underlying33 hi hz0 hz1 hz2 _ n3 _ rfl (by exact HA4.out.own) A4 n4 c4 _ rfl HY4.out (by omega) HA4.out.bel.size ?_)
      intro A5 c5 w5 h1 h2
      have R5 := Lib.hid (HA4.out.app HR4.out h1 h2)
      have R6 : Hid (Acc w w5 A5 (n3 + n4) c5 (numL n ++ (l.take (k + 1)).flatMap numL)) := Lib.hid (by
        rw [take_getD l (by rw [HL.out]; exact hlt), HX.out, List.flatMap_append, ← List.append_assoc, HLL.out]
        simpa using R5.out)
      clear h1 h2 R5 HA HA4 HY4 HR4 HX0
      go_wp2_with fail
      go_roundw
      case rel => exact ⟨k + 1, A5, n3 + n4, c5, by omega, by go_num, rfl, by omega, R6.out⟩
      case measure => simp [intOf]; omega
    · have hkn : k = n := by omega
      subst hkn
      have R : Hid (RetOwn (intsL l) w (.returned (.slice A3 n3 c3)) wr) := Lib.hid (by
        have e : intsL l = numL (k : Int) ++ (l.take k).flatMap numL := by
          unfold intsL encList
          rw [← HL.out, List.take_length]
        rw [e, HLL.out]
        exact HA.out.ret)
      clear hacc HA
      go_wp2_with fail
      go_ret
      exact R.out

set_option maxHeartbeats 4000000 in
theorem rVal7_any (v : Vl) (w : World) (hv : v.data.size ≤ 100000) :
    Calls Try.prog 21 #[.agg #[.bool v.has, .string v.data]] w (RetOwn (valL v) w) := by
  obtain ⟨hs, d⟩ := v
  simp only at hv ⊢
  obtain ⟨i0, hi, hz0, hz1, hz2⟩ := info_parts info_u8
  obtain ⟨W1, hW1⟩ : ∃ W1, W1 = w.alloc (.cells #[.bool hs, .string d] 23) := ⟨_, rfl⟩
  obtain ⟨r, hr⟩ : ∃ r, w.heap.size = r := ⟨_, rfl⟩
  have b1 : Below w.heap.size w W1 := by rw [hW1]; exact (Below.refl _ _).alloc (Nat.le_refl _) _
  have v1 : Bk W1 r 23 #[.bool hs, .string d] := by rw [hW1, ← hr]; exact Bk.new _ _ _
  have a0 : W1.cell? ⟨r, 0, none⟩ = some (.bool hs) := v1.cell 0
  have a1 : W1.cell? ⟨r, 1, none⟩ = some (.string d) := v1.cell 1
  have HW := Lib.hid hW1
  have HB := Lib.hid b1
  have hr' := Lib.hid hr
  have HV := Lib.hid v1
  clear hW1 b1 hr v1
  cases hs with
  | false =>
    have HO : Hid (Acc w (W1.alloc (.cells #[.int .u8 0] 5)) (some ⟨W1.heap.size, 0, none⟩) 1 1 [0]) := Lib.hid (Acc.lit HB.out 0 (by omega))
    go_enter Try.func21, Try.ntmps21
    go_upto_region 1 with fail
    rw [hr'.out, ← HW.out]
    clear HW
    go_wp2_with fail
    go_ret
    exact HO.out.ret
  | true =>
    have HO : Hid (Acc w (W1.alloc (.cells #[.int .u8 1] 5)) (some ⟨W1.heap.size, 0, none⟩) 1 1 [1]) := Lib.hid (Acc.lit HB.out 1 (by omega))
    have b0 := Lib.cell?_alloc_some (.cells #[.int .u8 1] 5) a1
    have CT := Lib.hid (refText_own d (W1.alloc (.cells #[.int .u8 1] 5)) (by omega))
    go_enter Try.func21, Try.ntmps21
    go_upto_region 1 with fail
    rw [hr'.out, ← HW.out]
    clear HW
    go_wp2_with fail
    refine CT.out.mono ?_
    rintro e w4 ⟨A4, n4, c4, rfl, ho, hr, hb⟩
    have HA4 := Lib.hid (HO.out.below hb)
    have HY4 := Lib.hid (Byt.of_own ho hr)
    have HR4 := Lib.hid hr
    have N4 : n4 ≤ 10 + 100000 := by
      rw [← HY4.out.len]
      unfold textL
      have h1 := shortL_len (nums d).length (by rw [nums_len]; omega)
      rw [List.length_append, nums_len] at *
      omega
    clear ho hr hb CT
    go_wp2_with (at_builtin; refine wpList_append_byt rfl _ _ 33 rfl w.heap.size 5 i0 Try.underlying33 hi hz0 hz1 hz2 _ 1 _ rfl (by exact HA4.out.own) A4 n4 c4 _ rfl HY4.out (by omega) HA4.out.bel.size ?_)
    intro A5 c5 w5 h1 h2
    have R5 := Lib.hid (HA4.out.app HR4.out h1 h2)
    have R : Hid (RetOwn (valL ⟨true, d⟩) w (.returned (.slice A5 (1 + n4) c5)) w5) := Lib.hid R5.out.ret
    clear h1 h2 R5 HA4 HY4 HR4
    go_wp2_with fail
    go_ret
    exact R.out

set_option maxRecDepth 100000 in
set_option maxHeartbeats 8000000 in
theorem rLocks7_any (A : Option Addr) (n c H : Nat) (l : List Lk) (w : World) (h : Sl elL H w A n c l) (hn : n ≤ 100000) (hs : ∀ k ∈ l, k.key.size ≤ 100000) :
    Calls Try.prog 23 #[.slice A n c] w (RetOwn (lksL l) w) := by
  obtain ⟨i0, hi, hz0, hz1, hz2⟩ := info_parts info_u8
  have hl := h.len
  have hcap := h.cap
  have hmax := h.max
  unfold maxLen at hmax
  have HS := Lib.hid h
  have HL := Lib.hid hl
  have HK := Lib.hid hs
  clear h hl hs
  go_enter Try.func23, Try.ntmps23
  go_wp2_with fail
  refine (rNum7_any (n : Int) w (by omega)).mono ?_
  rintro e w1 ⟨A1, n1, c1, rfl, ho, hr, hb⟩
  have R1 := Lib.hid (Acc.of ho hr hb)
  have N1 : n1 ≤ 10 := by rw [← R1.out.len]; exact numL_len _ (by omega)
  clear ho hr hb
  go_wp2_with fail
  go_loopw [3, 4] (fun o q wr => ∃ k A3 n3 c3, k ≤ n ∧ q = .int .i64 (k : Nat) ∧ o = .slice A3 n3 c3 ∧ n3 ≤ 10 + 100020 * k ∧ Acc w wr A3 n3 c3 (numL n ++ (l.take k).flatMap lkL)) (fun _ q _ => n - (intOf q).toNat)
  case atStart => exact ⟨0, A1, n1, c1, Nat.zero_le _, rfl, rfl, by omega, by simpa using R1.out⟩
  case round =>
    obtain ⟨k, A3, n3, c3, hk, rfl, rfl, hn3, hacc⟩ := hrel
    obtain ⟨L, hL⟩ : ∃ L, numL (n : Int) ++ (l.take k).flatMap lkL = L := ⟨_, rfl⟩
    rw [hL] at hacc
    have HA := Lib.hid hacc
    have HLL := Lib.hid hL
    clear R1 hL
    by_cases hlt : k < n
    · have hs := HS.out.calm (Calm.of_below hacc.bel)
      obtain ⟨g, off, rfl, _, hrr⟩ := hs.at_ (by omega)
      have hx : wr.cell? ⟨g, off + k * 2, none⟩ = some (.string (l.getD k default).key) := by have := hrr k hlt 0 _ rfl; simpa [elL] using this
      have HRR : Hid (∀ W, Below w.heap.size w W → W.cell? ⟨g, off + k * 2 + 1, none⟩ = some (.bool (l.getD k default).x)) := Lib.hid (fun W hW => by
        obtain ⟨g', off', e, _, hrr'⟩ := (HS.out.calm (Calm.of_below hW)).at_ (by omega)
        injection e with e
        injection e with e1 e2
        subst e1; subst e2
        have := hrr' k hlt 1 _ rfl
        simpa [elL] using this)
      have hx0 := HK.out (l.getD k default) (getD_mem (by rw [HL.out]; exact hlt))
      obtain ⟨⟨ky, xx⟩, ex⟩ : ∃ x, l.getD k default = x := ⟨_, rfl⟩
      rw [ex] at hx hx0 HRR
      simp only at hx hx0 HRR
      have HX := Lib.hid ex
      have CT := Lib.hid (refText_own ky wr (by omega))
      clear ex hs hrr hacc
      go_wp2_with fail
      refine CT.out.mono ?_
      rintro e w4 ⟨A4, n4, c4, rfl, ho, hr, hb⟩
      have HA4 := Lib.hid (HA.out.below hb)
      have HY4 := Lib.hid (Byt.of_own ho hr)
      have HR4 := Lib.hid hr
      have N4 : n4 ≤ 100010 := by
        rw [← HY4.out.len]
        unfold textL
        have h1 := shortL_len (nums ky).length (by rw [nums_len]; omega)
        rw [List.length_append, nums_len] at *
        omega
      clear ho hr hb CT HA
      go_wp2_with (at_builtin; refine wpList_append_byt rfl _ _ 33 rfl w.heap.size 5 i0 Try.underlying33 hi hz0 hz1 hz2 _ n3 _ rfl (by exact HA4.out.own) A4 n4 c4 _ rfl HY4.out (by omega) HA4.out.bel.size ?_)
      intro A5 c5 w5 h1 h2
      have R5 := Lib.hid (HA4.out.app HR4.out h1 h2)
      have hx2 := HRR.out w5 R5.out.bel
      obtain ⟨n5, hn5⟩ : ∃ n5, n3 + n4 = n5 := ⟨_, rfl⟩
      obtain ⟨L5, hL5⟩ : ∃ L5, L ++ textL (nums ky) = L5 := ⟨_, rfl⟩
      have R5' := Lib.hid (hn5 ▸ hL5 ▸ R5.out)
      have HL5 := Lib.hid hL5
      have N5 : n5 ≤ 10 + 100020 * k + 100010 := by omega
      (try rw [hn5])
      clear h1 h2 HA4 HY4 HR4 hL5 hn5 R5
      cases xx with
      | true =>
        have b5 : Below w5.heap.size w5 (w5.alloc (.cells #[.int .u8 1] 5)) := (Below.refl _ _).alloc (Nat.le_refl _) _
        have HA6 := Lib.hid (R5'.out.below b5)
        have HB6 := Lib.hid (Acc.lit (Below.refl w5.heap.size w5) 1 (by omega))
        clear b5
        go_wp2_with (at_builtin; refine wpList_append_byt rfl _ _ 33 rfl w.heap.size 5 i0 Try.underlying33 hi hz0 hz1 hz2 _ n5 _ rfl (by exact HA6.out.own) _ 1 1 [1] rfl (Byt.of_own HB6.out.own HB6.out.rng) (by omega) HA6.out.bel.size ?_)
        intro A7 c7 w7 h1 h2
        have R7 := Lib.hid (HA6.out.app (m := [1]) (by simp) h1 h2)
        have R8 : Hid (Acc w w7 A7 (n5 + 1) c7 (numL n ++ (l.take (k + 1)).flatMap lkL)) := Lib.hid (by
          rw [take_getD l (by rw [HL.out]; exact hlt), HX.out, List.flatMap_append, ← List.append_assoc, HLL.out]
          have e : [(⟨ky, true⟩ : Lk)].flatMap lkL = textL (nums ky) ++ [1] := by simp [lkL, flagL]
          rw [e, ← List.append_assoc, HL5.out]
          exact R7.out)
        clear h1 h2 R7 HA6 HB6 R5'
        go_wp2_with fail
        go_roundw
        case rel => exact ⟨k + 1, A7, n5 + 1, c7, by omega, by go_num, rfl, by omega, R8.out⟩
        case measure => simp [intOf]; omega
      | false =>
        have b5 : Below w5.heap.size w5 (w5.alloc (.cells #[.int .u8 0] 5)) := (Below.refl _ _).alloc (Nat.le_refl _) _
        have HA6 := Lib.hid (R5'.out.below b5)
        have HB6 := Lib.hid (Acc.lit (Below.refl w5.heap.size w5) 0 (by omega))
        clear b5
        go_wp2_with (at_builtin; refine wpList_append_byt rfl _ _ 33 rfl w.heap.size 5 i0 Try.underlying33 hi hz0 hz1 hz2 _ n5 _ rfl (by exact HA6.out.own) _ 1 1 [0] rfl (Byt.of_own HB6.out.own HB6.out.rng) (by omega) HA6.out.bel.size ?_)
        intro A7 c7 w7 h1 h2
        have R7 := Lib.hid (HA6.out.app (m := [0]) (by simp) h1 h2)
        have R8 : Hid (Acc w w7 A7 (n5 + 1) c7 (numL n ++ (l.take (k + 1)).flatMap lkL)) := Lib.hid (by
          rw [take_getD l (by rw [HL.out]; exact hlt), HX.out, List.flatMap_append, ← List.append_assoc, HLL.out]
          have e : [(⟨ky, false⟩ : Lk)].flatMap lkL = textL (nums ky) ++ [0] := by simp [lkL, flagL]
          rw [e, ← List.append_assoc, HL5.out]
          exact R7.out)
        clear h1 h2 R7 HA6 HB6 R5'
        go_wp2_with fail
        go_roundw
        case rel => exact ⟨k + 1, A7, n5 + 1, c7, by omega, by go_num, rfl, by omega, R8.out⟩
        case measure => simp [intOf]; omega
    · have hkn : k = n := by omega
      subst hkn
      have R : Hid (RetOwn (lksL l) w (.returned (.slice A3 n3 c3)) wr) := Lib.hid (by
        have e : lksL l = numL (k : Int) ++ (l.take k).flatMap lkL := by
          unfold lksL encList
          rw [← HL.out, List.take_length]
        rw [e, HLL.out]
        exact HA.out.ret)
      clear hacc HA
      go_wp2_with fail
      go_ret
      exact R.out
end Go.Proofs.Ytfldcddbmikfiaa
