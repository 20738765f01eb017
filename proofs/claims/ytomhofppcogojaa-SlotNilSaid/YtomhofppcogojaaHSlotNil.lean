/- What it says: 'Rows.SlotNilSaid': for every input trothlaw11.SlotNil answers true, and what came in reads behind the call as before. No condition. -/
import Derived.Test.YtomhofppcogojaaPs7
import Derived.Test.YtomhofppcogojaaPs8
import Derived.Test.YtomhofppcogojaaPs9

set_option linter.unusedSimpArgs false
set_option linter.unusedVariables false
set_option linter.deprecated false
set_option linter.unusedSectionVars false
set_option linter.all false

/- the walk of the law SlotNil: whatever comes in, it answers true and turns nothing that was there. -/
namespace Go.Proofs.Ytomhofppcogojaa
open Go.RowKit

theorem nil_down : ((St.new 2).fuse 0).sErr = 40 ∧ ldE (((St.new 2).fuse 0).sync).rErr 0 0 = 40 := by
  refine ⟨rfl, ?_⟩
  have h : (((St.new 2).fuse 0).sync).rErr 0 = 40 := rfl
  unfold ldE
  rw [if_pos (by omega), show (0 : Int) + 2 * 0 = 0 from rfl, h, if_pos (by simp)]
theorem nil_load (n : Int) (hn : 0 ≤ n ∧ n ≤ 4096) : ldE (fun _ => 2) 0 n = 2 := by
  unfold ldE
  rw [if_pos (by omega)]
  rfl

set_option maxRecDepth 100000 in
set_option maxHeartbeats 8000000 in
theorem slotNil_walk (n : Int) (x : Xp) (w : World) (hn : -9223372036854775808 ≤ n ∧ n ≤ 9223372036854775807) (h : XpIn w x) :
    Calls Try.prog 6 #[.int .i64 n, x.val] w (Ret (.bool true) w) := by
  obtain ⟨lsn, A, m, c, l⟩ := x
  obtain ⟨_, hp⟩ := h
  simp only [Xp.val] at *
  obtain ⟨W0, hW0⟩ : ∃ W0, W0 = w.alloc (.cells #[.int .i64 lsn, .slice A m c] 24) := ⟨_, rfl⟩
  have B0 : Hid (Below w.heap.size w W0) := Lib.hid (by rw [hW0]; exact (Below.refl _ _).alloc (Nat.le_refl _) _)
  have BP : Hid (Bk W0 w.heap.size 24 #[.int .i64 lsn, .slice A m c]) := Lib.hid (by rw [hW0]; exact Bk.new w _ _)
  have P0 := Lib.hid (hp.below B0.out)
  have p0 : W0.cell? ⟨w.heap.size, 0, none⟩ = some (.int .i64 lsn) := BP.out.cell 0
  have p1 : W0.cell? ⟨w.heap.size, 1, none⟩ = some (.slice A m c) := BP.out.cell 1
  have CG := Lib.hid (greatPg_any lsn A m c l W0 P0.out)
  have HW := Lib.hid hW0
  clear hp hW0
  go_enter Try.func6, Try.ntmps6
  go_upto_region 1 with fail
  rw [← HW.out]
  go_wp2_with fail
  refine CG.out.mono ?_
  rintro e W1 ⟨gr, rfl, hfew, b1⟩
  have HF := Lib.hid hfew
  have B1 := Lib.hid (Below.then B0.out b1)
  have K1 := Lib.hid (BP.out.bel b1 BP.out.lt)
  have P1 := Lib.hid (P0.out.below b1)
  clear hfew b1 CG p0 p1 B0 BP P0 HW
  cases gr with
  | true =>
    go_wp2_with fail
    refine (awake11_any _).mono ?_
    rintro e w1 ⟨rfl, b1⟩
    have B2 := Lib.hid (Below.then B1.out b1)
    clear b1
    go_wp2_with fail
    go_ret
    exact ⟨rfl, B2.out⟩
  | false =>
    by_cases h0 : n < 0
    · go_wp2_with fail
      refine (awake11_any _).mono ?_
      rintro e w1 ⟨rfl, b1⟩
      have B2 := Lib.hid (Below.then B1.out b1)
      clear b1
      go_wp2_with fail
      go_ret
      exact ⟨rfl, B2.out⟩
    by_cases h1 : 4096 < n
    · go_wp2_with fail
      refine (awake11_any _).mono ?_
      rintro e w1 ⟨rfl, b1⟩
      have B2 := Lib.hid (Below.then B1.out b1)
      clear b1
      go_wp2_with fail
      go_ret
      exact ⟨rfl, B2.out⟩
    have hn2 : 0 ≤ n ∧ n ≤ 4096 := by omega
    have HN := Lib.hid hn2
    have p0 : W1.cell? ⟨w.heap.size, 0, none⟩ = some (.int .i64 lsn) := K1.out.cell 0
    have p1 : W1.cell? ⟨w.heap.size, 1, none⟩ = some (.slice A m c) := K1.out.cell 1
    have hm20 : m ≤ 20 := by rw [← P1.out.len]; exact (HF.out rfl).1
    have CC := Lib.hid (copy_any lsn A m c l W1 P1.out (by omega))
    clear hn2
    go_wp2_with fail
    refine CC.out.mono ?_
    rintro e W2 ⟨A2, m2, c2, rfl, ho, b2⟩
    have B2 := Lib.hid (Below.then B1.out b2)
    have K2 := Lib.hid (K1.out.bel b2 K1.out.lt)
    have P2 := Lib.hid (P1.out.below b2)
    obtain ⟨er, her⟩ : ∃ er, (if (⟨lsn, l⟩ : Pg).ok then (2 : Int) else 1) = er := ⟨_, rfl⟩
    have CS := slSave_nil W2 n HN.out lsn A2 m2 c2 l ho.pcs
    rw [her] at CS
    have HER := Lib.hid her
    have CS := Lib.hid CS
    clear ho b2 CC B1 K1 P1 p0 p1 her
    go_wp2_with fail
    refine CS.out.mono ?_
    rintro e W3 ⟨rfl, b3⟩
    have B3 := Lib.hid (Below.then B2.out b3)
    have K3 := Lib.hid (K2.out.bel b3 K2.out.lt)
    have P3 := Lib.hid (P2.out.below b3)
    have CL := slLoad_nil W3 0 n
    rw [nil_load n HN.out] at CL
    have CL := Lib.hid CL
    clear b3 CS B2 K2 P2
    go_wp2_with fail
    refine CL.out.mono ?_
    rintro e W4 ⟨A4, m4, c4, rfl, _, b4⟩
    obtain ⟨W5, hW5⟩ : ∃ W, W = W4.alloc (.cells #[.int .i64 (ldV (fun _ => 2) (fun _ => []) 0 n).pg.lsn, .slice A4 m4 c4] 24) := ⟨_, rfl⟩
    have b5 : Below W3.heap.size W3 W5 := by rw [hW5]; exact b4.alloc b4.size _
    have B5 := Lib.hid (Below.then B3.out b5)
    have K5 := Lib.hid (K3.out.bel b5 K3.out.lt)
    have P5 := Lib.hid (P3.out.below b5)
    have HW5 := Lib.hid hW5
    clear b4 b5 CL B3 K3 P3 hW5
    have CN := Lib.hid (hasD_new (Has.emp W5.heap.size W5) (Nat.le_refl W5.heap.size) 2 (by omega))
    go_wp2_with fail
    rw [← HW5.out]
    refine CN.out.mono ?_
    rintro e W6 ⟨b, rfl, h6, b6⟩
    have H6 := Lib.hid h6
    have B6 := Lib.hid b6
    have CF := Lib.hid (hasD_fuse h6 b6.size 0 (by omega))
    clear h6 b6 CN HW5
    go_wp2_with fail
    refine CF.out.mono ?_
    rintro e W7 ⟨rfl, h7, b7⟩
    have B7 := Lib.hid (B6.out.trans b7)
    have CY := hasD_sync h7 (Nat.le_trans B6.out.size b7.size) (by show 0 < 999999; omega)
    rw [nil_down.1] at CY
    have CY := Lib.hid CY
    clear h7 b7 CF B6 H6
    go_wp2_with fail
    refine CY.out.mono ?_
    rintro e W8 ⟨rfl, h8, b8⟩
    have B8 := Lib.hid (B7.out.trans b8)
    have CL := slLoad_any h8 0 0
    rw [nil_down.2] at CL
    have CL := Lib.hid CL
    clear h8 b8 CY B7
    go_wp2_with fail
    refine CL.out.mono ?_
    rintro e W9 ⟨A9, m9, c9, rfl, _, b9⟩
    go_upto_region 9 with fail
    obtain ⟨WA, hWA⟩ : ∃ W, W = W9.alloc (.cells #[.int .i64 (ldV (((St.new 2).fuse 0).sync).rErr (((St.new 2).fuse 0).sync).rBytes 0 0).pg.lsn, .slice A9 m9 c9] 24) := ⟨_, rfl⟩
    have ba : Below W5.heap.size W5 WA := by rw [hWA]; exact (Below.trans B8.out (b9.mono B8.out.size)).alloc (Nat.le_trans B8.out.size b9.size) _
    have BA := Lib.hid (Below.then B5.out ba)
    have KA := Lib.hid (K5.out.bel ba K5.out.lt)
    have PA := Lib.hid (P5.out.below ba)
    rw [← hWA]
    clear b9 ba hWA CL B8 B5 K5 P5
    have p0 : WA.cell? ⟨w.heap.size, 0, none⟩ = some (.int .i64 lsn) := KA.out.cell 0
    have p1 : WA.cell? ⟨w.heap.size, 1, none⟩ = some (.slice A m c) := KA.out.cell 1
    have CM := may10_any lsn A m c l WA PA.out
    by_cases hok : (⟨lsn, l⟩ : Pg).ok
    · rw [decide_eq_true hok] at CM
      have CM := Lib.hid CM
      obtain rfl : er = 2 := HER.out.symm.trans (if_pos hok)
      clear hok HER
      go_wp2_with fail
      refine CM.out.mono ?_
      rintro e WB ⟨rfl, bb⟩
      have BB := Lib.hid (Below.then BA.out bb)
      clear bb CM BA p0 p1
      go_wp2_with fail
      refine (awake11_any _).mono ?_
      rintro e WC ⟨rfl, bc⟩
      have BC := Lib.hid (Below.then BB.out bc)
      clear bc BB
      go_wp2_with fail
      go_ret
      exact ⟨rfl, BC.out⟩
    · rw [decide_eq_false hok] at CM
      have CM := Lib.hid CM
      obtain rfl : er = 1 := HER.out.symm.trans (if_neg hok)
      clear hok HER
      go_wp2_with fail
      refine CM.out.mono ?_
      rintro e WB ⟨rfl, bb⟩
      have BB := Lib.hid (Below.then BA.out bb)
      clear bb CM BA p0 p1
      go_wp2_with fail
      refine (awake11_any _).mono ?_
      rintro e WC ⟨rfl, bc⟩
      have BC := Lib.hid (Below.then BB.out bc)
      clear bc BB
      go_wp2_with fail
      go_ret
      exact ⟨rfl, BC.out⟩
end Go.Proofs.Ytomhofppcogojaa

/- 'Rows.SlotNilSaid': for every input trothlaw11.SlotNil answers true, and what came in reads behind the call as before. No condition. -/
namespace Go.Proofs.Ytomhofppcogojaa
open Go.ChangeShapes Go.WideShapes Go.ChangeAt Go.RowKit

set_option maxRecDepth 100000 in
theorem slotNil_lifted (os : Os) (started : os.Started) (H : Type) (enc : TypeId × Value → H) :
    ReturnsInHanded {} Try.checked os 6 .any (Rows.slotNilSpec.pre6 enc Try.prog Try.f6 Rows.slotNilRow.domain false) (Rows.slotNilSpec.post enc Try.prog Try.f6 false true false false) := by
  refine returnsInHanded_of_change_sized (C := Try.checked) own_knob started (by kernel_rfl) Try.func6
    (ChangeSpec.witness6 (enc := enc) (C := Try.checked) false ⟨#[], #[.int .i64 0, .agg #[.int .i64 0, .slice none 0 0]], []⟩ 8 (by kernel_rfl) (by kernel_rfl) (by kernel_rfl) (by kernel_rfl)) ?_
  intro W base args ds gs before hval0 hW _ hsz0 _
  have hval : ∀ (j : Nat) t v, Try.f6.params[j]? = some t → args[j]? = some v → Value.okWide Try.prog W .any base t v := hval0
  have hW' := hW
  obtain ⟨p, q, hA0, hV, rfl, hfz, hnd⟩ := hW
  have hA : DataW.TrodAll enc Try.prog W 0 (fun _ => true) true Try.f6.params.toList args.toList ds p := hA0
  rw [Try.params6] at hA hval
  obtain ⟨v0, vs0, d0, ds0, p0, q0, hargs, rfl, rfl, h0, r0⟩ := trodAll_cons hA
  obtain ⟨v1, vs1, d1, ds1, p1, q1, rfl, rfl, rfl, h1, r1⟩ := trodAll_cons r0
  obtain ⟨rfl, rfl, rfl⟩ := trodAll_nil r1
  obtain rfl : args = #[v0, v1] := by cases args; simp_all
  obtain ⟨rfl, rfl⟩ := trodVars_none hV
  obtain ⟨a0, rfl, rfl, rfl, w0⟩ := open_int Try.underlying3 (hval 0 3 v0 rfl rfl) h0
  have g0 := i64_bd w0
  have k1 := h1
  have lt1 : ∀ x ∈ p1, x.block < W.heap.size := by obtain ⟨m, hm⟩ := k1; exact DataW.trod_lt m _ _ _ hm
  obtain ⟨m1, rfl, b1⟩ := open_pg (hval 1 24 v1 rfl rfl) h1
  clear hA0 hval0 hsz0
  refine (slotNil_walk a0 m1 W g0 b1).mono fun e W' ⟨he, bel⟩ => ?_
  subst he
  exact ⟨_, rfl, _, _, _, [], _, [], hW', trodAll_mk1 (shut_bool Try.underlying4 _), (trodAll_cons_mk (shut_int Try.underlying3 w0) (trodAll_cons_mk (Below.trod laidOut (by kernel_rfl) (of_decide_eq_true (by kernel_rfl)) k1 bel lt1) trodAll_mk0)), rfl, bel.frame _, fun h => by cases h⟩

/-- The statement. -/
theorem slotNil_holds : Rows.SlotNilSaid :=
  OpenClaim.holds_of_wide 6 Try.f6 rfl rfl rfl rfl rfl rfl rfl ⟨rfl, rfl, rfl, rfl, rfl⟩ rfl rfl rfl rfl rfl (by kernel_rfl) Try.func6 (by kernel_rfl)
    (of_decide_eq_true (by kernel_rfl)) (by unfold Func.isWrapper; first | (rw [if_pos (by decide +kernel)]; kernel_rfl) | (rw [if_neg (by decide +kernel)]; exact ⟨rfl, rfl⟩))
    (fun os started H enc _ => slotNil_lifted os started H enc)
#print axioms slotNil_holds
end Go.Proofs.Ytomhofppcogojaa
