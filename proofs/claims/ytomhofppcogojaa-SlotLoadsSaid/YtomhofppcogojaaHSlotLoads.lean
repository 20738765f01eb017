/- What it says: 'Rows.SlotLoadsSaid': for every input trothlaw11.SlotLoads answers true, and what came in reads behind the call as before. No condition. -/
import Derived.Test.YtomhofppcogojaaPs7
import Derived.Test.YtomhofppcogojaaPs9
import Derived.LoopTactic

set_option linter.unusedSimpArgs false
set_option linter.unusedVariables false
set_option linter.deprecated false
set_option linter.unusedSectionVars false
set_option linter.all false

/- the walk of the law SlotLoads: whatever comes in, it answers true and turns nothing that was there. -/
namespace Go.Proofs.Ytomhofppcogojaa
open Go.RowKit

/-- Two sectors that are written. -/
theorem two_six {a b : List Int} (ha : Sec a) (hb : Sec b) : (St.new 6).wErr 4 a = 0 ∧ ((St.new 6).write 4 a).wErr 5 b = 0 ∧ ((St.new 6).write 4 a).pend.length = 1 ∧ ldV (((St.new 6).write 4 a).write 5 b).rErr (((St.new 6).write 4 a).write 5 b).rBytes 2 1 = loadV a b ∧ ldE (((St.new 6).write 4 a).write 5 b).rErr 2 1 = 0 := by
  have e1 : (St.new 6).write 4 a = (St.new 6).wrote 4 a := by
    unfold St.write
    rw [if_neg (by decide), if_neg (by rw [ha.1]; decide), if_pos (by rfl)]
    rfl
  have e2 : ((St.new 6).write 4 a).write 5 b = ((St.new 6).wrote 4 a).wrote 5 b := by
    rw [e1]
    unfold St.write
    rw [if_neg (by show ¬ ((5 : Int) < 0 ∨ ((6 : Nat) : Int) ≤ 5); decide), if_neg (by rw [hb.1]; decide), if_pos (by rfl)]
    rfl
  have n0 : (((St.new 6).wrote 4 a).wrote 5 b).now = upd (upd (St.new 6).now 4 a) 5 b := by rw [wrote_now, wrote_now]
  have r0 : (((St.new 6).wrote 4 a).wrote 5 b).rErr (2 + 2 * 1) = 0 := rfl
  have r1 : (((St.new 6).wrote 4 a).wrote 5 b).rErr (2 + 2 * 1 + 1) = 0 := rfl
  have b0 : (((St.new 6).wrote 4 a).wrote 5 b).rBytes (2 + 2 * 1) = a := by
    unfold St.rBytes
    rw [if_pos r0, n0]
    rfl
  have b1 : (((St.new 6).wrote 4 a).wrote 5 b).rBytes (2 + 2 * 1 + 1) = b := by
    unfold St.rBytes
    rw [if_pos r1, n0]
    rfl
  have le : ldE (((St.new 6).wrote 4 a).wrote 5 b).rErr 2 1 = 0 := by
    unfold ldE
    rw [if_pos (by omega), r0, if_neg (by simp), r1]
  refine ⟨?_, ?_, ?_, ?_, ?_⟩
  · unfold St.wErr
    rw [if_neg (by decide), if_neg (by rw [ha.1]; decide), if_pos (by rfl)]
  · rw [e1]
    unfold St.wErr
    rw [if_neg (by show ¬ ((5 : Int) < 0 ∨ ((6 : Nat) : Int) ≤ 5); decide), if_neg (by rw [hb.1]; decide), if_pos (by rfl)]
  · rw [e1]; rfl
  · rw [e2]
    unfold ldV
    rw [le, if_neg (by simp), b0, b1]
  · rw [e2]; exact le

set_option maxRecDepth 100000 in
set_option maxHeartbeats 16000000 in
theorem slotLoads_walk (A1 : Option Addr) (n1 c1 : Nat) (l1 : List Int) (A2 : Option Addr) (n2 c2 : Nat) (l2 : List Int) (w : World) (h1 : Byt w A1 n1 c1 l1) (_z1 : n1 ≤ 140737488351232) (h2 : Byt w A2 n2 c2 l2) (_z2 : n2 ≤ 140737488351232) :
    Calls Try.prog 4 #[.slice A1 n1 c1, .slice A2 n2 c2] w (Ret (.bool true) w) := by
  have hc1 := h1.cap
  have hm1 := h1.max
  have hc2 := h2.cap
  have hm2 := h2.max
  unfold maxLen at hm1 hm2
  by_cases g1 : 256 < n1
  · clear h1 h2
    go_enter Try.func4, Try.ntmps4
    go_wp2_with fail
    refine (awake11_any _).mono ?_
    rintro e w1 ⟨rfl, b1⟩
    have B1 := Lib.hid b1
    clear b1
    go_wp2_with fail
    go_ret
    exact ⟨rfl, B1.out⟩
  by_cases g2 : 256 < n2
  · clear h1 h2
    go_enter Try.func4, Try.ntmps4
    go_wp2_with fail
    refine (awake11_any _).mono ?_
    rintro e w1 ⟨rfl, b1⟩
    have B1 := Lib.hid b1
    clear b1
    go_wp2_with fail
    go_ret
    exact ⟨rfl, B1.out⟩
  obtain ⟨i0, hi, hz0, hz1, hz2⟩ := info_parts info_u8
  have hown0 := World.ownsRow_made (base := w.heap.size) (e := 5) (size := 1) w #[] 0 (Nat.le_refl _) (Nat.zero_le _) rfl
  have H1 := Lib.hid h1
  have H2 := Lib.hid h2
  have HL1 := Lib.hid h1.len
  have HL2 := Lib.hid h2.len
  clear h1 h2
  go_enter Try.func4, Try.ntmps4
  go_wp2_with (at_builtin; refine wpList_append_byt rfl _ _ 35 rfl w.heap.size 5 i0 Try.underlying35 hi hz0 hz1 hz2 _ 0 [] rfl (by exact hown0) A1 n1 c1 l1 rfl (H1.out.alloc _) (by omega) (by simp) ?_)
  intro Aa ca W1 q1 q2
  have O1 : Hid (W1.ownsRow w.heap.size 5 1 (.slice Aa n1 ca) n1 ((filL l1 n1).map (Value.int .u8))) := Lib.hid (by
    have e : filL l1 n1 = l1 := by rw [← HL1.out]; exact filL_start l1
    rw [e]
    simpa using q1)
  have B1 : Hid (Below w.heap.size w W1) := Lib.hid (((Below.refl _ _).alloc (Nat.le_refl _) _).grown q2 (by simp) (by intro k hk; simp [Value.ownBlock] at hk; omega))
  have Y2 := Lib.hid (H2.out.below B1.out)
  have hown1 := World.ownsRow_made (base := W1.heap.size) (e := 5) (size := 1) W1 #[] 0 (Nat.le_refl _) (Nat.zero_le _) rfl
  (try rw [Nat.zero_add])
  clear q1 q2 hown0
  go_wp2_with (at_builtin; refine wpList_append_byt rfl _ _ 35 rfl W1.heap.size 5 i0 Try.underlying35 hi hz0 hz1 hz2 _ 0 [] rfl (by exact hown1) A2 n2 c2 l2 rfl (Y2.out.alloc _) (by omega) (by simp) ?_)
  intro Ab cb W2 q1 q2
  have R2 : Hid (Rws2 w W2 (.slice Aa n1 ca) n1 (filL l1 n1) (.slice Ab n2 cb) n2 (filL l2 n2)) := Lib.hid (by
    have e : filL l2 n2 = l2 := by rw [← HL2.out]; exact filL_start l2
    have q3 : W2.ownsRow W1.heap.size 5 1 (.slice Ab n2 cb) n2 ((filL l2 n2).map (Value.int .u8)) := by rw [e]; simpa using q1
    have b12 : Below W1.heap.size W1 W2 := ((Below.refl _ _).alloc (Nat.le_refl _) _).grown q2 (by simp) (by intro k hk; simp [Value.ownBlock] at hk; omega)
    refine ⟨owns_keep O1.out (fun q hq => b12.block q (O1.out.lt q hq).2), owns_low q3 B1.out.size, fun q e f => ?_, B1.out.trans (b12.mono B1.out.size)⟩
    have := (O1.out.lt q e).2
    have := (q3.lt q f).1
    omega)
  (try rw [Nat.zero_add])
  clear q1 q2 hown1 Y2 B1 O1
  go_wp2_with fail
  go_loopw [5] (fun v wr => ∃ (B : Option Addr) (k d : Nat), n1 ≤ k ∧ k ≤ 256 ∧ v = .slice B k d ∧ Rws2 w wr (.slice B k d) k (filL l1 k) (.slice Ab n2 cb) n2 (filL l2 n2)) (fun v _ => 256 - (match v with | .slice _ k _ => k | _ => 0))
  case atStart => exact ⟨Aa, n1, ca, Nat.le_refl _, by omega, rfl, R2.out⟩
  case round =>
    obtain ⟨B, k, d, hk1, hk2, rfl, hr⟩ := hrel
    have HR := Lib.hid hr
    have HK1 := Lib.hid hk1
    clear hr hk1
    by_cases hlt : k < 256
    · have ho2 := HR.out.one.alloc (.cells #[.int .u8 0] 5)
      have hb2 := byt1b wr 0 (by omega)
      go_wp2_with (at_builtin; refine wpList_append_at rfl _ _ 35 rfl w.heap.size 5 i0 Try.underlying35 hi hz0 hz1 hz2 _ k (filL l1 k) rfl (by exact ho2) _ 1 1 [0] rfl (by exact hb2) (by omega) (by have := HR.out.bel.size; simp; omega) ?_)
      intro A3 c3 W3 q1 q2 q3
      have R3 : Hid (Rws2 w W3 (.slice A3 (k + 1) c3) (k + 1) (filL l1 (k + 1)) (.slice Ab n2 cb) n2 (filL l2 n2)) := Lib.hid (by
        have q4 : W3.ownsRow w.heap.size 5 1 (.slice A3 (k + 1) c3) (k + 1) ((filL l1 (k + 1)).map (Value.int .u8)) := by
          rw [← filL_next (by have := HK1.out; have := HL1.out; omega), List.map_append]; exact q1
        exact (HR.out.alloc _).app q4 q2 (by rw [World.size_alloc]; exact q3))
      clear q1 q2 q3 ho2 hb2
      go_wp2_with fail
      go_roundw
      case rel => exact ⟨A3, k + 1, c3, by have := HK1.out; omega, by omega, rfl, R3.out⟩
      case measure => simp; omega
    · obtain rfl : k = 256 := by omega
      clear hlt R2 HK1
      go_wp2_with fail
      go_loopw [6] (fun v wr => ∃ (C : Option Addr) (j f : Nat), n2 ≤ j ∧ j ≤ 256 ∧ v = .slice C j f ∧ Rws2 w wr (.slice C j f) j (filL l2 j) (.slice B 256 d) 256 (filL l1 256)) (fun v _ => 256 - (match v with | .slice _ k _ => k | _ => 0))
      case atStart => exact ⟨Ab, n2, cb, Nat.le_refl _, by omega, rfl, HR.out.swap⟩
      case round =>
        obtain ⟨C, j, f, hj1, hj2, rfl, hr⟩ := hrel
        have HR' := Lib.hid hr
        have HJ1 := Lib.hid hj1
        clear hr hj1
        by_cases hlt : j < 256
        · have ho2 := HR'.out.one.alloc (.cells #[.int .u8 0] 5)
          have hb2 := byt1b wr 0 (by omega)
          go_wp2_with (at_builtin; refine wpList_append_at rfl _ _ 35 rfl w.heap.size 5 i0 Try.underlying35 hi hz0 hz1 hz2 _ j (filL l2 j) rfl (by exact ho2) _ 1 1 [0] rfl (by exact hb2) (by omega) (by have := HR'.out.bel.size; simp; omega) ?_)
          intro A3 c3 W3 q1 q2 q3
          have R3 : Hid (Rws2 w W3 (.slice A3 (j + 1) c3) (j + 1) (filL l2 (j + 1)) (.slice B 256 d) 256 (filL l1 256)) := Lib.hid (by
            have q4 : W3.ownsRow w.heap.size 5 1 (.slice A3 (j + 1) c3) (j + 1) ((filL l2 (j + 1)).map (Value.int .u8)) := by
              rw [← filL_next (by have := HJ1.out; have := HL2.out; omega), List.map_append]; exact q1
            exact (HR'.out.alloc _).app q4 q2 (by rw [World.size_alloc]; exact q3))
          clear q1 q2 q3 ho2 hb2
          go_wp2_with fail
          go_roundw
          case rel => exact ⟨A3, j + 1, c3, by have := HJ1.out; omega, by omega, rfl, R3.out⟩
          case measure => simp; omega
        · obtain rfl : j = 256 := by omega
          have HA : Hid (Byt wr B 256 d (filL l1 256)) := Lib.hid (Byt.of_own HR'.out.two (filL_rng H1.out.rng _))
          have HB : Hid (Byt wr C 256 f (filL l2 256)) := Lib.hid (Byt.of_own HR'.out.one (filL_rng H2.out.rng _))
          have HAL : Hid (∀ q, (Value.slice B 256 d).ownBlock = some q → q < wr.heap.size) := Lib.hid (fun q hq => (HR'.out.two.lt q hq).2)
          have HBL : Hid (∀ q, (Value.slice C 256 f).ownBlock = some q → q < wr.heap.size) := Lib.hid (fun q hq => (HR'.out.one.lt q hq).2)
          have SA : Hid (Sec (filL l1 256)) := Lib.hid (filL_sec H1.out.rng (by rw [HL1.out]; omega))
          have SB : Hid (Sec (filL l2 256)) := Lib.hid (filL_sec H2.out.rng (by rw [HL2.out]; omega))
          have BW : Hid (Below w.heap.size w wr) := Lib.hid HR'.out.bel
          have TW := Lib.hid (two_six SA.out SB.out)
          obtain ⟨a, hva⟩ : ∃ a, filL l1 256 = a := ⟨_, rfl⟩
          obtain ⟨b, hvb⟩ : ∃ b, filL l2 256 = b := ⟨_, rfl⟩
          rw [hva] at HA SA TW
          rw [hvb] at HB SB TW
          have CN := Lib.hid (hasD_new (Has.emp wr.heap.size wr) (Nat.le_refl wr.heap.size) 6 (by omega))
          clear HR HR' HJ1 hlt hva hvb H1 H2 HL1 HL2
          go_wp2_with fail
          refine CN.out.mono ?_
          rintro e w1 ⟨dd, rfl, h1, b1⟩
          have E1 : Hid (Below wr.heap.size wr w1) := Lib.hid b1
          have CW := hasD_writeO h1 (Below.refl _ _) b1.size (HA.out.below b1) (fun q hq => .inr (HAL.out q hq)) 4 (by omega) (Nat.zero_lt_succ _)
          rw [TW.out.1] at CW
          have CW := Lib.hid CW
          clear h1 b1 CN
          go_wp2_with fail
          refine CW.out.mono ?_
          rintro e w2 ⟨rfl, h2, b2⟩
          have E2 : Hid (Below wr.heap.size wr w2) := Lib.hid (E1.out.trans b2)
          have CV := hasD_writeO h2 (Below.refl _ _) E2.out.size (HB.out.below E2.out) (fun q hq => .inr (HBL.out q hq)) 5 (by omega) (by rw [TW.out.2.2.1]; omega)
          rw [TW.out.2.1] at CV
          have CV := Lib.hid CV
          clear h2 b2 CW E1
          go_wp2_with fail
          refine CV.out.mono ?_
          rintro e w3 ⟨rfl, h3, b3⟩
          have E3 : Hid (Below wr.heap.size wr w3) := Lib.hid (E2.out.trans b3)
          have CL := slLoad_any h3 2 1
          obtain ⟨⟨vt, ⟨vl, vc⟩⟩, hm⟩ : ∃ m, loadV a b = m := ⟨_, rfl⟩
          rw [TW.out.2.2.2.1, TW.out.2.2.2.2, hm] at CL
          have CL := Lib.hid CL
          have HM := Lib.hid hm
          clear h3 b3 CV E2 hm
          go_wp2_with fail
          refine CL.out.mono ?_
          rintro e w4 ⟨A4, m4, c4, rfl, ho, b4⟩
          have ho := ho.pcs
          simp only at ho
          have HO4 := Lib.hid ho
          go_upto_region 12 with fail
          obtain ⟨p, hp⟩ : ∃ p, w4.heap.size = p := ⟨_, rfl⟩
          obtain ⟨W4, hW4⟩ : ∃ W4, W4 = w4.alloc (.cells #[.int .i64 vl, .slice A4 m4 c4] 24) := ⟨_, rfl⟩
          have hal : Below w4.heap.size w4 W4 := by rw [hW4]; exact (Below.refl _ _).alloc (Nat.le_refl _) _
          have N4 : Hid (Bk W4 p 24 #[.int .i64 vl, .slice A4 m4 c4]) := Lib.hid (by rw [hW4, ← hp]; exact Bk.new _ _ _)
          have E4 : Hid (Below wr.heap.size wr W4) := Lib.hid (E3.out.trans ((Below.then b4 hal).mono E3.out.size))
          have O4 := Lib.hid (HO4.out.below hal)
          have CR := refLoad11_any B 256 d a C 256 f b W4 (HA.out.below E4.out) (HB.out.below E4.out)
          rw [HM.out] at CR
          have CR := Lib.hid CR
          rw [← hW4]
          (try rw [hp])
          clear ho b4 CL hW4 hp E3 hal HO4
          go_wp2_with fail
          refine CR.out.mono ?_
          rintro e w5 ⟨A5, m5, c5, rfl, ho, b5⟩
          have ho := ho.pcs
          simp only at ho
          have HO5 := Lib.hid ho
          go_upto_region 13 with fail
          obtain ⟨q, hq⟩ : ∃ p, w5.heap.size = p := ⟨_, rfl⟩
          obtain ⟨W5, hW5⟩ : ∃ W5, W5 = w5.alloc (.cells #[.int .i64 vl, .slice A5 m5 c5] 24) := ⟨_, rfl⟩
          have bb5 : Below w5.heap.size w5 W5 := by rw [hW5]; exact (Below.refl _ _).alloc (Nat.le_refl _) _
          have M5 : Hid (Bk W5 q 24 #[.int .i64 vl, .slice A5 m5 c5]) := Lib.hid (by rw [hW5, ← hq]; exact Bk.new _ _ _)
          have b45 := Below.then b5 bb5
          have N5 := Lib.hid (N4.out.bel b45 N4.out.lt)
          have O5 := Lib.hid (O4.out.below b45)
          have Q5 := Lib.hid (HO5.out.below bb5)
          have E5 : Hid (Below w.heap.size w W5) := Lib.hid (BW.out.trans ((E4.out.trans (b45.mono E4.out.size)).mono BW.out.size))
          rw [← hW5]
          (try rw [hq])
          clear ho b5 bb5 b45 CR hW5 hq N4 E4 O4 HO5
          have p0 : W5.cell? ⟨p, 0, none⟩ = some (.int .i64 vl) := N5.out.cell 0
          have p1 : W5.cell? ⟨p, 1, none⟩ = some (.slice A4 m4 c4) := N5.out.cell 1
          have q0 : W5.cell? ⟨q, 0, none⟩ = some (.int .i64 vl) := M5.out.cell 0
          have q1 : W5.cell? ⟨q, 1, none⟩ = some (.slice A5 m5 c5) := M5.out.cell 1
          have CS := Lib.hid (samePg_yes vl A4 m4 c4 A5 m5 c5 vc W5 O5.out Q5.out)
          go_wp2_with fail
          refine CS.out.mono ?_
          rintro e w6 ⟨rfl, b6⟩
          have B6 := Lib.hid (Below.then E5.out b6)
          clear b6 CS p0 p1 q0 q1
          go_wp2_with fail
          refine (awake11_any _).mono ?_
          rintro e w7 ⟨rfl, b7⟩
          have B7 := Lib.hid (Below.then B6.out b7)
          clear b7
          go_wp2_with fail
          go_ret
          exact ⟨rfl, B7.out⟩
end Go.Proofs.Ytomhofppcogojaa

/- 'Rows.SlotLoadsSaid': for every input trothlaw11.SlotLoads answers true, and what came in reads behind the call as before. No condition. -/
namespace Go.Proofs.Ytomhofppcogojaa
open Go.ChangeShapes Go.WideShapes Go.ChangeAt Go.RowKit

set_option maxRecDepth 100000 in
theorem slotLoads_lifted (os : Os) (started : os.Started) (H : Type) (enc : TypeId × Value → H) :
    ReturnsInHanded {} Try.checked os 4 .any (Rows.slotLoadsSpec.pre6 enc Try.prog Try.f4 Rows.slotLoadsRow.domain false) (Rows.slotLoadsSpec.post enc Try.prog Try.f4 false true false false) := by
  refine returnsInHanded_of_change_sized (C := Try.checked) own_knob started (by kernel_rfl) Try.func4
    (ChangeSpec.witness6 (enc := enc) (C := Try.checked) false ⟨#[], #[.slice none 0 0, .slice none 0 0], []⟩ 8 (by kernel_rfl) (by kernel_rfl) (by kernel_rfl) (by kernel_rfl)) ?_
  intro W base args ds gs before hval0 hW _ hsz0 _
  have hsz : (DataW.weightsEach Try.prog (Try.f4.params.toList ++ Rows.slotLoadsSpec.plain.varTypes Try.prog) (ds ++ gs)).all (· ≤ reachBytes) = true := hsz0
  have hval : ∀ (j : Nat) t v, Try.f4.params[j]? = some t → args[j]? = some v → Value.okWide Try.prog W .any base t v := hval0
  have hW' := hW
  obtain ⟨p, q, hA0, hV, rfl, hfz, hnd⟩ := hW
  have hA : DataW.TrodAll enc Try.prog W 0 (fun _ => true) true Try.f4.params.toList args.toList ds p := hA0
  rw [Try.params4] at hA hval hsz
  obtain ⟨v0, vs0, d0, ds0, p0, q0, hargs, rfl, rfl, h0, r0⟩ := trodAll_cons hA
  obtain ⟨v1, vs1, d1, ds1, p1, q1, rfl, rfl, rfl, h1, r1⟩ := trodAll_cons r0
  obtain ⟨rfl, rfl, rfl⟩ := trodAll_nil r1
  obtain rfl : args = #[v0, v1] := by cases args; simp_all
  obtain ⟨rfl, rfl⟩ := trodVars_none hV
  obtain ⟨a0, n0, c0, rfl⟩ := okWide_slice Try.underlying35 (hval 0 35 v0 rfl rfl)
  have k0 := h0
  have lt0 : ∀ x ∈ p0, x.block < W.heap.size := by obtain ⟨m, hm⟩ := k0; exact DataW.trod_lt m _ _ _ hm
  obtain ⟨l0, b0, e0⟩ := open_bytes h0
  have z0 : n0 ≤ 140737488351232 := bytes_reach hsz (j := 0) rfl rfl e0
  obtain ⟨a1, n1, c1, rfl⟩ := okWide_slice Try.underlying35 (hval 1 35 v1 rfl rfl)
  have k1 := h1
  have lt1 : ∀ x ∈ p1, x.block < W.heap.size := by obtain ⟨m, hm⟩ := k1; exact DataW.trod_lt m _ _ _ hm
  obtain ⟨l1, b1, e1⟩ := open_bytes h1
  have z1 : n1 ≤ 140737488351232 := bytes_reach hsz (j := 1) rfl rfl e1
  clear hA0 hval0 hsz0 hsz
  refine (slotLoads_walk a0 n0 c0 l0 a1 n1 c1 l1 W b0 z0 b1 z1).mono fun e W' ⟨he, bel⟩ => ?_
  subst he
  exact ⟨_, rfl, _, _, _, [], _, [], hW', trodAll_mk1 (shut_bool Try.underlying4 _), (trodAll_cons_mk (Below.trod laidOut (by kernel_rfl) (of_decide_eq_true (by kernel_rfl)) k0 bel lt0) (trodAll_cons_mk (Below.trod laidOut (by kernel_rfl) (of_decide_eq_true (by kernel_rfl)) k1 bel lt1) trodAll_mk0)), rfl, bel.frame _, fun h => by cases h⟩

/-- The statement. -/
theorem slotLoads_holds : Rows.SlotLoadsSaid :=
  OpenClaim.holds_of_wide 4 Try.f4 rfl rfl rfl rfl rfl rfl rfl ⟨rfl, rfl, rfl, rfl, rfl⟩ rfl rfl rfl rfl rfl (by kernel_rfl) Try.func4 (by kernel_rfl)
    (of_decide_eq_true (by kernel_rfl)) (by unfold Func.isWrapper; first | (rw [if_pos (by decide +kernel)]; kernel_rfl) | (rw [if_neg (by decide +kernel)]; exact ⟨rfl, rfl⟩))
    (fun os started H enc _ => slotLoads_lifted os started H enc)
#print axioms slotLoads_holds
end Go.Proofs.Ytomhofppcogojaa
