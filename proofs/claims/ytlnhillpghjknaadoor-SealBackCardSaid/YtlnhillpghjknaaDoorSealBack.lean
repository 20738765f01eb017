/- What it says: the Go text of trothlaw03.SealBack answers true, and writes nothing that was there. -/
import Derived.Test.YtlnhillpghjknaaDoorReadBack
import Derived.Test.YtlnhillpghjknaaDoorRefText
namespace Go.Proofs.YtlnhillpghjknaaDoor
open Go.RowKit

/-- The reader, and what was there. -/
def R1 (w : World) (b g : Nat) (l : List Int) (w1 : World) : Prop := Rd w1 72 b g l 0 ∧ Below w.heap.size w w1

theorem R1.drew {w w1 : World} {b g : Nat} {l : List Int} (h : R1 w b g l w1) : R1 w b g l w1.drew := by
  obtain ⟨A, n, c, h1, h2, h3⟩ := h.1.ex
  exact ⟨⟨h.1.ne, A, n, c, h1, h2.drew, h3⟩, Below.drew h.2⟩

theorem R1.step {w w0 w1 : World} {b g : Nat} {l l' : List Int} {V : Value} {en : Ending} (hb : w.heap.size ≤ b) (h : R1 w b g l w0) (p : RdPost 72 b g l' 0 V w0 en w1) : en = .returned V ∧ R1 w b g l' w1 :=
  ⟨p.1, p.2.1, h.2.grown p.2.2 h.2.size (fun k hk => by injection hk with hk; omega)⟩

theorem drop_pre (a b : List Int) : (a ++ b).drop a.length = b := by simp

set_option maxRecDepth 4000 in
set_option maxHeartbeats 8000000 in
theorem sealBack_main (A : Option Addr) (n c : Nat) (ps : List Prt) (A' : Option Addr) (n' c' : Nat) (lb : List Int) (w : World) (h : Prts w A n c ps) (h' : Byt w A' n' c' lb) (hl : longP ps = false) (hn' : n' ≤ 1000) (hT : Tab w) :
    Calls Tryd.prog 5 #[.slice A n c, .slice A' n' c'] w (Ret (.bool true) w) := by
  obtain ⟨i0, hi, hz0, hz1, hz2⟩ := info_parts info_u8
  have hlen := h.len
  have hcap := h.cap
  have hmax := h.max
  unfold maxLen at hmax
  obtain ⟨h60, h300⟩ := longP_no hl
  have hw0 : 0 < w.heap.size := by have := World.block_lt_of_cell? w _ (hT 0 (by omega)); omega
  have hrng := h.rng
  have CL := long_any A n c ps w h
  rw [hl] at CL
  have CL := Lib.hid CL
  have CW := Lib.hid (written_own A n c ps w h hl)
  have HLEN := Lib.hid (partsL_len ps (fun i hi => ⟨(hrng i (by omega)).2.1.2, h300 i hi⟩) ps.length (Nat.le_refl _))
  have hln' := h'.len
  have HP := Lib.hid h
  have HB := Lib.hid h'
  have HT := Lib.hid hT
  have HW := Lib.hid hw0
  have hn60 : (n : Int) ≤ 60 := by omega
  have H300 := Lib.hid h300
  have HRNG := Lib.hid hrng
  have z1 : ¬ (1000 : Int) < (n' : Int) := by omega
  clear h h' hl h300 hrng hT hw0
  go_enter Tryd.func5, Tryd.ntmps5
  go_wp2_with fail
  refine CL.out.mono ?_
  rintro e w0 ⟨rfl, rfl⟩
  go_wp2_with fail
  refine CW.out.mono ?_
  rintro e w1 ⟨A1, n1, c1, rfl, ho1, hr1, b1⟩
  have hn1 : n1 ≤ 18600 := by have := HLEN.out; rw [List.take_of_length_le (Nat.le_refl _)] at this; have h2 : (partsL ps).length = n1 := by simpa using ho1.1
                              omega
  have HBB := HB.out.below b1
  have hbs := b1.size
  have O1 := Lib.hid ho1
  have HR1 := Lib.hid hr1
  have B1 := Lib.hid b1
  clear ho1 hr1 b1 CW CL
  go_wp2_with (at_builtin; refine wpList_append_byt rfl _ _ 25 rfl w.heap.size 5 i0 Tryd.underlying25 hi hz0 hz1 hz2 _ n1 (partsL ps) rfl (by exact O1.out) A' n' c' lb rfl (by exact HBB) (by omega) hbs ?_)
  intro A2 c2 w2 h2 g2
  have hb2 := app_byt h2 HR1.out HB.out.rng
  have b2 := app_below B1.out O1.out g2
  have CR := Lib.hid (read_any A2 (n1 + n') c2 _ w2 hb2 (by omega) (Nat.lt_of_lt_of_le HW.out b2.size))
  have B2 := Lib.hid b2
  clear h2 g2 hb2 b2 HBB hbs O1 HR1 B1
  go_wp2_with fail
  refine CR.out.mono ?_
  rintro e w3 ⟨b, g, rfl, hb, hg, hR, b3⟩
  have HBL := Lib.hid (Nat.le_trans B2.out.size hb)
  have R0 := Lib.hid (show R1 w b g (partsL ps ++ lb) w3 from ⟨hR, Below.then B2.out b3⟩)
  clear hb hg hR b3 CR B2
  go_wp2_with fail
  go_loopw [6] (fun q wr => ∃ i : Nat, i ≤ n ∧ q = .int .i64 i ∧ R1 w b g (partsL (ps.drop i) ++ lb) wr) (fun q _ => n - (intOf q).toNat)
  case atStart => exact ⟨0, Nat.zero_le _, rfl, R0.out⟩
  case round =>
    obtain ⟨i, hin, rfl, hR⟩ := hrel
    have HR := Lib.hid hR
    clear hR
    by_cases hlt : i < n
    · obtain ⟨gp, op, rfl, hc⟩ := (HP.out.below HR.out.2).at_ (by omega)
      obtain ⟨gq, oq, eq0, hc0⟩ := HP.out.at_ (by omega)
      injection eq0 with eq0
      injection eq0 with eq1 eq2
      subst eq1 eq2
      obtain ⟨x0, _, _⟩ := hc i hlt
      obtain ⟨_, y1, y2⟩ := hc0 i hlt
      have hgp : gp < w.heap.size := World.block_lt_of_cell? w _ y1
      have GP := Lib.hid hgp
      have hr := HRNG.out i hlt
      have h3 := H300.out i (by omega)
      have hnx := partsL_drop ps i (by omega)
      obtain ⟨⟨k, z, s⟩, ex⟩ : ∃ x, ps.getD i prt0 = x := ⟨_, rfl⟩
      rw [ex] at x0 y1 y2 hr h3 hnx
      simp only at x0 y1 y2 hr h3
      obtain ⟨_, hz, _⟩ := hr
      have HZ := Lib.hid hz
      have HY1 := Lib.hid y1
      have HY2 := Lib.hid y2
      have HR' := HR.out
      rw [hnx, List.append_assoc] at HR'
      obtain ⟨rest, erest⟩ : ∃ rest, partsL (ps.drop (i + 1)) ++ lb = rest := ⟨_, rfl⟩
      rw [erest] at HR'
      have ER := Lib.hid erest
      clear hc hc0 ex hnx hgp y1 y2 erest
      by_cases hk0 : k = 0
      · subst hk0
        by_cases hneg : z < 0
        · rw [show partL (0, z, s) = numL z from rfl] at HR'
          have HRD := Lib.hid HR'.drew
          have C := Lib.hid ((by have := rNum_any b g _ 0 9223372036854775807 wr.drew HRD.out.1 (by omega) _ _ _ (back_num z HZ.out rest); rw [stepV_ok, stepE_0, stepL_ok, drop_pre, show (max z 0).toNat = 0 from by omega] at this; exact this : Calls Tryd.prog 19 #[.pointer (some ⟨b, 0, none⟩), .int .i64 9223372036854775807] wr.drew (RdPost 72 b g rest 0 (.int .i64 (0 : Nat)) wr.drew)))
          have S0 : Hid (wr.drew.cell? ⟨gp, op + i * 3 + 1, none⟩ = some (.int .i64 z)) := Lib.hid ((HRD.out.2.cell (p := ⟨gp, op + i * 3 + 1, none⟩) GP.out).trans HY1.out)
          clear HR'
          go_wp2_with fail
          go_region_held3 (fun w' => w'.cell? ⟨gp, op + i * 3 + 1, none⟩ = some (.int .i64 z)) (first | exact S0.out | exact (q1.2.cell (p := ⟨gp, op + i * 3 + 1, none⟩) GP.out).trans HY1.out) (first | (go_at_call 19; refine C.out.mono ?_; intro e w5 p1; obtain ⟨rfl, q1⟩ := HRD.out.step HBL.out p1))
          all_goals rw [← ER.out] at q1
          all_goals (have RES := Lib.hid q1; clear p1 q1; go_wp2_with fail)
          all_goals
            refine ⟨⟨i + 1, by omega, rfl, RES.out⟩, ?_⟩
            simp [intOf]; omega
        · obtain ⟨y, rfl⟩ := Int.eq_ofNat_of_zero_le (Int.not_lt.1 hneg)
          have hy0 : ¬ (y : Int) < 0 := hneg
          clear hneg
          rw [show partL (0, (y : Int), s) = numL (y : Int) from rfl] at HR'
          have HRD := Lib.hid HR'.drew
          have C := Lib.hid ((by have := rNum_any b g _ 0 9223372036854775807 wr.drew HRD.out.1 (by omega) _ _ _ (back_num (y : Int) HZ.out rest); rw [stepV_ok, stepE_0, stepL_ok, drop_pre, show (max (y : Int) 0).toNat = y from by omega] at this; exact this : Calls Tryd.prog 19 #[.pointer (some ⟨b, 0, none⟩), .int .i64 9223372036854775807] wr.drew (RdPost 72 b g rest 0 (.int .i64 y) wr.drew)))
          have S0 : Hid (wr.drew.cell? ⟨gp, op + i * 3 + 1, none⟩ = some (.int .i64 (y : Int))) := Lib.hid ((HRD.out.2.cell (p := ⟨gp, op + i * 3 + 1, none⟩) GP.out).trans HY1.out)
          clear HR'
          go_wp2_with fail
          go_region_held3 (fun w' => w'.cell? ⟨gp, op + i * 3 + 1, none⟩ = some (.int .i64 (y : Int))) (first | exact S0.out | exact (q1.2.cell (p := ⟨gp, op + i * 3 + 1, none⟩) GP.out).trans HY1.out) (first | (go_at_call 19; refine C.out.mono ?_; intro e w5 p1; obtain ⟨rfl, q1⟩ := HRD.out.step HBL.out p1))
          all_goals rw [← ER.out] at q1
          all_goals (have RES := Lib.hid q1; clear p1 q1; go_wp2_with fail)
          all_goals
            refine ⟨⟨i + 1, by omega, rfl, RES.out⟩, ?_⟩
            simp [intOf]; omega
      · by_cases hk1 : k = 1
        · subst hk1
          rw [show partL (1, z, s) = [z % 256] from rfl] at HR'
          have HRD := Lib.hid HR'.drew
          have C := Lib.hid ((by have := rByte_any b g _ 0 wr.drew HRD.out.1; rw [back_byte] at this; simp only [stepV_ok, stepE_0, stepL_ok] at this; exact this : Calls Tryd.prog 21 #[.pointer (some ⟨b, 0, none⟩)] wr.drew (RdPost 72 b g rest 0 (.int .u8 (z % 256)) wr.drew)))
          have S0 : Hid (wr.drew.cell? ⟨gp, op + i * 3 + 1, none⟩ = some (.int .i64 z)) := Lib.hid ((HRD.out.2.cell (p := ⟨gp, op + i * 3 + 1, none⟩) GP.out).trans HY1.out)
          clear HR'
          go_wp2_with fail
          go_region_held3 (fun w' => w'.cell? ⟨gp, op + i * 3 + 1, none⟩ = some (.int .i64 z)) (first | exact S0.out | exact (q1.2.cell (p := ⟨gp, op + i * 3 + 1, none⟩) GP.out).trans HY1.out) (first | (go_at_call 21; refine C.out.mono ?_; intro e w5 p1; obtain ⟨rfl, q1⟩ := HRD.out.step HBL.out p1))
          all_goals rw [← ER.out] at q1
          all_goals (have RES := Lib.hid q1; clear p1 q1; go_wp2_with fail)
          all_goals first | (refine ⟨⟨i + 1, by omega, rfl, RES.out⟩, ?_⟩; simp [intOf]; omega) | (exfalso; rename_i hx; simp at hx)
        · by_cases hk2 : k = 2
          · subst hk2
            by_cases hpos : 0 < z
            · rw [show partL (2, z, s) = flagL true from by simp [partL, hpos]] at HR'
              have HRD := Lib.hid HR'.drew
              have C := Lib.hid ((by have := rFlag_any b g _ 0 wr.drew HRD.out.1; rw [back_flag] at this; simp only [stepV_ok, stepE_0, stepL_ok] at this; exact this : Calls Tryd.prog 23 #[.pointer (some ⟨b, 0, none⟩)] wr.drew (RdPost 72 b g rest 0 (.bool true) wr.drew)))
              have S0 : Hid (wr.drew.cell? ⟨gp, op + i * 3 + 1, none⟩ = some (.int .i64 z)) := Lib.hid ((HRD.out.2.cell (p := ⟨gp, op + i * 3 + 1, none⟩) GP.out).trans HY1.out)
              clear HR'
              go_wp2_with fail
              go_region_held3 (fun w' => w'.cell? ⟨gp, op + i * 3 + 1, none⟩ = some (.int .i64 z)) (first | exact S0.out | exact (q1.2.cell (p := ⟨gp, op + i * 3 + 1, none⟩) GP.out).trans HY1.out) (first | (go_at_call 23; refine C.out.mono ?_; intro e w5 p1; obtain ⟨rfl, q1⟩ := HRD.out.step HBL.out p1))
              all_goals rw [← ER.out] at q1
              all_goals (have RES := Lib.hid q1; clear p1 q1; go_wp2_with fail)
              all_goals
                refine ⟨⟨i + 1, by omega, rfl, RES.out⟩, ?_⟩
                simp [intOf]; omega
            · rw [show partL (2, z, s) = flagL false from by simp [partL, hpos]] at HR'
              have HRD := Lib.hid HR'.drew
              have C := Lib.hid ((by have := rFlag_any b g _ 0 wr.drew HRD.out.1; rw [back_flag] at this; simp only [stepV_ok, stepE_0, stepL_ok] at this; exact this : Calls Tryd.prog 23 #[.pointer (some ⟨b, 0, none⟩)] wr.drew (RdPost 72 b g rest 0 (.bool false) wr.drew)))
              have S0 : Hid (wr.drew.cell? ⟨gp, op + i * 3 + 1, none⟩ = some (.int .i64 z)) := Lib.hid ((HRD.out.2.cell (p := ⟨gp, op + i * 3 + 1, none⟩) GP.out).trans HY1.out)
              clear HR'
              go_wp2_with fail
              go_region_held3 (fun w' => w'.cell? ⟨gp, op + i * 3 + 1, none⟩ = some (.int .i64 z)) (first | exact S0.out | exact (q1.2.cell (p := ⟨gp, op + i * 3 + 1, none⟩) GP.out).trans HY1.out) (first | (go_at_call 23; refine C.out.mono ?_; intro e w5 p1; obtain ⟨rfl, q1⟩ := HRD.out.step HBL.out p1))
              all_goals rw [← ER.out] at q1
              all_goals (have RES := Lib.hid q1; clear p1 q1; go_wp2_with fail)
              all_goals
                refine ⟨⟨i + 1, by omega, rfl, RES.out⟩, ?_⟩
                simp [intOf]; omega
          · have q0 : (k == 0) = false := by simp; exact hk0
            have q1' : (k == 1) = false := by simp; exact hk1
            have q2 : (k == 2) = false := by simp; exact hk2
            have hpl : partL (k, z, s) = textL (nums s) := by unfold partL; rw [if_neg hk0, if_neg hk1, if_neg hk2]
            clear hk0 hk1 hk2
            rw [show partL (k, z, s) = textL (nums s) from hpl] at HR'
            have HRD := Lib.hid HR'.drew
            have C := Lib.hid ((by have := rText_any b g _ 0 300 wr.drew HRD.out.1 (by omega) _ _ _ (back_text (nums s) rest (by rw [nums_len]; omega)); rw [stepV_ok, stepE_0, stepL_ok, drop_pre, str_nums] at this; exact this : Calls Tryd.prog 25 #[.pointer (some ⟨b, 0, none⟩), .int .i64 300] wr.drew (RdPost 72 b g rest 0 (.string s) wr.drew)))
            have S0 : Hid (wr.drew.cell? ⟨gp, op + i * 3 + 2, none⟩ = some (.string s)) := Lib.hid ((HRD.out.2.cell (p := ⟨gp, op + i * 3 + 2, none⟩) GP.out).trans HY2.out)
            clear HR'
            go_wp2_with fail
            go_region_held3 (fun w' => w'.cell? ⟨gp, op + i * 3 + 2, none⟩ = some (.string s)) (first | exact S0.out | exact (q1.2.cell (p := ⟨gp, op + i * 3 + 2, none⟩) GP.out).trans HY2.out) (first | (go_at_call 25; refine C.out.mono ?_; intro e w5 p1; obtain ⟨rfl, q1⟩ := HRD.out.step HBL.out p1))
            all_goals rw [← ER.out] at q1
            all_goals (have RES := Lib.hid q1; clear p1 q1; go_wp2_with fail)
            all_goals
              refine ⟨⟨i + 1, by omega, rfl, RES.out⟩, ?_⟩
              simp [intOf]; omega
    · have hin' : i = n := by omega
      have hall : partsL (ps.drop i) ++ lb = lb := by rw [List.drop_of_length_le (by omega)]; rfl
      have HR' := HR.out
      rw [hall] at HR'
      have L9 := Lib.hid HR'.2
      have CE := Lib.hid (rErr_any b g lb 0 wr HR'.1)
      have CF := rLeft_any b g lb 0 wr HR'.1
      rw [hln'] at CF
      have CF := Lib.hid CF
      clear hin' hall HR'
      go_wp2_with fail
      refine CE.out.mono ?_
      rintro e w6 ⟨rfl, rfl⟩
      go_wp2_with fail
      refine CF.out.mono ?_
      rintro e w7 ⟨rfl, rfl⟩
      go_wp2_with fail
      refine (awake_any _ (HT.out.ret L9.out)).mono ?_
      rintro e w9 ⟨rfl, b9⟩
      have L10 := Lib.hid (Below.then L9.out b9)
      clear b9
      go_wp2
      go_ret
      exact ⟨rfl, L10.out⟩

set_option maxHeartbeats 2000000 in
theorem sealBack_walk (A : Option Addr) (n c : Nat) (ps : List Prt) (A' : Option Addr) (n' c' : Nat) (lb : List Int) (w : World) (h : Prts w A n c ps) (h' : Byt w A' n' c' lb) (_hk : n' ≤ 140737488351232) (hT : Tab w) :
    Calls Tryd.prog 5 #[.slice A n c, .slice A' n' c'] w (Ret (.bool true) w) := by
  cases hl : longP ps with
  | false =>
    by_cases hn' : n' ≤ 1000
    · exact sealBack_main A n c ps A' n' c' lb w h h' hl hn' hT
    · have CL := long_any A n c ps w h
      rw [hl] at CL
      have CL := Lib.hid CL
      have HT := Lib.hid hT
      have z1 : (1000 : Int) < (n' : Int) := by omega
      clear h h' hl hT hn'
      go_enter Tryd.func5, Tryd.ntmps5
      go_wp2_with fail
      refine CL.out.mono ?_
      rintro e w0 ⟨rfl, rfl⟩
      go_wp2_with fail
      refine (awake_any _ HT.out).mono ?_
      rintro e w4 ⟨rfl, b4⟩
      have L4 := Lib.hid b4
      clear b4
      go_wp2
      go_ret
      exact ⟨rfl, L4.out⟩
  | true =>
    have CL := long_any A n c ps w h
    rw [hl] at CL
    have CL := Lib.hid CL
    have HT := Lib.hid hT
    clear h h' hl hT
    go_enter Tryd.func5, Tryd.ntmps5
    go_wp2_with fail
    refine CL.out.mono ?_
    rintro e w0 ⟨rfl, rfl⟩
    go_wp2_with fail
    refine (awake_any _ HT.out).mono ?_
    rintro e w4 ⟨rfl, b4⟩
    have L4 := Lib.hid b4
    clear b4
    go_wp2
    go_ret
    exact ⟨rfl, L4.out⟩
end Go.Proofs.YtlnhillpghjknaaDoor

