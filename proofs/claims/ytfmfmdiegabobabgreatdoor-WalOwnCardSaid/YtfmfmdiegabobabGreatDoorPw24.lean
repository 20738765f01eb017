/- What it says: contracts and plain mathematics that the laws' walks use, 24 of 33: each part's own remark says what; no condition. -/
import Derived.Test.YtfmfmdiegabobabGreatDoorPw23
import Derived.WalkMore
import Derived.LoopTactic
import Derived.RegionTactic
import Derived.BigRegion
import Derived.Deep.MidRow

set_option linter.unusedSimpArgs false
set_option linter.unusedVariables false
set_option linter.deprecated false
set_option linter.unusedSectionVars false
set_option linter.all false
set_option maxRecDepth 100000
set_option maxHeartbeats 16000000
namespace Go.Proofs.YtfmfmdiegabobabGreatDoor
theorem q1Pw24 {α : Type} (l : List α) (i : Nat) (x : α) : l.toArray.setIfInBounds i x = (l.set i x).toArray := by simp
theorem q2Pw24 {α : Type} (a : α) (l : List α) (x : α) : (a :: l).set 0 x = x :: l := rfl
theorem q3Pw24 {α : Type} (a : α) (l : List α) (i : Nat) (x : α) : (a :: l).set (i + 1) x = a :: l.set i x := rfl

/- (*sheet.search).bodies steps as the plain search does. -/
section
open Go.RowKit
structure BodRel (base H fb : Nat) (s : Fs) (b : List Int) (i : Int) (w wr : World) (A : Option Addr) (n c : Nat) (B : Option Addr) (k : Nat) (b' : List Int) (xs : List (List Int)) : Prop where
 up : FndUp base H fb wr w A n c (.slice none 0 0) (.int .i64 i) (s.out ++ xs.map (fun x => (x, i)))
 bty : Bty wr B k k b'
 ops : opens b = (xs ++ (opens b').1, (opens b').2)
 num : s.out.length + xs.length + k ≤ 900000
 top : b'.length ≤ b.length
theorem BodRel.below {base H fb : Nat} {s : Fs} {b : List Int} {i : Int} {w wr w4 : World} {A : Option Addr} {n c : Nat} {B : Option Addr} {k : Nat} {b' : List Int} {xs : List (List Int)} (h : BodRel base H fb s b i w wr A n c B k b' xs) (hb : Below wr.heap.size wr w4) : BodRel base H fb s b i w w4 A n c B k b' xs :=
 ⟨⟨h.up.blk.bel hb h.up.blk.lt, own_stay h.up.own (fun q hq => hb.block q (h.up.own.lt q hq).2), h.up.len, h.up.fr.then (Fr.of_below hb), h.up.lo, h.up.low⟩, h.bty.below hb, h.ops, h.num, h.top⟩
theorem BodRel.start {base H fb : Nat} {s : Fs} {w : World} (hS : Srch base H w fb s) {B : Option Addr} {k : Nat} {b : List Int} (i : Int) (hB : Bty w B k k b) (hnum : s.out.length + k ≤ 900000) {x : Value} {A : Option Addr} {n c : Nat}
  (hbk : Bk w fb 155 #[.slice A n c, x, .int .i64 s.frm]) (hown : w.ownsRow base 123 2 (.slice A n c) n (s.out.flatMap fndC)) (hlen : s.out.length = n) (hA : ∀ q, (Value.slice A n c).ownBlock = some q → q < H) :
  BodRel base H fb s b i w ((w.setCell ⟨fb, 1, none⟩ (.slice none 0 0)).setCell ⟨fb, 2, none⟩ (.int .i64 i)) A n c B k b [] := by
 have b1 : Bk (w.setCell ⟨fb, 1, none⟩ (.slice none 0 0)) fb 155 #[.slice A n c, .slice none 0 0, .int .i64 s.frm] := by simpa using hbk.setc 1 (.slice none 0 0)
 have b2 : Bk ((w.setCell ⟨fb, 1, none⟩ (.slice none 0 0)).setCell ⟨fb, 2, none⟩ (.int .i64 i)) fb 155 #[.slice A n c, .slice none 0 0, .int .i64 i] := by simpa using b1.setc 2 (.int .i64 i)
 have o1 := own_set (i := 1) (u := .slice none 0 0) hown hbk (by decide)
 have o2 := own_set (i := 2) (u := .int .i64 i) o1 b1 (by decide)
 have hm : Mid base H fb := ⟨hS.lo, hS.hi⟩
 refine ⟨⟨b2, by simpa using o2, by simpa using hlen, ((Fr.refl (Mid base H) w).setCell (a := ⟨fb, 1, none⟩) hm _).setCell (a := ⟨fb, 2, none⟩) hm _, ⟨hS.lo, hS.hi, hS.top⟩, fun q hq => .inl (hA q hq)⟩, (hB.set hbk (by decide)).set b1 (by decide), rfl, by simpa using hnum, Nat.le_refl _⟩
theorem BodRel.fin {base H fb : Nat} {s : Fs} {b : List Int} {i : Int} {w wr : World} {A : Option Addr} {n c : Nat} {B : Option Addr} {k : Nat} {xs : List (List Int)} (h : BodRel base H fb s b i w wr A n c B k [] xs) (hok : (bodsF s b i).1.Ok) : SrPost base H fb (bodsF s b i) w (.returned (.bool true)) wr := by
 have e : bodsF s b i = (⟨s.out ++ xs.map (fun x => (x, i)), [], i⟩, true) := by unfold bodsF; rw [h.ops, opens_nil]; simp
 rw [e] at hok ⊢
 exact ⟨rfl, fun _ => ⟨h.up.lo.1, h.up.blk.lt, Nat.le_refl _, hok, A, n, c, none, 0, 0, h.up.blk, h.up.own, h.up.len, ⟨Bty.nil _, .inl rfl⟩, fun q hq => (h.up.own.lt q hq).2, fun q hq => by simp [Value.ownBlock] at hq⟩, ⟨A, n, c, _, _, h.up.blk, h.up.own, h.up.len⟩, h.up.fr⟩
theorem BodRel.short {base H fb : Nat} {s : Fs} {b : List Int} {i : Int} {w wr : World} {A : Option Addr} {n c : Nat} {B : Option Addr} {k u : Nat} {b' x : List Int} {xs : List (List Int)} (h : BodRel base H fb s b i w wr A n c B k b' xs) (hok : (bodsF s b i).1.Ok) (h0 : b' ≠ []) (hO : openF b' = (x, u, 10)) :
  SrPost base H fb (bodsF s b i) w (.returned (.bool true)) (wr.setCell ⟨fb, 1, none⟩ (.slice B k k)) := by
 have e : bodsF s b i = (⟨s.out ++ xs.map (fun x => (x, i)), b', i⟩, true) := by unfold bodsF; rw [h.ops, opens_short h0 hO]; simp
 rw [e] at hok ⊢
 have b1 : Bk (wr.setCell ⟨fb, 1, none⟩ (.slice B k k)) fb 155 #[.slice A n c, .slice B k k, .int .i64 i] := by simpa using h.up.blk.setc 1 (.slice B k k)
 have o1 := own_set (i := 1) (u := .slice B k k) h.up.own h.up.blk (by decide)
 have t1 : Bty (wr.setCell ⟨fb, 1, none⟩ (.slice B k k)) B k k b' := h.bty.set h.up.blk (by decide)
 refine ⟨rfl, fun _ => ⟨h.up.lo.1, b1.lt, Nat.le_refl _, hok, A, n, c, B, k, k, b1, o1, h.up.len, ⟨t1, .inl rfl⟩, fun q hq => (o1.lt q hq).2, fun q hq => ?_⟩, ⟨A, n, c, _, _, b1, o1, h.up.len⟩, h.up.fr.setCell (show Mid base H fb from ⟨h.up.lo.1, h.up.lo.2.1⟩) _⟩
 cases B with
 | none => simp [Value.ownBlock] at hq
 | some a =>
  simp [Value.ownBlock] at hq
  subst hq
  exact t1.ty.lt a rfl
def lenV : Value → Nat
 | .slice _ n _ => n
 | _ => 0
theorem BodRel.bad {base H fb : Nat} {s : Fs} {b : List Int} {i : Int} {w wr : World} {A : Option Addr} {n c : Nat} {B : Option Addr} {k u e0 : Nat} {b' x : List Int} {xs : List (List Int)} (h : BodRel base H fb s b i w wr A n c B k b' xs) (h0 : b' ≠ []) (hO : openF b' = (x, u, e0)) (h1 : e0 ≠ 0) (h2 : e0 ≠ 10) :
  SrPost base H fb (bodsF s b i) w (.returned (.bool false)) wr := by
 have e : bodsF s b i = (⟨s.out ++ xs.map (fun x => (x, i)), [], i⟩, false) := by unfold bodsF; rw [h.ops, opens_bad h0 hO h1 h2]; simp
 rw [e]
 exact ⟨rfl, fun q => (by cases q), ⟨A, n, c, _, _, h.up.blk, h.up.own, h.up.len⟩, h.up.fr⟩
theorem BodRel.next {base H fb : Nat} {s : Fs} {b : List Int} {i : Int} {w wr w4 w' : World} {A A' : Option Addr} {n c c' : Nat} {B : Option Addr} {k u : Nat} {b' x : List Int} {xs : List (List Int)} (h : BodRel base H fb s b i w wr A n c B k b' xs) (h0 : b' ≠ []) (hO : openF b' = (x, u, 0))
  (hb4 : Below wr.heap.size wr w4)
  (k1 : w'.ownsRow base 123 2 (.slice A' (n + 1) c') (n + 1) ((s.out ++ xs.map (fun x => (x, i))).flatMap fndC ++ (#[Value.string (strOfNums x), .int .i64 i] : Array Value).toList)) (k2 : (w4.drew.alloc (.cells #[.string (strOfNums x), .int .i64 i] 123)).grownBy w' (Value.slice A n c).ownBlock)
  (k3 : ∀ q, (Value.slice A' (n + 1) c').ownBlock = some q → (Value.slice A n c).ownBlock = some q ∨ (w4.drew.alloc (.cells #[.string (strOfNums x), .int .i64 i] 123)).heap.size ≤ q) :
  u ≤ k ∧ 0 < u ∧ Bty (w'.setCell ⟨fb, 0, none⟩ (.slice A' (n + 1) c')) B k k b' ∧ ∀ B2, Bty (w'.setCell ⟨fb, 0, none⟩ (.slice A' (n + 1) c')) B2 (k - u) (k - u) (b'.drop u) → BodRel base H fb s b i w (w'.setCell ⟨fb, 0, none⟩ (.slice A' (n + 1) c')) A' (n + 1) c' B2 (k - u) (b'.drop u) (xs ++ [x]) := by
 have hr := h.bty.byt.rng
 obtain ⟨hu, ht, _⟩ := openF_ok hr hO
 have hp := sealL_pos x
 have e1 : (b'.take u).length = (sealL x).length := by rw [ht]
 rw [List.length_take] at e1
 have hk : b'.length = k := h.bty.byt.len
 have hb : Below w4.heap.size w4 (w4.drew.alloc (.cells #[.string (strOfNums x), .int .i64 i] 123)) := (Below.refl _ w4).drew.alloc (Nat.le_refl _) _
 obtain ⟨_, up, ty, _, _⟩ := (h.below hb4).up.step hb k1 k2 k3
 refine ⟨by omega, by omega, ty _ _ _ _ (h.below hb4).bty, fun B2 h2 => ⟨?_, h2, ?_, ?_, ?_⟩⟩
 ·have : s.out ++ xs.map (fun x => (x, i)) ++ [(x, i)] = s.out ++ (xs ++ [x]).map (fun x => (x, i)) := by simp
  rw [← this]
  exact up
 ·rw [h.ops, opens_ok hr h0 hO]
  simp
 ·have := h.num
  simp
  omega
 ·have := h.top
  rw [List.length_drop]
  omega
theorem bodies_any (base H fb : Nat) (s : Fs) (w : World) (hS : Srch base H w fb s) (hT : Tab w) (hT0 : 0 < base) (B : Option Addr) (k : Nat) (b : List Int) (hB : Bty w B k k b) (i : Int) (hnum : s.out.length + k ≤ 900000) :
  Calls Tryz.prog 90 #[.pointer (some ⟨fb, 0, none⟩), .slice B k k, .int .i64 i] w (SrPost base H fb (bodsF s b i) w) := by
 have OK := Lib.hid (bodsF_ok i hS.ok hB.byt.rng)
 obtain ⟨A, n, c, BB, mm, dd, hbk, hown, hlen, hbeg, hA, hBB⟩ := hS.ex
 have hc1 : w.cell? ⟨fb, 1, none⟩ = some (.slice BB mm dd) := hbk.cell 1
 have hf1 : w.frozen? ⟨fb, 1, none⟩ = false := hbk.frz 1
 have hc2 : w.cell? ⟨fb, 2, none⟩ = some (.int .i64 s.frm) := hbk.cell 2
 have hf2 : w.frozen? ⟨fb, 2, none⟩ = false := hbk.frz 2
 have hbase : base ≤ w.heap.size := by have := hS.lo; have := hS.hi; have := hS.top; omega
 have R0 := Lib.hid (BodRel.start hS i hB hnum hbk hown hlen hA)
 have TB := Lib.hid (fun w1 (f : Fr (Mid base H) w w1) => tab_fr hT hT0 f)
 have hkl : b.length = k := hB.byt.len
 clear hS hbk hown hbeg hA hBB hT hT0 hB
 go_enter Tryz.func90, Tryz.ntmps90
 go_wp2
 go_step3
 go_wp2
 go_step3
 go_wp2
 go_loopw [1] (fun q wr => ∃ A n c B k b' xs, q = .slice B k k ∧ BodRel base H fb s b i w wr A n c B k b' xs) (fun q _ => lenV q)
 case atStart => exact ⟨A, n, c, B, k, b, [], rfl, R0.out⟩
 case round =>
  obtain ⟨A1, n1, c1, B1, k1, b1, xs, rfl, R⟩ := hrel
  have hk1 : b1.length = k1 := R.bty.byt.len
  have HR := Lib.hid R
  clear R R0 hc1 hf1 hc2 hf2 hlen
  by_cases h0 : b1 = []
  ·subst h0
   have hk0 : k1 = 0 := by simpa using hk1.symm
   subst hk0
   have RR := Lib.hid (HR.out.fin OK.out)
   clear HR OK TB
   go_wp2_with fail
   (try rw [Exit.noGoto_ret])
   go_ret
   exact RR.out
  ·have hpos : 0 < k1 := by
    rcases Nat.eq_zero_or_pos k1 with q | q
    ·exact absurd (List.eq_nil_of_length_eq_zero (by omega)) h0
    ·exact q
   have hpos' : (0 : Int) < (k1 : Int) := by omega
   obtain ⟨x, u, e0, hO⟩ : ∃ x u e0, openF b1 = (x, u, e0) := ⟨_, _, _, rfl⟩
   have hnm := HR.out.num
   have hcap := HR.out.bty.byt.max
   unfold maxLen at hcap
   have C4 := Lib.hid (open_own B1 k1 k1 b1 wr HR.out.bty.byt (by omega) (TB.out _ HR.out.up.fr) x u e0 hO)
   have HO := Lib.hid hO
   have H0 := Lib.hid h0
   clear hO h0
   go_wp2_with fail
   refine C4.out.mono ?_
   rintro e w4 ⟨A5, n5, c5, rfl, ho5, hr5, b5⟩
   have K4 := Lib.hid (HR.out.below b5)
   have B5 := Lib.hid b5
   have H5 := Lib.hid (Bty.of_own ho5 hr5)
   clear ho5 hr5 b5 C4
   by_cases he0 : e0 = 0
   ·subst he0
    have hnum' : n1 ≤ 900000 := by have := HR.out.up.len; simp at this; omega
    have K5 := Lib.hid (fun A' c' w' q1 q2 q3 => HR.out.next (w4 := w4) (A' := A') (c' := c') (w' := w') H0.out HO.out B5.out q1 q2 q3)
    obtain ⟨i0, hi, hz0, hz1, hz2⟩ := info_parts info_fnd
    obtain ⟨S1, O1, B1', L1, S2⟩ := K4.out.up.pre (Nat.le_trans hbase (K4.out.up.fr.size)) H5.out
    have S2 := Lib.hid S2
    have hS0 : w4.drew.cell? ⟨fb, 0, none⟩ = some (.slice A1 n1 c1) ∧ w4.drew.cell? ⟨fb, 2, none⟩ = some (.int .i64 i) ∧ Byt w4.drew A5 n5 c5 x := ⟨K4.out.up.blk.cell 0, K4.out.up.blk.cell 2, H5.out.byt.drew⟩
    have KF := Lib.hid (fun k => K4.out.up.blk.frz k)
    clear K4 H5 HR B5
    go_wp2_with fail
    refine wp_region_noPanic ?_
    refine upto_start (fun w' => w'.cell? ⟨fb, 0, none⟩ = some (.slice A1 n1 c1) ∧ w'.cell? ⟨fb, 2, none⟩ = some (.int .i64 i) ∧ Byt w' A5 n5 c5 x) 11 (by kernel_rfl) ?_
    change Upto _ _ _ _ _ 14 _ _ _
    refine Upto.tk 0 ?_ rfl (fun w' hS => ?_) hS0 ?_
    rotate_left
    ·(try dsimp only at hS); go_split_ands; go_simp; (try with_reducible rfl)
    simp only [Act.put, q1Pw24, q2Pw24, q3Pw24]
    refine Upto.tk 1 ?_ rfl (fun w' hS => ?_) hS0 ?_
    rotate_left
    ·(try dsimp only at hS); go_split_ands; go_simp; (try with_reducible rfl)
    simp only [Act.put, q1Pw24, q2Pw24, q3Pw24]
    refine Upto.tk 2 ?_ rfl (fun w' hS => ?_) hS0 ?_
    rotate_left
    ·(try dsimp only at hS); go_split_ands; go_simp; (try with_reducible rfl)
    simp only [Act.put, q1Pw24, q2Pw24, q3Pw24]
    refine Upto.tk 3 ?_ rfl (fun w' hS => ?_) hS0 ?_
    rotate_left
    ·(try dsimp only at hS); go_split_ands; go_simp; (try with_reducible rfl)
    simp only [Act.put, q1Pw24, q2Pw24, q3Pw24]
    refine Upto.tk 4 ?_ rfl (fun w' hS => ?_) hS0 ?_
    rotate_left
    ·(try dsimp only at hS); go_split_ands; go_simp; (try with_reducible rfl)
    simp only [Act.put, q1Pw24, q2Pw24, q3Pw24]
    refine Upto.tk 5 ?_ rfl (fun w' hS => ?_) hS0 ?_
    rotate_left
    ·(try dsimp only at hS); go_split_ands; go_simp; (try with_reducible rfl)
    simp only [Act.put, q1Pw24, q2Pw24, q3Pw24]
    refine Upto.take (i := 6) rfl (by kernel_rfl) (fun _ _ _ h => h) rfl (fun w' hS => exec_conv rfl (by exact conv_byt hS.2.2)) hS0 ?_
    simp only [Act.put, q1Pw24, q2Pw24, q3Pw24]
    refine Upto.tk 7 ?_ rfl (fun w' hS => ?_) hS0 ?_
    rotate_left
    ·(try dsimp only at hS); go_split_ands; go_simp; (try with_reducible rfl)
    simp only [Act.put, q1Pw24, q2Pw24, q3Pw24]
    refine Upto.take (i := 8) rfl (by kernel_rfl) (fun _ _ _ h => h) rfl (fun w' hS => exec_build rfl [(0, .string (strOfNums x)), (1, .int .i64 i)] (by rfl) (built_fnd _ _)) hS0 ?_
    simp only [Act.put, q1Pw24, q2Pw24, q3Pw24]
    refine Upto.only (i := 9) rfl (by kernel_rfl) rfl (exec_buildSlice rfl [(0, .agg #[.string (strOfNums x), .int .i64 i])] (by rfl) (bslice_fnd _ _ _)) (S1.out _ rfl) ?_
    simp only [Act.put, q1Pw24, q2Pw24, q3Pw24]
    refine Upto.law (i := 10) rfl (by kernel_rfl) rfl (fun K hK => ?_)
    refine wp_append_1 _ _ 120 (by rfl) base 123 i0 _ 2 24 Tryz.underlying120 hi hz0 hz1 hz2 (by rfl) (by omega) (by rfl) (O1.out _ rfl) (g := w4.heap.size) (cs := #[.string (strOfNums x), .int .i64 i]) (by rfl) (B1'.out _ rfl) (by rfl) (fnd_one _ _) (by omega) (by omega) (L1.out _ rfl) ?_
    intro A' c' w' k1 k2 k3
    have hS3 := S2.out A' c' w' k1 k2
    have R := Lib.hid (K5.out A' c' w' k1 k2 k3)
    refine hK _ _ hS3.1 ?_
    have hc3 := hS3.1.1
    have hf3 := hS3.2
    clear hS3 k1 k2 k3 hK S1 O1 B1' L1 S2
    simp only [Act.put, q1Pw24, q2Pw24, q3Pw24]
    refine Upto.tail rfl (by kernel_rfl) ?_
    simp only [List.drop_succ_cons, List.drop_zero]
    obtain ⟨hu, hu0, ty, nx⟩ := R.out
    have NX := Lib.hid nx
    have CP := part_any B1 k1 k1 b1 _ ty u k1 hu (Nat.le_refl _)
    rw [List.take_of_length_le (show (b1.drop u).length ≤ k1 - u by rw [List.length_drop]; omega)] at CP
    have CP := Lib.hid CP
    clear R nx ty
    go_wp2_with fail
    refine NoPanic.normal ?_
    go_wp2_with fail
    refine CP.out.mono ?_
    rintro e w6 ⟨B2, rfl, h2, rfl⟩
    have NR := Lib.hid (NX.out B2 h2)
    clear h2 NX CP
    go_wp2_with fail
    go_roundw
    case rel => exact ⟨_, _, _, B2, k1 - u, b1.drop u, xs ++ [x], rfl, NR.out⟩
    case measure => simp [lenV]; omega
   ·have hne : ((e0 : Int) == 0) = false := by simp; omega
    have HE0 := Lib.hid he0
    clear he0
    by_cases he10 : e0 = 10
    ·subst he10
     have hc1' : w4.cell? ⟨fb, 1, none⟩ = some (.slice none 0 0) := K4.out.up.blk.cell 1
     have hf1' : w4.frozen? ⟨fb, 1, none⟩ = false := K4.out.up.blk.frz 1
     have RR := Lib.hid (K4.out.short OK.out H0.out HO.out)
     have hne : ((10 : Int) == 0) = false := rfl
     clear HR OK TB K4 H5 B5
     go_wp2_with fail
     (try rw [Exit.noGoto_ret])
     go_ret
     exact RR.out
    ·have hne10 : ((e0 : Int) == 10) = false := by simp; omega
     have RR := Lib.hid (K4.out.bad H0.out HO.out HE0.out he10)
     clear HR OK TB K4 H5 B5 he10
     go_wp2_with fail
     (try rw [Exit.noGoto_ret])
     go_ret
     exact RR.out
end

/- sheet.Find finds what the plain search finds, in new memory. -/
section
open Go.RowKit
theorem Sh.cells_len (x : Sh) : x.cells.length = 4 := rfl
structure Shs (w : World) (A : Option Addr) (n c : Nat) (l : List Sh) : Prop where
 flt : Flt w A n c 4 (l.flatMap Sh.cells)
 len : l.length = n
 inn : ∀ x ∈ l, x.In
theorem Shs.below {w w' : World} {A : Option Addr} {n c : Nat} {l : List Sh} (h : Shs w A n c l) (hb : Below w.heap.size w w') : Shs w' A n c l := ⟨h.flt.below hb, h.len, h.inn⟩
def Sh.fd (x : Sh) : Int × List Int := (x.first, nums x.data)
def RetFnd (out : List (List Int × Int)) (w : World) (e : Ending) (w' : World) : Prop :=
 ∃ A n c, e = .returned (.slice A n c) ∧ Flt w' A n c 2 (out.flatMap fndC) ∧ out.length = n ∧ (∀ x ∈ out, isB x.1 ∧ x.1.length ≤ 4096) ∧ Below w.heap.size w w'
structure FinRel (w : World) (fb : Nat) (l : List Sh) (i : Nat) (s : Fs) (wr : World) : Prop where
 sr : Srch w.heap.size wr.heap.size wr fb s
 bel : Below w.heap.size w wr
 go : found (l.map Sh.fd) = findF s i ((l.drop i).map Sh.fd)
 beg : s.beg.length ≤ 242 * i
 num : s.out.length ≤ 243 * i
theorem FinRel.start (w : World) (l : List Sh) : FinRel w w.heap.size l 0 fs0 (w.alloc (.cells #[.slice none 0 0, .slice none 0 0, .int .i64 0] 155)) :=
 ⟨⟨Nat.le_refl _, by simp, Nat.le_refl _, ⟨fun x hx => (by cases hx), fun x hx => (by cases hx)⟩, none, 0, 0, none, 0, 0, Bk.new _ _ _, World.ownsRow_nil _ _ _ _, rfl, ⟨Bty.nil _, .inl rfl⟩, fun q hq => by simp [Value.ownBlock] at hq, fun q hq => by simp [Value.ownBlock] at hq⟩,
  (Below.refl _ _).alloc (Nat.le_refl _) _, by simp [found], by simp [fs0], by simp [fs0]⟩
theorem fr_below {base H : Nat} {w w1 w2 : World} (hb : Below base w w1) (hB : base ≤ w1.heap.size) (f : Fr (Mid base H) w1 w2) : Below base w w2 := hb.trans (f.below hB (fun k m => m.1))
theorem Fnd.end_ {w w2 : World} {fb : Nat} {out : List (List Int × Int)} (hb : Below w.heap.size w w2) (ok : ∀ x ∈ out, isB x.1 ∧ x.1.length ≤ 4096) (h : FndAt w.heap.size w2 fb out) : ∃ A n c, w2.cell? ⟨fb, 0, none⟩ = some (.slice A n c) ∧ RetFnd out w (.returned (.slice A n c)) w2 := by
 obtain ⟨A, n, c, x, y, hbk, hown, hlen⟩ := h.ex
 exact ⟨A, n, c, hbk.cell 0, A, n, c, rfl, Flt.of_own hown, hlen, ok, hb⟩
theorem FinRel.next {w wr w2 : World} {fb i : Nat} {l : List Sh} {s : Fs} (h : FinRel w fb l i s wr) (hi : i < l.length) (h242 : (l.getD i sh0).data.size ≤ 242) (hok : (sheetF s i (l.getD i sh0).first (nums (l.getD i sh0).data)).2 = true)
  (hs : Srch w.heap.size w2.heap.size w2 fb (sheetF s i (l.getD i sh0).first (nums (l.getD i sh0).data)).1) (hb : Below w.heap.size w w2) : FinRel w fb l (i + 1) (sheetF s i (l.getD i sh0).first (nums (l.getD i sh0).data)).1 w2 := by
 have hl := @sheetF_len s i (l.getD i sh0).first (nums (l.getD i sh0).data) (nums_rng _)
 rw [nums_len] at hl
 have := h.beg
 have := h.num
 refine ⟨hs, hb, ?_, by omega, by omega⟩
 rw [h.go, drop_getD_cons l sh0 i hi, List.map_cons, findF]
 exact if_pos hok
theorem FinRel.last {w wr : World} {fb i : Nat} {l : List Sh} {s : Fs} (h : FinRel w fb l i s wr) (hi : i < l.length) (hok : (sheetF s i (l.getD i sh0).first (nums (l.getD i sh0).data)).2 = false) :
  found (l.map Sh.fd) = (sheetF s i (l.getD i sh0).first (nums (l.getD i sh0).data)).1.out := by
 rw [h.go, drop_getD_cons l sh0 i hi, List.map_cons, findF]
 refine if_neg ?_
 show ¬ (sheetF s i (l.getD i sh0).first (nums (l.getD i sh0).data)).2 = true
 rw [hok]
 simp
theorem find_any (A : Option Addr) (n c : Nat) (l : List Sh) (w : World) (h : Shs w A n c l) (hn : n ≤ 1000) (h242 : ∀ x ∈ l, x.data.size ≤ 242) (hT : Tab w) :
  Calls Tryz.prog 64 #[.slice A n c] w (RetFnd (found (l.map Sh.fd)) w) := by
 have hT0 : 0 < w.heap.size := World.block_lt_of_cell? w _ (hT 0 (by omega))
 have R0 := Lib.hid (FinRel.start w l)
 have HS := Lib.hid h
 have HT := Lib.hid hT
 have HT0 := Lib.hid hT0
 have H242 := Lib.hid h242
 have hcap := h.flt.cap
 have hmax := h.flt.max
 unfold maxLen at hmax
 clear h hT hT0 h242
 go_enter Tryz.func64, Tryz.ntmps64
 go_wp2_with fail
 go_loopw [10] (fun q wr => ∃ (i : Nat) (s : Fs), i ≤ n ∧ q = .int .i64 i ∧ FinRel w w.heap.size l i s wr) (fun q _ => n - (intOf q).toNat)
 case atStart => exact ⟨0, fs0, Nat.zero_le _, rfl, R0.out⟩
 case round =>
  obtain ⟨i, s, hin, rfl, R⟩ := hrel
  have HR := Lib.hid R
  clear R R0
  by_cases hlt : i < n
  ·obtain ⟨g, off, hA, hc⟩ := (HS.out.below HR.out.bel).flt.at_get sh0 Sh.cells Sh.cells_len HS.out.len (by omega)
   subst hA
   have hj : i < l.length := by rw [HS.out.len]; exact hlt
   have hmem : l.getD i sh0 ∈ l := by
    have e : l.getD i sh0 = l[i] := by simp [List.getD, List.getElem?_eq_getElem hj]
    rw [e]
    exact List.getElem_mem hj
   have hxin := HS.out.inn _ hmem
   have hx242 := H242.out _ hmem
   have NX := Lib.hid (fun w2 => HR.out.next (w2 := w2) hj hx242)
   have LS := Lib.hid (HR.out.last hj)
   obtain ⟨x, hx⟩ : ∃ x, l.getD i sh0 = x := ⟨_, rfl⟩
   have hci := hc i hlt
   rw [hx] at hci hxin hx242 NX LS
   obtain ⟨xi, xp, xf, xd⟩ := x
   have c0 : wr.cell? ⟨g, off + i * 4, none⟩ = some (.int .i64 xi) := hci 0 _ rfl
   have c1 := hci 1 _ rfl
   have c2 := hci 2 _ rfl
   have c3 := hci 3 _ rfl
   have HIN := Lib.hid hxin
   obtain ⟨dl, hdl⟩ : ∃ d, nums xd = d := ⟨_, rfl⟩
   have hdlen : dl.length = xd.size := by rw [← hdl, nums_len]
   have hdrng : isB dl := by rw [← hdl]; exact nums_rng xd
   have HSH := Lib.hid (fun (k : Nat) => @sheetF_ok s i xf dl HR.out.sr.ok hdrng)
   simp only at NX LS
   rw [hdl] at NX LS
   clear hci hc hx hxin hmem hj
   go_wp2_with fail
   obtain ⟨W1, hW1⟩ : ∃ W1, W1 = wr.alloc (.cells #[.int .i64 xi, .int .i64 xp, .int .i64 xf, .string xd] 93) := ⟨_, rfl⟩
   rw [← hW1]
   have b1 : Below wr.heap.size wr W1 := by rw [hW1]; exact (Below.refl _ _).alloc (Nat.le_refl _) _
   have v1 : Bk W1 wr.heap.size 93 #[.int .i64 xi, .int .i64 xp, .int .i64 xf, .string xd] := by rw [hW1]; exact Bk.new _ _ _
   have d1 : W1.heap.size = wr.heap.size + 1 := by rw [hW1]; simp
   have hS0 : W1.drew.cell? ⟨wr.heap.size, 3, none⟩ = some (.string xd) := v1.cell 3
   clear hW1 c0 c1 c2 c3
   obtain ⟨W2, hW2⟩ : ∃ W2, W2 = Lib.bytesWorld W1.drew 5 xd := ⟨_, rfl⟩
   have hconv := conv_str W1.drew xd
   rw [← hW2] at hconv
   obtain ⟨dc, hdc⟩ : ∃ dc, dc = grownCap W1.drew xd.size 0 5 := ⟨_, rfl⟩
   rw [← hdc] at hconv
   have b2 : Below W1.heap.size W1 W2 := by rw [hW2]; exact ((Below.refl _ W1).drew).trans (bytesWorld_below W1.drew 5 xd)
   have v2 : Bk W2 wr.heap.size 93 #[.int .i64 xi, .int .i64 xp, .int .i64 xf, .string xd] := v1.bel b2 v1.lt
   have t2 : Bty W2 (some ⟨W1.heap.size, 0, none⟩) xd.size dc dl := by rw [hW2, hdc, ← hdl]; exact Bty.ofString W1.drew xd (by unfold maxLen; omega)
   have HB2 := Lib.hid (b1.trans (b2.mono b1.size))
   have HV2 := Lib.hid v2
   have HT2 := Lib.hid t2
   have hcx := t2.byt.cap
   have v23 : W2.cell? ⟨wr.heap.size, 2, none⟩ = some (.int .i64 xf) := v2.cell 2
   have hW1s : wr.heap.size + 1 = W1.heap.size := d1.symm
   obtain ⟨gd, hgd⟩ : ∃ gd, W1.drew.heap.size = gd := ⟨_, rfl⟩
   have hgd' : W1.heap.size = gd := hgd
   rw [hgd'] at hW1s HT2
   rw [hgd] at hconv
   have v23s : W2.cell? ⟨wr.heap.size, 3, none⟩ = some (.string xd) := v2.cell 3
   clear hgd'
   have CH := Lib.hid (hasFirst_any ⟨xi, xp, xf, xd⟩ W2 HIN.out)
   obtain ⟨bH, hbH⟩ : ∃ b, hasF xf xd.size = b := ⟨_, rfl⟩
   have HBH := Lib.hid hbH
   clear hW2 hdc b1 b2 v1 v2 t2 d1 hgd hbH
   go_region
   clear hconv hS0 v23s
   go_wp2_with (refine wpList_load_row rfl _ _ rfl _ rfl _ _ _ _ HV2.out Tryz.underlying93 rfl (by kernel_rfl) ?_)
   refine CH.out.mono ?_
   rintro e W3 ⟨rfl, b3⟩
   rw [HBH.out]
   have HB3 := Lib.hid (HB2.out.trans (b3.mono HB2.out.size))
   have HV3 := Lib.hid (HV2.out.bel b3 HV2.out.lt)
   have HT3 := Lib.hid (HT2.out.below b3)
   have v33 : W3.cell? ⟨wr.heap.size, 2, none⟩ = some (.int .i64 xf) := HV3.out.cell 2
   clear b3 CH HV2 HT2 v23
   have key : ∀ (k : Nat) (bH' : Bool), bH' = bH → k = cutS xf dl → k ≤ dl.length ∧ (bH' = decide (inS xf dl)) := fun k bH' e ek => ⟨by rw [ek]; exact cutS_le _ _, by
    rw [e, ← HBH.out]
    unfold hasF
    rw [← hdlen]
    rfl⟩
   have HD := Lib.hid (fun (W : World) (k : Nat) (hk : k ≤ dl.length) (hbW : Below wr.heap.size wr W) (B2 : Option Addr) (hB2 : Bty W B2 k k (dl.take k)) =>
    head_any w.heap.size wr.heap.size w.heap.size s W (HR.out.sr.stay (fun q hq => hbW.block q hq) hbW.size) (HT.out.ret ((HR.out.bel).trans (hbW.mono HR.out.bel.size))) HT0.out B2 k k (dl.take k) hB2.byt (by have := HR.out.beg; omega) (by have := HR.out.num; omega))
   have DK := Lib.hid (fun (W W' : World) (f : Fr (Mid w.heap.size wr.heap.size) W W') (hbW : Below wr.heap.size wr W) (hbt : Bty W (some ⟨gd, 0, none⟩) xd.size dc dl) (hv : Bk W wr.heap.size 93 #[.int .i64 xi, .int .i64 xp, .int .i64 xf, .string xd]) =>
    (⟨hbt.stay (fun a ha => f.block _ (hbt.ty.lt a ha) (fun m => by injection ha with ha; subst ha; have h1 : gd < wr.heap.size := m.2; omega)), (f.block _ hv.lt (fun m => Nat.lt_irrefl _ m.2)).trans hv, fr_below (HR.out.bel.trans (hbW.mono HR.out.bel.size)) (Nat.le_trans HR.out.bel.size hbW.size) f⟩ :
     Bty W' (some ⟨gd, 0, none⟩) xd.size dc dl ∧ Bk W' wr.heap.size 93 #[.int .i64 xi, .int .i64 xp, .int .i64 xf, .string xd] ∧ Below w.heap.size w W'))
   cases bH with
   | true =>
    have hin' : inS xf dl := by have := (key (cutS xf dl) true rfl rfl).2; exact of_decide_eq_true this.symm
    obtain ⟨k, hk⟩ : ∃ k, cutS xf dl = k := ⟨_, rfl⟩
    have hkx : xf = (k : Int) := by rw [← hk]; unfold cutS; rw [if_pos hin']; have := hin'.1; omega
    have hkl : k ≤ dl.length := by rw [← hk]; exact cutS_le _ _
    have SF : Hid (sheetF s i xf dl = if (headF s (dl.take k)).2 = false then headF s (dl.take k) else bodsF (headF s (dl.take k)).1 (dl.drop k) i) := Lib.hid (by unfold sheetF; rw [hk, if_pos hin'])
    rw [hkx] at v33 HV3 DK
    clear hin' hk key
    have CP := part_any (some ⟨gd, 0, none⟩) xd.size dc dl W3 HT3.out 0 k (Nat.zero_le _) (by omega)
    rw [List.drop_zero, Nat.sub_zero] at CP
    have CP := Lib.hid CP
    have hz : ((0 : Nat) : Int) = 0 := rfl
    rw [hz] at CP
    clear hz
    go_wp2_with fail
    refine CP.out.mono ?_
    rintro e W4 ⟨B4, rfl, t4, hw4⟩
    subst hw4
    have CD := Lib.hid (HD.out W3 k hkl HB3.out B4 t4)
    clear t4 CP HD
    go_wp2_with fail
    refine CD.out.mono ?_
    rintro e W5 ⟨rfl, s5, f5, fr5⟩
    obtain ⟨t5, v5, b5⟩ := DK.out W3 W5 fr5 HB3.out HT3.out HV3.out
    obtain ⟨r5, hr5⟩ : ∃ r, headF s (dl.take k) = r := ⟨_, rfl⟩
    have OK5 := Lib.hid (headF_ok (h := dl.take k) HR.out.sr.ok (hdrng.take k))
    have SL5 := Lib.hid (@headF_len s (dl.take k))
    rw [hr5] at s5 f5 SF OK5 SL5 ⊢
    obtain ⟨s1, ok1⟩ := r5
    have HS5 := Lib.hid s5
    have HF5 := Lib.hid f5
    have HT5 := Lib.hid t5
    have HV5 := Lib.hid v5
    have HB5 := Lib.hid b5
    clear s5 f5 fr5 t5 v5 b5 hr5 CD DK
    cases ok1 with
    | false =>
     have e5 : sheetF s i xf dl = (s1, false) := by rw [SF.out, if_pos rfl]
     rw [e5] at LS
     have E := Lib.hid (LS.out (by first | rfl | trivial))
     obtain ⟨A2, n2, c2, hc0, RR⟩ := Fnd.end_ HB5.out OK5.out.2 HF5.out
     have RR := Lib.hid RR
     clear e5 HS5 HF5 HT5 HV5 HB5 HR HS NX LS
     go_wp2_with fail
     go_ret
     rw [E.out]
     exact RR.out
    | true =>
     have CH := hasFirst_any ⟨xi, xp, xf, xd⟩ W5 HIN.out
     simp only at CH
     rw [HBH.out] at CH
     rw [hkx] at CH
     have CH := Lib.hid CH
     have e5 : sheetF s i xf dl = bodsF s1 (dl.drop k) i := by rw [SF.out, if_neg (by simp)]
     have v53 : W5.cell? ⟨wr.heap.size, 2, none⟩ = some (.int .i64 k) := HV5.out.cell 2
     rw [e5] at NX LS
     have SH6 := HSH.out 0
     rw [e5] at SH6
     have SH6 := Lib.hid SH6
     clear e5 HSH
     go_wp2_with (refine wpList_load_row rfl _ _ rfl _ rfl _ _ _ _ HV5.out Tryz.underlying93 rfl (by kernel_rfl) ?_)
     refine CH.out.mono ?_
     rintro e W6 ⟨rfl, b6⟩
     have hs6 := (HS5.out (by first | rfl | trivial)).stay (w' := W6) (fun q hq => b6.block q hq) b6.size
     have HT6 := Lib.hid (HT5.out.below b6)
     have HB6 := Lib.hid (HB5.out.trans (b6.mono HB5.out.size))
     have HS6 := Lib.hid (hs6.up b6.size (Nat.le_refl _))
     have CP := part_any (some ⟨gd, 0, none⟩) xd.size dc dl W6 HT6.out k xd.size (by omega) (by omega)
     rw [List.take_of_length_le (show (dl.drop k).length ≤ xd.size - k by rw [List.length_drop]; omega)] at CP
     have CP := Lib.hid CP
     clear b6 hs6 CH HS5
     go_wp2_with fail
     refine CP.out.mono ?_
     rintro e W7 ⟨B7, rfl, t7, hw7⟩
     subst hw7
     have CB := Lib.hid (bodies_any w.heap.size W6.heap.size w.heap.size s1 W6 HS6.out (HT.out.ret HB6.out) HT0.out B7 (xd.size - k) (dl.drop k) t7 i (by have h1 : s1.out.length ≤ s.out.length + 1 := SL5.out.2; have := HR.out.num; omega))
     clear t7 CP
     go_wp2_with fail
     refine CB.out.mono ?_
     rintro e W8 ⟨rfl, s8, f8, fr8⟩
     have HB8 := Lib.hid (fr_below HB6.out HB6.out.size fr8)
     obtain ⟨r8, hr8⟩ : ∃ r, bodsF s1 (dl.drop k) i = r := ⟨_, rfl⟩
     rw [hr8] at s8 f8 NX LS SH6 ⊢
     obtain ⟨s2, ok2⟩ := r8
     have HS8 := Lib.hid s8
     have HF8 := Lib.hid f8
     clear s8 f8 fr8 hr8 CB
     cases ok2 with
     | false =>
      have E := Lib.hid (LS.out (by first | rfl | trivial))
      obtain ⟨A2, n2, c2, hc0, RR⟩ := Fnd.end_ HB8.out SH6.out.2 HF8.out
      have RR := Lib.hid RR
      clear HS8 HF8 HB8 HR HS NX LS
      go_wp2_with fail
      go_ret
      rw [E.out]
      exact RR.out
     | true =>
      have N := Lib.hid (NX.out W8 (by first | rfl | trivial) (HS8.out (by first | rfl | trivial)) HB8.out)
      clear HS8 HF8 HB8 HR HS NX LS
      go_wp2_with fail
      go_roundw
      case rel => exact ⟨i + 1, s2, by omega, by go_num, N.out⟩
      case measure => simp [intOf]; omega
   | false =>
    have hin' : ¬ inS xf dl := by have := (key (cutS xf dl) false rfl rfl).2; exact of_decide_eq_false this.symm
    obtain ⟨k, hk⟩ : ∃ k, cutS xf dl = k := ⟨_, rfl⟩
    have hkx : k = xd.size := by rw [← hk]; unfold cutS; rw [if_neg hin']; exact hdlen
    have hkl : k ≤ dl.length := by rw [← hk]; exact cutS_le _ _
    have SF : Hid (sheetF s i xf dl = if (headF s (dl.take k)).2 = false then headF s (dl.take k) else headF s (dl.take k)) := Lib.hid (by unfold sheetF; rw [hk, if_neg hin'])
    subst hkx
    clear hin' hk key
    have CP := part_any (some ⟨gd, 0, none⟩) xd.size dc dl W3 HT3.out 0 xd.size (Nat.zero_le _) (by omega)
    rw [List.drop_zero, Nat.sub_zero] at CP
    have CP := Lib.hid CP
    have hz : ((0 : Nat) : Int) = 0 := rfl
    rw [hz] at CP
    clear hz
    go_wp2_with fail
    refine CP.out.mono ?_
    rintro e W4 ⟨B4, rfl, t4, hw4⟩
    subst hw4
    have CD := Lib.hid (HD.out W3 xd.size hkl HB3.out B4 t4)
    clear t4 CP HD
    go_wp2_with fail
    refine CD.out.mono ?_
    rintro e W5 ⟨rfl, s5, f5, fr5⟩
    obtain ⟨t5, v5, b5⟩ := DK.out W3 W5 fr5 HB3.out HT3.out HV3.out
    obtain ⟨r5, hr5⟩ : ∃ r, headF s (dl.take xd.size) = r := ⟨_, rfl⟩
    have OK5 := Lib.hid (headF_ok (h := dl.take xd.size) HR.out.sr.ok (hdrng.take xd.size))
    have SL5 := Lib.hid (@headF_len s (dl.take xd.size))
    rw [hr5] at s5 f5 SF OK5 SL5 ⊢
    obtain ⟨s1, ok1⟩ := r5
    have HS5 := Lib.hid s5
    have HF5 := Lib.hid f5
    have HT5 := Lib.hid t5
    have HV5 := Lib.hid v5
    have HB5 := Lib.hid b5
    clear s5 f5 fr5 t5 v5 b5 hr5 CD DK
    cases ok1 with
    | false =>
     have e5 : sheetF s i xf dl = (s1, false) := by rw [SF.out, if_pos rfl]
     rw [e5] at LS
     have E := Lib.hid (LS.out (by first | rfl | trivial))
     obtain ⟨A2, n2, c2, hc0, RR⟩ := Fnd.end_ HB5.out OK5.out.2 HF5.out
     have RR := Lib.hid RR
     clear e5 HS5 HF5 HT5 HV5 HB5 HR HS NX LS
     go_wp2_with fail
     go_ret
     rw [E.out]
     exact RR.out
    | true =>
     have CH := hasFirst_any ⟨xi, xp, xf, xd⟩ W5 HIN.out
     simp only at CH
     rw [HBH.out] at CH
     have CH := Lib.hid CH
     have e5 : sheetF s i xf dl = (s1, true) := by rw [SF.out, if_neg (by simp)]
     rw [e5] at NX LS
     clear e5 HSH
     go_wp2_with (refine wpList_load_row rfl _ _ rfl _ rfl _ _ _ _ HV5.out Tryz.underlying93 rfl (by kernel_rfl) ?_)
     refine CH.out.mono ?_
     rintro e W6 ⟨rfl, b6⟩
     have hs6 := (HS5.out (by first | rfl | trivial)).stay (w' := W6) (fun q hq => b6.block q hq) b6.size
     have HB6 := Lib.hid (HB5.out.trans (b6.mono HB5.out.size))
     have N := Lib.hid (NX.out W6 (by first | rfl | trivial) (hs6.up b6.size (Nat.le_refl _)) HB6.out)
     clear b6 hs6 CH HS5 NX LS HR HS HB6
     go_wp2_with fail
     go_roundw
     case rel => exact ⟨i + 1, s1, by omega, by go_num, N.out⟩
     case measure => simp [intOf]; omega
  ·have hie : i = n := by omega
   subst hie
   have e : found (l.map Sh.fd) = s.out := by
    rw [HR.out.go, List.drop_of_length_le (by rw [HS.out.len]; exact Nat.le_refl _)]
    rfl
   have E := Lib.hid e
   obtain ⟨A2, n2, c2, hc0, RR⟩ := Fnd.end_ HR.out.bel HR.out.sr.ok.2 HR.out.sr.fnd
   have RR := Lib.hid RR
   clear e HR HS
   go_wp2_with fail
   go_ret
   rw [E.out]
   exact RR.out
end

/- sheet.Lay lays bodies into sheets, or answers the error. -/
section
open Go.RowKit
def layShs (inc pos : Int) (ls : List (List Int)) : List Sh := (List.range (shN (allL ls).length)).map (fun (i : Nat) => ⟨inc, pos + (i : Int), fstIn (bgns ls) i, strOfNums (partL (allL ls) i)⟩)
def layErr (inc pos : Int) (ls : List (List Int)) : Int :=
 if isSeqB inc = false ∨ isSeqB pos = false then 1 else if ∃ b ∈ ls, 4096 < b.length then 12 else if 1099511627776 < pos + (shN (allL ls).length : Int) then 162 else 0
def layRes (inc pos : Int) (ls : List (List Int)) : List Sh := if layErr inc pos ls = 0 then layShs inc pos ls else []
theorem layShs_len (inc pos : Int) (ls : List (List Int)) : (layShs inc pos ls).length = shN (allL ls).length := by simp [layShs]
def RetLay (x : Int) (l : List Sh) (w : World) (e : Ending) (w' : World) : Prop := ∃ A n c, e = .returned (.tuple #[.slice A n c, .int .i64 x]) ∧ Shs w' A n c l ∧ Below w.heap.size w w'
theorem Shs.nil (w : World) : Shs w none 0 0 [] := ⟨Flt.nil w 4, rfl, fun x hx => (by cases hx)⟩
structure ShRow (w : World) (b N : Nat) (f : Nat → Sh) : Prop where
 bk : ∃ cs, Bk w b 93 cs ∧ cs.size = N * 4 ∧ ∀ i, i < N → ∀ j v, (f i).cells[j]? = some v → cs[i * 4 + j]? = some v
theorem ShRow.cell {w : World} {b N : Nat} {f : Nat → Sh} (h : ShRow w b N f) (i : Nat) (hi : i < N) (j : Nat) (v : Value) (hv : (f i).cells[j]? = some v) : w.cell? ⟨b, i * 4 + j, none⟩ = some v := by
 obtain ⟨cs, h1, h2, h3⟩ := h.bk
 rw [h1.cell]
 exact h3 i hi j v hv
theorem ShRow.frz {w : World} {b N : Nat} {f : Nat → Sh} (h : ShRow w b N f) (k : Nat) : w.frozen? ⟨b, k, none⟩ = false := by
 obtain ⟨cs, h1, _⟩ := h.bk
 exact h1.frz k
theorem cells4 (x : Sh) (j : Nat) (v : Value) (h : x.cells[j]? = some v) : j < 4 := (List.getElem?_eq_some_iff.1 h).1
theorem ShRow.put {w : World} {b N : Nat} {f : Nat → Sh} (h : ShRow w b N f) (k : Nat) (hk : k < N) (x : Sh) : ShRow (w.setCells b (k * 4) x.cells) b N (fun i => if i = k then x else f i) := by
 obtain ⟨cs, h1, h2, h3⟩ := h.bk
 have e : w.setCells b (k * 4) x.cells = (((w.setCell ⟨b, k * 4, none⟩ (.int .i64 x.inc)).setCell ⟨b, k * 4 + 1, none⟩ (.int .i64 x.pos)).setCell ⟨b, k * 4 + 1 + 1, none⟩ (.int .i64 x.first)).setCell ⟨b, k * 4 + 1 + 1 + 1, none⟩ (.string x.data) := rfl
 rw [e]
 have g := (((h1.setc (k * 4) (.int .i64 x.inc)).setc (k * 4 + 1) (.int .i64 x.pos)).setc (k * 4 + 1 + 1) (.int .i64 x.first)).setc (k * 4 + 1 + 1 + 1) (.string x.data)
 refine ⟨_, g, by simpa using h2, fun i hi j v hv => ?_⟩
 have hj := cells4 _ j v hv
 simp only [Array.getElem?_setIfInBounds, Array.size_setIfInBounds, h2]
 by_cases hik : i = k
 ·subst hik
  rw [if_pos rfl] at hv
  have : j = 0 ∨ j = 1 ∨ j = 2 ∨ j = 3 := by omega
  rcases this with rfl | rfl | rfl | rfl
  all_goals
   simp [Sh.cells] at hv
   subst hv
   repeat (first | rw [if_pos (by omega)] | rw [if_neg (by omega)])
   (try rw [if_pos (by omega)])
 ·rw [if_neg hik] at hv
  rw [if_neg (by omega), if_neg (by omega), if_neg (by omega), if_neg (by omega)]
  exact h3 i hi j v hv
theorem ShRow.putFirst {w : World} {b N : Nat} {f : Nat → Sh} (h : ShRow w b N f) (k : Nat) (hk : k < N) (y : Int) : ShRow (w.setCell ⟨b, k * 4 + 2, none⟩ (.int .i64 y)) b N (fun i => if i = k then ⟨(f k).inc, (f k).pos, y, (f k).data⟩ else f i) := by
 obtain ⟨cs, h1, h2, h3⟩ := h.bk
 refine ⟨_, h1.setc (k * 4 + 2) (.int .i64 y), by simpa using h2, fun i hi j v hv => ?_⟩
 have hj := cells4 _ j v hv
 simp only [Array.getElem?_setIfInBounds, h2]
 by_cases hik : i = k
 ·subst hik
  rw [if_pos rfl] at hv
  have : j = 0 ∨ j = 1 ∨ j = 2 ∨ j = 3 := by omega
  rcases this with rfl | rfl | rfl | rfl
  ·simp [Sh.cells] at hv
   subst hv
   rw [if_neg (by omega)]
   exact h3 i hi 0 _ rfl
  ·simp [Sh.cells] at hv
   subst hv
   rw [if_neg (by omega)]
   exact h3 i hi 1 _ rfl
  ·simp [Sh.cells] at hv
   subst hv
   rw [if_pos rfl, if_pos (by omega)]
  ·simp [Sh.cells] at hv
   subst hv
   rw [if_neg (by omega)]
   exact h3 i hi 3 _ rfl
 ·rw [if_neg hik] at hv
  rw [if_neg (by omega)]
  exact h3 i hi j v hv
theorem ShRow.made (w : World) (N : Nat) : ShRow (w.alloc (.cells (madeCells #[.int .i64 0, .int .i64 0, .int .i64 0, .string ByteArray.empty] (N * 4)) 93)) w.heap.size N (fun _ => sh0) := by
 refine ⟨_, Bk.new w _ _, size_madeCells _ _, fun i hi j v hv => ?_⟩
 have hj := cells4 _ j v hv
 unfold madeCells
 rw [Array.getElem?_map]
 have hlt : i * 4 + j < N * 4 := by omega
 simp only [Array.getElem?_range, if_pos hlt, Option.map_some]
 have hm : (i * 4 + j) % 4 = j := by omega
 have : j = 0 ∨ j = 1 ∨ j = 2 ∨ j = 3 := by omega
 have hm' : (i * 4 + j) % (#[Value.int .i64 0, .int .i64 0, .int .i64 0, .string ByteArray.empty] : Array Value).size = j := hm
 rw [hm']
 rcases this with rfl | rfl | rfl | rfl <;> simpa [Sh.cells, sh0] using hv
theorem ShRow.shs {w : World} {b N : Nat} {f : Nat → Sh} (h : ShRow w b N f) (hN : N ≤ 1000000) (l : List Sh) (hl : l.length = N) (hf : ∀ i, i < N → l.getD i sh0 = f i) (hi : ∀ x ∈ l, x.In) : Shs w (some ⟨b, 0, none⟩) N N l := by
 refine ⟨⟨by rw [flatL_len _ 4 Sh.cells_len, hl], Nat.le_refl _, by unfold maxLen; omega, (fun e => nomatch e), fun _ => ⟨b, 0, rfl, fun j v hv => ?_⟩⟩, hl, hi⟩
 have hj : j < l.length * 4 := by rw [← flatL_len Sh.cells 4 Sh.cells_len]; exact (List.getElem?_eq_some_iff.1 hv).1
 have e : j = (j / 4) * 4 + j % 4 := by omega
 rw [e, flatL_get sh0 Sh.cells 4 Sh.cells_len l (j / 4) (j % 4) (by omega) (by omega), hf (j / 4) (by omega)] at hv
 rw [Nat.zero_add, e]
 exact h.cell (j / 4) (by omega) (j % 4) v hv
theorem ShRow.congr {w : World} {b N : Nat} {f g : Nat → Sh} (h : ShRow w b N f) (e : ∀ i, i < N → f i = g i) : ShRow w b N g := by
 obtain ⟨cs, h1, h2, h3⟩ := h.bk
 exact ⟨cs, h1, h2, fun i hi j v hv => h3 i hi j v (by rw [e i hi]; exact hv)⟩
theorem info_shL : (Tryz.prog.info? 93).map (fun i => (i.zero, i.size, i.bytes)) = some (some (.agg #[.int .i64 0, .int .i64 0, .int .i64 0, .string ByteArray.empty]), 4, 40) := by kernel_rfl
theorem make_shs (n : Nat) (hn : n ≤ 1000000) (W : World) : (Instr.makeSlice 73 (.int .i64 (n : Int)) (.int .i64 (n : Int))).run Tryz.prog W =
  .ok (.slice (some ⟨W.heap.size, 0, none⟩) n n) (W.alloc (.cells (madeCells #[.int .i64 0, .int .i64 0, .int .i64 0, .string ByteArray.empty] (n * 4)) 93)) := by
 obtain ⟨i0, hi, hz0, hz1, hz2⟩ := info_parts info_shL
 have := run_make (P := Tryz.prog) W 73 93 i0 _ Tryz.underlying73 hi hz0 .i64 .i64 n n (by omega) (by omega) (by rw [hz2]; omega) (by omega)
 rw [this, hz1, Int.toNat_natCast]
 rfl
end
end Go.Proofs.YtfmfmdiegabobabGreatDoor
