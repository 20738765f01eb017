/- What it says: contracts and plain mathematics that the laws' walks use, 3 of 33: each part's own remark says what; no condition. -/
import Derived.Test.YtfmfmdiegabobabGreatDoorPw1
import Derived.Test.YtfmfmdiegabobabGreatDoorPw2
import Derived.Deep.QuietTactic
import Derived.BigQuiet
import Derived.RegionTactic
import Derived.BigRegion
import Derived.Deep.RegionHeld3

set_option linter.unusedSimpArgs false
set_option linter.unusedVariables false
set_option linter.deprecated false
set_option linter.unusedSectionVars false
set_option linter.all false
set_option maxRecDepth 100000
set_option maxHeartbeats 16000000
namespace Go.Proofs.YtfmfmdiegabobabGreatDoor

/- crc.Sum and trothref02.Sum answer the checksum of what a slice reads as; nothing is turned. -/
section
open Go.RowKit
theorem crc_next (l : List Int) (k : Nat) (hk : k < l.length) (x : Nat) (hx : l.getD k 0 = (x : Int)) : crcFrom ones (l.take (k + 1)) = steps 8 (crcFrom ones (l.take k) ^^^ x) := by
 rw [List.take_succ_eq_append_getElem hk, crcFrom_snoc, stepByte]
 simp [List.getD, List.getElem?_eq_getElem hk] at hx
 rw [hx, Int.toNat_natCast]
theorem not32 (v : Nat) (h : v < 4294967296) : bits .xor .u32 (v : Int) 4294967295 = ((v ^^^ ones : Nat) : Int) := by
 have := xor32 v 4294967295 h (by omega)
 exact this
theorem not_u32 (v : Nat) (h : v < 4294967296) : bits .xor .u32 IntKind.u32.max (v : Int) = ((v ^^^ ones : Nat) : Int) := by
 have := xor32 4294967295 v (by omega) h
 rw [Nat.xor_comm] at this
 exact this
theorem ret32 {a b : Int} (h : a = b) : Ending.returned (.int .u32 a) = .returned (.int .u32 b) := by rw [h]
theorem crcSum_rows (g off n c : Nat) (l : List Int) (w : World) (h : Byt w (some ⟨g, off, none⟩) n c l) (hn : 0 < n) (hT : Tab w) :
  Calls Tryz.prog 131 #[.slice (some ⟨g, off, none⟩) n c] w (Same32 (crcL l : Nat) w) := by
 have hc0 : ∀ i, i < n → w.cell? ⟨g, off + i, none⟩ = some (.int .u8 (l.getD i 0)) := by
  obtain ⟨g1, o1, e, hc⟩ := h.at_ hn
  injection e with e; injection e with e1 e2; subst e1; subst e2
  exact hc
 have hcap := h.cap
 have hmax := h.max
 unfold maxLen at hmax
 have HL := Lib.hid h.len
 have HR := Lib.hid h.lt_
 have HC := Lib.hid hc0
 have HT := Lib.hid hT
 clear hc0 h hT
 go_enter Tryz.func131, Tryz.ntmps131
 go_wp2_with fail
 go_loop [3, 8] (fun s j => ∃ i v : Nat, i ≤ n ∧ v < 4294967296 ∧ s = .int .u32 v ∧ j = .int .i64 i ∧ v = crcFrom ones (l.take i)) (fun _ j => n - (intOf j).toNat)
 case atStart => exact ⟨0, ones, Nat.zero_le _, by decide, rfl, rfl, rfl⟩
 case round =>
  obtain ⟨i, v, hin, hv, rfl, rfl, ev⟩ := hrel
  have EV := Lib.hid ev
  clear ev
  by_cases hlt : i < n
  ·have hx := HC.out i hlt
   have hr := HR.out i hlt
   obtain ⟨x, ex⟩ : ∃ x : Nat, x = (l.getD i 0).toNat := ⟨_, rfl⟩
   have exi : l.getD i 0 = (x : Int) := by omega
   rw [exi] at hx hr
   have hx256 : x < 256 := by omega
   have hst := crc_next l i (by rw [HL.out]; exact hlt) x exi
   rw [← EV.out] at hst
   have hxor := xor32 v x hv (by omega)
   have hd : v ^^^ x < 4294967296 := Nat.xor_lt_two_pow (n := 32) hv (by omega)
   obtain ⟨d, ed⟩ : ∃ d, v ^^^ x = d := ⟨_, rfl⟩
   rw [ed] at hst hxor hd
   have CS := shiftByte_any d hd w HT.out
   have hs8 : steps 8 d < 4294967296 := steps_lt 8 hd
   obtain ⟨z, ez⟩ : ∃ z, steps 8 d = z := ⟨_, rfl⟩
   rw [ez] at CS hst hs8
   have HST := Lib.hid hst
   have HCS := Lib.hid CS
   obtain ⟨hr0, hr1⟩ := hr
   clear exi ex ed ez hst CS hr0 hr1
   go_wp2_with fail
   refine HCS.out.mono ?_
   rintro e w1 ⟨rfl, rfl⟩
   clear hxor hx
   go_wp2_with fail
   go_round
   case rel => exact ⟨i + 1, z, by omega, hs8, rfl, by go_num, HST.out.symm⟩
   case measure => simp [intOf]; omega
  ·have hik : i = n := by omega
   subst hik
   have e := EV.out
   rw [List.take_of_length_le (by rw [HL.out]; omega)] at e
   have E := Lib.hid e
   clear e
   go_wp2_with fail
   go_ret
   exact ⟨ret32 (by rw [not_u32 v hv, E.out]; rfl), rfl⟩
theorem crcSum_any (A : Option Addr) (n c : Nat) (l : List Int) (w : World) (h : Byt w A n c l) (hT : Tab w) :
  Calls Tryz.prog 131 #[.slice A n c] w (Same32 (crcL l : Nat) w) := by
 by_cases hn : 0 < n
 ·obtain ⟨g, off, rfl, _⟩ := h.at_ hn
  exact crcSum_rows g off n c l w h hn hT
 ·have h0 : n = 0 := by omega
  subst h0
  have e : l = [] := List.eq_nil_of_length_eq_zero h.len
  subst e
  clear h hn hT
  go_enter Tryz.func131, Tryz.ntmps131
  go_wp2_with fail
  refine wp_loop_rounds 1 ?_
  rw [rounds_succ]
  go_wp2_with fail
  go_ret
  exact ⟨ret32 (by rw [crcL_nil]; rfl), rfl⟩
end

/- bytes.Clone of any slice, bytes.Equal, the writer's Bytes, and the four bytes of a checksum. -/
section
open Go.RowKit
theorem Tab.ret {w w' : World} (h : Tab w) (hb : Below w.heap.size w w') : Tab w' := h.below hb (World.block_lt_of_cell? w _ (h 0 (by omega)))
theorem cloneNil (c : Nat) (l : List Int) (w : World) (h : Byt w none 0 c l) : Calls Tryz.prog 103 #[.slice none 0 0] w (RetOwn l w) := by
 have e : l = [] := List.eq_nil_of_length_eq_zero h.len
 subst e
 have q := fun w : World => Lib.run_eql_slice_nil (P := Tryz.prog) w 59 5 none 0 0 0 0 Tryz.underlying59
 clear h
 go_enter Tryz.func103, Tryz.ntmps103
 go_wp2_with fail
 go_ret
 exact ⟨none, 0, 0, rfl, World.ownsRow_nil _ _ _ _, by simp, Below.refl _ _⟩
theorem clone_all_own (A : Option Addr) (n c : Nat) (l : List Int) (w : World) (h : Byt w A n c l) (hn : n ≤ 140737488355328) :
  Calls Tryz.prog 103 #[.slice A n c] w (RetOwn l w) := by
 cases A with
 | none =>
  obtain ⟨rfl, rfl⟩ := h.nil_ rfl
  exact cloneNil 0 l w h
 | some a => exact clone_own a n c l w h hn
theorem equal_any (A : Option Addr) (n c : Nat) (A' : Option Addr) (n' c' : Nat) (l l' : List Int) (w : World) (h : Byt w A n c l) (h' : Byt w A' n' c' l') :
  Calls Tryz.prog 136 #[.slice A n c, .slice A' n' c'] w (fun e w' => e = .returned (.bool (decide (l = l'))) ∧ w = w') := by
 have k1 := conv_byt h
 have k2 := conv_byt h'
 have hq : ((strOfNums l).toList == (strOfNums l').toList) = decide (l = l') := by
  rw [Lib.toList_data, Lib.toList_data]
  by_cases e : l = l'
  ·subst e; simp
  ·have : (strOfNums l).data.toList ≠ (strOfNums l').data.toList := fun e' => e (str_inj h.rng h'.rng (ByteArray.ext (Array.ext' e')))
   simp only [e, decide_false]
   rw [beq_eq_false_iff_ne]
   exact this
 have HQ := Lib.hid hq
 clear hq h h'
 go_enter Tryz.func136, Tryz.ntmps136
 go_wp2_with fail
 go_ret
 refine ⟨?_, rfl⟩
 rw [← HQ.out]
 rfl
theorem equal_yes (A : Option Addr) (n c : Nat) (A' : Option Addr) (n' c' : Nat) (l l' : List Int) (w : World) (h : Byt w A n c l) (h' : Byt w A' n' c' l') (e : l = l') :
  Calls Tryz.prog 136 #[.slice A n c, .slice A' n' c'] w (fun e w' => e = .returned (.bool true) ∧ w = w') := by
 have := equal_any A n c A' n' c' l l' w h h'
 rw [show decide (l = l') = true from by simp [e]] at this
 exact this
theorem equal_no (A : Option Addr) (n c : Nat) (A' : Option Addr) (n' c' : Nat) (l l' : List Int) (w : World) (h : Byt w A n c l) (h' : Byt w A' n' c' l') (e : l ≠ l') :
  Calls Tryz.prog 136 #[.slice A n c, .slice A' n' c'] w (fun e w' => e = .returned (.bool false) ∧ w = w') := by
 have := equal_any A n c A' n' c' l l' w h h'
 rw [show decide (l = l') = false from by simp [e]] at this
 exact this
theorem wBytes_own (base b : Nat) (l : List Int) (w : World) (h : Wrt w base b l) (hl : l.length ≤ 140737488355328) :
  Calls Tryz.prog 68 #[.pointer (some ⟨b, 0, none⟩)] w (RetOwn l w) := by
 obtain ⟨A, n, c, hb, ho⟩ := h.ex
 have hn : l.length = n := by simpa using ho.1
 have hcell : w.cell? ⟨b, 0, none⟩ = some (.slice A n c) := hb.cell 0
 have C := Lib.hid (clone_all_own A n c l w (Byt.of_own ho h.rng) (by omega))
 clear h hb ho hn
 go_enter Tryz.func68, Tryz.ntmps68
 go_wp2_with fail
 refine C.out.mono ?_
 rintro e w1 ⟨A1, n1, c1, rfl, R⟩
 have R := Lib.hid R
 go_wp2_with fail
 go_ret
 exact ⟨A1, n1, c1, rfl, R.out⟩
def sumL (l : List Int) : List Int := le4 (crcL l)
theorem sumL_rng (l : List Int) : ∀ x ∈ sumL l, 0 ≤ x ∧ x < 256 := le4_rng _
theorem sumL_len (l : List Int) : (sumL l).length = 4 := rfl
theorem sumOf_any (A : Option Addr) (n c : Nat) (l : List Int) (w : World) (h : Byt w A n c l) (hT : Tab w) :
  Calls Tryz.prog 106 #[.slice A n c] w (RetByt (sumL l) w) := by
 have C := Lib.hid (crcSum_any A n c l w h hT)
 have hx := crcL_lt l h.rng
 have e : sumL l = le4 (crcL l) := rfl
 obtain ⟨x, ex⟩ : ∃ x, crcL l = x := ⟨_, rfl⟩
 rw [ex] at C hx e
 have E := Lib.hid e
 clear h hT ex e
 go_enter Tryz.func106, Tryz.ntmps106
 go_wp2_with fail
 refine C.out.mono ?_
 rintro e w1 ⟨rfl, rfl⟩
 go_wp2_with fail
 go_ret
 refine ⟨_, 4, 4, rfl, ?_, (Below.refl _ _).alloc (Nat.le_refl _) _⟩
 rw [E.out]
 have := Byt.lit w 5 (le4 x) 4 rfl (by unfold maxLen; omega) (le4_rng x)
 have e4 : (x : Int) / 16777216 = (x : Int) / 16777216 % 256 := by omega
 rw [e4]
 simpa [le4] using this
end

/- seal.Open answers the body at the beginning of bytes, how many bytes it has with its sum, or the first error. -/
section
open Go.RowKit
theorem textF_ok {l : List Int} (hr : ∀ x ∈ l, 0 ≤ x ∧ x < 256) {most : Int} (h : (textF l most).2.2 = 0) :
  (textF l most).2.1 ≤ l.length ∧ l.take (textF l most).2.1 = textL (textF l most).1 ∧ ((textF l most).1.length : Int) ≤ most := by
 unfold textF at h ⊢
 split at h
 ·rename_i h0; exact absurd h h0
 ·rename_i h0
  split at h
  ·simp at h
  ·rename_i h1
   rw [if_neg h0, if_neg h1]
   obtain ⟨hx, hk, hs⟩ := numF_ok hr (l := l) (most := most) (by omega)
   have hl : ((l.drop (numF l most).2.1).take (numF l most).1).length = (numF l most).1 := by rw [List.length_take, List.length_drop]; omega
   refine ⟨by simp only; omega, ?_, by simp only; rw [hl]; exact hx⟩
   simp only
   unfold textL
   rw [hl, hs, List.take_add]
def openF (l : List Int) : List Int × Nat × Nat :=
 if (textF l 4096).2.2 ≠ 0 then ([], 0, (textF l 4096).2.2) else if l.length - (textF l 4096).2.1 < 4 then ([], 0, 10) else
  if (l.drop (textF l 4096).2.1).take 4 = sumL (l.take (textF l 4096).2.1) then ((textF l 4096).1, (textF l 4096).2.1 + 4, 0) else ([], 0, 30)
theorem triple {α β γ : Type} {a a' : α} {b b' : β} {c c' : γ} (h : (a, b, c) = (a', b', c')) : a = a' ∧ b = b' ∧ c = c' := by
 injection h with e1 e2
 injection e2 with e2 e3
 exact ⟨e1, e2, e3⟩
def Ret3O (l : List Int) (u e0 : Nat) (w : World) (e : Ending) (w' : World) : Prop :=
 ∃ A n c, e = .returned (.tuple #[.slice A n c, .int .i64 u, .int .i64 e0]) ∧ w'.ownsRow w.heap.size 5 1 (.slice A n c) n (l.map (Value.int .u8)) ∧ (∀ x ∈ l, 0 ≤ x ∧ x < 256) ∧ Below w.heap.size w w'
theorem Ret3O.nil {w w' : World} (u e0 : Nat) (hb : Below w.heap.size w w') : Ret3O [] u e0 w (.returned (.tuple #[.slice none 0 0, .int .i64 u, .int .i64 e0])) w' := ⟨none, 0, 0, rfl, World.ownsRow_nil _ _ _ _, by simp, hb⟩
theorem own_base {w : World} {b b' n : Nat} {v : Value} {xs : List Value} (h : w.ownsRow b 5 1 v n xs) (hb : b' ≤ b) : w.ownsRow b' 5 1 v n xs := by
 refine ⟨h.1, ?_⟩
 rcases h.2 with h | ⟨g, cap, cur, h1, h2, h3⟩
 ·exact .inl h
 ·exact .inr ⟨g, cap, cur, h1, Nat.le_trans hb h2, h3⟩
theorem open_own (A : Option Addr) (n c : Nat) (l : List Int) (w : World) (h : Byt w A n c l) (hn : n ≤ 140737488351232) (hT : Tab w) (b : List Int) (u e : Nat) (hF : openF l = (b, u, e)) :
  Calls Tryz.prog 113 #[.slice A n c] w (Ret3O b u e w) := by
 obtain ⟨b0, u0, e0, ht⟩ : ∃ b u e, textF l 4096 = (b, u, e) := ⟨_, _, _, rfl⟩
 have hok := fun e => textF_ok h.rng (most := 4096) e
 rw [ht] at hok
 have C := Lib.hid (firstText_any A n c l 4096 w h (by omega) b0 u0 e0 ht)
 have hF' : (if e0 ≠ 0 then ([], 0, e0) else if l.length - u0 < 4 then ([], 0, 10) else if (l.drop u0).take 4 = sumL (l.take u0) then (b0, u0 + 4, 0) else ([], 0, 30)) = (b, u, e) := by
  rw [← hF]; unfold openF; rw [ht]
 have hlen := h.len
 have hcap := h.cap
 have hmax := h.max
 unfold maxLen at hmax
 clear ht hF
 by_cases h0 : e0 = 0
 ·subst h0
  obtain ⟨hu, hbt, hb4⟩ := hok rfl
  simp only at hu hb4
  clear hbt
  rw [if_neg (by simp)] at hF'
  clear hok
  have hun : u0 ≤ n := by omega
  obtain ⟨B1, d1, hs1, hb1⟩ := cut_h h u0 hun (u0 : Int) rfl
  obtain ⟨B2, m2, d2, hs2, hm2, hb2⟩ := cut_l h u0 hun (u0 : Int) rfl
  have HB := Lib.hid h
  have HB1 := Lib.hid hb1
  by_cases h2 : m2 < 4
  ·rw [if_pos (by omega)] at hF'
   obtain ⟨rfl, rfl, rfl⟩ := triple hF'
   clear h hb1 hb2 hm2 hun
   have h4 : (m2 : Int) < 4 := by omega
   go_enter Tryz.func113, Tryz.ntmps113
   go_wp2_with fail
   refine C.out.mono ?_
   rintro e w1 ⟨A1, n1, c1, rfl, hbb, bel1⟩
   have L1 := Lib.hid bel1
   clear hbb bel1
   go_wp2_with fail
   go_quiet (fail)
   go_wp2_with fail
   go_ret3
   exact Ret3O.nil _ _ (below_drewN L1.out _)
  ·rw [if_neg (by omega)] at hF'
   obtain ⟨B3, d3, hs3, hb3⟩ := cut_h hb2 4 (by omega) (4 : Int) rfl
   have HB3 := Lib.hid hb3
   have h4 : ¬ (m2 : Int) < 4 := by omega
   have HT := Lib.hid hT
   have hb4' : b0.length ≤ 4096 := by omega
   have HB4 := Lib.hid hb4'
   clear h hb1 hb2 hb3 hm2 h2 hT hb4 hb4'
   by_cases hq : (l.drop u0).take 4 = sumL (l.take u0)
   ·rw [if_pos hq] at hF'
    have HQ := Lib.hid hq
    obtain ⟨rfl, rfl, rfl⟩ := triple hF'
    clear hF' hq
    go_enter Tryz.func113, Tryz.ntmps113
    go_wp2_with fail
    refine C.out.mono ?_
    rintro e w1 ⟨A1, n1, c1, rfl, hbb, bel1⟩
    have L1 := Lib.hid bel1
    have HBB := Lib.hid hbb
    clear hbb bel1
    go_wp2_with fail
    go_quiet (fail)
    go_wp2_with fail
    have LD := Lib.hid (Below.drew (below_drewN L1.out nq))
    have HBD := Lib.hid ((HBB.out.drewN nq).drew)
    clear L1 HBB
    go_region_held3 (fun w' => True) (trivial) (first | (go_at_call 106; refine (sumOf_any _ _ _ _ _ (HB1.out.below LD.out) (HT.out.ret LD.out)).mono ?_; rintro e w2 ⟨A2, n2, c2, rfl, hb2, b2⟩) | (go_at_call 136; refine (equal_yes _ _ _ _ _ _ _ _ _ (HB3.out.below (Below.then LD.out b2)) hb2 HQ.out).mono ?_; rintro e w3 ⟨rfl, rfl⟩))
    have C2 := Lib.hid (clone_all_own A1 n1 c1 b0 w2 (HBD.out.below b2) (by have := HBD.out.len; have := HB4.out; omega))
    have L2 := Lib.hid (Below.then LD.out b2)
    clear hb2 b2 LD HBD
    go_wp2_with fail
    refine C2.out.mono ?_
    rintro e w3 ⟨A3, n3, c3, rfl, ho3, hr3, b3⟩
    have HO3 := Lib.hid (own_base ho3 L2.out.size)
    have HR3 := Lib.hid hr3
    have L3 := Lib.hid (Below.then L2.out b3)
    clear ho3 hr3 b3
    go_wp2_with fail
    go_ret3
    exact ⟨A3, n3, c3, rfl, HO3.out, HR3.out, L3.out⟩
   ·rw [if_neg hq] at hF'
    have HQ := Lib.hid hq
    obtain ⟨rfl, rfl, rfl⟩ := triple hF'
    clear hF' hq
    go_enter Tryz.func113, Tryz.ntmps113
    go_wp2_with fail
    refine C.out.mono ?_
    rintro e w1 ⟨A1, n1, c1, rfl, hbb, bel1⟩
    have L1 := Lib.hid bel1
    have HBB := Lib.hid hbb
    clear hbb bel1
    go_wp2_with fail
    go_quiet (fail)
    go_wp2_with fail
    have LD := Lib.hid (Below.drew (below_drewN L1.out nq))
    have HBD := Lib.hid ((HBB.out.drewN nq).drew)
    clear L1 HBB
    go_region_held3 (fun w' => True) (trivial) (first | (go_at_call 106; refine (sumOf_any _ _ _ _ _ (HB1.out.below LD.out) (HT.out.ret LD.out)).mono ?_; rintro e w2 ⟨A2, n2, c2, rfl, hb2, b2⟩) | (go_at_call 136; refine (equal_no _ _ _ _ _ _ _ _ _ (HB3.out.below (Below.then LD.out b2)) hb2 HQ.out).mono ?_; rintro e w3 ⟨rfl, rfl⟩))
    have L2 := Lib.hid (Below.then LD.out b2)
    clear hb2 b2 LD HBD
    go_wp2_with fail
    go_ret3
    exact Ret3O.nil _ _ L2.out
 ·rw [if_pos h0] at hF'
  obtain ⟨rfl, rfl, rfl⟩ := triple hF'
  have hne : ((e0 : Int) != 0) = true := by simp; omega
  clear h0 hok h hT
  go_enter Tryz.func113, Tryz.ntmps113
  go_wp2_with fail
  refine C.out.mono ?_
  rintro e w1 ⟨A1, n1, c1, rfl, hbb, bel1⟩
  have L1 := Lib.hid bel1
  clear hbb bel1
  go_wp2_with fail
  go_ret3
  exact Ret3O.nil _ _ L1.out
end

/- readings that go one behind the other: each hands back what was written, and the rest; what is read has just the bytes that were read; no beginning of what was written is read. Put together of numbers, flags and texts. No program is named. -/
section
open Go.RowKit
abbrev Sg := List Int × Nat
structure Codec {α : Type} (p : Sg → α × Sg) (enc : α → List Int) (D : α → Prop) : Prop where
 stick : ∀ σ : Sg, σ.2 ≠ 0 → (p σ).2 = σ
 rng : ∀ σ : Sg, (∀ y ∈ σ.1, 0 ≤ y ∧ y < 256) → ∀ y ∈ (p σ).2.1, 0 ≤ y ∧ y < 256
 back : ∀ x r, D x → p (enc x ++ r, 0) = (x, (r, 0))
 exact : ∀ l, (∀ y ∈ l, 0 ≤ y ∧ y < 256) → (p (l, 0)).2.2 = 0 → l = enc (p (l, 0)).1 ++ (p (l, 0)).2.1 ∧ D (p (l, 0)).1
 cut : ∀ x k, D x → k < (enc x).length → (p ((enc x).take k, 0)).2.2 = 10
def pPrim {α : Type} (F : List Int → α × Nat × Nat) (z : α) (σ : Sg) : α × Sg :=
 (if σ.2 ≠ 0 then z else if (F σ.1).2.2 ≠ 0 then z else (F σ.1).1, (stepL σ.1 (F σ.1).2.1 σ.2 (F σ.1).2.2, stepE σ.2 (F σ.1).2.2))
section
variable {α β : Type}
theorem pPrim_stick (F : List Int → α × Nat × Nat) (z : α) (σ : Sg) (h : σ.2 ≠ 0) : (pPrim F z σ).2 = σ := by
 unfold pPrim stepL stepE
 simp only [if_pos h]
theorem pPrim_rng (F : List Int → α × Nat × Nat) (z : α) (σ : Sg) (h : ∀ y ∈ σ.1, 0 ≤ y ∧ y < 256) : ∀ y ∈ (pPrim F z σ).2.1, 0 ≤ y ∧ y < 256 := by
 show ∀ y ∈ stepL _ _ _ _, _
 unfold stepL
 split
 ·exact h
 ·split
  ·exact h
  ·exact fun y hy => h y (List.mem_of_mem_drop hy)
theorem pPrim_ok {F : List Int → α × Nat × Nat} {z : α} {l : List Int} (h : (F l).2.2 = 0) : pPrim F z (l, 0) = ((F l).1, (l.drop (F l).2.1, 0)) := by
 unfold pPrim stepL stepE
 simp [h]
theorem pPrim_err (F : List Int → α × Nat × Nat) (z : α) (l : List Int) : (pPrim F z (l, 0)).2.2 = (F l).2.2 := by
 show stepE 0 _ = _
 rfl
theorem Codec.prim {F : List Int → α × Nat × Nat} {z : α} {enc : α → List Int} {D : α → Prop} (hb : ∀ x r, D x → F (enc x ++ r) = (x, (enc x).length, 0))
  (he : ∀ l, (∀ y ∈ l, 0 ≤ y ∧ y < 256) → (F l).2.2 = 0 → l.take (F l).2.1 = enc (F l).1 ∧ D (F l).1) (hc : ∀ x k, D x → k < (enc x).length → (F ((enc x).take k)).2.2 = 10) : Codec (pPrim F z) enc D := by
 refine ⟨pPrim_stick F z, pPrim_rng F z, fun x r hx => ?_, fun l hl h => ?_, fun x k hx hk => ?_⟩
 ·have e := hb x r hx
  rw [pPrim_ok (by rw [e]), e]
  simp
 ·rw [pPrim_err] at h
  rw [pPrim_ok h]
  obtain ⟨h1, h2⟩ := he l hl h
  refine ⟨?_, h2⟩
  show l = enc (F l).1 ++ l.drop (F l).2.1
  rw [← h1, List.take_append_drop]
 ·rw [pPrim_err]
  exact hc x k hx hk
theorem Codec.pure (z : α) : Codec (fun σ => (z, σ)) (fun _ => []) (· = z) :=
 ⟨fun _ _ => rfl, fun _ h => h, fun x r hx => by subst hx; rfl, fun l _ _ => ⟨rfl, rfl⟩, fun _ k _ hk => absurd hk (by simp)⟩
def pBind (p : Sg → α × Sg) (q : α → Sg → β × Sg) (σ : Sg) : (α × β) × Sg := (((p σ).1, (q (p σ).1 (p σ).2).1), (q (p σ).1 (p σ).2).2)
theorem Codec.bind {p : Sg → α × Sg} {q : α → Sg → β × Sg} {ea : α → List Int} {eb : α → β → List Int} {DA : α → Prop} {DB : α → β → Prop} (hp : Codec p ea DA) (hq : ∀ a, Codec (q a) (eb a) (DB a)) :
  Codec (pBind p q) (fun x => ea x.1 ++ eb x.1 x.2) (fun x => DA x.1 ∧ DB x.1 x.2) := by
 refine ⟨fun σ h => ?_, fun σ h => ?_, fun x r hx => ?_, fun l hl h => ?_, fun x k hx hk => ?_⟩
 ·show (q (p σ).1 (p σ).2).2 = σ
  rw [(hq _).stick _ (by rw [hp.stick σ h]; exact h), hp.stick σ h]
 ·exact (hq _).rng _ (hp.rng σ h)
 ·unfold pBind
  rw [List.append_assoc, hp.back _ _ hx.1]
  show ((x.1, (q x.1 (eb x.1 x.2 ++ r, 0)).1), (q x.1 (eb x.1 x.2 ++ r, 0)).2) = _
  rw [(hq x.1).back _ _ hx.2]
 ·have h' : (q (p (l, 0)).1 (p (l, 0)).2).2.2 = 0 := h
  have h0 : (p (l, 0)).2.2 = 0 := by
   by_cases e : (p (l, 0)).2.2 = 0
   ·exact e
   ·rw [(hq _).stick _ e] at h'
    exact absurd h' e
  obtain ⟨a, ha⟩ : ∃ a, p (l, 0) = a := ⟨_, rfl⟩
  obtain ⟨h1, h2⟩ := hp.exact l hl h0
  have hr := hp.rng (l, 0) hl
  show l = (ea (p (l, 0)).1 ++ eb (p (l, 0)).1 (q (p (l, 0)).1 (p (l, 0)).2).1) ++ (q (p (l, 0)).1 (p (l, 0)).2).2.1 ∧ DA (p (l, 0)).1 ∧ DB (p (l, 0)).1 (q (p (l, 0)).1 (p (l, 0)).2).1
  rw [ha] at h0 h1 h2 hr h' ⊢
  obtain ⟨a1, a2, a3⟩ := a
  simp only at h0 h1 h2 hr h' ⊢
  subst h0
  obtain ⟨h3, h4⟩ := (hq a1).exact a2 hr h'
  refine ⟨?_, h2, h4⟩
  rw [List.append_assoc, ← h3]
  exact h1
 ·by_cases hka : k < (ea x.1).length
  ·have e : (ea x.1 ++ eb x.1 x.2).take k = (ea x.1).take k := by rw [List.take_append_of_le_length (by omega)]
   show (q (p ((ea x.1 ++ eb x.1 x.2).take k, 0)).1 (p ((ea x.1 ++ eb x.1 x.2).take k, 0)).2).2.2 = 10
   rw [e]
   have c := hp.cut x.1 k hx.1 hka
   rw [(hq _).stick _ (by rw [c]; simp), c]
  ·have e : (ea x.1 ++ eb x.1 x.2).take k = ea x.1 ++ (eb x.1 x.2).take (k - (ea x.1).length) := by rw [List.take_append, List.take_of_length_le (by omega)]
   show (q (p ((ea x.1 ++ eb x.1 x.2).take k, 0)).1 (p ((ea x.1 ++ eb x.1 x.2).take k, 0)).2).2.2 = 10
   rw [e, hp.back _ _ hx.1]
   exact (hq x.1).cut x.2 _ hx.2 (by rw [List.length_append] at hk; omega)
theorem Codec.map {p : Sg → α × Sg} {ea : α → List Int} {DA : α → Prop} (hp : Codec p ea DA) (f : α → β) (g : β → α) (hfg : ∀ b, f (g b) = b) (hgf : ∀ a, g (f a) = a) :
  Codec (fun σ => (f (p σ).1, (p σ).2)) (fun b => ea (g b)) (fun b => DA (g b)) :=
 ⟨hp.stick, hp.rng, fun x r hx => by rw [hp.back _ _ hx, hfg], fun l hl h => by
  have := hp.exact l hl h
  simp only [hgf]
  exact this, fun x k hx hk => hp.cut _ k hx hk⟩
def pRep (p : Sg → α × Sg) (σ : Sg) : Nat → List α × Sg
 | 0 => ([], σ)
 | k + 1 => ((pRep p σ k).1 ++ [(p (pRep p σ k).2).1], (p (pRep p σ k).2).2)
theorem pRep_len (p : Sg → α × Sg) (σ : Sg) : ∀ k, (pRep p σ k).1.length = k
 | 0 => rfl
 | k + 1 => by show ((pRep p σ k).1 ++ [_]).length = _; rw [List.length_append, pRep_len p σ k]; rfl
theorem pRep_stick {p : Sg → α × Sg} {enc : α → List Int} {D : α → Prop} (hp : Codec p enc D) (σ : Sg) (h : σ.2 ≠ 0) : ∀ k, (pRep p σ k).2 = σ
 | 0 => rfl
 | k + 1 => by
  show (p (pRep p σ k).2).2 = σ
  rw [pRep_stick hp σ h k]
  exact hp.stick σ h
theorem pRep_rng {p : Sg → α × Sg} {enc : α → List Int} {D : α → Prop} (hp : Codec p enc D) (σ : Sg) (h : ∀ y ∈ σ.1, 0 ≤ y ∧ y < 256) : ∀ k, ∀ y ∈ (pRep p σ k).2.1, 0 ≤ y ∧ y < 256
 | 0 => h
 | k + 1 => hp.rng _ (pRep_rng hp σ h k)
theorem pRep_back {p : Sg → α × Sg} {enc : α → List Int} {D : α → Prop} (hp : Codec p enc D) (r : List Int) : ∀ (xs ys : List α), (∀ x ∈ xs, D x) → pRep p ((xs ++ ys).flatMap enc ++ r, 0) xs.length = (xs, (ys.flatMap enc ++ r, 0)) := by
 intro xs
 induction xs using snocRec with
 | nil => intro ys _; simp [pRep]
 | snoc xs x ih =>
  intro ys hD
  have h := ih (x :: ys) (fun y hy => hD y (List.mem_append_left _ hy))
  rw [List.length_append]
  show ((pRep p _ xs.length).1 ++ [(p (pRep p _ xs.length).2).1], (p (pRep p _ xs.length).2).2) = _
  rw [List.append_assoc]
  show ((pRep p ((xs ++ x :: ys).flatMap enc ++ r, 0) xs.length).1 ++ [_], _) = _
  have e : [x] ++ ys = x :: ys := rfl
  rw [e, h]
  simp only [List.flatMap_cons, List.append_assoc]
  rw [hp.back x _ (hD x (by simp))]
theorem pRep_exact {p : Sg → α × Sg} {enc : α → List Int} {D : α → Prop} (hp : Codec p enc D) (l : List Int) (hl : ∀ y ∈ l, 0 ≤ y ∧ y < 256) : ∀ k, (pRep p (l, 0) k).2.2 = 0 → l = (pRep p (l, 0) k).1.flatMap enc ++ (pRep p (l, 0) k).2.1 ∧ ∀ x ∈ (pRep p (l, 0) k).1, D x
 | 0, _ => by simp [pRep]
 | k + 1, h => by
  have h' : (p (pRep p (l, 0) k).2).2.2 = 0 := h
  have h0 : (pRep p (l, 0) k).2.2 = 0 := by
   by_cases e : (pRep p (l, 0) k).2.2 = 0
   ·exact e
   ·rw [hp.stick _ e] at h'
    exact absurd h' e
  obtain ⟨h1, h2⟩ := pRep_exact hp l hl k h0
  have hr := pRep_rng hp (l, 0) hl k
  show l = ((pRep p (l, 0) k).1 ++ [(p (pRep p (l, 0) k).2).1]).flatMap enc ++ (p (pRep p (l, 0) k).2).2.1 ∧ ∀ x ∈ (pRep p (l, 0) k).1 ++ [(p (pRep p (l, 0) k).2).1], D x
  obtain ⟨a, ha⟩ : ∃ a, pRep p (l, 0) k = a := ⟨_, rfl⟩
  rw [ha] at h0 h1 h2 hr h' ⊢
  obtain ⟨a1, a2, a3⟩ := a
  simp only at h0 h1 h2 hr h' ⊢
  subst h0
  obtain ⟨h3, h4⟩ := hp.exact a2 hr h'
  refine ⟨?_, fun x hx => ?_⟩
  ·rw [List.flatMap_append, List.flatMap_singleton, List.append_assoc, ← h3]
   exact h1
  ·rcases List.mem_append.1 hx with q | q
   ·exact h2 x q
   ·simp at q; rw [q]; exact h4
theorem pRep_cut {p : Sg → α × Sg} {enc : α → List Int} {D : α → Prop} (hp : Codec p enc D) : ∀ (xs : List α) (k : Nat), (∀ x ∈ xs, D x) → k < (xs.flatMap enc).length → (pRep p ((xs.flatMap enc).take k, 0) xs.length).2.2 = 10 := by
 intro xs
 induction xs using snocRec with
 | nil => intro k _ hk; simp at hk
 | snoc xs x ih =>
  intro k hD hk
  have hD1 : ∀ y ∈ xs, D y := fun y hy => hD y (List.mem_append_left _ hy)
  rw [List.length_append]
  show (p (pRep p _ xs.length).2).2.2 = 10
  have e0 : (xs ++ [x]).flatMap enc = xs.flatMap enc ++ enc x := by rw [List.flatMap_append, List.flatMap_singleton]
  rw [e0] at hk ⊢
  by_cases hka : k < (xs.flatMap enc).length
  ·rw [List.take_append_of_le_length (by omega)]
   have c := ih k hD1 hka
   rw [hp.stick _ (by rw [c]; simp), c]
  ·rw [List.take_append, List.take_of_length_le (by omega)]
   have h := pRep_back hp ((enc x).take (k - (xs.flatMap enc).length)) xs [] hD1
   rw [List.append_nil] at h
   rw [h]
   show (p ([].flatMap enc ++ (enc x).take _, 0)).2.2 = 10
   rw [List.flatMap_nil, List.nil_append]
   exact hp.cut x _ (hD x (by simp)) (by rw [List.length_append] at hk; omega)
theorem Codec.rep {p : Sg → α × Sg} {enc : α → List Int} {D : α → Prop} (hp : Codec p enc D) (n : Nat) : Codec (fun σ => pRep p σ n) (fun l => l.flatMap enc) (fun l => l.length = n ∧ ∀ x ∈ l, D x) := by
 refine ⟨fun σ h => pRep_stick hp σ h n, fun σ h => pRep_rng hp σ h n, fun x r hx => ?_, fun l hl h => ?_, fun x k hx hk => ?_⟩
 ·have := pRep_back hp r x [] hx.2
  rw [List.append_nil, List.flatMap_nil, List.nil_append, hx.1] at this
  exact this
 ·obtain ⟨h1, h2⟩ := pRep_exact hp l hl n h
  exact ⟨h1, pRep_len p (l, 0) n, h2⟩
 ·rw [← hx.1]
  exact pRep_cut hp x k hx.2 hk
end
def numI (most : Int) (l : List Int) : Int × Nat × Nat := (((numF l most).1 : Int), (numF l most).2.1, (numF l most).2.2)
theorem numF_back {z : Int} {most : Int} (hz : 0 ≤ z ∧ z ≤ most) (hm : most ≤ 9223372036854775807) (r : List Int) : numF (numL z ++ r) most = (z.toNat, (numL z).length, 0) := by
 obtain ⟨n, rfl⟩ := Int.eq_ofNat_of_zero_le hz.1
 rw [numL_nat]
 unfold numF
 rw [takeF_short n (by omega) r]
 simp only [ne_eq, not_true_eq_false, if_false]
 rw [if_neg (by omega)]
 rfl
theorem numF_cutZ {z : Int} {most : Int} (hz : 0 ≤ z ∧ z ≤ most) (hm : most ≤ 9223372036854775807) (k : Nat) (hk : k < (numL z).length) : (numF ((numL z).take k) most).2.2 = 10 := by
 obtain ⟨n, rfl⟩ := Int.eq_ofNat_of_zero_le hz.1
 rw [numL_nat] at hk ⊢
 unfold numF
 rw [takeF_short_cut n (by omega) k hk]
 rfl
def pNum (most : Int) : Sg → Int × Sg := pPrim (numI most) 0
theorem codec_num (most : Int) (hm : most ≤ 9223372036854775807) : Codec (pNum most) numL (fun z => 0 ≤ z ∧ z ≤ most) :=
 Codec.prim (fun x r hx => by
  unfold numI
  rw [numF_back hx hm r]
  exact Prod.ext (by show ((x.toNat : Nat) : Int) = x; omega) rfl)
  (fun l hl h => by
   obtain ⟨h1, _, h3⟩ := numF_ok hl (most := most) h
   refine ⟨?_, by show (0 : Int) ≤ ((numF l most).1 : Int) ∧ ((numF l most).1 : Int) ≤ most; omega⟩
   show l.take (numF l most).2.1 = numL ((numF l most).1 : Int)
   rw [numL_nat, h3])
  (fun x k hx hk => numF_cutZ hx hm k hk)
def pFlag : Sg → Bool × Sg := pPrim flagF false
theorem codec_flag : Codec pFlag flagL (fun _ => True) :=
 Codec.prim (fun x r _ => by cases x <;> rfl)
  (fun l hl h => by
   refine ⟨?_, trivial⟩
   cases l with
   | nil => simp [flagF] at h
   | cons c r =>
    by_cases h1 : 1 < c
    ·rw [show flagF (c :: r) = (false, 0, 11) from if_pos h1] at h
     simp at h
    ·rw [show flagF (c :: r) = (c == 1, 1, 0) from if_neg h1]
     have := hl c (by simp)
     by_cases h2 : c = 1
     ·subst h2; rfl
     ·have h0 : c = 0 := by omega
      subst h0; rfl)
  (fun x k _ hk => by
   obtain rfl : k = 0 := by simp [flagL] at hk; exact hk
   rfl)
def textS (most : Int) (l : List Int) : ByteArray × Nat × Nat := (strOfNums (textF l most).1, (textF l most).2.1, (textF l most).2.2)
def pText (most : Int) : Sg → ByteArray × Sg := pPrim (textS most) ByteArray.empty
theorem codec_text (most : Int) (hm : most ≤ 1000000000) : Codec (pText most) (fun s => textL (nums s)) (fun s => (s.size : Int) ≤ most) := by
 refine Codec.prim (fun x r hx => ?_) (fun l hl h => ?_) (fun x k hx hk => ?_)
 ·have hn : ((nums x).length : Int) ≤ most := by rw [nums_len]; exact hx
  have e : numF (textL (nums x) ++ r) most = ((nums x).length, (shortL (nums x).length).length, 0) := by
   have := numF_back (z := ((nums x).length : Int)) (most := most) ⟨by omega, hn⟩ (by omega) (nums x ++ r)
   rw [numL_nat] at this
   unfold textL
   rw [List.append_assoc, this]
   rfl
  have e2 : textF (textL (nums x) ++ r) most = (nums x, (textL (nums x)).length, 0) := by
   unfold textF
   rw [e]
   simp only [ne_eq, not_true_eq_false, if_false]
   rw [if_neg (by simp [textL])]
   refine Prod.ext ?_ (Prod.ext ?_ rfl)
   ·show ((textL (nums x) ++ r).drop (shortL (nums x).length).length).take (nums x).length = nums x
    unfold textL
    rw [List.append_assoc, List.drop_left, List.take_left]
   ·show (shortL (nums x).length).length + (nums x).length = _
    simp [textL]
  unfold textS
  rw [e2, str_nums]
 ·obtain ⟨h1, h2, h3⟩ := textF_ok hl (most := most) h
  have hr : ∀ y ∈ (textF l most).1, 0 ≤ y ∧ y < 256 := fun y hy => by
   have : y ∈ textL (textF l most).1 := by simp [textL, hy]
   rw [← h2] at this
   exact hl y (List.mem_of_mem_take this)
  refine ⟨?_, ?_⟩
  ·show l.take (textF l most).2.1 = textL (nums (strOfNums (textF l most).1))
   rw [nums_str _ hr]
   exact h2
  ·show ((strOfNums (textF l most).1).size : Int) ≤ most
   rw [← nums_len, nums_str _ hr]
   exact h3
 ·show (textF ((textL (nums x)).take k) most).2.2 = 10
  have hn : ((nums x).length : Int) ≤ most := by rw [nums_len]; exact hx
  have hz : 0 ≤ ((nums x).length : Int) ∧ ((nums x).length : Int) ≤ most := ⟨by omega, hn⟩
  by_cases hka : k < (shortL (nums x).length).length
  ·have c := numF_cutZ hz (by omega) k (by rw [numL_nat]; exact hka)
   rw [numL_nat] at c
   have e : (textL (nums x)).take k = (shortL (nums x).length).take k := by unfold textL; rw [List.take_append_of_le_length (by omega)]
   rw [e]
   unfold textF
   rw [if_pos (by rw [c]; simp)]
   exact c
  ·have e : (textL (nums x)).take k = shortL (nums x).length ++ (nums x).take (k - (shortL (nums x).length).length) := by unfold textL; rw [List.take_append, List.take_of_length_le (by omega)]
   have hb := numF_back hz (by omega) ((nums x).take (k - (shortL (nums x).length).length))
   rw [numL_nat] at hb
   rw [e]
   unfold textF
   rw [hb]
   simp only [ne_eq, not_true_eq_false, if_false]
   rw [if_pos]
   have hk' : k < (shortL (nums x).length).length + (nums x).length := by simpa [textL] using hk
   rw [List.length_append, List.length_take]
   show _ - _ < ((nums x).length : Int).toNat
   omega
def pList {α : Type} (most : Int) (p : Sg → α × Sg) (σ : Sg) : List α × Sg := ((pBind (pNum most) (fun n σ => pRep p σ n.toNat) σ).1.2, (pBind (pNum most) (fun n σ => pRep p σ n.toNat) σ).2)
def encList {α : Type} (enc : α → List Int) (l : List α) : List Int := numL l.length ++ l.flatMap enc
theorem codec_list {α : Type} {p : Sg → α × Sg} {enc : α → List Int} {D : α → Prop} (hp : Codec p enc D) (most : Int) (hm : most ≤ 1000000000) : Codec (pList most p) (encList enc) (fun l => (l.length : Int) ≤ most ∧ ∀ x ∈ l, D x) := by
 have h := Codec.bind (codec_num most (by omega)) (fun n => Codec.rep hp n.toNat)
 refine ⟨h.stick, h.rng, fun x r hx => ?_, fun l hl h0 => ?_, fun x k hx hk => ?_⟩
 ·have := h.back ((x.length : Int), x) r ⟨⟨by omega, hx.1⟩, by simp, hx.2⟩
  unfold pList encList
  simp only at this
  rw [this]
 ·obtain ⟨h1, h2, h3, h4⟩ := h.exact l hl h0
  obtain ⟨a, ha⟩ : ∃ a, pBind (pNum most) (fun n σ => pRep p σ n.toNat) (l, 0) = a := ⟨_, rfl⟩
  unfold pList encList
  rw [ha] at h1 h2 h3 h4 ⊢
  obtain ⟨⟨a1, a2⟩, a3⟩ := a
  simp only at h1 h2 h3 h4 ⊢
  have e : (a2.length : Int) = a1 := by omega
  rw [e]
  exact ⟨h1, h2.2, h4⟩
 ·have := h.cut ((x.length : Int), x) k ⟨⟨by omega, hx.1⟩, by simp, hx.2⟩ hk
  exact this
end

/- a log record in plain mathematics (stage 7): its fields, its bytes by its kind, and how they are read back: the readings of Codec put together. No program is named. -/
section
open Go.RowKit
theorem Codec.map' {α β : Type} {p : Sg → α × Sg} {ea : α → List Int} {DA : α → Prop} (hp : Codec p ea DA) (f : α → β) (g : β → α) (hgf : ∀ a, g (f a) = a) :
  Codec (fun σ => (f (p σ).1, (p σ).2)) (fun b => ea (g b)) (fun b => DA (g b) ∧ f (g b) = b) :=
 ⟨hp.stick, hp.rng, fun x r hx => by rw [hp.back _ _ hx.1, hx.2], fun l hl h => by
  have := hp.exact l hl h
  simp only [hgf]
  exact ⟨this.1, this.2, trivial⟩, fun x k hx hk => hp.cut _ k hx.1 hk⟩
structure Vl where
 has : Bool
 data : ByteArray
structure Lk where
 key : ByteArray
 x : Bool
structure Rw where
 tx : Int
 st : Int
 fi : Int
 la : Int
 un : Int
 co : Int
 mem : List Int
 lks : List Lk
structure Dt where
 page : Int
 lsn : Int
structure Dd where
 tx : Int
 mem : List Int
structure Rc where
 kind : Int
 tx : Int
 prev : Int
 next : Int
 key : ByteArray
 old : Vl
 new : Vl
 co : Int
 mem : List Int
 lks : List Lk
 rows : List Rw
 dirty : List Dt
 deeds : List Dd
 past : List Int
def vl0 : Vl := ⟨false, ByteArray.empty⟩
def rc0 (kind : Int) : Rc := ⟨kind, 0, 0, 0, ByteArray.empty, vl0, vl0, 0, [], [], [], [], [], []⟩
def valL (v : Vl) : List Int := flagL v.has ++ if v.has then textL (nums v.data) else []
def lkL (k : Lk) : List Int := textL (nums k.key) ++ flagL k.x
def intsL (l : List Int) : List Int := encList numL l
def lksL (l : List Lk) : List Int := encList lkL l
def rwL (r : Rw) : List Int := ((((((numL r.tx ++ numL r.st) ++ numL r.fi) ++ numL r.la) ++ numL r.un) ++ numL r.co) ++ intsL r.mem) ++ lksL r.lks
def dtL (d : Dt) : List Int := numL d.page ++ numL d.lsn
def ddL (d : Dd) : List Int := numL d.tx ++ intsL d.mem
def rdNum (z : Int) : Prop := 0 ≤ z ∧ z ≤ 1099511627776
def rdVl (v : Vl) : Prop := if v.has then (v.data.size : Int) ≤ 32 else v.data = ByteArray.empty
def rdLk (k : Lk) : Prop := (k.key.size : Int) ≤ 32
def rdInts (l : List Int) : Prop := (l.length : Int) ≤ 256 ∧ ∀ x ∈ l, rdNum x
def rdLks (l : List Lk) : Prop := (l.length : Int) ≤ 256 ∧ ∀ x ∈ l, rdLk x
def pN : Sg → Int × Sg := pNum 1099511627776
theorem codec_N : Codec pN numL rdNum := codec_num 1099511627776 (by omega)
def pVl (σ : Sg) : Vl × Sg := (⟨(pFlag σ).1, (if (pFlag σ).1 then pText 32 (pFlag σ).2 else (ByteArray.empty, (pFlag σ).2)).1⟩, (if (pFlag σ).1 then pText 32 (pFlag σ).2 else (ByteArray.empty, (pFlag σ).2)).2)
theorem codec_vlq (b : Bool) : Codec (fun σ : Sg => if b then pText 32 σ else (ByteArray.empty, σ)) (fun s => if b then textL (nums s) else []) (fun s => if b then (s.size : Int) ≤ 32 else s = ByteArray.empty) := by
 cases b with
 | true => exact codec_text 32 (by omega)
 | false => exact Codec.pure ByteArray.empty
theorem codec_vl : Codec pVl valL rdVl := by
 have h := Codec.map (Codec.bind codec_flag codec_vlq) (fun x : Bool × ByteArray => (⟨x.1, x.2⟩ : Vl)) (fun v : Vl => (v.has, v.data)) (fun _ => rfl) (fun _ => rfl)
 exact ⟨h.stick, h.rng, fun x r hx => h.back x r ⟨trivial, hx⟩, fun l hl h0 => ⟨(h.exact l hl h0).1, (h.exact l hl h0).2.2⟩, fun x k hx hk => h.cut x k ⟨trivial, hx⟩ hk⟩
def pLk (σ : Sg) : Lk × Sg := (⟨(pText 32 σ).1, (pFlag (pText 32 σ).2).1⟩, (pFlag (pText 32 σ).2).2)
theorem codec_lk : Codec pLk lkL rdLk := by
 have h := Codec.map (Codec.bind (codec_text 32 (by omega)) (fun _ => codec_flag)) (fun x : ByteArray × Bool => (⟨x.1, x.2⟩ : Lk)) (fun v : Lk => (v.key, v.x)) (fun _ => rfl) (fun _ => rfl)
 exact ⟨h.stick, h.rng, fun x r hx => h.back x r ⟨hx, trivial⟩, fun l hl h0 => ⟨(h.exact l hl h0).1, (h.exact l hl h0).2.1⟩, fun x k hx hk => h.cut x k ⟨hx, trivial⟩ hk⟩
def pInts : Sg → List Int × Sg := pList 256 pN
theorem codec_ints : Codec pInts intsL rdInts := codec_list codec_N 256 (by omega)
def pLks : Sg → List Lk × Sg := pList 256 pLk
theorem codec_lks : Codec pLks lksL rdLks := codec_list codec_lk 256 (by omega)
def pRw (σ : Sg) : Rw × Sg :=
 let q := pBind (pBind (pBind (pBind (pBind (pBind (pBind pN (fun _ => pN)) (fun _ => pN)) (fun _ => pN)) (fun _ => pN)) (fun _ => pN)) (fun _ => pInts)) (fun _ => pLks) σ
 (⟨q.1.1.1.1.1.1.1.1, q.1.1.1.1.1.1.1.2, q.1.1.1.1.1.1.2, q.1.1.1.1.1.2, q.1.1.1.1.2, q.1.1.1.2, q.1.1.2, q.1.2⟩, q.2)
def rdRw (r : Rw) : Prop := ((((((rdNum r.tx ∧ rdNum r.st) ∧ rdNum r.fi) ∧ rdNum r.la) ∧ rdNum r.un) ∧ rdNum r.co) ∧ rdInts r.mem) ∧ rdLks r.lks
theorem codec_rw : Codec pRw rwL rdRw :=
 Codec.map (Codec.bind (Codec.bind (Codec.bind (Codec.bind (Codec.bind (Codec.bind (Codec.bind codec_N (fun _ => codec_N)) (fun _ => codec_N)) (fun _ => codec_N)) (fun _ => codec_N)) (fun _ => codec_N)) (fun _ => codec_ints)) (fun _ => codec_lks))
  (fun q : ((((((Int × Int) × Int) × Int) × Int) × Int) × List Int) × List Lk => (⟨q.1.1.1.1.1.1.1, q.1.1.1.1.1.1.2, q.1.1.1.1.1.2, q.1.1.1.1.2, q.1.1.1.2, q.1.1.2, q.1.2, q.2⟩ : Rw))
  (fun r : Rw => (((((((r.tx, r.st), r.fi), r.la), r.un), r.co), r.mem), r.lks)) (fun _ => rfl) (fun _ => rfl)
def pDt (σ : Sg) : Dt × Sg := (⟨(pN σ).1, (pN (pN σ).2).1⟩, (pN (pN σ).2).2)
def rdDt (d : Dt) : Prop := rdNum d.page ∧ rdNum d.lsn
theorem codec_dt : Codec pDt dtL rdDt := Codec.map (Codec.bind codec_N (fun _ => codec_N)) (fun q : Int × Int => (⟨q.1, q.2⟩ : Dt)) (fun d : Dt => (d.page, d.lsn)) (fun _ => rfl) (fun _ => rfl)
def pDd (σ : Sg) : Dd × Sg := (⟨(pN σ).1, (pInts (pN σ).2).1⟩, (pInts (pN σ).2).2)
def rdDd (d : Dd) : Prop := rdNum d.tx ∧ rdInts d.mem
theorem codec_dd : Codec pDd ddL rdDd := Codec.map (Codec.bind codec_N (fun _ => codec_ints)) (fun q : Int × List Int => (⟨q.1, q.2⟩ : Dd)) (fun d : Dd => (d.tx, d.mem)) (fun _ => rfl) (fun _ => rfl)
abbrev pU := pBind (pBind (pBind (pBind pN (fun _ => pN)) (fun _ => pText 32)) (fun _ => pVl)) (fun _ => pVl)
abbrev pC := pBind (pBind (pBind (pBind pN (fun _ => pN)) (fun _ => pN)) (fun _ => pText 32)) (fun _ => pVl)
abbrev pP := pBind (pBind (pBind (pBind pN (fun _ => pN)) (fun _ => pN)) (fun _ => pInts)) (fun _ => pLks)
abbrev pE := pBind pN (fun _ => pN)
abbrev pK := pBind (pBind (pBind (pList 256 pRw) (fun _ => pList 256 pDt)) (fun _ => pList 256 pDd)) (fun _ => pInts)
abbrev pD := pBind pN (fun _ => pInts)
theorem codec_rws : Codec (pList 256 pRw) (encList rwL) (fun l => (l.length : Int) ≤ 256 ∧ ∀ x ∈ l, rdRw x) := codec_list codec_rw 256 (by omega)
theorem codec_dts : Codec (pList 256 pDt) (encList dtL) (fun l => (l.length : Int) ≤ 256 ∧ ∀ x ∈ l, rdDt x) := codec_list codec_dt 256 (by omega)
theorem codec_dds : Codec (pList 256 pDd) (encList ddL) (fun l => (l.length : Int) ≤ 256 ∧ ∀ x ∈ l, rdDd x) := codec_list codec_dd 256 (by omega)
def mkU (q : (((Int × Int) × ByteArray) × Vl) × Vl) : Rc := { rc0 1 with tx := q.1.1.1.1, prev := q.1.1.1.2, key := q.1.1.2, old := q.1.2, new := q.2 }
def mkC (q : (((Int × Int) × Int) × ByteArray) × Vl) : Rc := { rc0 2 with tx := q.1.1.1.1, prev := q.1.1.1.2, next := q.1.1.2, key := q.1.2, new := q.2 }
def mkP (q : (((Int × Int) × Int) × List Int) × List Lk) : Rc := { rc0 3 with tx := q.1.1.1.1, prev := q.1.1.1.2, co := q.1.1.2, mem := q.1.2, lks := q.2 }
def mkE (kind : Int) (q : Int × Int) : Rc := { rc0 kind with tx := q.1, prev := q.2 }
def mkK (q : ((List Rw × List Dt) × List Dd) × List Int) : Rc := { rc0 8 with rows := q.1.1.1, dirty := q.1.1.2, deeds := q.1.2, past := q.2 }
def mkD (q : Int × List Int) : Rc := { rc0 9 with tx := q.1, mem := q.2 }
def mkF (q : Int) : Rc := { rc0 10 with tx := q }
def bU (r : Rc) : List Int := (((numL r.tx ++ numL r.prev) ++ textL (nums r.key)) ++ valL r.old) ++ valL r.new
def bC (r : Rc) : List Int := (((numL r.tx ++ numL r.prev) ++ numL r.next) ++ textL (nums r.key)) ++ valL r.new
def bP (r : Rc) : List Int := (((numL r.tx ++ numL r.prev) ++ numL r.co) ++ intsL r.mem) ++ lksL r.lks
def bE (r : Rc) : List Int := numL r.tx ++ numL r.prev
def bK (r : Rc) : List Int := ((encList rwL r.rows ++ encList dtL r.dirty) ++ encList ddL r.deeds) ++ intsL r.past
def bD (r : Rc) : List Int := numL r.tx ++ intsL r.mem
def bF (r : Rc) : List Int := numL r.tx
def uU (r : Rc) := ((((r.tx, r.prev), r.key), r.old), r.new)
def uC (r : Rc) := ((((r.tx, r.prev), r.next), r.key), r.new)
def uP (r : Rc) := ((((r.tx, r.prev), r.co), r.mem), r.lks)
def uE (r : Rc) := (r.tx, r.prev)
def uK (r : Rc) := (((r.rows, r.dirty), r.deeds), r.past)
def uD (r : Rc) := (r.tx, r.mem)
theorem codec_U : Codec (fun σ => (mkU (pU σ).1, (pU σ).2)) bU (fun r => ((((rdNum r.tx ∧ rdNum r.prev) ∧ (r.key.size : Int) ≤ 32) ∧ rdVl r.old) ∧ rdVl r.new) ∧ mkU (uU r) = r) :=
 Codec.map' (Codec.bind (Codec.bind (Codec.bind (Codec.bind codec_N (fun _ => codec_N)) (fun _ => codec_text 32 (by omega))) (fun _ => codec_vl)) (fun _ => codec_vl)) mkU uU (fun _ => rfl)
theorem codec_C : Codec (fun σ => (mkC (pC σ).1, (pC σ).2)) bC (fun r => ((((rdNum r.tx ∧ rdNum r.prev) ∧ rdNum r.next) ∧ (r.key.size : Int) ≤ 32) ∧ rdVl r.new) ∧ mkC (uC r) = r) :=
 Codec.map' (Codec.bind (Codec.bind (Codec.bind (Codec.bind codec_N (fun _ => codec_N)) (fun _ => codec_N)) (fun _ => codec_text 32 (by omega))) (fun _ => codec_vl)) mkC uC (fun _ => rfl)
theorem codec_P : Codec (fun σ => (mkP (pP σ).1, (pP σ).2)) bP (fun r => ((((rdNum r.tx ∧ rdNum r.prev) ∧ rdNum r.co) ∧ rdInts r.mem) ∧ rdLks r.lks) ∧ mkP (uP r) = r) :=
 Codec.map' (Codec.bind (Codec.bind (Codec.bind (Codec.bind codec_N (fun _ => codec_N)) (fun _ => codec_N)) (fun _ => codec_ints)) (fun _ => codec_lks)) mkP uP (fun _ => rfl)
theorem codec_E (kind : Int) : Codec (fun σ => (mkE kind (pE σ).1, (pE σ).2)) bE (fun r => (rdNum r.tx ∧ rdNum r.prev) ∧ mkE kind (uE r) = r) :=
 Codec.map' (Codec.bind codec_N (fun _ => codec_N)) (mkE kind) uE (fun _ => rfl)
theorem codec_B : Codec (fun σ => (rc0 7, σ)) (fun _ => []) (· = rc0 7) := Codec.pure (rc0 7)
theorem codec_K : Codec (fun σ => (mkK (pK σ).1, (pK σ).2)) bK (fun r => (((((r.rows.length : Int) ≤ 256 ∧ ∀ x ∈ r.rows, rdRw x) ∧ ((r.dirty.length : Int) ≤ 256 ∧ ∀ x ∈ r.dirty, rdDt x)) ∧ ((r.deeds.length : Int) ≤ 256 ∧ ∀ x ∈ r.deeds, rdDd x)) ∧ rdInts r.past) ∧ mkK (uK r) = r) :=
 Codec.map' (Codec.bind (Codec.bind (Codec.bind codec_rws (fun _ => codec_dts)) (fun _ => codec_dds)) (fun _ => codec_ints)) mkK uK (fun _ => rfl)
theorem codec_D : Codec (fun σ => (mkD (pD σ).1, (pD σ).2)) bD (fun r => (rdNum r.tx ∧ rdInts r.mem) ∧ mkD (uD r) = r) :=
 Codec.map' (Codec.bind codec_N (fun _ => codec_ints)) mkD uD (fun _ => rfl)
theorem codec_F : Codec (fun σ => (mkF (pN σ).1, (pN σ).2)) bF (fun r => rdNum r.tx ∧ mkF r.tx = r) :=
 Codec.map' codec_N mkF (fun r => r.tx) (fun _ => rfl)
def restL (r : Rc) : List Int :=
 if r.kind = 1 then bU r else if r.kind = 2 then bC r else if r.kind = 3 then bP r else if r.kind = 4 ∨ r.kind = 5 ∨ r.kind = 6 then bE r else if r.kind = 7 then [] else if r.kind = 8 then bK r else if r.kind = 9 then bD r else bF r
def rcL (r : Rc) : List Int := numL r.kind ++ restL r
def restP (kind : Int) (σ : Sg) : Rc × Sg :=
 if kind = 1 then (mkU (pU σ).1, (pU σ).2) else if kind = 2 then (mkC (pC σ).1, (pC σ).2) else if kind = 3 then (mkP (pP σ).1, (pP σ).2) else if kind = 4 ∨ kind = 5 ∨ kind = 6 then (mkE kind (pE σ).1, (pE σ).2) else if kind = 7 then (rc0 7, σ) else if kind = 8 then (mkK (pK σ).1, (pK σ).2) else if kind = 9 then (mkD (pD σ).1, (pD σ).2) else (mkF (pN σ).1, (pN σ).2)
end

/- a log in plain mathematics: its numbers. No program is named; no condition. -/
section
open Go.RowKit
structure Lg where
 count : Int
 m : Ms
 recs : List (Rc × Int)
 next : Int
 wait : List (List Int)
 size : Int
 forces : Int
 down : Bool
def Lg.last (L : Lg) : Int := L.m.lsn + (L.recs.length : Int) - 1
def Lg.written (L : Lg) : Int := L.next - L.m.first
def shI (n : Int) : Int := (n + 241) / 242
def Lg.used (L : Lg) : Int := L.written + shI L.size
def Lg.st (L : Lg) : Int := if L.down then 40 else 0
def sml (z : Int) : Prop := 0 ≤ z ∧ z ≤ 2000000000000000
structure Lg.Fit (L : Lg) : Prop where
 count : sml L.count
 gen : sml L.m.gen
 inc : sml L.m.inc
 first : sml L.m.first
 lsn : sml L.m.lsn
 chk : sml L.m.chk
 next : sml L.next
 size : sml L.size
 forces : sml L.forces
 siz : L.size ≤ 1000000000000000
 recs : L.recs.length ≤ 1000000
 wait : L.wait.length ≤ 1000
def lgC (d : Nat) (L : Lg) (r q : Value) : Array Value := #[.pointer (some ⟨d, 0, none⟩), .int .i64 L.count, .int .i64 L.m.gen, .int .i64 L.m.inc, .int .i64 L.m.first, .int .i64 L.m.lsn, .int .i64 L.m.chk, r, .int .i64 L.next, q, .int .i64 L.size, .int .i64 L.forces, .bool L.down]
end

/- the small functions of a log that write nothing: what each answers. -/
section
open Go.RowKit
theorem bel_dn {B : Nat} {w w' : World} (h : Below B w w') (k : Nat) : Below B w (w'.drewN k) := ⟨h.os, h.tape, h.output, h.size, h.block⟩
theorem quiet_n {p : Program} {f : FuncId} {args : Array Value} {w : World} {m : Nat} {v : Value} (h : Calls p f args (w.drewN m) (Quiet v (w.drewN m))) : Calls p f args (w.drewN m) fun e w'' => e = .returned v ∧ ∃ k, w'' = w.drewN k :=
 h.mono fun _ _ ⟨he, k, hk⟩ => ⟨he, m + k, by rw [hk, World.drewN_drewN]⟩
section
variable {b d : Nat} {L : Lg} {A B : Option Addr} {n c p q : Nat} {w : World}
theorem wgState_any (hb : Bk w b 67 (lgC d L (.slice A n c) (.slice B p q))) : Calls Tryz.prog 20 #[.pointer (some ⟨b, 0, none⟩)] w (Quiet (.int .i64 L.st) w) := by
 have y12 : w.cell? ⟨b, 12, none⟩ = some (.bool L.down) := hb.cell 12
 by_cases hd : L.down = true
 ·rw [hd] at y12
  have e : L.st = 40 := if_pos hd
  rw [e]
  clear e hb
  go_enter Tryz.func20, Tryz.ntmps20
  go_wp2_with fail
  go_ret
  exact ⟨rfl, 0, rfl⟩
 ·have hd' : L.down = false := by simpa using hd
  rw [hd'] at y12
  have e : L.st = 0 := if_neg hd
  rw [e]
  clear e hb
  go_enter Tryz.func20, Tryz.ntmps20
  go_wp2_with fail
  go_ret
  exact ⟨rfl, 0, rfl⟩
theorem wgLast_any (hb : Bk w b 67 (lgC d L (.slice A n c) (.slice B p q))) (hf : L.Fit) (hn : L.recs.length = n) : Calls Tryz.prog 26 #[.pointer (some ⟨b, 0, none⟩)] w (Quiet (.int .i64 L.last) w) := by
 have y5 : w.cell? ⟨b, 5, none⟩ = some (.int .i64 L.m.lsn) := hb.cell 5
 have y7 : w.cell? ⟨b, 7, none⟩ = some (.slice A n c) := hb.cell 7
 have k1 := hf.lsn
 have k2 := hf.recs
 unfold sml at k1
 have e : L.last = L.m.lsn + (n : Int) - 1 := by unfold Lg.last; rw [hn]
 rw [e]
 rw [hn] at k2
 clear e hb hf
 go_enter Tryz.func26, Tryz.ntmps26
 go_wp2_with fail
 go_quiet (fail)
 go_wp2_with fail
 go_ret
 exact ⟨by go_num, _, rfl⟩
theorem wgWritten_any (hb : Bk w b 67 (lgC d L (.slice A n c) (.slice B p q))) (hf : L.Fit) : Calls Tryz.prog 23 #[.pointer (some ⟨b, 0, none⟩)] w (Quiet (.int .i64 L.written) w) := by
 have y4 : w.cell? ⟨b, 4, none⟩ = some (.int .i64 L.m.first) := hb.cell 4
 have y8 : w.cell? ⟨b, 8, none⟩ = some (.int .i64 L.next) := hb.cell 8
 have k1 := hf.first
 have k2 := hf.next
 unfold sml at k1 k2
 have e : L.written = L.next - L.m.first := rfl
 rw [e]
 clear e hb hf
 go_enter Tryz.func23, Tryz.ntmps23
 go_wp2_with fail
 go_quiet (fail)
 go_wp2_with fail
 go_ret
 exact ⟨by go_num, _, rfl⟩
theorem wgSheetsFor_any (z : Int) (w : World) (hz : sml z) : Calls Tryz.prog 24 #[.int .i64 z] w (Quiet (.int .i64 (shI z)) w) := by
 unfold sml at hz
 obtain ⟨k, rfl⟩ := Int.eq_ofNat_of_zero_le hz.1
 go_enter Tryz.func24, Tryz.ntmps24
 go_wp2_with fail
 go_ret
 refine ⟨?_, 0, rfl⟩
 unfold shI
 simp
 omega
theorem wgUsed_any (hb : Bk w b 67 (lgC d L (.slice A n c) (.slice B p q))) (hf : L.Fit) : Calls Tryz.prog 35 #[.pointer (some ⟨b, 0, none⟩)] w (Quiet (.int .i64 L.used) w) := by
 have y10 : w.cell? ⟨b, 10, none⟩ = some (.int .i64 L.size) := hb.cell 10
 have k1 := hf.first
 have k2 := hf.next
 have k3 := hf.size
 have C1 := Lib.hid (fun m => wgWritten_any (w := w.drewN m) (b := b) (d := d) (L := L) hb hf)
 have C2 := Lib.hid (fun m => wgSheetsFor_any L.size (w.drewN m) k3)
 unfold sml at k1 k2 k3
 have h1 : -2000000000000000 ≤ L.written ∧ L.written ≤ 2000000000000000 := by unfold Lg.written; omega
 have h2 : 0 ≤ shI L.size ∧ shI L.size ≤ 2000000000000000 := by unfold shI; omega
 have e : L.used = L.written + shI L.size := rfl
 rw [e]
 obtain ⟨z, hz⟩ : ∃ z, L.written = z := ⟨_, rfl⟩
 obtain ⟨y, hy⟩ : ∃ y, shI L.size = y := ⟨_, rfl⟩
 rw [hz] at C1 h1
 rw [hy] at C2 h2
 rw [hz, hy]
 clear e hb hf hz hy
 go_enter Tryz.func35, Tryz.ntmps35
 go_wp2_with fail
 go_quiet (first | (go_at_call 23; first | exact Calls.quiet_of (C1.out _) | exact quiet_n (C1.out _)) | (go_at_call 24; first | exact Calls.quiet_of (C2.out _) | exact quiet_n (C2.out _)))
 go_wp2_with fail
 go_ret
 exact ⟨by go_num, _, rfl⟩
end
end

/- First, Last, Forced, Check, Used, Room, Forces and Inc of a log, and of none. -/
section
open Go.RowKit
def Lg.num (L : Lg) (z : Int) : Int := if L.down then 0 else z
theorem Lg.num_down {L : Lg} (h : L.down = true) (z : Int) : L.num z = 0 := if_pos h
theorem Lg.num_up {L : Lg} (h : ¬ L.down = true) (z : Int) : L.num z = z := if_neg h
theorem Lg.st_down {L : Lg} (h : L.down = true) : L.st = 40 := if_pos h
theorem Lg.st_up {L : Lg} (h : ¬ L.down = true) : L.st = 0 := if_neg h
section
variable {b d : Nat} {L : Lg} {A B : Option Addr} {n c p q : Nat} {w : World}
theorem wgFirst1_any (hb : Bk w b 67 (lgC d L (.slice A n c) (.slice B p q))) (q0 : Nat) (hq : w.cell? ⟨q0, 0, none⟩ = some (.pointer (some ⟨b, 0, none⟩))) : Calls Tryz.prog 34 #[.pointer (some ⟨q0, 0, none⟩)] w (Quiet (.int .i64 L.m.lsn) w) := by
 have y5 : w.cell? ⟨b, 5, none⟩ = some (.int .i64 L.m.lsn) := hb.cell 5
 clear hb
 go_enter Tryz.func34, Tryz.ntmps34
 go_wp2_with fail
 go_ret
 exact ⟨rfl, 0, rfl⟩
theorem wgNumber_down (hb : Bk w b 67 (lgC d L (.slice A n c) (.slice B p q))) (hd : L.down = true) (v : Value) : Calls Tryz.prog 33 #[.pointer (some ⟨b, 0, none⟩), v] w (Quiet (.int .i64 0) w) := by
 have C := Lib.hid (wgState_any hb)
 rw [Lg.st_down hd] at C
 clear hb hd
 go_enter Tryz.func33, Tryz.ntmps33
 go_wp2_with fail
 refine C.out.mono ?_
 rintro e w1 ⟨rfl, k, rfl⟩
 go_wp2_with fail
 go_ret
 exact ⟨rfl, _, rfl⟩
theorem wgNumFirst_any (hb : Bk w b 67 (lgC d L (.slice A n c) (.slice B p q))) (q0 : Nat) (hq : w.cell? ⟨q0, 0, none⟩ = some (.pointer (some ⟨b, 0, none⟩))) : Calls Tryz.prog 33 #[.pointer (some ⟨b, 0, none⟩), .func (.func 34) #[] #[.pointer (some ⟨q0, 0, none⟩)]] w (Quiet (.int .i64 (L.num (L.m.lsn))) w) := by
 by_cases hd : L.down = true
 ·rw [Lg.num_down hd]
  exact wgNumber_down hb hd _
 ·have C := Lib.hid (wgState_any hb)
  rw [Lg.st_up hd] at C
  rw [Lg.num_up hd]
  have C2 := Lib.hid (fun m => wgFirst1_any (w := w.drewN m) (b := b) (d := d) (L := L) hb q0 hq)
  obtain ⟨z, hz⟩ : ∃ z, L.m.lsn = z := ⟨_, rfl⟩
  rw [hz] at C2 ⊢
  clear hb hd hz
  go_enter Tryz.func33, Tryz.ntmps33
  go_wp2_with fail
  refine C.out.mono ?_
  rintro e w1 ⟨rfl, k, rfl⟩
  go_wp2_with fail
  refine (C2.out _).mono ?_
  rintro e w1 ⟨rfl, k2, rfl⟩
  go_wp2_with fail
  go_ret
  exact ⟨rfl, _, rfl⟩
theorem wgGetFirst_any (hb : Bk w b 67 (lgC d L (.slice A n c) (.slice B p q))) : Calls Tryz.prog 13 #[.pointer (some ⟨b, 0, none⟩)] w (Ret (.int .i64 (L.num (L.m.lsn))) w) := by
 obtain ⟨q0, hq0⟩ : ∃ q0, w.heap.size = q0 := ⟨_, rfl⟩
 obtain ⟨W, hW⟩ : ∃ W, W = w.alloc (.cells #[.pointer (some ⟨b, 0, none⟩)] 34) := ⟨_, rfl⟩
 have hB : Below w.heap.size w W := by rw [hW]; exact (Below.refl _ _).alloc (Nat.le_refl _) _
 have hqc : W.cell? ⟨q0, 0, none⟩ = some (.pointer (some ⟨b, 0, none⟩)) := by rw [hW, ← hq0]; exact (Bk.new w _ _).cell 0
 have C := Lib.hid (wgNumFirst_any (w := W) (hb.bel hB hb.lt) q0 hqc)
 have HB := Lib.hid hB
 have HW := Lib.hid hW
 obtain ⟨z, hz⟩ : ∃ z, L.num (L.m.lsn) = z := ⟨_, rfl⟩
 rw [hz] at C ⊢
 clear hb hB hz hW
 go_enter Tryz.func13, Tryz.ntmps13
 go_wp2_with fail
 rw [← HW.out]
 clear HW hq0
 refine C.out.mono ?_
 rintro e w1 ⟨rfl, k, rfl⟩
 go_wp2_with fail
 go_ret
 exact ⟨rfl, bel_dn HB.out k⟩
theorem wgNumLast_any (hb : Bk w b 67 (lgC d L (.slice A n c) (.slice B p q))) (hf : L.Fit) (hn : L.recs.length = n) : Calls Tryz.prog 33 #[.pointer (some ⟨b, 0, none⟩), .func (.func 26) #[.pointer (some ⟨b, 0, none⟩)] #[]] w (Quiet (.int .i64 (L.num (L.last))) w) := by
 by_cases hd : L.down = true
 ·rw [Lg.num_down hd]
  exact wgNumber_down hb hd _
 ·have C := Lib.hid (wgState_any hb)
  rw [Lg.st_up hd] at C
  rw [Lg.num_up hd]
  have C2 := Lib.hid (fun m => wgLast_any (w := w.drewN m) (b := b) (d := d) (L := L) hb hf hn)
  obtain ⟨z, hz⟩ : ∃ z, L.last = z := ⟨_, rfl⟩
  rw [hz] at C2 ⊢
  clear hb hd hz
  go_enter Tryz.func33, Tryz.ntmps33
  go_wp2_with fail
  refine C.out.mono ?_
  rintro e w1 ⟨rfl, k, rfl⟩
  go_wp2_with fail
  refine (C2.out _).mono ?_
  rintro e w1 ⟨rfl, k2, rfl⟩
  go_wp2_with fail
  go_ret
  exact ⟨rfl, _, rfl⟩
theorem wgGetLast_any (hb : Bk w b 67 (lgC d L (.slice A n c) (.slice B p q))) (hf : L.Fit) (hn : L.recs.length = n) : Calls Tryz.prog 14 #[.pointer (some ⟨b, 0, none⟩)] w (Ret (.int .i64 (L.num (L.last))) w) := by
 have C := Lib.hid (wgNumLast_any hb hf hn)
 obtain ⟨z, hz⟩ : ∃ z, L.num (L.last) = z := ⟨_, rfl⟩
 rw [hz] at C ⊢
 clear hb hz
 go_enter Tryz.func14, Tryz.ntmps14
 go_wp2_with fail
 refine C.out.mono ?_
 rintro e w1 ⟨rfl, k, rfl⟩
 go_wp2_with fail
 go_ret
 exact ⟨rfl, bel_dn (Below.refl _ _) k⟩
theorem wgNumUsed_any (hb : Bk w b 67 (lgC d L (.slice A n c) (.slice B p q))) (hf : L.Fit) : Calls Tryz.prog 33 #[.pointer (some ⟨b, 0, none⟩), .func (.func 35) #[.pointer (some ⟨b, 0, none⟩)] #[]] w (Quiet (.int .i64 (L.num (L.used))) w) := by
 by_cases hd : L.down = true
 ·rw [Lg.num_down hd]
  exact wgNumber_down hb hd _
 ·have C := Lib.hid (wgState_any hb)
  rw [Lg.st_up hd] at C
  rw [Lg.num_up hd]
  have C2 := Lib.hid (fun m => wgUsed_any (w := w.drewN m) (b := b) (d := d) (L := L) hb hf)
  obtain ⟨z, hz⟩ : ∃ z, L.used = z := ⟨_, rfl⟩
  rw [hz] at C2 ⊢
  clear hb hd hz
  go_enter Tryz.func33, Tryz.ntmps33
  go_wp2_with fail
  refine C.out.mono ?_
  rintro e w1 ⟨rfl, k, rfl⟩
  go_wp2_with fail
  refine (C2.out _).mono ?_
  rintro e w1 ⟨rfl, k2, rfl⟩
  go_wp2_with fail
  go_ret
  exact ⟨rfl, _, rfl⟩
theorem wgGetUsed_any (hb : Bk w b 67 (lgC d L (.slice A n c) (.slice B p q))) (hf : L.Fit) : Calls Tryz.prog 15 #[.pointer (some ⟨b, 0, none⟩)] w (Ret (.int .i64 (L.num (L.used))) w) := by
 have C := Lib.hid (wgNumUsed_any hb hf)
 obtain ⟨z, hz⟩ : ∃ z, L.num (L.used) = z := ⟨_, rfl⟩
 rw [hz] at C ⊢
 clear hb hz
 go_enter Tryz.func15, Tryz.ntmps15
 go_wp2_with fail
 refine C.out.mono ?_
 rintro e w1 ⟨rfl, k, rfl⟩
 go_wp2_with fail
 go_ret
 exact ⟨rfl, bel_dn (Below.refl _ _) k⟩
end
end
end Go.Proofs.YtfmfmdiegabobabGreatDoor
