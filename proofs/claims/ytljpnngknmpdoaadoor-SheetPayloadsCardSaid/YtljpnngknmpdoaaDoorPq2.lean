/- What it says: contracts and plain mathematics that the laws' walks use, 2 of 6: each part's own remark says what; no condition. -/
import Derived.Test.YtljpnngknmpdoaaDoorPq1
import Derived.Deep.QuietTactic
import Derived.BigQuiet
import Derived.RegionTactic
import Derived.BigRegion
import Derived.Deep.RegionHeld3
import Derived.Laws.Build
import Derived.Test.YtljpnngknmpdoaaDoorRows

set_option linter.unusedSimpArgs false
set_option linter.unusedVariables false
set_option linter.deprecated false
set_option linter.unusedSectionVars false
set_option linter.all false

/- bytes.Clone of any slice, bytes.Equal, the writer's Bytes, and the four bytes of a checksum. -/
namespace Go.Proofs.YtljpnngknmpdoaaDoor
open Go.RowKit

theorem Tab.ret {w w' : World} (h : Tab w) (hb : Below w.heap.size w w') : Tab w' := h.below hb (World.block_lt_of_cell? w _ (h 0 (by omega)))

theorem cloneNil (c : Nat) (l : List Int) (w : World) (h : Byt w none 0 c l) : Calls Tryd.prog 54 #[.slice none 0 0] w (RetOwn l w) := by
  have e : l = [] := List.eq_nil_of_length_eq_zero h.len
  subst e
  have q := fun w : World => Lib.run_eql_slice_nil (P := Tryd.prog) w 24 5 none 0 0 0 0 Tryd.underlying24
  clear h
  go_enter Tryd.func54, Tryd.ntmps54
  go_wp2_with fail
  go_ret
  exact ⟨none, 0, 0, rfl, World.ownsRow_nil _ _ _ _, by simp, Below.refl _ _⟩

/-- bytes.Clone, nil or not. -/
theorem clone_all_own (A : Option Addr) (n c : Nat) (l : List Int) (w : World) (h : Byt w A n c l) (hn : n ≤ 140737488355328) :
    Calls Tryd.prog 54 #[.slice A n c] w (RetOwn l w) := by
  cases A with
  | none =>
    obtain ⟨rfl, rfl⟩ := h.nil_ rfl
    exact cloneNil 0 l w h
  | some a => exact clone_own a n c l w h hn

theorem clone_all (A : Option Addr) (n c : Nat) (l : List Int) (w : World) (h : Byt w A n c l) (hn : n ≤ 140737488355328) :
    Calls Tryd.prog 54 #[.slice A n c] w (RetByt l w) := (clone_all_own A n c l w h hn).mono fun _ _ h => h.byt

/-- bytes.Equal: are the bytes the same? -/
theorem equal_any (A : Option Addr) (n c : Nat) (A' : Option Addr) (n' c' : Nat) (l l' : List Int) (w : World) (h : Byt w A n c l) (h' : Byt w A' n' c' l') :
    Calls Tryd.prog 53 #[.slice A n c, .slice A' n' c'] w (fun e w' => e = .returned (.bool (decide (l = l'))) ∧ w = w') := by
  have k1 := conv_byt h
  have k2 := conv_byt h'
  have hq : ((strOfNums l).toList == (strOfNums l').toList) = decide (l = l') := by
    rw [Lib.toList_data, Lib.toList_data]
    by_cases e : l = l'
    · subst e; simp
    · have : (strOfNums l).data.toList ≠ (strOfNums l').data.toList := fun e' => e (str_inj h.rng h'.rng (ByteArray.ext (Array.ext' e')))
      simp only [e, decide_false]
      rw [beq_eq_false_iff_ne]
      exact this
  have HQ := Lib.hid hq
  clear hq h h'
  go_enter Tryd.func53, Tryd.ntmps53
  go_wp2_with fail
  go_ret
  refine ⟨?_, rfl⟩
  rw [← HQ.out]
  rfl

theorem equal_yes (A : Option Addr) (n c : Nat) (A' : Option Addr) (n' c' : Nat) (l l' : List Int) (w : World) (h : Byt w A n c l) (h' : Byt w A' n' c' l') (e : l = l') :
    Calls Tryd.prog 53 #[.slice A n c, .slice A' n' c'] w (fun e w' => e = .returned (.bool true) ∧ w = w') := by
  have := equal_any A n c A' n' c' l l' w h h'
  rw [show decide (l = l') = true from by simp [e]] at this
  exact this

theorem equal_no (A : Option Addr) (n c : Nat) (A' : Option Addr) (n' c' : Nat) (l l' : List Int) (w : World) (h : Byt w A n c l) (h' : Byt w A' n' c' l') (e : l ≠ l') :
    Calls Tryd.prog 53 #[.slice A n c, .slice A' n' c'] w (fun e w' => e = .returned (.bool false) ∧ w = w') := by
  have := equal_any A n c A' n' c' l l' w h h'
  rw [show decide (l = l') = false from by simp [e]] at this
  exact this

/-- The four bytes of a checksum. -/
def sumL (l : List Int) : List Int := le4 (crcL l)
theorem sumL_rng (l : List Int) : ∀ x ∈ sumL l, 0 ≤ x ∧ x < 256 := le4_rng _
theorem sumL_len (l : List Int) : (sumL l).length = 4 := rfl

set_option maxHeartbeats 1000000 in
theorem sumOf_any (A : Option Addr) (n c : Nat) (l : List Int) (w : World) (h : Byt w A n c l) (hT : Tab w) :
    Calls Tryd.prog 49 #[.slice A n c] w (RetByt (sumL l) w) := by
  have C := Lib.hid (crcSum_any A n c l w h hT)
  have hx := crcL_lt l h.rng
  have e : sumL l = le4 (crcL l) := rfl
  obtain ⟨x, ex⟩ : ∃ x, crcL l = x := ⟨_, rfl⟩
  rw [ex] at C hx e
  have E := Lib.hid e
  clear h hT ex e
  go_enter Tryd.func49, Tryd.ntmps49
  go_wp2_with fail
  refine C.out.mono ?_
  rintro e w1 ⟨rfl, rfl⟩
  go_wp2_with fail
  go_ret
  refine ⟨_, 4, 4, rfl, ?_, (Below.refl _ _).alloc (Nat.le_refl _) _⟩
  rw [E.out]
  have := Byt.lit w 5 (le4 x) 4 rfl (by unfold maxLen; omega) (le4_rng x)
  have e4 : (x : Int) / 16777216 = (x : Int) / 16777216 % 256 := by omega
  rw [e4]
  simpa [le4] using this

/-- What is gathered of a sum: i bytes, the rest is z. -/
structure SumRel (w : World) (x i z : Nat) (A : Option Addr) (k c : Nat) (acc : List Int) (wr : World) : Prop where
  own : wr.ownsRow w.heap.size 5 1 (.slice A k c) k (acc.map (Value.int .u8))
  rng : ∀ y ∈ acc, 0 ≤ y ∧ y < 256
  len : k = i
  num : z = x / 256 ^ i
  all : acc = (le4 x).take i
  bel : Below w.heap.size w wr

theorem le4_next (x i : Nat) (h : i < 4) : (le4 x).take (i + 1) = (le4 x).take i ++ [((x / 256 ^ i : Nat) : Int) % 256] := by
  have : i = 0 ∨ i = 1 ∨ i = 2 ∨ i = 3 := by omega
  rcases this with h | h | h | h <;> subst h <;> simp [le4]

theorem SumRel.step {w : World} {x i z : Nat} {A A' : Option Addr} {k c c' k' : Nat} {acc : List Int} {wr w' : World} (h : SumRel w x i z A k c acc wr) (hi : i < 4)
    (h1 : w'.ownsRow w.heap.size 5 1 (.slice A' k' c') k' (acc.map (Value.int .u8) ++ [(z : Int) % 256].map (Value.int .u8))) (hk : k' = k + 1)
    (h2 : (wr.alloc (.cells #[.int .u8 ((z : Int) % 256)] 5)).grownBy w' (Value.ownBlock (.slice A k c))) :
    SumRel w x (i + 1) (z / 256) A' k' c' (acc ++ [(z : Int) % 256]) w' := by
  rw [← List.map_append] at h1
  refine ⟨h1, fun y hy => ?_, by rw [hk, h.len], by rw [h.num, Nat.pow_succ, Nat.div_div_eq_div_mul], by rw [le4_next x i hi, ← h.num, ← h.all], (h.bel.alloc h.bel.size _).grown h2 (by have := h.bel.size; simp; omega) (fun j hj => (h.own.lt j hj).1)⟩
  rcases List.mem_append.1 hy with h3 | h3
  · exact h.rng y h3
  · simp at h3; subst h3; omega

set_option maxRecDepth 100000 in
set_option maxHeartbeats 1000000 in
theorem refSumOf_any (A : Option Addr) (n c : Nat) (l : List Int) (w : World) (h : Byt w A n c l) :
    Calls Tryd.prog 44 #[.slice A n c] w (RetOwn (sumL l) w) := by
  obtain ⟨i0, hi, hz0, hz1, hz2⟩ := info_parts info_u8
  have C := Lib.hid (refSum_any A n c l w h)
  have hx := crcL_lt l h.rng
  have e : sumL l = le4 (crcL l) := rfl
  obtain ⟨x, ex⟩ : ∃ x, crcL l = x := ⟨_, rfl⟩
  rw [ex] at C hx e
  have E := Lib.hid e
  have R0 := Lib.hid (show SumRel w x 0 x none 0 0 [] w from ⟨World.ownsRow_nil _ _ _ _, by simp, rfl, by simp, rfl, Below.refl _ _⟩)
  clear h ex e
  go_enter Tryd.func44, Tryd.ntmps44
  go_wp2_with fail
  refine C.out.mono ?_
  rintro e w1 ⟨rfl, rfl⟩
  go_wp2_with fail
  go_loopw [3, 4, 5] (fun s v q wr => ∃ (i z : Nat) (A : Option Addr) (k c : Nat) (acc : List Int), i ≤ 4 ∧ z < 4294967296 ∧ s = .int .u32 z ∧ v = .slice A k c ∧ q = .int .i64 i ∧ SumRel w x i z A k c acc wr) (fun _ _ q _ => 4 - (intOf q).toNat)
  case atStart => exact ⟨0, x, none, 0, 0, [], by omega, hx, rfl, rfl, rfl, R0.out⟩
  case round =>
    obtain ⟨i, z, A1, k1, c1, acc, hi4, hz, rfl, rfl, rfl, R⟩ := hrel
    have HR := Lib.hid R
    clear R
    by_cases hlt : i < 4
    · have hbs := HR.out.bel.size
      have hk : k1 ≤ 4 := by have := HR.out.len; omega
      have ho := HR.out.own.alloc (.cells #[.int .u8 ((z : Int) % 256)] 5)
      have hb := one_byt wr ((z : Int) % 256) (by omega)
      go_wp2_with (at_builtin; refine wpList_append_byt rfl _ _ 24 rfl w.heap.size 5 i0 Tryd.underlying24 hi hz0 hz1 hz2 _ k1 acc rfl (by exact ho) _ 1 1 [(z : Int) % 256] rfl (by exact hb) (by omega) (by simp; omega) ?_)
      intro A' c' w' h1 h2
      have R := Lib.hid (HR.out.step hlt h1 rfl h2)
      clear h1 h2 hb ho
      go_wp2_with fail
      go_roundw
      case rel => exact ⟨i + 1, z / 256, _, _, _, _, by omega, by omega, by go_num, rfl, by go_num, R.out⟩
      case measure => simp [intOf]; omega
    · have h4 : i = 4 := by omega
      have H4 := Lib.hid h4
      clear h4
      go_wp2_with fail
      go_ret
      have e := HR.out.all
      rw [H4.out] at e
      have e2 : acc = sumL l := by rw [e, E.out]; rfl
      exact ⟨A1, k1, c1, rfl, by rw [← e2]; exact HR.out.own, by rw [← e2]; exact HR.out.rng, HR.out.bel⟩
end Go.Proofs.YtljpnngknmpdoaaDoor

/- seal.Open answers the body at the beginning of bytes, how many bytes it has with its sum, or the first error. -/
namespace Go.Proofs.YtljpnngknmpdoaaDoor
open Go.RowKit

theorem textF_ok {l : List Int} (hr : ∀ x ∈ l, 0 ≤ x ∧ x < 256) {most : Int} (h : (textF l most).2.2 = 0) :
    (textF l most).2.1 ≤ l.length ∧ l.take (textF l most).2.1 = textL (textF l most).1 ∧ ((textF l most).1.length : Int) ≤ most := by
  unfold textF at h ⊢
  split at h
  · rename_i h0; exact absurd h h0
  · rename_i h0
    split at h
    · simp at h
    · rename_i h1
      rw [if_neg h0, if_neg h1]
      obtain ⟨hx, hk, hs⟩ := numF_ok hr (l := l) (most := most) (by omega)
      have hl : ((l.drop (numF l most).2.1).take (numF l most).1).length = (numF l most).1 := by rw [List.length_take, List.length_drop]; omega
      refine ⟨by simp only; omega, ?_, by simp only; rw [hl]; exact hx⟩
      simp only
      unfold textL
      rw [hl, hs, List.take_add]

/-- What Open answers. -/
def openF (l : List Int) : List Int × Nat × Nat :=
  if (textF l 4096).2.2 ≠ 0 then ([], 0, (textF l 4096).2.2) else if l.length - (textF l 4096).2.1 < 4 then ([], 0, 10) else
    if (l.drop (textF l 4096).2.1).take 4 = sumL (l.take (textF l 4096).2.1) then ((textF l 4096).1, (textF l 4096).2.1 + 4, 0) else ([], 0, 30)

theorem triple {α β γ : Type} {a a' : α} {b b' : β} {c c' : γ} (h : (a, b, c) = (a', b', c')) : a = a' ∧ b = b' ∧ c = c' := by
  injection h with e1 e2
  injection e2 with e2 e3
  exact ⟨e1, e2, e3⟩

/-- A row of the call's own, a number and an error. -/
def Ret3O (l : List Int) (u e0 : Nat) (w : World) (e : Ending) (w' : World) : Prop :=
  ∃ A n c, e = .returned (.tuple #[.slice A n c, .int .i64 u, .int .i64 e0]) ∧ w'.ownsRow w.heap.size 5 1 (.slice A n c) n (l.map (Value.int .u8)) ∧ (∀ x ∈ l, 0 ≤ x ∧ x < 256) ∧ Below w.heap.size w w'

theorem Ret3O.nil {w w' : World} (u e0 : Nat) (hb : Below w.heap.size w w') : Ret3O [] u e0 w (.returned (.tuple #[.slice none 0 0, .int .i64 u, .int .i64 e0])) w' := ⟨none, 0, 0, rfl, World.ownsRow_nil _ _ _ _, by simp, hb⟩

theorem own_base {w : World} {b b' n : Nat} {v : Value} {xs : List Value} (h : w.ownsRow b 5 1 v n xs) (hb : b' ≤ b) : w.ownsRow b' 5 1 v n xs := by
  refine ⟨h.1, ?_⟩
  rcases h.2 with h | ⟨g, cap, cur, h1, h2, h3⟩
  · exact .inl h
  · exact .inr ⟨g, cap, cur, h1, Nat.le_trans hb h2, h3⟩

set_option maxHeartbeats 2000000 in
theorem open_own (A : Option Addr) (n c : Nat) (l : List Int) (w : World) (h : Byt w A n c l) (hn : n ≤ 140737488351232) (hT : Tab w) (b : List Int) (u e : Nat) (hF : openF l = (b, u, e)) :
    Calls Tryd.prog 45 #[.slice A n c] w (Ret3O b u e w) := by
  obtain ⟨b0, u0, e0, ht⟩ : ∃ b u e, textF l 4096 = (b, u, e) := ⟨_, _, _, rfl⟩
  have hok := fun e => textF_ok h.rng (most := 4096) e
  rw [ht] at hok
  have C := Lib.hid (firstText_any A n c l 4096 w h (by omega) b0 u0 e0 ht)
  have hF' : (if e0 ≠ 0 then ([], 0, e0) else if l.length - u0 < 4 then ([], 0, 10) else if (l.drop u0).take 4 = sumL (l.take u0) then (b0, u0 + 4, 0) else ([], 0, 30)) = (b, u, e) := by
    rw [← hF]; unfold openF; rw [ht]
  have hlen := h.len
  have hcap := h.cap
  have hmax := h.max
  unfold maxLen at hmax
  clear ht hF
  by_cases h0 : e0 = 0
  · subst h0
    obtain ⟨hu, hbt, hb4⟩ := hok rfl
    simp only at hu hb4
    clear hbt
    rw [if_neg (by simp)] at hF'
    clear hok
    have hun : u0 ≤ n := by omega
    obtain ⟨B1, d1, hs1, hb1⟩ := cut_h h u0 hun (u0 : Int) rfl
    obtain ⟨B2, m2, d2, hs2, hm2, hb2⟩ := cut_l h u0 hun (u0 : Int) rfl
    have HB := Lib.hid h
    have HB1 := Lib.hid hb1
    by_cases h2 : m2 < 4
    · rw [if_pos (by omega)] at hF'
      obtain ⟨rfl, rfl, rfl⟩ := triple hF'
      clear h hb1 hb2 hm2 hun
      have h4 : (m2 : Int) < 4 := by omega
      go_enter Tryd.func45, Tryd.ntmps45
      go_wp2_with fail
      refine C.out.mono ?_
      rintro e w1 ⟨A1, n1, c1, rfl, hbb, bel1⟩
      have L1 := Lib.hid bel1
      clear hbb bel1
      go_wp2_with fail
      go_quiet (fail)
      go_wp2_with fail
      go_ret3
      exact Ret3O.nil _ _ (below_drewN L1.out _)
    · rw [if_neg (by omega)] at hF'
      obtain ⟨B3, d3, hs3, hb3⟩ := cut_h hb2 4 (by omega) (4 : Int) rfl
      have HB3 := Lib.hid hb3
      have h4 : ¬ (m2 : Int) < 4 := by omega
      have HT := Lib.hid hT
      have hb4' : b0.length ≤ 4096 := by omega
      have HB4 := Lib.hid hb4'
      clear h hb1 hb2 hb3 hm2 h2 hT hb4 hb4'
      by_cases hq : (l.drop u0).take 4 = sumL (l.take u0)
      · rw [if_pos hq] at hF'
        have HQ := Lib.hid hq
        obtain ⟨rfl, rfl, rfl⟩ := triple hF'
        clear hF' hq
        go_enter Tryd.func45, Tryd.ntmps45
        go_wp2_with fail
        refine C.out.mono ?_
        rintro e w1 ⟨A1, n1, c1, rfl, hbb, bel1⟩
        have L1 := Lib.hid bel1
        have HBB := Lib.hid hbb
        clear hbb bel1
        go_wp2_with fail
        go_quiet (fail)
        go_wp2_with fail
        have LD := Lib.hid (Below.drew (below_drewN L1.out nq))
        have HBD := Lib.hid ((HBB.out.drewN nq).drew)
        clear L1 HBB
        go_region_held3 (fun w' => True) (trivial) (first | (go_at_call 49; refine (sumOf_any _ _ _ _ _ (HB1.out.below LD.out) (HT.out.ret LD.out)).mono ?_; rintro e w2 ⟨A2, n2, c2, rfl, hb2, b2⟩) | (go_at_call 53; refine (equal_yes _ _ _ _ _ _ _ _ _ (HB3.out.below (Below.then LD.out b2)) hb2 HQ.out).mono ?_; rintro e w3 ⟨rfl, rfl⟩))
        have C2 := Lib.hid (clone_all_own A1 n1 c1 b0 w2 (HBD.out.below b2) (by have := HBD.out.len; have := HB4.out; omega))
        have L2 := Lib.hid (Below.then LD.out b2)
        clear hb2 b2 LD HBD
        go_wp2_with fail
        refine C2.out.mono ?_
        rintro e w3 ⟨A3, n3, c3, rfl, ho3, hr3, b3⟩
        have HO3 := Lib.hid (own_base ho3 L2.out.size)
        have HR3 := Lib.hid hr3
        have L3 := Lib.hid (Below.then L2.out b3)
        clear ho3 hr3 b3
        go_wp2_with fail
        go_ret3
        exact ⟨A3, n3, c3, rfl, HO3.out, HR3.out, L3.out⟩
      · rw [if_neg hq] at hF'
        have HQ := Lib.hid hq
        obtain ⟨rfl, rfl, rfl⟩ := triple hF'
        clear hF' hq
        go_enter Tryd.func45, Tryd.ntmps45
        go_wp2_with fail
        refine C.out.mono ?_
        rintro e w1 ⟨A1, n1, c1, rfl, hbb, bel1⟩
        have L1 := Lib.hid bel1
        have HBB := Lib.hid hbb
        clear hbb bel1
        go_wp2_with fail
        go_quiet (fail)
        go_wp2_with fail
        have LD := Lib.hid (Below.drew (below_drewN L1.out nq))
        have HBD := Lib.hid ((HBB.out.drewN nq).drew)
        clear L1 HBB
        go_region_held3 (fun w' => True) (trivial) (first | (go_at_call 49; refine (sumOf_any _ _ _ _ _ (HB1.out.below LD.out) (HT.out.ret LD.out)).mono ?_; rintro e w2 ⟨A2, n2, c2, rfl, hb2, b2⟩) | (go_at_call 53; refine (equal_no _ _ _ _ _ _ _ _ _ (HB3.out.below (Below.then LD.out b2)) hb2 HQ.out).mono ?_; rintro e w3 ⟨rfl, rfl⟩))
        have L2 := Lib.hid (Below.then LD.out b2)
        clear hb2 b2 LD HBD
        go_wp2_with fail
        go_ret3
        exact Ret3O.nil _ _ L2.out
  · rw [if_pos h0] at hF'
    obtain ⟨rfl, rfl, rfl⟩ := triple hF'
    have hne : ((e0 : Int) != 0) = true := by simp; omega
    clear h0 hok h hT
    go_enter Tryd.func45, Tryd.ntmps45
    go_wp2_with fail
    refine C.out.mono ?_
    rintro e w1 ⟨A1, n1, c1, rfl, hbb, bel1⟩
    have L1 := Lib.hid bel1
    clear hbb bel1
    go_wp2_with fail
    go_ret3
    exact Ret3O.nil _ _ L1.out

theorem open_any (A : Option Addr) (n c : Nat) (l : List Int) (w : World) (h : Byt w A n c l) (hn : n ≤ 140737488351232) (hT : Tab w) (b : List Int) (u e : Nat) (hF : openF l = (b, u, e)) :
    Calls Tryd.prog 45 #[.slice A n c] w (Ret3 b u e w) :=
  (open_own A n c l w h hn hT b u e hF).mono fun _ _ ⟨A', n', c', he, ho, hr, hb⟩ => ⟨A', n', c', he, Byt.of_own ho hr, hb⟩
end Go.Proofs.YtljpnngknmpdoaaDoor

/- trothref01.Short hands back a number's digits to the base 128, in new memory. -/
namespace Go.Proofs.YtljpnngknmpdoaaDoor
open Go.RowKit

/-- What is gathered so far. -/
structure ShortRel (n : Nat) (w : World) (m : Nat) (A : Option Addr) (k c : Nat) (acc : List Int) (wr : World) : Prop where
  own : wr.ownsRow w.heap.size 5 1 (.slice A k c) k (acc.map (Value.int .u8))
  all : hiD m ++ acc = shortL n
  bel : Below w.heap.size w wr

theorem ShortRel.rng {n : Nat} {w : World} {m : Nat} {A : Option Addr} {k c : Nat} {acc : List Int} {wr : World} (h : ShortRel n w m A k c acc wr) : ∀ x ∈ acc, 0 ≤ x ∧ x < 256 :=
  fun x hx => shortL_rng n x (by rw [← h.all]; simp [hx])
theorem ShortRel.len {n : Nat} {w : World} {m : Nat} {A : Option Addr} {k c : Nat} {acc : List Int} {wr : World} (h : ShortRel n w m A k c acc wr) (hn : n < 18446744073709551616) : k ≤ 10 := by
  have h1 := shortL_len n hn
  rw [← h.all] at h1
  have h2 : acc.length = k := by simpa using h.own.1
  simp at h1; omega

theorem ShortRel.step {n : Nat} {w : World} {m : Nat} {A A' : Option Addr} {k c c' k' : Nat} {acc : List Int} {wr w' : World} (h : ShortRel n w m A k c acc wr) (hm : m ≠ 0) (_hk : k' = 1 + k)
    (h1 : w'.ownsRow w.heap.size 5 1 (.slice A' k' c') k' (([((m : Int) % 128) + 128] ++ acc).map (Value.int .u8)))
    (h2 : (wr.alloc (.cells #[.int .u8 (((m : Int) % 128) + 128)] 5)).grownBy w' (Value.ownBlock (.slice (some ⟨wr.heap.size, 0, none⟩) 1 1))) :
    ShortRel n w (m / 128) A' k' c' ((((m : Int) % 128) + 128) :: acc) w' :=
  ⟨h1, by rw [← h.all, hiD_pos hm]; simp, (h.bel.alloc h.bel.size _).grown h2 (by have := h.bel.size; simp; omega) (by intro g hg; have := h.bel.size; simp [Value.ownBlock] at hg; omega)⟩

set_option maxRecDepth 100000 in
set_option maxHeartbeats 1000000 in
theorem refShort_own (n : Nat) (hn : n < 18446744073709551616) (w : World) :
    Calls Tryd.prog 58 #[.int .u64 n] w (RetOwn (shortL n) w) := by
  obtain ⟨i0, hi, hz0, hz1, hz2⟩ := info_parts info_u8
  have o1 := own_one w w.heap.size 5 ((n : Int) % 128) (Nat.le_refl _)
  have R0 : Hid (ShortRel n w (n / 128) (some ⟨w.heap.size, 0, none⟩) 1 1 [((n : Int) % 128)] (w.alloc (.cells #[.int .u8 ((n : Int) % 128)] 5))) :=
    ⟨o1, rfl, (Below.refl _ _).alloc (Nat.le_refl _) _⟩
  clear o1
  go_enter Tryd.func58, Tryd.ntmps58
  go_wp2_with fail
  go_loopw [0, 3] (fun s v wr => ∃ (m : Nat) (A : Option Addr) (k c : Nat) (acc : List Int), m < 18446744073709551616 ∧ s = .int .u64 m ∧ v = .slice A k c ∧ ShortRel n w m A k c acc wr) (fun s _ _ => (intOf s).toNat)
  case atStart => exact ⟨n / 128, _, 1, 1, _, by omega, by go_num, rfl, R0.out⟩
  case round =>
    obtain ⟨m, A, k, c, acc, hm, rfl, rfl, R⟩ := hrel
    have HR := Lib.hid R
    clear R
    by_cases h0 : m = 0
    · subst h0
      go_wp2_with fail
      go_ret
      have e := HR.out.all
      rw [hiD_zero, List.nil_append] at e
      exact ⟨A, k, c, rfl, by rw [← e]; exact HR.out.own, by rw [← e]; exact HR.out.rng, HR.out.bel⟩
    · have hpos : (0 : Int) < (m : Int) := by omega
      have hlen := HR.out.len hn
      have hbs := HR.out.bel.size
      have o1 := own_one wr w.heap.size 5 ((m : Int) % 128 + 128) hbs
      have hb := (Byt.of_own HR.out.own HR.out.rng).alloc (.cells #[.int .u8 ((m : Int) % 128 + 128)] 5)
      go_wp2_with (at_builtin; refine wpList_append_byt rfl _ _ 24 rfl w.heap.size 5 i0 Tryd.underlying24 hi hz0 hz1 hz2 _ 1 [(m : Int) % 128 + 128] rfl (by exact o1) A k c acc rfl (by exact hb) (by omega) (by simp; omega) ?_)
      intro A' c' w' h1 h2
      have R := Lib.hid (HR.out.step h0 rfl h1 h2)
      clear h1 h2 hb o1
      go_wp2
      go_roundw
      case rel => exact ⟨m / 128, _, _, _, _, by omega, by go_num, rfl, R.out⟩
      case measure => simp [intOf]; omega

theorem refShort_any (n : Nat) (hn : n < 18446744073709551616) (w : World) :
    Calls Tryd.prog 58 #[.int .u64 n] w (RetByt (shortL n) w) := (refShort_own n hn w).mono fun _ _ h => h.byt
end Go.Proofs.YtljpnngknmpdoaaDoor

/- seal.Seal and trothref03.Seal hand back the document's sealed body, in new memory, or ErrLong. -/
namespace Go.Proofs.YtljpnngknmpdoaaDoor
open Go.RowKit

/-- A sealed body. -/
def sealL (l : List Int) : List Int := textL l ++ sumL (textL l)
theorem sealL_rng {l : List Int} (h : ∀ x ∈ l, 0 ≤ x ∧ x < 256) : ∀ x ∈ sealL l, 0 ≤ x ∧ x < 256 := fun x hx => by
  rcases List.mem_append.1 hx with h1 | h1
  · exact textL_rng h x h1
  · exact sumL_rng _ x h1

/-- A row of the call's own and an error beside it. -/
def RetOwn2 (l : List Int) (x : Int) (w : World) (e : Ending) (w' : World) : Prop :=
  ∃ A n c, e = .returned (.tuple #[.slice A n c, .int .i64 x]) ∧ w'.ownsRow w.heap.size 5 1 (.slice A n c) n (l.map (Value.int .u8)) ∧ (∀ x ∈ l, 0 ≤ x ∧ x < 256) ∧ Below w.heap.size w w'

theorem Wrt.new (w : World) : Wrt (w.alloc (.cells #[.slice none 0 0] 92)) w.heap.size w.heap.size [] :=
  ⟨Nat.le_refl _, by simp, none, 0, 0, Bk.new _ _ _, World.ownsRow_nil _ _ _ _⟩

/-- What Seal answers. -/
def SealPost (l : List Int) (w : World) : Ending → World → Prop := if 4096 < l.length then RetOwn2 [] 12 w else RetOwn2 (sealL l) 0 w

set_option maxHeartbeats 1000000 in
theorem seal_any (A : Option Addr) (n c : Nat) (l : List Int) (w : World) (h : Byt w A n c l) (hT : Tab w) :
    Calls Tryd.prog 42 #[.slice A n c] w (SealPost l w) := by
  have hlen := h.len
  unfold SealPost
  by_cases hlong : (4096 : Int) < (n : Int)
  · rw [if_pos (by omega)]
    clear h hT hlen
    go_enter Tryd.func42, Tryd.ntmps42
    go_wp2_with fail
    go_ret2
    exact ⟨none, 0, 0, rfl, World.ownsRow_nil _ _ _ _, by simp, Below.refl _ _⟩
  · rw [if_neg (by omega)]
    have kc := conv_byt (h.alloc (.cells #[.slice none 0 0] 92))
    have W0 := Wrt.new w
    have b0 : Below w.heap.size w (w.alloc (.cells #[.slice none 0 0] 92)) := (Below.refl _ _).alloc (Nat.le_refl _) _
    have hsz := str_size l
    have C1 := wText_any w.heap.size w.heap.size [] (strOfNums l) _ W0 (by simp; omega)
    rw [nums_str l h.rng, List.nil_append] at C1
    have C1 := Lib.hid C1
    have HR := Lib.hid h.rng
    have B0 := Lib.hid b0
    have HT := Lib.hid hT
    have hle := textL_len l (by omega)
    have HLE := Lib.hid hle
    clear h hT W0 b0 hsz hle
    go_enter Tryd.func42, Tryd.ntmps42
    go_wp2_with fail
    refine C1.out.mono ?_
    rintro e w1 ⟨rfl, R1, b1⟩
    obtain ⟨A1, n1, c1, hb1, ho1⟩ := R1.ex
    have hcell : w1.cell? ⟨w.heap.size, 0, none⟩ = some (.slice A1 n1 c1) := hb1.cell 0
    have B1 := B0.out.trans b1
    have C2 := Lib.hid (sumOf_any A1 n1 c1 (textL l) w1 (Byt.of_own ho1 R1.rng) (HT.out.ret B1))
    have R1 := Lib.hid R1
    have B1 := Lib.hid B1
    clear b1 hb1 ho1 C1
    go_wp2_with fail
    refine C2.out.mono ?_
    rintro e w2 ⟨A2, n2, c2, rfl, hb2, b2⟩
    have hn2 : n2 ≤ 4 := by have := hb2.len; rw [sumL_len] at this; omega
    have hle := HLE.out
    have C3 := Lib.hid (put_any w.heap.size w.heap.size (textL l) (sumL (textL l)) A2 n2 c2 w2 (R1.out.ret b2) hb2 (by omega))
    have B2 := Lib.hid (B1.out.trans (b2.mono R1.out.base_le))
    clear hb2 b2 hcell hn2 hle C2 R1 B1
    go_wp2_with fail
    refine C3.out.mono ?_
    rintro e w3 ⟨rfl, R3, b3⟩
    obtain ⟨A3, n3, c3, hb3, ho3⟩ := R3.ex
    have hcell : w3.cell? ⟨w.heap.size, 0, none⟩ = some (.slice A3 n3 c3) := hb3.cell 0
    have R3 := Lib.hid R3
    have O3 := Lib.hid ho3
    have B3 := Lib.hid (B2.out.trans b3)
    clear b3 hb3 ho3 C3 B2
    go_wp2_with fail
    go_ret2
    exact ⟨A3, n3, c3, rfl, O3.out, R3.out.rng, B3.out⟩

/-- A row of the call's own, told from an earlier world. -/
theorem RetOwn.rebase {l : List Int} {w w1 : World} {e : Ending} {w2 : World} (hb : Below w.heap.size w w1) (h : RetOwn l w1 e w2) : RetOwn l w e w2 := by
  obtain ⟨A, n, c, he, ho, hr, hbel⟩ := h
  refine ⟨A, n, c, he, ⟨ho.1, ?_⟩, hr, Below.then hb hbel⟩
  rcases ho.2 with h | ⟨g, cap, cur, h1, h2, h3⟩
  · exact .inl h
  · exact .inr ⟨g, cap, cur, h1, Nat.le_trans hb.size h2, h3⟩

set_option maxHeartbeats 1000000 in
/-- trothref03.Num. -/
theorem refNum_own (n : Int) (w : World) (hn : -9223372036854775808 ≤ n ∧ n ≤ 9223372036854775807) :
    Calls Tryd.prog 50 #[.int .i64 n] w (RetOwn (numL n) w) := by
  by_cases h0 : n < 0
  · rw [numL_neg h0]
    go_enter Tryd.func50, Tryd.ntmps50
    go_wp2_with fail
    refine (refShort_own 0 (by omega) w).mono ?_
    rintro e w1 ⟨A, k, c, rfl, R⟩
    have R := Lib.hid R
    go_wp2_with fail
    go_ret
    exact ⟨A, k, c, rfl, R.out⟩
  · obtain ⟨z, rfl⟩ := Int.eq_ofNat_of_zero_le (Int.not_lt.1 h0)
    rw [numL_nat]
    obtain ⟨_, hz⟩ := hn
    go_enter Tryd.func50, Tryd.ntmps50
    go_wp2_with fail
    refine (refShort_own z (by omega) w).mono ?_
    rintro e w1 ⟨A, k, c, rfl, R⟩
    have R := Lib.hid R
    go_wp2_with fail
    go_ret
    exact ⟨A, k, c, rfl, R.out⟩

theorem ownText_end {w w1 w2 : World} {A : Option Addr} {k c m : Nat} {v : Value} {s : ByteArray} (_hk : (shortL s.size).length = k) (h : w1.ownsRow w.heap.size 5 1 (.slice A k c) k ((shortL s.size).map (Value.int .u8))) (hb : Below w.heap.size w w1)
    (h1 : w2.ownsRow w.heap.size 5 1 v m ((shortL s.size).map (Value.int .u8) ++ Lib.strCells s)) (h2 : w1.grownBy w2 (Value.ownBlock (.slice A k c))) :
    RetOwn (textL (nums s)) w (.returned v) w2 := by
  have form : ∃ A' c', v = .slice A' m c' := by
    rcases h1.2 with ⟨e1, e2⟩ | ⟨g, cap, _, e1, _⟩
    · subst e2; exact ⟨none, 0, e1⟩
    · exact ⟨_, _, e1⟩
  obtain ⟨A', c', rfl⟩ := form
  rw [strCells_nums, ← List.map_append] at h1
  refine ⟨A', m, c', rfl, by unfold textL; rw [nums_len]; exact h1, textL_rng (nums_rng s), hb.grown h2 hb.size (fun i hi => (h.lt i hi).1)⟩

set_option maxHeartbeats 1000000 in
/-- trothref03.Text. -/
theorem refText_own (s : ByteArray) (w : World) (hs : s.size ≤ 140737488350000) :
    Calls Tryd.prog 43 #[.string s] w (RetOwn (textL (nums s)) w) := by
  obtain ⟨i0, hi, hz0, hz1, hz2⟩ := info_parts info_u8
  have C := refNum_own (s.size : Int) w (by omega)
  rw [numL_nat] at C
  have C := Lib.hid C
  have hle := shortL_len s.size (by omega)
  go_enter Tryd.func43, Tryd.ntmps43
  go_wp2_with fail
  refine C.out.mono ?_
  rintro e w1 ⟨A, k, c, rfl, ho, hr, hb⟩
  have hk : (shortL s.size).length = k := by simpa using ho.1
  have hbs := hb.size
  have HO := Lib.hid ho
  have HB := Lib.hid hb
  have HK := Lib.hid hk
  have hk10 : k ≤ 10 := by omega
  clear ho hr hb hk hle C
  go_wp2_with (at_builtin; refine Lib.wpList_append_own_string _ rfl _ _ 24 9 rfl w.heap.size 5 i0 Tryd.underlying24 Tryd.underlying9 hi hz0 hz1 hz2 _ k _ rfl (by exact HO.out) s rfl (by unfold maxLen; omega) (by omega) hbs ?_)
  intro v' w2 h1 h2 _
  have R := Lib.hid (ownText_end HK.out HO.out HB.out h1 h2)
  clear h1 h2
  go_wp2_with fail
  go_ret
  exact R.out

/-- What trothref03.Seal answers. -/
theorem refSeal_end {w w1 w2 w3 : World} {A A3 : Option Addr} {k c k3 c3 : Nat} {l : List Int} (hr : ∀ x ∈ l, 0 ≤ x ∧ x < 256) (h1 : w1.ownsRow w.heap.size 5 1 (.slice A k c) k ((textL l).map (Value.int .u8))) (hb : Below w.heap.size w w1)
    (b2 : Below w1.heap.size w1 w2)
    (h3 : w3.ownsRow w.heap.size 5 1 (.slice A3 k3 c3) k3 ((textL l).map (Value.int .u8) ++ (sumL (textL l)).map (Value.int .u8))) (g3 : w2.grownBy w3 (Value.ownBlock (.slice A k c))) :
    RetOwn2 (sealL l) 0 w (.returned (.tuple #[.slice A3 k3 c3, .int .i64 0])) w3 := by
  rw [← List.map_append] at h3
  exact ⟨A3, k3, c3, rfl, h3, sealL_rng hr, (Below.then hb b2).grown g3 (Below.then hb b2).size (fun i hi => (h1.lt i hi).1)⟩

theorem own_later {w1 w2 : World} {base n : Nat} {v : Value} {xs : List Value} (h : w1.ownsRow base 5 1 v n xs) (b2 : Below w1.heap.size w1 w2) : w2.ownsRow base 5 1 v n xs :=
  h.kept (row := none) ⟨b2.os, b2.tape, b2.output, b2.size, fun k hk _ => b2.block k hk⟩ (by
    cases hv : v.ownBlock with
    | none => exact .inl rfl
    | some a => exact .inr (by simp))

set_option maxHeartbeats 1000000 in
theorem refSeal_any (A : Option Addr) (n c : Nat) (l : List Int) (w : World) (h : Byt w A n c l) :
    Calls Tryd.prog 34 #[.slice A n c] w (SealPost l w) := by
  obtain ⟨i0, hi, hz0, hz1, hz2⟩ := info_parts info_u8
  have hlen := h.len
  unfold SealPost
  by_cases hlong : (4096 : Int) < (n : Int)
  · rw [if_pos (by omega)]
    clear h hlen
    go_enter Tryd.func34, Tryd.ntmps34
    go_wp2_with fail
    go_ret2
    exact ⟨none, 0, 0, rfl, World.ownsRow_nil _ _ _ _, by simp, Below.refl _ _⟩
  · rw [if_neg (by omega)]
    have kc := conv_byt h
    have hsz := str_size l
    have C1 := refText_own (strOfNums l) w (by omega)
    rw [nums_str l h.rng] at C1
    have C1 := Lib.hid C1
    have HR := Lib.hid h.rng
    have hle := textL_len l (by omega)
    have HLE := Lib.hid hle
    clear h hsz hle
    go_enter Tryd.func34, Tryd.ntmps34
    go_wp2_with fail
    refine C1.out.mono ?_
    rintro e w1 ⟨A1, n1, c1, rfl, ho1, hr1, b1⟩
    have hn1 : n1 ≤ 5000 := by have := HLE.out; have h2 : (textL l).length = n1 := by simpa using ho1.1
                               omega
    have C2 := Lib.hid (refSumOf_any A1 n1 c1 (textL l) w1 (Byt.of_own ho1 hr1))
    have O1 := Lib.hid ho1
    have B1 := Lib.hid b1
    clear ho1 hr1 b1 C1
    go_wp2_with fail
    refine C2.out.mono ?_
    rintro e w2 ⟨A2, n2, c2, rfl, ho2, hr2, b2⟩
    have hb2 := Byt.of_own ho2 hr2
    have hn2 : n2 ≤ 4 := by have := hb2.len; rw [sumL_len] at this; omega
    have hbs := (Below.then B1.out b2).size
    have B2 := Lib.hid b2
    have O2 := own_later O1.out b2
    clear ho2 hr2 b2 C2
    go_wp2_with (at_builtin; refine wpList_append_byt rfl _ _ 24 rfl w.heap.size 5 i0 Tryd.underlying24 hi hz0 hz1 hz2 _ n1 (textL l) rfl (by exact O2) A2 n2 c2 (sumL (textL l)) rfl hb2 (by omega) hbs ?_)
    intro A3 c3 w3 h3 g3
    have R := Lib.hid (refSeal_end HR.out O1.out B1.out B2.out h3 g3)
    clear h3 g3 hb2 O2
    go_wp2_with fail
    go_ret2
    exact R.out
end Go.Proofs.YtljpnngknmpdoaaDoor

/- trothref01.Same tells whether two slices read as the same bytes, and writes nothing. -/
namespace Go.Proofs.YtljpnngknmpdoaaDoor
open Go.RowKit

theorem take_one_more {l l' : List Int} {k : Nat} (h : l.take k = l'.take k) (hk : k < l.length) (hk' : k < l'.length) (he : l.getD k 0 = l'.getD k 0) : l.take (k + 1) = l'.take (k + 1) := by
  rw [List.take_succ_eq_append_getElem hk, List.take_succ_eq_append_getElem hk', h]
  simp [List.getD, List.getElem?_eq_getElem hk, List.getElem?_eq_getElem hk'] at he
  rw [he]

theorem same_ne {l l' : List Int} {k : Nat} (he : l.getD k 0 ≠ l'.getD k 0) : decide (l = l') = false := by
  simp only [decide_eq_false_iff_not]
  intro e
  rw [e] at he
  exact he rfl

theorem same_all {l l' : List Int} {n : Nat} (hl : l.length = n) (hl' : l'.length = n) (h : l.take n = l'.take n) : decide (l = l') = true := by
  simp only [decide_eq_true_eq]
  rwa [List.take_of_length_le (by omega), List.take_of_length_le (by omega)] at h

set_option maxHeartbeats 800000 in
theorem same_rows (g off n c g' off' c' : Nat) (l l' : List Int) (w : World) (h : Byt w (some ⟨g, off, none⟩) n c l) (h' : Byt w (some ⟨g', off', none⟩) n c' l') (hn : 0 < n) :
    Calls Tryd.prog 13 #[.slice (some ⟨g, off, none⟩) n c, .slice (some ⟨g', off', none⟩) n c'] w (Quiet (.bool (decide (l = l'))) w) := by
  have hc0 : ∀ i, i < n → w.cell? ⟨g, off + i, none⟩ = some (.int .u8 (l.getD i 0)) := by
    obtain ⟨g1, o1, e, hc⟩ := h.at_ hn
    injection e with e; injection e with e1 e2; subst e1; subst e2
    exact hc
  have hc1 : ∀ i, i < n → w.cell? ⟨g', off' + i, none⟩ = some (.int .u8 (l'.getD i 0)) := by
    obtain ⟨g1, o1, e, hc⟩ := h'.at_ hn
    injection e with e; injection e with e1 e2; subst e1; subst e2
    exact hc
  have hcap := h.cap
  have hmax := h.max
  unfold maxLen at hmax
  have HL := Lib.hid h.len
  have HL' := Lib.hid h'.len
  have HC0 := Lib.hid hc0
  have HC1 := Lib.hid hc1
  clear hc0 hc1 h h'
  go_enter Tryd.func13, Tryd.ntmps13
  go_wp2
  go_loopw [5] (fun i wr => ∃ k : Nat, k ≤ n ∧ i = .int .i64 k ∧ l.take k = l'.take k ∧ ∃ m, wr = w.drewN m) (fun i _ => n - (intOf i).toNat)
  case atStart => exact ⟨0, Nat.zero_le _, rfl, rfl, 0, rfl⟩
  case round =>
    obtain ⟨k, hk, rfl, htk, m, rfl⟩ := hrel
    have HT := Lib.hid htk
    clear htk
    by_cases hlt : k < n
    · have hx := HC0.out k hlt
      have hy := HC1.out k hlt
      have H1 := Lib.hid (take_one_more HT.out (by rw [HL.out]; exact hlt) (by rw [HL'.out]; exact hlt))
      have H2 := Lib.hid (@same_ne l l' k)
      obtain ⟨x, ex⟩ : ∃ x, x = l.getD k 0 := ⟨_, rfl⟩
      obtain ⟨y, ey⟩ : ∃ y, y = l'.getD k 0 := ⟨_, rfl⟩
      rw [← ex] at hx H1 H2
      rw [← ey] at hy H1 H2
      clear ex ey
      go_wp2
      go_quiet (fail)
      go_wp2
      · have hne : (x != y) = true := by assumption
        have e := H2.out (by simpa using hne)
        go_ret
        exact ⟨by rw [e]; rfl, _, World.drewN_drewN _ _ _⟩
      · have heq : (x != y) = false := by assumption
        have e := H1.out (by simpa using heq)
        go_roundw
        case rel => exact ⟨k + 1, by omega, by go_num, e, _, rfl⟩
        case measure => simp [intOf]; omega
    · have hkn : k = n := by omega
      subst hkn
      go_wp2
      have e := same_all HL.out HL'.out HT.out
      go_ret
      exact ⟨by rw [e]; rfl, _, rfl⟩

theorem same_any (A : Option Addr) (n c : Nat) (A' : Option Addr) (n' c' : Nat) (l l' : List Int) (w : World) (h : Byt w A n c l) (h' : Byt w A' n' c' l') :
    Calls Tryd.prog 13 #[.slice A n c, .slice A' n' c'] w (Quiet (.bool (decide (l = l'))) w) := by
  by_cases hnn : n = n'
  · subst hnn
    by_cases hn : 0 < n
    · obtain ⟨g, off, rfl, _⟩ := h.at_ hn
      obtain ⟨g', off', rfl, _⟩ := h'.at_ hn
      exact same_rows g off n c g' off' c' l l' w h h' hn
    · have h0 : n = 0 := by omega
      subst h0
      have e : l = [] := List.eq_nil_of_length_eq_zero h.len
      have e' : l' = [] := List.eq_nil_of_length_eq_zero h'.len
      subst e e'
      clear h h' hn
      go_enter Tryd.func13, Tryd.ntmps13
      go_wp2
      refine wp_loop_rounds 1 ?_
      rw [rounds_succ]
      go_wp2
      go_ret
      exact ⟨rfl, 0, rfl⟩
  · have hd : decide (l = l') = false := by
      simp only [decide_eq_false_iff_not]
      intro e
      exact hnn (by rw [← h.len, ← h'.len, e])
    have HD := Lib.hid hd
    have hne : ((n : Int) != (n' : Int)) = true := by simp; omega
    clear hd h h' hnn
    go_enter Tryd.func13, Tryd.ntmps13
    go_wp2
    go_ret
    exact ⟨by rw [HD.out]; rfl, 0, rfl⟩

theorem same_yes (A : Option Addr) (n c : Nat) (A' : Option Addr) (n' c' : Nat) (l l' : List Int) (w : World) (h : Byt w A n c l) (h' : Byt w A' n' c' l') (e : l = l') :
    Calls Tryd.prog 13 #[.slice A n c, .slice A' n' c'] w (Quiet (.bool true) w) := by
  have := same_any A n c A' n' c' l l' w h h'
  rw [show decide (l = l') = true from by simp [e]] at this
  exact this

theorem same_no (A : Option Addr) (n c : Nat) (A' : Option Addr) (n' c' : Nat) (l l' : List Int) (w : World) (h : Byt w A n c l) (h' : Byt w A' n' c' l') (e : l ≠ l') :
    Calls Tryd.prog 13 #[.slice A n c, .slice A' n' c'] w (Quiet (.bool false) w) := by
  have := same_any A n c A' n' c' l l' w h h'
  rw [show decide (l = l') = false from by simp [e]] at this
  exact this
end Go.Proofs.YtljpnngknmpdoaaDoor

/- of a sealed body the body is opened, whatever stands behind it; the statements' awake() answers true. -/
namespace Go.Proofs.YtljpnngknmpdoaaDoor
open Go.RowKit

theorem numF_short (x : Nat) (hx : x < 18446744073709551616) (r : List Int) (most : Int) : numF (shortL x ++ r) most = if most < 0 ∨ most < (x : Int) then (0, 0, 12) else (x, (shortL x).length, 0) := by
  unfold numF
  rw [takeF_short x hx r, if_neg (by simp)]

theorem textF_text (l r : List Int) (hl : l.length < 18446744073709551616) (most : Int) (hm : (l.length : Int) ≤ most) : textF (textL l ++ r) most = (l, (textL l).length, 0) := by
  have e := numF_short l.length hl (l ++ r) most
  rw [if_neg (by omega)] at e
  unfold textF textL
  rw [List.append_assoc, e, if_neg (by simp), if_neg (by simp)]
  simp

theorem open_seal (l r : List Int) (hl : l.length ≤ 4096) : openF (sealL l ++ r) = (l, (sealL l).length, 0) := by
  have e : sealL l ++ r = textL l ++ (sumL (textL l) ++ r) := by simp [sealL]
  unfold openF
  rw [e, textF_text l _ (by omega) 4096 (by omega), if_neg (by simp)]
  simp only [List.drop_left, List.take_left]
  have h4 : (sumL (textL l)).length = 4 := sumL_len _
  rw [if_neg (by simp; omega), if_pos (by rw [List.take_append_of_le_length (by omega), List.take_of_length_le (by omega)])]
  simp [sealL, h4]

theorem open_seal0 (l : List Int) (hl : l.length ≤ 4096) : openF (sealL l) = (l, (sealL l).length, 0) := by
  have := open_seal l [] hl
  rwa [List.append_nil] at this

theorem sealL_len (l : List Int) : (sealL l).length = (textL l).length + 4 := by simp [sealL, sumL_len]

theorem sealL_a : (sealL [97]).length = 6 := by
  rw [sealL_len]
  have : shortL 1 = [1] := by unfold shortL; rw [hiD]; simp
  simp [textL, this]

end Go.Proofs.YtljpnngknmpdoaaDoor

/- the Go text of trothlaw03.SealCuts answers true, and writes nothing that was there. -/
namespace Go.Proofs.YtljpnngknmpdoaaDoor
open Go.RowKit

theorem numF_cut (x : Nat) (hx : x < 18446744073709551616) (k : Nat) (hk : k < (shortL x).length) (most : Int) : numF ((shortL x).take k) most = (0, 0, 10) := by
  unfold numF
  rw [takeF_short_cut x hx k hk, if_pos (by simp)]

theorem textF_cut (l : List Int) (hl : l.length < 18446744073709551616) (most : Int) (hm : (l.length : Int) ≤ most) (k : Nat) (hk : k < (textL l).length) : textF ((textL l).take k) most = ([], 0, 10) := by
  unfold textF
  by_cases h : k < (shortL l.length).length
  · have e : (textL l).take k = (shortL l.length).take k := by
      unfold textL; rw [List.take_append_of_le_length (by omega)]
    rw [e, numF_cut _ hl k h, if_pos (by simp)]
  · have e : (textL l).take k = shortL l.length ++ l.take (k - (shortL l.length).length) := by
      unfold textL; rw [List.take_append, List.take_of_length_le (by omega)]
    have en := numF_short l.length hl (l.take (k - (shortL l.length).length)) most
    rw [if_neg (by omega)] at en
    rw [e, en, if_neg (by simp), if_pos (by simp [textL] at hk; simp; omega)]

theorem open_cut (l : List Int) (hl : l.length ≤ 4096) (k : Nat) (hk : k < (sealL l).length) : openF ((sealL l).take k) = ([], 0, 10) := by
  unfold openF
  by_cases h : k < (textL l).length
  · have e : (sealL l).take k = (textL l).take k := by
      unfold sealL; rw [List.take_append_of_le_length (by omega)]
    rw [e, textF_cut l (by omega) 4096 (by omega) k h, if_pos (by simp)]
  · have e : (sealL l).take k = textL l ++ (sumL (textL l)).take (k - (textL l).length) := by
      unfold sealL; rw [List.take_append, List.take_of_length_le (by omega)]
    rw [e, textF_text l _ (by omega) 4096 (by omega), if_neg (by simp)]
    rw [sealL_len] at hk
    rw [if_pos (by simp [sumL_len]; omega)]

end Go.Proofs.YtljpnngknmpdoaaDoor

/- seal.take at its four types: behind an error, or of a nil reader, it answers nothing; what its decoder refuses becomes the reader's error; else the reader goes on behind the value. -/
namespace Go.Proofs.YtljpnngknmpdoaaDoor
open Go.RowKit

/-- What a decoder answers; it draws at most. -/
def Dec (v : Value) (used er : Nat) (w : World) (e : Ending) (w' : World) : Prop := e = .returned (.tuple #[v, .int .i64 used, .int .i64 er]) ∧ ∃ m, w' = w.drewN m

theorem Bk.drewN {w : World} {g : Nat} {t : TypeId} {cs : Array Value} (h : Bk w g t cs) (m : Nat) : Bk (w.drewN m) g t cs := h


end Go.Proofs.YtljpnngknmpdoaaDoor

/- a reader behind a pointer; seal.take at its four types as one step of it: the value, the rest, the error. -/
namespace Go.Proofs.YtljpnngknmpdoaaDoor
open Go.RowKit

/-- The reader at block b: what is left (in block g), and the error. -/
structure Rd (w : World) (t : TypeId) (b g : Nat) (l : List Int) (e : Nat) : Prop where
  ne : g ≠ b
  ex : ∃ A n c, Bk w b t #[.slice A n c, .int .i64 e] ∧ Byt w A n c l ∧ (0 < n → ∀ a, A = some a → a.block = g)

theorem Rd.lt {w : World} {t : TypeId} {b g : Nat} {l : List Int} {e : Nat} (h : Rd w t b g l e) : b < w.heap.size := by
  obtain ⟨A, n, c, hb, _⟩ := h.ex
  exact hb.lt

/-- A slice whose block is not written. -/
theorem Byt.grown {w w' : World} {A : Option Addr} {n c : Nat} {l : List Int} {row : Option Nat} (h : Byt w A n c l) (hg : w.grownBy w' row) (hne : 0 < n → ∀ a, A = some a → some a.block ≠ row) : Byt w' A n c l :=
  ⟨h.len, h.cap, h.max, h.rng, h.nil_, fun hn => by
    obtain ⟨g, off, e, hc⟩ := h.at_ hn
    exact ⟨g, off, e, fun i hi => hg.cell (hc i hi) (show some g ≠ row from hne hn ⟨g, off, none⟩ e)⟩⟩

theorem Rd.grown {w w' : World} {t : TypeId} {b g : Nat} {l : List Int} {e : Nat} {row : Option Nat} (h : Rd w t b g l e) (hg : w.grownBy w' row) (hb : some b ≠ row) (hgr : some g ≠ row) : Rd w' t b g l e := by
  obtain ⟨A, n, c, h1, h2, h3⟩ := h.ex
  exact ⟨h.ne, A, n, c, (hg.block b h1.lt hb).trans h1, h2.grown hg (fun hn a ha => by rw [h3 hn a ha]; exact hgr), h3⟩

theorem grown_drewN (w : World) (m : Nat) (row : Option Nat) : w.grownBy (w.drewN m) row := ⟨rfl, rfl, rfl, Nat.le_refl _, fun _ _ _ => rfl⟩
theorem grown_set (w : World) (b k : Nat) (v : Value) : w.grownBy (w.setCell ⟨b, k, none⟩ v) (some b) :=
  ⟨rfl, rfl, rfl, by simp [World.setCell], fun i _ hi => Below.heap_setCell w _ _ i (fun e => hi (by simp [e]))⟩
theorem grown_trans {a b c : World} {row : Option Nat} (h : a.grownBy b row) (k : b.grownBy c row) : a.grownBy c row :=
  ⟨k.os.trans h.os, k.tape.trans h.tape, k.output.trans h.output, Nat.le_trans h.size k.size, fun i hi hr => (k.block i (Nat.lt_of_lt_of_le hi h.size) hr).trans (h.block i hi hr)⟩
theorem grown_below {w w' : World} {row : Option Nat} (h : Below w.heap.size w w') : w.grownBy w' row := ⟨h.os, h.tape, h.output, h.size, fun k hk _ => h.block k hk⟩

/-- What a reader's method leaves. -/
def RdPost (t : TypeId) (b g : Nat) (l : List Int) (e0 : Nat) (v : Value) (w : World) (e : Ending) (w' : World) : Prop := e = .returned v ∧ Rd w' t b g l e0 ∧ w.grownBy w' (some b)

theorem Rd.fail {w : World} {t : TypeId} {b g : Nat} {l : List Int} {e : Nat} (h : Rd w t b g l e) (m er : Nat) : Rd ((w.drewN m).setCell ⟨b, 1, none⟩ (.int .i64 er)) t b g l er ∧ w.grownBy ((w.drewN m).setCell ⟨b, 1, none⟩ (.int .i64 er)) (some b) := by
  have hg := grown_trans (grown_drewN w m (some b)) (grown_set (w.drewN m) b 1 (.int .i64 er))
  obtain ⟨A, n, c, h1, h2, h3⟩ := h.ex
  refine ⟨⟨h.ne, A, n, c, ?_, h2.grown hg (fun hn a ha => by rw [h3 hn a ha]; simpa using h.ne), h3⟩, hg⟩
  have := (h1.drewN m).setc 1 (.int .i64 er)
  simpa using this

theorem Rd.next {w : World} {t : TypeId} {b g : Nat} {l l' : List Int} {e : Nat} (h : Rd w t b g l e) (m : Nat) {B : Option Addr} {k d : Nat} (hb : Byt w B k d l') (hB : 0 < k → ∀ a, B = some a → a.block = g) :
    Rd ((w.drewN m).setCell ⟨b, 0, none⟩ (.slice B k d)) t b g l' e ∧ w.grownBy ((w.drewN m).setCell ⟨b, 0, none⟩ (.slice B k d)) (some b) := by
  have hg := grown_trans (grown_drewN w m (some b)) (grown_set (w.drewN m) b 0 (.slice B k d))
  obtain ⟨A, n, c, h1, h2, h3⟩ := h.ex
  refine ⟨⟨h.ne, B, k, d, ?_, hb.grown hg (fun hk a ha => by rw [hB hk a ha]; simpa using h.ne), hB⟩, hg⟩
  have := (h1.drewN m).setc 0 (.slice B k d)
  simpa using this

/-- Which of both: a reader's value, its rest, its error. -/
def stepV (z v : Value) (e er : Nat) : Value := if e ≠ 0 then z else if er ≠ 0 then z else v
def stepL (l : List Int) (used e er : Nat) : List Int := if e ≠ 0 then l else if er ≠ 0 then l else l.drop used
def stepE (e er : Nat) : Nat := if e ≠ 0 then e else er


end Go.Proofs.YtljpnngknmpdoaaDoor

/- what a reader's methods answer, and where they leave it; of a nil one. -/
namespace Go.Proofs.YtljpnngknmpdoaaDoor
open Go.RowKit

/-- A byte, a flag: value, how many bytes, error. -/
def byteF : List Int → Int × Nat × Nat
  | [] => (0, 0, 10)
  | c :: _ => (c, 1, 0)
def flagF : List Int → Bool × Nat × Nat
  | [] => (false, 0, 10)
  | c :: _ => if 1 < c then (false, 0, 11) else (c == 1, 1, 0)

theorem numF_le {l : List Int} (hr : ∀ x ∈ l, 0 ≤ x ∧ x < 256) {most : Int} {x k e : Nat} (hF : numF l most = (x, k, e)) : e = 0 → k ≤ l.length := fun h => by
  have := (numF_ok hr (l := l) (most := most) (by rw [hF]; exact h)).2.1
  rw [hF] at this
  exact this

theorem textF_le {l : List Int} (hr : ∀ x ∈ l, 0 ≤ x ∧ x < 256) {most : Int} {b : List Int} {u e : Nat} (hF : textF l most = (b, u, e)) : e = 0 → u ≤ l.length := fun h => by
  have hF2 := hF
  unfold textF at hF
  split at hF
  · rename_i h0
    injection hF with _ e2
    injection e2 with _ e3
    exact absurd (e3.trans h) h0
  · rename_i h0
    split at hF
    · injection hF with _ e2
      injection e2 with _ e3
      omega
    · rename_i h1
      injection hF with _ e2
      injection e2 with e2 _
      have := (numF_ok hr (l := l) (most := most) (by omega)).2.1
      omega

theorem byteF_le (l : List Int) : (byteF l).2.2 = 0 → (byteF l).2.1 ≤ l.length := by
  cases l with
  | nil => simp [byteF]
  | cons x r => simp [byteF]

theorem flagF_le (l : List Int) : (flagF l).2.2 = 0 → (flagF l).2.1 ≤ l.length := by
  cases l with
  | nil => simp [flagF]
  | cons x r =>
    by_cases h1 : 1 < x
    · rw [show flagF (x :: r) = (false, 0, 11) from if_pos h1]; simp
    · rw [show flagF (x :: r) = (x == 1, 1, 0) from if_neg h1]; simp

theorem Rd.byt {w : World} {t : TypeId} {b g : Nat} {l : List Int} {e : Nat} (h : Rd w t b g l e) : ∃ A n c, Byt w A n c l ∧ w.cell? ⟨b, 0, none⟩ = some (.slice A n c) ∧ w.cell? ⟨b, 1, none⟩ = some (.int .i64 e) ∧ n = l.length := by
  obtain ⟨A, n, c, h1, h2, _⟩ := h.ex
  exact ⟨A, n, c, h2, h1.cell 0, h1.cell 1, h2.len.symm⟩

theorem Rd.rng {w : World} {t : TypeId} {b g : Nat} {l : List Int} {e : Nat} (h : Rd w t b g l e) : ∀ x ∈ l, 0 ≤ x ∧ x < 256 := by
  obtain ⟨A, n, c, h2, _⟩ := h.byt
  exact h2.rng

theorem RdPost.later {t : TypeId} {b g : Nat} {l : List Int} {e0 : Nat} {v : Value} {w w1 : World} {e : Ending} {w' : World} (hg : w.grownBy w1 (some b)) (h : RdPost t b g l e0 v w1 e w') : RdPost t b g l e0 v w e w' :=
  ⟨h.1, h.2.1, grown_trans hg h.2.2⟩

theorem Rd.alloc {w : World} {t : TypeId} {b g : Nat} {l : List Int} {e : Nat} (h : Rd w t b g l e) (o : Obj) : Rd (w.alloc o) t b g l e :=
  h.grown (World.grownBy_alloc w o none) (by simp) (by simp)

end Go.Proofs.YtljpnngknmpdoaaDoor

/- seal.Read lays a reader in new memory; Left, Err, End; a nil reader's methods. -/
namespace Go.Proofs.YtljpnngknmpdoaaDoor
open Go.RowKit

/-- Behind the end: what End makes of a reader's error. -/
def endE (l : List Int) (e : Nat) : Nat := if e = 0 ∧ 0 < l.length then 13 else e

/-- A new struct of a slice and a number is a reader. -/
theorem Rd.new {w1 : World} (t : TypeId) {A : Option Addr} {n c : Nat} {l : List Int} (h : Byt w1 A n c l) (h0 : 0 < w1.heap.size) : ∃ g, g < w1.heap.size ∧ Rd (w1.alloc (.cells #[.slice A n c, .int .i64 0] t)) t w1.heap.size g l 0 := by
  by_cases hn : 0 < n
  · obtain ⟨g, off, rfl, hc⟩ := h.at_ hn
    have hg : g < w1.heap.size := World.block_lt_of_cell? w1 _ (hc 0 hn)
    exact ⟨g, hg, by omega, _, n, c, Bk.new _ _ _, h.alloc _, fun _ a ha => by injection ha with ha; rw [← ha]⟩
  · exact ⟨0, h0, by omega, A, n, c, Bk.new _ _ _, h.alloc _, fun h => absurd h hn⟩

end Go.Proofs.YtljpnngknmpdoaaDoor

/- the methods of trothref03.Reader step as seal.Reader's do; trothref03.Open answers what seal.Open answers. -/
namespace Go.Proofs.YtljpnngknmpdoaaDoor
open Go.RowKit

/-- A reader that is set back. -/
theorem Rd.back {w w1 : World} {t : TypeId} {b g : Nat} {l l1 : List Int} {e e1 er : Nat} {A : Option Addr} {n c : Nat} (h : Rd w t b g l e) (h1 : Rd w1 t b g l1 e1) (hg : w.grownBy w1 (some b)) (hb : Byt w A n c l) (hA : 0 < n → ∀ a, A = some a → a.block = g) :
    Rd ((w1.setCell ⟨b, 1, none⟩ (.int .i64 er)).setCell ⟨b, 0, none⟩ (.slice A n c)) t b g l er ∧ w.grownBy ((w1.setCell ⟨b, 1, none⟩ (.int .i64 er)).setCell ⟨b, 0, none⟩ (.slice A n c)) (some b) := by
  have g1 := grown_trans hg (grown_trans (grown_set w1 b 1 (.int .i64 er)) (grown_set (w1.setCell ⟨b, 1, none⟩ (.int .i64 er)) b 0 (.slice A n c)))
  obtain ⟨A1, n1, c1, k1, _, _⟩ := h1.ex
  refine ⟨⟨h.ne, A, n, c, ?_, hb.grown g1 (fun hn a ha => by rw [hA hn a ha]; simpa using h.ne), hA⟩, g1⟩
  have := (k1.setc 1 (.int .i64 er)).setc 0 (.slice A n c)
  simpa using this

theorem flagF_byte (l : List Int) : (byteF l).2.2 ≠ 0 → l = [] := by
  cases l with
  | nil => simp
  | cons x r => simp [byteF]

end Go.Proofs.YtljpnngknmpdoaaDoor

/- trothref03.Reader's Text steps as seal.Reader's does; trothref03.Open answers what seal.Open answers. -/
namespace Go.Proofs.YtljpnngknmpdoaaDoor
open Go.RowKit

theorem numF_of {l : List Int} {most : Int} {x0 k0 e1 : Nat} (ht : takeF l 0 0 = (x0, k0, e1)) : numF l most = if e1 ≠ 0 then (0, 0, e1) else if most < 0 ∨ most < (x0 : Int) then (0, 0, 12) else (x0, k0, 0) := by
  unfold numF; rw [ht]

theorem textF_of {l : List Int} {most : Int} {x0 k0 e1 : Nat} (ht : numF l most = (x0, k0, e1)) : textF l most = if e1 ≠ 0 then ([], 0, e1) else if l.length - k0 < x0 then ([], 0, 10) else ((l.drop k0).take x0, k0 + x0, 0) := by
  unfold textF; rw [ht]

set_option maxRecDepth 4000 in
set_option maxHeartbeats 2000000 in
theorem mText_any (b g : Nat) (l : List Int) (e0 : Nat) (most : Int) (w : World) (h : Rd w 89 b g l e0) (hm : -9223372036854775808 ≤ most ∧ most ≤ 9223372036854775807) (s : List Int) (k er : Nat) (hF : textF l most = (s, k, er)) :
    Calls Tryd.prog 46 #[.pointer (some ⟨b, 0, none⟩), .int .i64 most] w (RdPost 89 b g (stepL l k e0 er) (stepE e0 er) (stepV (.string ByteArray.empty) (.string (strOfNums s)) e0 er) w) := by
  have hf0 : w.frozen? ⟨b, 0, none⟩ = false := by obtain ⟨A, n, c, h1, _⟩ := h.ex; exact h1.frz 0
  have hf1 : w.frozen? ⟨b, 1, none⟩ = false := by obtain ⟨A, n, c, h1, _⟩ := h.ex; exact h1.frz 1
  have H := Lib.hid h
  obtain ⟨A, n, c, h1, h2, h3⟩ := h.ex
  have c0 : w.cell? ⟨b, 0, none⟩ = some (.slice A n c) := h1.cell 0
  have c1 : w.cell? ⟨b, 1, none⟩ = some (.int .i64 e0) := h1.cell 1
  by_cases he : e0 = 0
  · subst he
    obtain ⟨x0, k0, e1, ht⟩ : ∃ x k e, takeF l 0 0 = (x, k, e) := ⟨_, _, _, rfl⟩
    have hlt : e1 = 0 → x0 < 18446744073709551616 ∧ k0 ≤ l.length := fun e => by have := takeF_read l h2.rng x0 k0 (by rw [ht, e]); exact ⟨this.1, this.2.1⟩
    have C := Lib.hid (refTake_is A n c l x0 k0 e1 w h2 ht)
    have hN := numF_of (most := most) ht
    have hlen := h2.len
    have hcap := h2.cap
    have hmax := h2.max
    unfold maxLen at hmax
    clear ht
    by_cases h0 : e1 = 0
    · subst h0
      obtain ⟨hx, hk⟩ := hlt rfl
      rw [if_neg (by simp)] at hN
      clear hlt
      by_cases hm1 : most < 0 ∨ most < (x0 : Int)
      · rw [if_pos hm1] at hN
        rw [textF_of hN, if_pos (by simp)] at hF
        obtain ⟨rfl, rfl, rfl⟩ := triple hF
        have R := Lib.hid (fun m => H.out.fail m 12)
        have hm2 : (most < 0) ∨ (0 ≤ most ∧ most < (x0 : Int)) := by omega
        clear h h1 h2 h3 hm1 hF hN
        rcases hm2 with q1 | ⟨q1, q2⟩
        · go_enter Tryd.func46, Tryd.ntmps46
          go_wp2_with fail
          refine C.out.mono ?_
          rintro e w1 ⟨rfl, m, rfl⟩
          go_wp2_with fail
          go_ret
          exact ⟨rfl, R.out m⟩
        · obtain ⟨z, rfl⟩ := Int.eq_ofNat_of_zero_le q1
          obtain ⟨_, hz⟩ := hm
          go_enter Tryd.func46, Tryd.ntmps46
          go_wp2_with fail
          refine C.out.mono ?_
          rintro e w1 ⟨rfl, m, rfl⟩
          go_wp2_with fail
          go_ret
          exact ⟨rfl, R.out m⟩
      · rw [if_neg hm1] at hN
        obtain ⟨z, rfl⟩ := Int.eq_ofNat_of_zero_le (show 0 ≤ most by omega)
        obtain ⟨_, hz⟩ := hm
        have q2 : ¬ (z : Int) < (x0 : Int) := by omega
        have hkn : (k0 : Int) ≤ (n : Int) := by omega
        by_cases hs : l.length - k0 < x0
        · rw [textF_of hN, if_neg (by simp), if_pos hs] at hF
          obtain ⟨rfl, rfl, rfl⟩ := triple hF
          have R := Lib.hid (fun m => H.out.fail m 10)
          have q3 : (n : Int) - (k0 : Int) < (x0 : Int) := by omega
          clear h h1 h2 h3 hm1 hF hN hs
          go_enter Tryd.func46, Tryd.ntmps46
          go_wp2_with fail
          refine C.out.mono ?_
          rintro e w1 ⟨rfl, m, rfl⟩
          go_wp2_with fail
          go_ret
          exact ⟨rfl, R.out m⟩
        · rw [textF_of hN, if_neg (by simp), if_neg hs] at hF
          obtain ⟨rfl, rfl, rfl⟩ := triple hF
          obtain ⟨B1, m1, d1, hs1, hm1', hb1⟩ := cut_lh h2 k0 (k0 + x0) (by omega) (by omega) (k0 : Int) ((k0 + x0 : Nat) : Int) rfl rfl
          rw [Nat.add_sub_cancel_left] at hm1' hb1
          obtain ⟨B, j, d, hs2, hkn2, hb, hB⟩ := cut_lb h2 (k0 + x0) (by omega) ((k0 + x0 : Nat) : Int) rfl
          have R := Lib.hid (fun m => H.out.next m hb (fun hk a ha => by obtain ⟨a', e1, e2⟩ := hB a ha; rw [e2]; exact h3 (by omega) a' e1))
          have q4 : k0 + x0 ≤ n := by omega
          have KC := Lib.hid (fun m => conv_byt (hb1.drewN m))
          obtain ⟨y, ey⟩ : ∃ y, k0 + x0 = y := ⟨_, rfl⟩
          rw [ey] at hs1 hs2 R q4 ⊢
          have ey' : (k0 : Int) + (x0 : Int) = (y : Int) := by omega
          obtain ⟨r, er⟩ : ∃ r, n - k0 = r := ⟨_, rfl⟩
          have er' : (n : Int) - (k0 : Int) = (r : Int) := by omega
          have q5 : (x0 : Int) ≤ (r : Int) := by omega
          have q6 : (r : Int) ≤ 9223372036854775807 := by omega
          have q7 : (y : Int) ≤ 9223372036854775807 := by omega
          have q8 : (x0 : Int) ≤ 9223372036854775807 := by omega
          clear h h1 h2 h3 hm1 hF hN hs hb hB hb1 hkn2 hm1' ey er q4 hk hkn
          go_enter Tryd.func46, Tryd.ntmps46
          go_wp2_with fail
          refine C.out.mono ?_
          rintro e w1 ⟨rfl, m, rfl⟩
          have kc := KC.out m
          go_wp2_with fail
          go_ret
          exact ⟨rfl, R.out m⟩
    · rw [if_pos h0] at hN
      rw [textF_of hN, if_pos h0] at hF
      obtain ⟨rfl, rfl, rfl⟩ := triple hF
      have hne : ((e1 : Int) != 0) = true := by simp; omega
      have R := Lib.hid (fun m => H.out.fail m e1)
      have e2 : stepL l 0 0 e1 = l := by simp [stepL, h0]
      have e3 : stepE 0 e1 = e1 := rfl
      have e4 : ∀ v, stepV (.string ByteArray.empty) v 0 e1 = .string ByteArray.empty := by intro v; simp [stepV, h0]
      rw [e2, e3, e4]
      clear hlt h h1 h2 h3 hF h0 e2 e3 e4 hN
      go_enter Tryd.func46, Tryd.ntmps46
      go_wp2_with fail
      refine C.out.mono ?_
      rintro e w1 ⟨rfl, m, rfl⟩
      go_wp2_with fail
      go_ret
      exact ⟨rfl, R.out m⟩
  · have hne : ((e0 : Int) != 0) = true := by simp; omega
    have e2 : stepL l k e0 er = l := by simp [stepL, he]
    have e3 : stepE e0 er = e0 := by simp [stepE, he]
    have e4 : ∀ v, stepV (.string ByteArray.empty) v e0 er = .string ByteArray.empty := by intro v; simp [stepV, he]
    rw [e2, e3, e4]
    clear h he e2 e3 e4 h1 h2 h3
    go_enter Tryd.func46, Tryd.ntmps46
    go_wp2_with fail
    go_ret
    exact ⟨rfl, H.out, grown_drewN w 0 _⟩

theorem stepV_ok (z v : Value) : stepV z v 0 0 = v := by simp [stepV]
theorem stepV_no (z v : Value) (er : Nat) (h : er ≠ 0) : stepV z v 0 er = z := by simp [stepV, h]
theorem stepE_0 (er : Nat) : stepE 0 er = er := rfl
theorem stepL_ok (l : List Int) (u : Nat) : stepL l u 0 0 = l.drop u := by simp [stepL]
theorem stepL_no (l : List Int) (u er : Nat) (h : er ≠ 0) : stepL l u 0 er = l := by simp [stepL, h]

/-- '[]byte(s)' of a string of known bytes. -/
theorem ofStr (w : World) (b : List Int) (hr : ∀ x ∈ b, 0 ≤ x ∧ x < 256) (hb : b.length ≤ 4096) : ∃ A n c w', (convert 9 24 (.string (strOfNums b))).run Tryd.prog w = .ok (.slice A n c) w' ∧ Byt w' A n c b ∧ Below w.heap.size w w' := by
  have h := Byt.ofString w 5 (strOfNums b) (by rw [str_size]; unfold maxLen; omega)
  rw [nums_str b hr] at h
  exact ⟨_, _, _, _, conv_str w _, h, bytesWorld_below _ _ _⟩

theorem RdPost.below {t : TypeId} {b g : Nat} {l : List Int} {e0 : Nat} {v : Value} {w w1 : World} {e : Ending} {w' : World} (hb : Below w.heap.size w w1) (hw : w.heap.size ≤ b) (h : RdPost t b g l e0 v w1 e w') : Below w.heap.size w w' :=
  hb.grown h.2.2 hb.size (fun k hk => by injection hk with hk; omega)

set_option maxRecDepth 4000 in
set_option maxHeartbeats 2000000 in
theorem refOpen_any (A : Option Addr) (n c : Nat) (l : List Int) (w : World) (h : Byt w A n c l) (hw0 : 0 < w.heap.size) (hn : n ≤ 140737488351232) (b : List Int) (u e : Nat) (hF : openF l = (b, u, e)) :
    Calls Tryd.prog 39 #[.slice A n c] w (Ret3 b u e w) := by
  obtain ⟨b0, u0, e0, ht⟩ : ∃ b u e, textF l 4096 = (b, u, e) := ⟨_, _, _, rfl⟩
  have hok := fun e => textF_ok h.rng (most := 4096) e
  rw [ht] at hok
  obtain ⟨g, hg, R0⟩ := Rd.new 89 h hw0
  have C := mText_any _ g l 0 4096 _ R0 (by omega) b0 u0 e0 ht
  have bel0 : Below w.heap.size w (w.alloc (.cells #[.slice A n c, .int .i64 0] 89)) := (Below.refl _ _).alloc (Nat.le_refl _) _
  have C := C.mono (fun e w' hp => And.intro hp (hp.below bel0 (Nat.le_refl _)))
  rw [stepE_0] at C
  have hF' : (if e0 ≠ 0 then ([], 0, e0) else if l.length - u0 < 4 then ([], 0, 10) else if (l.drop u0).take 4 = sumL (l.take u0) then (b0, u0 + 4, 0) else ([], 0, 30)) = (b, u, e) := by
    rw [← hF]; unfold openF; rw [ht]
  have hlen := h.len
  have hcap := h.cap
  have hmax := h.max
  unfold maxLen at hmax
  have H := Lib.hid h
  clear ht hF R0 hg bel0
  by_cases h0 : e0 = 0
  · subst h0
    obtain ⟨hu, htk, hb4⟩ := hok rfl
    simp only at hu htk hb4
    have hb4' : b0.length ≤ 4096 := by omega
    have hrb : ∀ x ∈ b0, 0 ≤ x ∧ x < 256 := fun x hx => by
      have : x ∈ textL b0 := by simp [textL, hx]
      rw [← htk] at this
      exact h.rng x (List.mem_of_mem_take this)
    rw [if_neg (by simp)] at hF'
    rw [stepV_ok, stepL_ok] at C
    clear hok htk
    have C := Lib.hid C
    have hun : u0 ≤ n := by omega
    obtain ⟨B1, d1, hs1, hb1⟩ := cut_h h u0 hun (u0 : Int) rfl
    have HB1 := Lib.hid hb1
    have HRB := Lib.hid hrb
    have HB4 := Lib.hid hb4'
    clear h hb1 hrb hb4 hb4'
    go_enter Tryd.func39, Tryd.ntmps39
    go_wp2_with fail
    refine C.out.mono ?_
    rintro e w1 ⟨⟨rfl, R, hg⟩, bel⟩
    obtain ⟨A2, n2, c2, k1, k2, _⟩ := R.ex
    have d0 : w1.cell? ⟨w.heap.size, 0, none⟩ = some (.slice A2 n2 c2) := k1.cell 0
    have d1' : w1.cell? ⟨w.heap.size, 1, none⟩ = some (.int .i64 (0 : Nat)) := k1.cell 1
    have hlt : w.heap.size < w1.heap.size := R.lt
    have hn2 : (n : Int) - (n2 : Int) = (u0 : Int) := by have := k2.len; rw [List.length_drop] at this; omega
    have hn2' : n2 = n - u0 := by omega
    have K2 := Lib.hid k2
    have L1 := Lib.hid bel
    have HLT := Lib.hid hlt
    clear R hg k1 k2 bel hlt C
    by_cases h2 : n2 < 4
    · rw [if_pos (by omega)] at hF'
      obtain ⟨rfl, rfl, rfl⟩ := triple hF'
      have h4 : (n2 : Int) < 4 := by omega
      clear h2 hn2' hF'
      go_wp2_with fail
      go_ret3
      exact ⟨none, 0, 0, rfl, Byt.nil _, L1.out⟩
    · rw [if_neg (by omega)] at hF'
      obtain ⟨B3, d3, hs3, hb3⟩ := cut_h K2.out 4 (by omega) (4 : Int) rfl
      have HB3 := Lib.hid hb3
      have h4 : ¬ (n2 : Int) < 4 := by omega
      have DC := Lib.hid d0
      clear h2 hn2' hb3
      by_cases hq : (l.drop u0).take 4 = sumL (l.take u0)
      · rw [if_pos hq] at hF'
        have HQ := Lib.hid hq
        obtain ⟨rfl, rfl, rfl⟩ := triple hF'
        clear hF' hq
        go_wp2_with fail
        go_region_held3 (fun w' => w'.cell? ⟨w.heap.size, 0, none⟩ = some (.slice A2 n2 c2)) (first | exact DC.out | exact (b2.cell (p := ⟨w.heap.size, 0, none⟩) HLT.out).trans DC.out | exact (b3.cell (p := ⟨w.heap.size, 0, none⟩) (Nat.lt_of_lt_of_le HLT.out b2.size)).trans ((b2.cell (p := ⟨w.heap.size, 0, none⟩) HLT.out).trans DC.out)) (first | (go_at_call 44; refine (refSumOf_any _ _ _ _ w1.drew (HB1.out.below (Below.drew L1.out))).mono ?_; rintro e w2 ⟨A4, n4, c4, rfl, ho4, hr4, b2⟩) | (go_at_call 13; refine (Quiet.ret (same_yes _ _ _ _ _ _ _ _ _ (Byt.of_own ho4 hr4) ((HB3.out.drew).below b2) HQ.out.symm)).mono ?_; rintro e w3 ⟨rfl, b3⟩))
        have L3 := Lib.hid (Below.then (Below.then (Below.drew L1.out) b2) b3)
        obtain ⟨A5, n5, c5, w4, kc, hb5, b5⟩ := ofStr w3 b0 HRB.out HB4.out
        have HB5 := Lib.hid hb5
        have L5 := Lib.hid (Below.then L3.out b5)
        clear b2 b3 hb5 b5 ho4 hr4
        go_wp2_with fail
        go_ret3
        exact ⟨A5, n5, c5, rfl, HB5.out, L5.out⟩
      · rw [if_neg hq] at hF'
        have HQ := Lib.hid hq
        obtain ⟨rfl, rfl, rfl⟩ := triple hF'
        clear hF' hq
        go_wp2_with fail
        go_region_held3 (fun w' => w'.cell? ⟨w.heap.size, 0, none⟩ = some (.slice A2 n2 c2)) (first | exact DC.out | exact (b2.cell (p := ⟨w.heap.size, 0, none⟩) HLT.out).trans DC.out | exact (b3.cell (p := ⟨w.heap.size, 0, none⟩) (Nat.lt_of_lt_of_le HLT.out b2.size)).trans ((b2.cell (p := ⟨w.heap.size, 0, none⟩) HLT.out).trans DC.out)) (first | (go_at_call 44; refine (refSumOf_any _ _ _ _ w1.drew (HB1.out.below (Below.drew L1.out))).mono ?_; rintro e w2 ⟨A4, n4, c4, rfl, ho4, hr4, b2⟩) | (go_at_call 13; refine (Quiet.ret (same_no _ _ _ _ _ _ _ _ _ (Byt.of_own ho4 hr4) ((HB3.out.drew).below b2) (Ne.symm HQ.out))).mono ?_; rintro e w3 ⟨rfl, b3⟩))
        have L3 := Lib.hid (Below.then (Below.then (Below.drew L1.out) b2) b3)
        clear b2 b3 ho4 hr4
        go_wp2_with fail
        go_ret3
        exact ⟨none, 0, 0, rfl, Byt.nil _, L3.out⟩
  · rw [if_pos h0] at hF'
    obtain ⟨rfl, rfl, rfl⟩ := triple hF'
    rw [stepV_no _ _ _ h0, stepL_no _ _ _ h0] at C
    have C := Lib.hid C
    have hne : ((e0 : Int) != 0) = true := by simp; omega
    clear h0 hok h hF'
    go_enter Tryd.func39, Tryd.ntmps39
    go_wp2_with fail
    refine C.out.mono ?_
    rintro e w1 ⟨⟨rfl, R, hg⟩, bel⟩
    obtain ⟨A2, n2, c2, k1, k2, _⟩ := R.ex
    have d1' : w1.cell? ⟨w.heap.size, 1, none⟩ = some (.int .i64 e0) := k1.cell 1
    have L1 := Lib.hid bel
    clear R hg k1 k2 bel C
    go_wp2_with fail
    go_quiet (fail)
    go_wp2_with fail
    go_ret3
    exact ⟨none, 0, 0, rfl, Byt.nil _, below_drewN L1.out _⟩
end Go.Proofs.YtljpnngknmpdoaaDoor

/- the Go text of trothlaw03.SealOpens answers true, and writes nothing that was there. -/
namespace Go.Proofs.YtljpnngknmpdoaaDoor
open Go.RowKit

theorem openF_ok {l : List Int} (hr : ∀ x ∈ l, 0 ≤ x ∧ x < 256) {b : List Int} {u : Nat} (h : openF l = (b, u, 0)) : u ≤ l.length ∧ l.take u = sealL b ∧ b.length ≤ 4096 := by
  unfold openF at h
  split at h
  · rename_i h0
    exact absurd (triple h).2.2 h0
  · rename_i h0
    split at h
    · have := (triple h).2.2; omega
    · rename_i h1
      split at h
      · rename_i h2
        obtain ⟨e1, e2, _⟩ := triple h
        obtain ⟨hu, ht, hb⟩ := textF_ok hr (l := l) (most := 4096) (by omega)
        rw [e1] at ht hb
        refine ⟨by omega, ?_, by omega⟩
        rw [← e2, List.take_add, h2, ht]
        rfl
      · have := (triple h).2.2; omega

theorem sealPost_is (l : List Int) : ∃ xs xe, (∀ w, SealPost l w = RetOwn2 xs xe w) ∧ ((xe = 0 ∧ xs = sealL l ∧ l.length ≤ 4096) ∨ xe = 12) := by
  by_cases h : 4096 < l.length
  · exact ⟨[], 12, fun w => by unfold SealPost; rw [if_pos h], .inr rfl⟩
  · exact ⟨sealL l, 0, fun w => by unfold SealPost; rw [if_neg h], .inl ⟨rfl, rfl, by omega⟩⟩

end Go.Proofs.YtljpnngknmpdoaaDoor

/- plain mathematics of sheets: what is found in them, how bodies are laid into them; what was laid is found. No program is named; no condition. -/
namespace Go.Proofs.YtljpnngknmpdoaaDoor
open Go.RowKit

/-- Bytes. -/
def isB (l : List Int) : Prop := ∀ x ∈ l, 0 ≤ x ∧ x < 256
theorem isB.drop {l : List Int} (h : isB l) (n : Nat) : isB (l.drop n) := fun x hx => h x (List.mem_of_mem_drop hx)
theorem isB.take {l : List Int} (h : isB l) (n : Nat) : isB (l.take n) := fun x hx => h x (List.mem_of_mem_take hx)
theorem isB.app {l m : List Int} (h : isB l) (k : isB m) : isB (l ++ m) := fun x hx => by
  rcases List.mem_append.1 hx with q | q
  · exact h x q
  · exact k x q

/-- The bodies at the beginning of bytes, the bytes of one that is begun, and whether one may go on. -/
def opensF : Nat → List Int → List (List Int) × List Int × Bool
  | 0, _ => ([], [], true)
  | f + 1, b => if b = [] then ([], [], true) else
      if (openF b).2.2 = 0 then ((openF b).1 :: (opensF f (b.drop (openF b).2.1)).1, (opensF f (b.drop (openF b).2.1)).2) else if (openF b).2.2 = 10 then ([], b, true) else ([], [], false)

theorem sealL_pos (b : List Int) : 4 < (sealL b).length := by
  rw [sealL_len]
  have h := shortL_pos b.length
  unfold textL
  rw [List.length_append]
  omega

theorem opensF_more : ∀ (f g : Nat) (b : List Int), isB b → b.length < f → b.length < g → opensF f b = opensF g b
  | 0, _, b, _, h, _ => absurd h (by omega)
  | _, 0, b, _, _, h => absurd h (by omega)
  | f + 1, g + 1, b, hb, h1, h2 => by
    unfold opensF
    by_cases h0 : b = []
    · rw [if_pos h0, if_pos h0]
    · rw [if_neg h0, if_neg h0]
      by_cases he : (openF b).2.2 = 0
      · rw [if_pos he, if_pos he]
        obtain ⟨hu, ht, _⟩ := openF_ok hb (b := (openF b).1) (u := (openF b).2.1) (by rw [← he])
        have hp := sealL_pos (openF b).1
        have : (b.take (openF b).2.1).length = (sealL (openF b).1).length := by rw [ht]
        rw [List.length_take] at this
        have hl : (b.drop (openF b).2.1).length < b.length := by rw [List.length_drop]; omega
        rw [opensF_more f g _ (hb.drop _) (by omega) (by omega)]
      · rw [if_neg he, if_neg he]

def opens (b : List Int) : List (List Int) × List Int × Bool := opensF (b.length + 1) b

theorem opens_nil : opens [] = ([], [], true) := rfl
theorem opens_ok {b x : List Int} {u : Nat} (hb : isB b) (h0 : b ≠ []) (h : openF b = (x, u, 0)) : opens b = (x :: (opens (b.drop u)).1, (opens (b.drop u)).2) := by
  unfold opens
  have e : opensF (b.length + 1) b = (x :: (opensF b.length (b.drop u)).1, (opensF b.length (b.drop u)).2) := by
    rw [opensF, if_neg h0, h, if_pos rfl]
  rw [e]
  obtain ⟨hu, ht, _⟩ := openF_ok hb h
  have hp := sealL_pos x
  have : (b.take u).length = (sealL x).length := by rw [ht]
  rw [List.length_take] at this
  have hl : (b.drop u).length < b.length := by rw [List.length_drop]; omega
  rw [opensF_more b.length ((b.drop u).length + 1) _ (hb.drop _) hl (by omega)]
theorem opens_short {b x : List Int} {u : Nat} (h0 : b ≠ []) (h : openF b = (x, u, 10)) : opens b = ([], b, true) := by
  unfold opens
  rw [opensF, if_neg h0, h, if_neg (by simp), if_pos rfl]
theorem opens_bad {b x : List Int} {u e : Nat} (h0 : b ≠ []) (h : openF b = (x, u, e)) (he : e ≠ 0) (h10 : e ≠ 10) : opens b = ([], [], false) := by
  unfold opens
  rw [opensF, if_neg h0, h, if_neg he, if_neg h10]

/-- Where a search stands: what was found, what there is of a body that is begun, and where that begins. -/
structure Fs where
  out : List (List Int × Int)
  beg : List Int
  frm : Int

def headF (s : Fs) (h : List Int) : Fs × Bool :=
  if s.beg = [] then (s, true) else
    if (openF (s.beg ++ h)).2.2 = 10 then (⟨s.out, s.beg ++ h, s.frm⟩, true)
    else if (openF (s.beg ++ h)).2.2 = 0 ∧ (openF (s.beg ++ h)).2.1 = (s.beg ++ h).length then (⟨s.out ++ [((openF (s.beg ++ h)).1, s.frm)], [], s.frm⟩, true) else (s, false)
def bodsF (s : Fs) (b : List Int) (i : Int) : Fs × Bool := (⟨s.out ++ (opens b).1.map (fun x => (x, i)), (opens b).2.1, i⟩, (opens b).2.2)
/-- A sheet's First and Data. -/
def inS (first : Int) (d : List Int) : Prop := 0 ≤ first ∧ first ≤ (d.length : Int)
instance (first : Int) (d : List Int) : Decidable (inS first d) := inferInstanceAs (Decidable (_ ∧ _))
def cutS (first : Int) (d : List Int) : Nat := if inS first d then first.toNat else d.length
theorem cutS_le (first : Int) (d : List Int) : cutS first d ≤ d.length := by
  unfold cutS
  split
  · rename_i h; have := h.1; have := h.2; omega
  · exact Nat.le_refl _
def sheetF (s : Fs) (i : Int) (first : Int) (d : List Int) : Fs × Bool :=
  if (headF s (d.take (cutS first d))).2 = false then headF s (d.take (cutS first d))
  else if inS first d then bodsF (headF s (d.take (cutS first d))).1 (d.drop (cutS first d)) i else headF s (d.take (cutS first d))
def findF : Fs → Nat → List (Int × List Int) → List (List Int × Int)
  | s, _, [] => s.out
  | s, i, x :: r => if (sheetF s i x.1 x.2).2 then findF (sheetF s i x.1 x.2).1 (i + 1) r else (sheetF s i x.1 x.2).1.out
def fs0 : Fs := ⟨[], [], 0⟩
/-- What is found. -/
def found (l : List (Int × List Int)) : List (List Int × Int) := findF fs0 0 l

/- What was found are bytes, and what is begun. -/
def Fs.Ok (s : Fs) : Prop := isB s.beg ∧ ∀ x ∈ s.out, isB x.1 ∧ x.1.length ≤ 4096

theorem sealL_inB {b : List Int} {x : List Int} {n : Nat} (hb : isB b) (h : b.take n = sealL x) : isB x := fun y hy => by
  refine hb.take n y ?_
  rw [h]
  unfold sealL textL
  simp [hy]

theorem opensF_isB : ∀ (f : Nat) (b : List Int), isB b → isB (opensF f b).2.1 ∧ ∀ x ∈ (opensF f b).1, isB x ∧ x.length ≤ 4096
  | 0, b, h => ⟨fun x hx => (by cases hx), fun x hx => (by cases hx)⟩
  | f + 1, b, h => by
    unfold opensF
    split
    · exact ⟨fun x hx => (by cases hx), fun x hx => (by cases hx)⟩
    · split
      · rename_i he
        obtain ⟨hu, ht, hl⟩ := openF_ok h (b := (openF b).1) (u := (openF b).2.1) (by rw [← he])
        obtain ⟨h1, h2⟩ := opensF_isB f (b.drop (openF b).2.1) (h.drop _)
        refine ⟨h1, fun x hx => ?_⟩
        rcases List.mem_cons.1 hx with rfl | hx
        · exact ⟨sealL_inB h ht, hl⟩
        · exact h2 x hx
      · split
        · exact ⟨h, fun x hx => (by cases hx)⟩
        · exact ⟨fun x hx => (by cases hx), fun x hx => (by cases hx)⟩

theorem headF_ok {s : Fs} {h : List Int} (hs : s.Ok) (hh : isB h) : (headF s h).1.Ok := by
  unfold headF
  split
  · exact hs
  · split
    · exact ⟨hs.1.app hh, hs.2⟩
    · split
      · rename_i hc
        obtain ⟨hu, ht, hl⟩ := openF_ok (hs.1.app hh) (b := (openF (s.beg ++ h)).1) (u := (openF (s.beg ++ h)).2.1) (by rw [← hc.1])
        refine ⟨fun x hx => (by cases hx), fun x hx => ?_⟩
        rcases List.mem_append.1 hx with q | q
        · exact hs.2 x q
        · simp at q
          subst q
          exact ⟨sealL_inB (hs.1.app hh) ht, hl⟩
      · exact hs
theorem bodsF_ok {s : Fs} {b : List Int} (i : Int) (hs : s.Ok) (hb : isB b) : (bodsF s b i).1.Ok := by
  obtain ⟨h1, h2⟩ := opensF_isB (b.length + 1) b hb
  refine ⟨h1, fun x hx => ?_⟩
  rcases List.mem_append.1 hx with q | q
  · exact hs.2 x q
  · obtain ⟨y, hy, rfl⟩ := List.mem_map.1 q
    exact h2 y hy
theorem sheetF_ok {s : Fs} {i first : Int} {d : List Int} (hs : s.Ok) (hd : isB d) : (sheetF s i first d).1.Ok := by
  unfold sheetF
  split
  · exact headF_ok hs (hd.take _)
  · split
    · exact bodsF_ok _ (headF_ok hs (hd.take _)) (hd.drop _)
    · exact headF_ok hs (hd.take _)

/- How long what is begun may be, and how much is found. -/
theorem opensF_len : ∀ (f : Nat) (b : List Int), isB b → (opensF f b).1.length * 5 + (opensF f b).2.1.length ≤ b.length
  | 0, b, _ => by simp [opensF]
  | f + 1, b, h => by
    unfold opensF
    split
    · simp
    · split
      · rename_i he
        obtain ⟨hu, ht, hl⟩ := openF_ok h (b := (openF b).1) (u := (openF b).2.1) (by rw [← he])
        have hp := sealL_pos (openF b).1
        have e : (b.take (openF b).2.1).length = (sealL (openF b).1).length := by rw [ht]
        rw [List.length_take] at e
        have := opensF_len f (b.drop (openF b).2.1) (h.drop _)
        rw [List.length_drop] at this
        simp only [List.length_cons]
        omega
      · split
        · simp
        · simp
theorem headF_len {s : Fs} {h : List Int} : (headF s h).1.beg.length ≤ s.beg.length + h.length ∧ (headF s h).1.out.length ≤ s.out.length + 1 := by
  unfold headF
  split
  · exact ⟨by simp, by simp⟩
  · split
    · simp
    · split
      · simp
      · exact ⟨by simp, by simp⟩
theorem bodsF_len {s : Fs} {b : List Int} {i : Int} (hb : isB b) : (bodsF s b i).1.beg.length ≤ b.length ∧ (bodsF s b i).1.out.length ≤ s.out.length + b.length := by
  have := opensF_len (b.length + 1) b hb
  unfold bodsF opens
  simp only [List.length_append, List.length_map]
  omega
theorem sheetF_len {s : Fs} {i first : Int} {d : List Int} (hd : isB d) : (sheetF s i first d).1.beg.length ≤ s.beg.length + d.length ∧ (sheetF s i first d).1.out.length ≤ s.out.length + 1 + d.length := by
  have hc := cutS_le first d
  have h1 := @headF_len s (d.take (cutS first d))
  rw [List.length_take, Nat.min_eq_left hc] at h1
  unfold sheetF
  split
  · omega
  · split
    · have h2 := @bodsF_len (headF s (d.take (cutS first d))).1 (d.drop (cutS first d)) i (hd.drop _)
      rw [List.length_drop] at h2
      omega
    · omega
end Go.Proofs.YtljpnngknmpdoaaDoor

/- plain mathematics of sheets: bodies laid into sheets, by place; of the first sheets of what was laid just those bodies are found that end in them; what was laid later is found too. No program is named; no condition. -/
namespace Go.Proofs.YtljpnngknmpdoaaDoor
open Go.RowKit

/-- Bodies sealed, one behind the other. -/
def allL (bs : List (List Int)) : List Int := bs.flatMap sealL
/-- Where body number j begins. -/
def bgn (bs : List (List Int)) (j : Nat) : Nat := (allL (bs.take j)).length
/-- Where they begin. -/
def bgns (bs : List (List Int)) : List Nat := (List.range bs.length).map (bgn bs)
/-- The first of these numbers that lies in sheet number i. -/
def fstIn (l : List Nat) (i : Nat) : Int := match l.find? (fun b => b / 242 == i) with
  | some b => ((b % 242 : Nat) : Int)
  | none => 255
/-- How many sheets so many bytes have. -/
def shN (n : Nat) : Nat := (n + 241) / 242
/-- A sheet's First and Data, of what was laid. -/
def laidAt (bs : List (List Int)) (i : Nat) : Int × List Int := (fstIn (bgns bs) i, ((allL bs).drop (242 * i)).take 242)
def laidL (bs : List (List Int)) : List (Int × List Int) := (List.range (shN (allL bs).length)).map (laidAt bs)

theorem allL_cons (b : List Int) (r : List (List Int)) : allL (b :: r) = sealL b ++ allL r := by simp [allL]
theorem allL_app (a r : List (List Int)) : allL (a ++ r) = allL a ++ allL r := by simp [allL]
theorem allL_isB {bs : List (List Int)} (h : ∀ b ∈ bs, isB b) : isB (allL bs) := fun x hx => by
  obtain ⟨b, hb, hx⟩ := List.mem_flatMap.1 hx
  exact sealL_rng (h b hb) x hx

section
variable {bs : List (List Int)}
theorem bgn_zero : bgn bs 0 = 0 := by simp [bgn, allL]
theorem bgn_end {j : Nat} (h : bs.length ≤ j) : bgn bs j = (allL bs).length := by unfold bgn; rw [List.take_of_length_le h]
theorem take_succ_getD {α : Type} (l : List α) (d : α) (j : Nat) (h : j < l.length) : l.take (j + 1) = l.take j ++ [l.getD j d] := by
  rw [List.take_add_one]
  congr 1
  simp [List.getElem?_eq_getElem h]
theorem bgn_next {j : Nat} (h : j < bs.length) : bgn bs (j + 1) = bgn bs j + (sealL (bs.getD j [])).length := by
  unfold bgn
  rw [take_succ_getD bs [] j h, allL_app, List.length_append]
  simp [allL]
theorem bgn_lt {j : Nat} (h : j < bs.length) : bgn bs j < bgn bs (j + 1) := by
  rw [bgn_next h]
  have := sealL_pos (bs.getD j [])
  omega
theorem bgn_mono {i j : Nat} (h : i ≤ j) : bgn bs i ≤ bgn bs j := by
  induction j with
  | zero => rw [Nat.le_zero.1 h]; exact Nat.le_refl _
  | succ j ih =>
    by_cases e : i = j + 1
    · rw [e]; exact Nat.le_refl _
    · have h1 := ih (by omega)
      by_cases hj : j < bs.length
      · have := bgn_lt hj; omega
      · rw [bgn_end (by omega : bs.length ≤ j)] at h1
        rw [bgn_end (j := j + 1) (by omega)]
        exact h1
theorem bgn_le (j : Nat) : bgn bs j ≤ (allL bs).length := by
  rw [← bgn_end (Nat.le_refl bs.length)]
  by_cases h : j ≤ bs.length
  · exact bgn_mono h
  · rw [bgn_end (by omega), bgn_end (Nat.le_refl _)]; exact Nat.le_refl _
theorem bgn_smono {i j : Nat} (h : i < j) (hj : j ≤ bs.length) : bgn bs i < bgn bs j :=
  Nat.lt_of_lt_of_le (bgn_lt (by omega)) (bgn_mono h)
theorem all_drop (j : Nat) : (allL bs).drop (bgn bs j) = allL (bs.drop j) := by
  have e : allL bs = allL (bs.take j) ++ allL (bs.drop j) := by rw [← allL_app, List.take_append_drop]
  rw [e]
  unfold bgn
  rw [List.drop_left]
theorem drop_getD_cons {α : Type} (l : List α) (d : α) (j : Nat) (h : j < l.length) : l.drop j = l.getD j d :: l.drop (j + 1) := by
  rw [List.drop_eq_getElem_cons h]
  simp [List.getD, List.getElem?_eq_getElem h]

/- The first begin in a sheet. -/
theorem bgns_get (j : Nat) (h : j < bs.length) : (bgns bs)[j]? = some (bgn bs j) := by simp [bgns, h]
theorem fst_is {i j : Nat} (hj : j < bs.length) (h1 : bgn bs j / 242 = i) (h2 : ∀ k, k < j → bgn bs k / 242 ≠ i) : fstIn (bgns bs) i = ((bgn bs j % 242 : Nat) : Int) := by
  have : (bgns bs).find? (fun b => b / 242 == i) = some (bgn bs j) := by
    rw [List.find?_eq_some_iff_getElem]
    refine ⟨by simpa using h1, j, by simpa [bgns] using hj, by simp [bgns], fun k hk => ?_⟩
    simpa [bgns] using h2 k hk
  unfold fstIn
  rw [this]
theorem fst_none {i : Nat} (h : ∀ k, k < bs.length → bgn bs k / 242 ≠ i) : fstIn (bgns bs) i = 255 := by
  have : (bgns bs).find? (fun b => b / 242 == i) = none := by
    rw [List.find?_eq_none]
    intro x hx
    obtain ⟨k, hk, rfl⟩ := List.mem_map.1 hx
    simpa using h k (by simpa using hk)
  unfold fstIn
  rw [this]
end

/-- Of the first n bytes of sealed bodies those are opened that end there. -/
theorem opens_all : ∀ (bs : List (List Int)) (n : Nat), (∀ b ∈ bs, isB b ∧ b.length ≤ 4096) → n ≤ (allL bs).length → ∃ q, q ≤ bs.length ∧ bgn bs q ≤ n ∧ (q < bs.length → n < bgn bs (q + 1)) ∧
    opens ((allL bs).take n) = (bs.take q, ((allL bs).drop (bgn bs q)).take (n - bgn bs q), true)
  | [], n, _, hn => ⟨0, Nat.le_refl _, by simp [bgn, allL], fun h => absurd h (by simp), by simp [allL, opens_nil]⟩
  | b :: r, n, hb, hn => by
    obtain ⟨hb1, hb2⟩ := hb b (by simp)
    have hp := sealL_pos b
    by_cases h0 : n = 0
    · subst h0
      refine ⟨0, Nat.zero_le _, by simp [bgn_zero], fun _ => ?_, by simp [bgn_zero, opens_nil]⟩
      rw [bgn_next (by simp), bgn_zero]
      simp
      omega
    · rw [allL_cons, List.length_append] at hn
      by_cases h1 : n < (sealL b).length
      · have e : (allL (b :: r)).take n = (sealL b).take n := by rw [allL_cons, List.take_append_of_le_length (by omega)]
        refine ⟨0, Nat.zero_le _, by simp [bgn_zero], fun _ => ?_, ?_⟩
        · rw [bgn_next (by simp), bgn_zero]
          simpa using h1
        · have hne : (sealL b).take n ≠ [] := by
            intro q
            have := congrArg List.length q
            rw [List.length_take] at this
            simp only [List.length_nil] at this
            omega
          rw [bgn_zero, List.drop_zero, Nat.sub_zero, e, opens_short hne (open_cut b hb2 n h1)]
          simp
      · obtain ⟨q, hq, hq1, hq2, hq3⟩ := opens_all r (n - (sealL b).length) (fun x hx => hb x (by simp [hx])) (by omega)
        have bq : ∀ k, bgn (b :: r) (k + 1) = (sealL b).length + bgn r k := by
          intro k
          unfold bgn
          rw [List.take_succ_cons, allL_cons, List.length_append]
        refine ⟨q + 1, by simp; omega, by rw [bq]; omega, fun h => ?_, ?_⟩
        · rw [bq]
          have := hq2 (by simpa using h)
          omega
        · have e : (allL (b :: r)).take n = sealL b ++ (allL r).take (n - (sealL b).length) := by
            rw [allL_cons, List.take_append, List.take_of_length_le (by omega)]
          have hB : isB ((allL (b :: r)).take n) := (allL_isB (fun x hx => (hb x hx).1)).take n
          have hne : (allL (b :: r)).take n ≠ [] := by
            rw [e]
            intro q
            have := congrArg List.length q
            simp at this
            have := sealL_pos b
            simp_all
          rw [opens_ok hB hne (by rw [e]; exact open_seal b _ hb2), e, List.drop_left, hq3, bq]
          have e2 : (allL (b :: r)).drop ((sealL b).length + bgn r q) = (allL r).drop (bgn r q) := by
            rw [allL_cons, List.drop_append, List.drop_of_length_le (by omega), List.nil_append]
            congr 1
            omega
          rw [e2, List.take_succ_cons, Nat.sub_sub]

/-- Where a search stands behind the first k sheets of what was laid; o: what it had found ahead of them. -/
structure InvL (bs : List (List Int)) (o : List (List Int)) (k : Nat) (s : Fs) (j : Nat) : Prop where
  le : j ≤ bs.length
  out : s.out.map Prod.fst = o ++ bs.take j
  low : bgn bs j ≤ 242 * k
  high : j < bs.length → 242 * k < bgn bs (j + 1)
  beg : s.beg = ((allL bs).take (242 * k)).drop (bgn bs j)

theorem drop_take_part {α : Type} (l : List α) (a b : Nat) : (l.take b).drop a = (l.drop a).take (b - a) := by rw [List.drop_take]
theorem take_more {α : Type} (l : List α) (a b c : Nat) (h : a ≤ b) : (l.drop a).take (b - a) ++ (l.drop b).take c = (l.drop a).take (b - a + c) := by
  rw [List.take_add, List.drop_drop]
  congr 3
  omega

section
variable {bs : List (List Int)} {o : List (List Int)} {k j : Nat} {s : Fs}

theorem fst_lt (bs : List (List Int)) (i : Nat) : fstIn (bgns bs) i = 255 ∨ ∃ b : Nat, b < 242 ∧ fstIn (bgns bs) i = (b : Int) := by
  unfold fstIn
  split
  · exact .inr ⟨_, Nat.mod_lt _ (by omega), rfl⟩
  · exact .inl rfl

/-- One sheet more. -/
theorem InvL.step (h : InvL bs o k s j) (hb : ∀ b ∈ bs, isB b ∧ b.length ≤ 4096) (hk : 242 * k < (allL bs).length) (i : Int) :
    (sheetF s i (laidAt bs k).1 (laidAt bs k).2).2 = true ∧ ∃ j', InvL bs o (k + 1) (sheetF s i (laidAt bs k).1 (laidAt bs k).2).1 j' := by
  obtain ⟨hle, hout, hlow, hhigh, hbeg⟩ := h
  have hj : j < bs.length := by
    rcases Nat.lt_or_ge j bs.length with q | q
    · exact q
    · rw [bgn_end q] at hlow; omega
  have hnx := hhigh hj
  have hnl : bgn bs (j + 1) ≤ (allL bs).length := bgn_le _
  obtain ⟨T, hT⟩ : ∃ T, T = (allL bs).length := ⟨_, rfl⟩
  obtain ⟨d, hd⟩ : ∃ d, d = ((allL bs).drop (242 * k)).take 242 := ⟨_, rfl⟩
  have hdl : d.length = min 242 (T - 242 * k) := by rw [hd, List.length_take, List.length_drop, hT]
  have hla : laidAt bs k = (fstIn (bgns bs) k, d) := by unfold laidAt; rw [hd]
  rw [hla]
  have hS := bgn_next hj
  have hbj : isB (bs.getD j []) ∧ (bs.getD j []).length ≤ 4096 := by
    have : bs.getD j [] = bs[j] := by simp [List.getD, List.getElem?_eq_getElem hj]
    rw [this]
    exact hb _ (List.getElem_mem hj)
  have hrest : (allL bs).drop (bgn bs j) = sealL (bs.getD j []) ++ allL (bs.drop (j + 1)) := by rw [all_drop, drop_getD_cons bs [] j hj, allL_cons]
  have hbeg' : s.beg = ((allL bs).drop (bgn bs j)).take (242 * k - bgn bs j) := by rw [hbeg, List.drop_take]
  have hbl : s.beg.length = 242 * k - bgn bs j := by rw [hbeg', List.length_take, List.length_drop]; omega
  have happ : ∀ c, s.beg ++ (d.take c) = ((allL bs).drop (bgn bs j)).take (242 * k - bgn bs j + min c 242) := by
    intro c
    rw [hbeg', hd, List.take_take, take_more _ _ _ _ hlow]
  -- begins ahead of this sheet, and behind
  have hbefore : ∀ i, i ≤ j → bgn bs i ≤ 242 * k := fun i hi => Nat.le_trans (bgn_mono hi) hlow
  -- what the bodies of a sheet do, from body q on
  have hbods : ∀ (q c : Nat) (s1 : Fs), q ≤ bs.length → c ≤ d.length → bgn bs q = 242 * k + c → s1.out.map Prod.fst = o ++ bs.take q → (bodsF s1 (d.drop c) i).2 = true ∧ ∃ j', InvL bs o (k + 1) (bodsF s1 (d.drop c) i).1 j' := by
    intro q c s1 hq hc hbq ho1
    have hdc : d.drop c = (allL (bs.drop q)).take (d.length - c) := by
      rw [hd, List.drop_take, List.drop_drop, ← hbq, all_drop]
      have hl : (allL (bs.drop q)).length = T - bgn bs q := by rw [← all_drop, List.length_drop, hT]
      by_cases h242 : 242 ≤ T - 242 * k
      · rw [← hd, hdl, Nat.min_eq_left h242]
      · rw [← hd, hdl, Nat.min_eq_right (by omega), List.take_of_length_le (by omega), List.take_of_length_le (by omega)]
    have hl : (allL (bs.drop q)).length = T - bgn bs q := by rw [← all_drop, List.length_drop, hT]
    obtain ⟨r, hr, hr1, hr2, hr3⟩ := opens_all (bs.drop q) (d.length - c) (fun b hb' => hb b (List.mem_of_mem_drop hb')) (by omega)
    have hbr : ∀ m, bgn (bs.drop q) m = bgn bs (q + m) - bgn bs q := by
      intro m
      unfold bgn
      rw [List.take_add, allL_app, List.length_append]
      omega
    have hge : ∀ m, bgn bs q ≤ bgn bs (q + m) := fun m => bgn_mono (by omega)
    rw [List.length_drop] at hr hr2
    unfold bodsF
    rw [hdc, hr3]
    refine ⟨rfl, q + r, by omega, ?_, ?_, fun hlt => ?_, ?_⟩
    · simp only [List.map_append, ho1, List.map_map]
      rw [List.append_assoc, List.take_add]
      congr 2
      exact List.map_id _
    · rw [hbr] at hr1
      have := hge r
      omega
    · have h1 := hr2 (by omega)
      rw [hbr] at h1
      have h2 := hge (r + 1)
      have h3 : q + r + 1 = q + (r + 1) := by omega
      rw [h3]
      rcases Nat.lt_or_ge T (242 * (k + 1)) with q1 | q1
      · have := bgn_le (bs := bs) (q + (r + 1))
        have := bgn_smono (bs := bs) (i := q + r) (j := q + (r + 1)) (by omega) (by omega)
        omega
      · omega
    · simp only
      rw [hbr] at hr1 ⊢
      have := hge r
      rw [← all_drop, List.drop_drop, List.drop_take]
      have e : bgn bs q + (bgn bs (q + r) - bgn bs q) = bgn bs (q + r) := by omega
      rw [e]
      by_cases h242 : 242 ≤ T - 242 * k
      · congr 1
        omega
      · rw [List.take_of_length_le (by rw [List.length_drop]; omega), List.take_of_length_le (by rw [List.length_drop]; omega)]
  -- no body begins in this sheet
  have hnone : ¬ (bgn bs (j + 1) < 242 * (k + 1) ∧ j + 1 < bs.length) → bgn bs j < 242 * k → fstIn (bgns bs) k = 255 := by
    intro hno hjl
    refine fst_none (fun m hm hmk => ?_)
    rcases Nat.lt_or_ge j m with q | q
    · have := bgn_mono (bs := bs) (i := j + 1) (j := m) q
      have : 242 * k ≤ bgn bs m ∧ bgn bs m < 242 * (k + 1) := by omega
      apply hno
      omega
    · have := bgn_mono (bs := bs) q
      omega
  unfold sheetF
  by_cases hcase : bgn bs j < 242 * k
  · have hbne : s.beg ≠ [] := by intro q; rw [q] at hbl; simp at hbl; omega
    by_cases hin : bgn bs (j + 1) < 242 * (k + 1) ∧ j + 1 < bs.length
    · -- the body ends, and another one begins
      have hf : fstIn (bgns bs) k = ((bgn bs (j + 1) - 242 * k : Nat) : Int) := by
        rw [fst_is (bs := bs) (j := j + 1) hin.2 (by omega) (fun m hm => by have := hbefore m (by omega); have := bgn_mono (bs := bs) (i := m) (j := j) (by omega); omega)]
        congr 1
        omega
      have hlt : bgn bs (j + 1) < T := by
        have := bgn_smono (bs := bs) (i := j + 1) (j := j + 2) (by omega) (by omega)
        have := bgn_le (bs := bs) (j + 2)
        omega
      have hIn : inS (fstIn (bgns bs) k) d := by rw [hf]; exact ⟨by omega, by omega⟩
      have hcut : cutS (fstIn (bgns bs) k) d = bgn bs (j + 1) - 242 * k := by
        unfold cutS
        rw [if_pos hIn, hf]
        omega
      rw [hcut]
      have hx : s.beg ++ d.take (bgn bs (j + 1) - 242 * k) = sealL (bs.getD j []) := by
        rw [happ, hrest, List.take_append_of_le_length (by omega), List.take_of_length_le (by omega)]
      have hH : headF s (d.take (bgn bs (j + 1) - 242 * k)) = (⟨s.out ++ [(bs.getD j [], s.frm)], [], s.frm⟩, true) := by
        unfold headF
        rw [if_neg hbne, hx, open_seal0 _ hbj.2, if_neg (by simp), if_pos ⟨rfl, rfl⟩]
      rw [hH, if_neg (by simp), if_pos hIn]
      refine hbods (j + 1) (bgn bs (j + 1) - 242 * k) _ (by omega) (by omega) (by omega) ?_
      simp only [List.map_append, hout, List.map_cons, List.map_nil, List.append_assoc]
      rw [take_succ_getD bs [] j hj]
    · have hf := hnone hin hcase
      have hIn : ¬ inS (fstIn (bgns bs) k) d := by rw [hf]; intro q; have := q.2; omega
      have hcut : cutS (fstIn (bgns bs) k) d = d.length := by unfold cutS; rw [if_neg hIn]
      rw [hcut, List.take_of_length_le (Nat.le_refl _)]
      have happ' : s.beg ++ d = ((allL bs).drop (bgn bs j)).take (242 * k - bgn bs j + 242) := by
        have := happ 242
        rw [List.take_of_length_le (by omega), Nat.min_self] at this
        exact this
      by_cases hend : bgn bs (j + 1) ≤ 242 * (k + 1)
      · -- the body ends with the sheet
        have hE : bgn bs (j + 1) = 242 * (k + 1) ∨ bgn bs (j + 1) = T := by
          by_cases hl : j + 1 < bs.length
          · left; omega
          · right; rw [bgn_end (by omega), hT]
        have hx : s.beg ++ d = sealL (bs.getD j []) := by
          rw [happ']
          rcases hE with q | q
          · rw [hrest, List.take_append_of_le_length (by omega), List.take_of_length_le (by omega)]
          · have hlast : bs.drop (j + 1) = [] := by
              rcases Nat.lt_or_ge (j + 1) bs.length with r | r
              · have := bgn_smono (bs := bs) (i := j + 1) (j := j + 2) (by omega) (by omega)
                have := bgn_le (bs := bs) (j + 2)
                omega
              · exact List.drop_of_length_le r
            rw [hrest, hlast]
            simp only [allL, List.flatMap_nil, List.append_nil]
            rw [List.take_of_length_le (by omega)]
        have hH : headF s d = (⟨s.out ++ [(bs.getD j [], s.frm)], [], s.frm⟩, true) := by
          unfold headF
          rw [if_neg hbne, hx, open_seal0 _ hbj.2, if_neg (by simp), if_pos ⟨rfl, rfl⟩]
        rw [hH, if_neg (by simp), if_neg hIn]
        refine ⟨rfl, j + 1, by omega, ?_, hend, fun hl => ?_, ?_⟩
        · simp only [List.map_append, hout, List.map_cons, List.map_nil, List.append_assoc]
          rw [take_succ_getD bs [] j hj]
        · have := bgn_lt hl
          rcases hE with q | q
          · omega
          · have := bgn_le (bs := bs) (j + 1 + 1)
            omega
        · simp only
          symm
          apply List.drop_of_length_le
          rw [List.length_take]
          rcases hE with q | q
          · omega
          · omega
      · -- it goes on
        have hx : s.beg ++ d = (sealL (bs.getD j [])).take (242 * (k + 1) - bgn bs j) := by
          rw [happ', hrest, List.take_append_of_le_length (by omega)]
          congr 1
          omega
        have hH : headF s d = (⟨s.out, s.beg ++ d, s.frm⟩, true) := by
          unfold headF
          rw [if_neg hbne, hx, open_cut _ hbj.2 _ (by omega), if_pos rfl]
        rw [hH, if_neg (by simp), if_neg hIn]
        refine ⟨rfl, j, hle, hout, by omega, fun _ => by omega, ?_⟩
        simp only
        rw [happ', List.drop_take]
        congr 1
        omega
  · have hjk : bgn bs j = 242 * k := by omega
    have hb0 : s.beg = [] := List.eq_nil_of_length_eq_zero (by omega)
    have hf : fstIn (bgns bs) k = 0 := by
      rw [fst_is (bs := bs) (j := j) hj (by omega) (fun m hm => by have := bgn_smono (bs := bs) hm hle; omega), hjk]
      simp
    have hIn : inS (fstIn (bgns bs) k) d := by rw [hf]; exact ⟨by omega, by omega⟩
    have hcut : cutS (fstIn (bgns bs) k) d = 0 := by unfold cutS; rw [if_pos hIn, hf]; rfl
    rw [hcut]
    have hH : headF s (d.take 0) = (s, true) := by unfold headF; rw [if_pos hb0]
    rw [hH, if_neg (by simp), if_pos hIn]
    exact hbods j 0 s hle (by omega) (by omega) hout

/-- What a search that stands ahead of what was laid finds of its first sheets. -/
theorem InvL.go (hb : ∀ b ∈ bs, isB b ∧ b.length ≤ 4096) : ∀ (m k : Nat) (i : Nat) (s : Fs) (j : Nat) (rest : List (Int × List Int)), InvL bs o k s j → k + m ≤ shN (allL bs).length →
    ∃ s' j', InvL bs o (k + m) s' j' ∧ findF s i (((List.range m).map (fun n => laidAt bs (k + n))) ++ rest) = findF s' (i + m) rest
  | 0, k, i, s, j, rest, h, _ => ⟨s, j, h, by simp⟩
  | m + 1, k, i, s, j, rest, h, hk => by
    obtain ⟨h1, j1, h2⟩ := h.step hb (by unfold shN at hk; omega) (i : Int)
    obtain ⟨s', j', h3, h4⟩ := InvL.go hb m (k + 1) (i + 1) _ j1 rest h2 (by omega)
    refine ⟨s', j', by rw [show k + (m + 1) = k + 1 + m by omega]; exact h3, ?_⟩
    have e : (List.range (m + 1)).map (fun n => laidAt bs (k + n)) = laidAt bs k :: (List.range m).map (fun n => laidAt bs (k + 1 + n)) := by
      rw [List.range_succ_eq_map, List.map_cons, List.map_map]
      congr 1
      refine List.map_congr_left (fun n _ => ?_)
      simp only [Function.comp]
      congr 1
      omega
    rw [e, List.cons_append, findF, if_pos h1, h4]
    congr 1
    omega
end

theorem InvL.start (bs : List (List Int)) (o : List (List Int)) (s : Fs) (ho : s.out.map Prod.fst = o) (hb : s.beg = []) : InvL bs o 0 s 0 :=
  ⟨Nat.zero_le _, by simp [ho], by simp [bgn_zero], fun h => by have := bgn_lt h; rw [bgn_zero] at this; omega, by simp [hb]⟩

/-- How many bodies end in the first n sheets. -/
def endsIn (bs : List (List Int)) (n j : Nat) : Prop := j ≤ bs.length ∧ bgn bs j ≤ 242 * n ∧ (j < bs.length → 242 * n < bgn bs (j + 1))
theorem endsIn_one {bs : List (List Int)} {n i j : Nat} (h : endsIn bs n i) (k : endsIn bs n j) : i = j := by
  rcases Nat.lt_trichotomy i j with q | q | q
  · have := h.2.2 (by have := k.1; omega)
    have := bgn_mono (bs := bs) (i := i + 1) (j := j) q
    have := k.2.1
    omega
  · exact q
  · have := k.2.2 (by have := h.1; omega)
    have := bgn_mono (bs := bs) (i := j + 1) (j := i) q
    have := h.2.1
    omega

theorem laid_take (bs : List (List Int)) (n : Nat) (hn : n ≤ shN (allL bs).length) : (laidL bs).take n = (List.range n).map (fun m => laidAt bs (0 + m)) := by
  unfold laidL
  rw [← List.map_take, List.take_range, Nat.min_eq_left hn]
  refine List.map_congr_left (fun m _ => ?_)
  rw [Nat.zero_add]
theorem laid_len (bs : List (List Int)) : (laidL bs).length = shN (allL bs).length := by simp [laidL]

/-- Of the first sheets of what was laid. -/
theorem found_first {bs : List (List Int)} (hb : ∀ b ∈ bs, isB b ∧ b.length ≤ 4096) (n j : Nat) (hn : n ≤ shN (allL bs).length) (hj : endsIn bs n j) : (found ((laidL bs).take n)).map Prod.fst = bs.take j := by
  obtain ⟨s', j', h1, h2⟩ := InvL.go (o := []) hb n 0 0 fs0 0 [] (InvL.start bs [] fs0 rfl rfl) (by omega)
  rw [List.append_nil, ← laid_take bs n hn] at h2
  rw [Nat.zero_add] at h1
  unfold found
  rw [h2]
  obtain rfl : j' = j := endsIn_one ⟨h1.le, h1.low, h1.high⟩ hj
  simpa [findF] using h1.out
theorem endsIn_all (bs : List (List Int)) : endsIn bs (shN (allL bs).length) bs.length := ⟨Nat.le_refl _, by rw [bgn_end (Nat.le_refl _)]; unfold shN; omega, fun h => absurd h (by omega)⟩
theorem found_all {bs : List (List Int)} (hb : ∀ b ∈ bs, isB b ∧ b.length ≤ 4096) : (found (laidL bs)).map Prod.fst = bs := by
  have := found_first hb (shN (allL bs).length) bs.length (Nat.le_refl _) (endsIn_all bs)
  rwa [List.take_of_length_le (by rw [laid_len]; exact Nat.le_refl _), List.take_length] at this

/-- With what was laid later behind them. -/
theorem found_later {bs cs : List (List Int)} (hb : ∀ b ∈ bs, isB b ∧ b.length ≤ 4096) (hc : ∀ b ∈ cs, isB b ∧ b.length ≤ 4096) (n j : Nat) (hn : n ≤ shN (allL bs).length) (hj : endsIn bs n j) :
    (found ((laidL bs).take n ++ laidL cs)).map Prod.fst = bs.take j ++ cs := by
  obtain ⟨s', j', h1, h2⟩ := InvL.go (o := []) hb n 0 0 fs0 0 (laidL cs) (InvL.start bs [] fs0 rfl rfl) (by omega)
  rw [← laid_take bs n hn] at h2
  rw [Nat.zero_add] at h1
  unfold found
  rw [h2]
  obtain rfl : j' = j := endsIn_one ⟨h1.le, h1.low, h1.high⟩ hj
  have ho : s'.out.map Prod.fst = bs.take j' := by simpa using h1.out
  rw [Nat.zero_add]
  by_cases h0 : (allL cs).length = 0
  · have hcs : cs = [] := by
      cases cs with
      | nil => rfl
      | cons c r =>
        rw [allL_cons, List.length_append] at h0
        have := sealL_pos c
        omega
    subst hcs
    have : laidL [] = [] := by simp [laidL, allL, shN]
    rw [this]
    simpa [findF] using ho
  · have hpos : 0 < cs.length := by
      cases cs with
      | nil => exact absurd rfl h0
      | cons c r => simp
    have hsh : 0 < shN (allL cs).length := by unfold shN; omega
    -- the first sheet begins with a body: what is begun is given up
    have hl : laidL cs = laidAt cs 0 :: (List.range (shN (allL cs).length - 1)).map (fun m => laidAt cs (1 + m)) := by
      unfold laidL
      obtain ⟨z, hz⟩ : ∃ z, shN (allL cs).length = z + 1 := ⟨shN (allL cs).length - 1, by omega⟩
      rw [hz, List.range_succ_eq_map, List.map_cons, List.map_map]
      congr 1
      simp only [Nat.add_sub_cancel]
      refine List.map_congr_left (fun m _ => ?_)
      simp only [Function.comp]
      congr 1
      omega
    have hf : (laidAt cs 0).1 = 0 := by
      unfold laidAt
      simp only
      rw [fst_is (bs := cs) (j := 0) hpos (by rw [bgn_zero]) (fun m hm => absurd hm (by omega)), bgn_zero]
      rfl
    have hin : inS (laidAt cs 0).1 (laidAt cs 0).2 := by rw [hf]; exact ⟨by omega, by omega⟩
    have hcut : cutS (laidAt cs 0).1 (laidAt cs 0).2 = 0 := by unfold cutS; rw [if_pos hin, hf]; rfl
    have hhead : ∃ b, headF s' [] = (⟨s'.out, b, s'.frm⟩, true) := by
      unfold headF
      by_cases hbe : s'.beg = []
      · rw [if_pos hbe]; exact ⟨s'.beg, rfl⟩
      · rw [if_neg hbe, List.append_nil]
        have hjl : j' < bs.length := by
          rcases Nat.lt_or_ge j' bs.length with q | q
          · exact q
          · exfalso
            apply hbe
            rw [h1.beg, bgn_end q]
            exact List.drop_of_length_le (by rw [List.length_take]; omega)
        have hrest : (allL bs).drop (bgn bs j') = sealL (bs.getD j' []) ++ allL (bs.drop (j' + 1)) := by rw [all_drop, drop_getD_cons bs [] j' hjl, allL_cons]
        have hhigh := h1.high hjl
        rw [bgn_next hjl] at hhigh
        have hlow := h1.low
        have e : s'.beg = (sealL (bs.getD j' [])).take (242 * n - bgn bs j') := by
          rw [h1.beg, List.drop_take, hrest, List.take_append_of_le_length (by omega)]
        have hbj : (bs.getD j' []).length ≤ 4096 := by
          have : bs.getD j' [] = bs[j'] := by simp [List.getD, List.getElem?_eq_getElem hjl]
          rw [this]
          exact (hb _ (List.getElem_mem hjl)).2
        rw [e, open_cut _ hbj _ (by omega), if_pos rfl, ← e]
        exact ⟨s'.beg, rfl⟩
    obtain ⟨b, hh⟩ := hhead
    have hsheet : sheetF s' ((n : Nat) : Int) (laidAt cs 0).1 (laidAt cs 0).2 = sheetF ⟨s'.out, [], s'.frm⟩ ((n : Nat) : Int) (laidAt cs 0).1 (laidAt cs 0).2 := by
      unfold sheetF
      rw [hcut, List.take_zero, hh, if_neg (by simp), if_pos hin]
      have : headF ⟨s'.out, [], s'.frm⟩ [] = (⟨s'.out, [], s'.frm⟩, true) := by unfold headF; rw [if_pos rfl]
      rw [this, if_neg (by simp), if_pos hin]
      rfl
    have hsw : findF s' n (laidL cs) = findF ⟨s'.out, [], s'.frm⟩ n (laidL cs) := by
      rw [hl, findF, findF, hsheet]
    rw [hsw]
    obtain ⟨s2, j2, k1, k2⟩ := InvL.go (o := bs.take j') hc (shN (allL cs).length) 0 n ⟨s'.out, [], s'.frm⟩ 0 [] (InvL.start cs _ _ ho rfl) (by omega)
    rw [List.append_nil, ← laid_take cs _ (Nat.le_refl _), List.take_of_length_le (by rw [laid_len]; exact Nat.le_refl _)] at k2
    rw [k2]
    rw [Nat.zero_add] at k1
    obtain rfl : j2 = cs.length := endsIn_one ⟨k1.le, k1.low, k1.high⟩ (endsIn_all cs)
    simpa [findF] using k1.out
end Go.Proofs.YtljpnngknmpdoaaDoor
