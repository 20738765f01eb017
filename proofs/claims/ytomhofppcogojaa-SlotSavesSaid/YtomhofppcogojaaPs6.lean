/- What it says: contracts and plain mathematics that the laws' walks use, 6 of 10: each part's own remark says what; no condition. -/
import Derived.Test.YtomhofppcogojaaPs1
import Derived.Test.YtomhofppcogojaaPs4
import Derived.Test.YtomhofppcogojaaPs5
import Derived.Test.YtomhofppcogojaaPs0
import Derived.Test.YtomhofppcogojaaRows
import Derived.Deep.QuietTactic
import Derived.BigQuiet
import Derived.Deep.RegionHeld3
import Derived.Deep.AppendLies
import Derived.Lib.QuietBelow
import Derived.Laws.Cover1
import Derived.WalkMore
import Derived.LoopTactic
import Derived.Deep.CutBlock

set_option linter.unusedSimpArgs false
set_option linter.unusedVariables false
set_option linter.deprecated false
set_option linter.unusedSectionVars false
set_option linter.all false

/- trothref01.Same tells whether two slices read as the same bytes, and writes nothing. -/
namespace Go.Proofs.Ytomhofppcogojaa
open Go.RowKit

theorem take_one_more {l l' : List Int} {k : Nat} (h : l.take k = l'.take k) (hk : k < l.length) (hk' : k < l'.length) (he : l.getD k 0 = l'.getD k 0) : l.take (k + 1) = l'.take (k + 1) := by
  rw [List.take_succ_eq_append_getElem hk, List.take_succ_eq_append_getElem hk', h]
  simp [List.getD, List.getElem?_eq_getElem hk, List.getElem?_eq_getElem hk'] at he
  rw [he]

theorem same_ne {l l' : List Int} {k : Nat} (he : l.getD k 0 ≠ l'.getD k 0) : decide (l = l') = false := by
  simp only [decide_eq_false_iff_not]
  intro e
  rw [e] at he
  exact he rfl

theorem same_all {l l' : List Int} {n : Nat} (hl : l.length = n) (hl' : l'.length = n) (h : l.take n = l'.take n) : decide (l = l') = true := by
  simp only [decide_eq_true_eq]
  rwa [List.take_of_length_le (by omega), List.take_of_length_le (by omega)] at h

set_option maxHeartbeats 800000 in
theorem same_rows (g off n c g' off' c' : Nat) (l l' : List Int) (w : World) (h : Byt w (some ⟨g, off, none⟩) n c l) (h' : Byt w (some ⟨g', off', none⟩) n c' l') (hn : 0 < n) :
    Calls Try.prog 17 #[.slice (some ⟨g, off, none⟩) n c, .slice (some ⟨g', off', none⟩) n c'] w (Quiet (.bool (decide (l = l'))) w) := by
  have hc0 : ∀ i, i < n → w.cell? ⟨g, off + i, none⟩ = some (.int .u8 (l.getD i 0)) := by
    obtain ⟨g1, o1, e, hc⟩ := h.at_ hn
    injection e with e; injection e with e1 e2; subst e1; subst e2
    exact hc
  have hc1 : ∀ i, i < n → w.cell? ⟨g', off' + i, none⟩ = some (.int .u8 (l'.getD i 0)) := by
    obtain ⟨g1, o1, e, hc⟩ := h'.at_ hn
    injection e with e; injection e with e1 e2; subst e1; subst e2
    exact hc
  have hcap := h.cap
  have hmax := h.max
  unfold maxLen at hmax
  have HL := Lib.hid h.len
  have HL' := Lib.hid h'.len
  have HC0 := Lib.hid hc0
  have HC1 := Lib.hid hc1
  clear hc0 hc1 h h'
  go_enter Try.func17, Try.ntmps17
  go_wp2
  go_loopw [5] (fun i wr => ∃ k : Nat, k ≤ n ∧ i = .int .i64 k ∧ l.take k = l'.take k ∧ ∃ m, wr = w.drewN m) (fun i _ => n - (intOf i).toNat)
  case atStart => exact ⟨0, Nat.zero_le _, rfl, rfl, 0, rfl⟩
  case round =>
    obtain ⟨k, hk, rfl, htk, m, rfl⟩ := hrel
    have HT := Lib.hid htk
    clear htk
    by_cases hlt : k < n
    · have hx := HC0.out k hlt
      have hy := HC1.out k hlt
      have H1 := Lib.hid (take_one_more HT.out (by rw [HL.out]; exact hlt) (by rw [HL'.out]; exact hlt))
      have H2 := Lib.hid (@same_ne l l' k)
      obtain ⟨x, ex⟩ : ∃ x, x = l.getD k 0 := ⟨_, rfl⟩
      obtain ⟨y, ey⟩ : ∃ y, y = l'.getD k 0 := ⟨_, rfl⟩
      rw [← ex] at hx H1 H2
      rw [← ey] at hy H1 H2
      clear ex ey
      go_wp2
      go_quiet (fail)
      go_wp2
      · have hne : (x != y) = true := by assumption
        have e := H2.out (by simpa using hne)
        go_ret
        exact ⟨by rw [e]; rfl, _, World.drewN_drewN _ _ _⟩
      · have heq : (x != y) = false := by assumption
        have e := H1.out (by simpa using heq)
        go_roundw
        case rel => exact ⟨k + 1, by omega, by go_num, e, _, rfl⟩
        case measure => simp [intOf]; omega
    · have hkn : k = n := by omega
      subst hkn
      go_wp2
      have e := same_all HL.out HL'.out HT.out
      go_ret
      exact ⟨by rw [e]; rfl, _, rfl⟩

theorem same_any (A : Option Addr) (n c : Nat) (A' : Option Addr) (n' c' : Nat) (l l' : List Int) (w : World) (h : Byt w A n c l) (h' : Byt w A' n' c' l') :
    Calls Try.prog 17 #[.slice A n c, .slice A' n' c'] w (Quiet (.bool (decide (l = l'))) w) := by
  by_cases hnn : n = n'
  · subst hnn
    by_cases hn : 0 < n
    · obtain ⟨g, off, rfl, _⟩ := h.at_ hn
      obtain ⟨g', off', rfl, _⟩ := h'.at_ hn
      exact same_rows g off n c g' off' c' l l' w h h' hn
    · have h0 : n = 0 := by omega
      subst h0
      have e : l = [] := List.eq_nil_of_length_eq_zero h.len
      have e' : l' = [] := List.eq_nil_of_length_eq_zero h'.len
      subst e e'
      clear h h' hn
      go_enter Try.func17, Try.ntmps17
      go_wp2
      refine wp_loop_rounds 1 ?_
      rw [rounds_succ]
      go_wp2
      go_ret
      exact ⟨rfl, 0, rfl⟩
  · have hd : decide (l = l') = false := by
      simp only [decide_eq_false_iff_not]
      intro e
      exact hnn (by rw [← h.len, ← h'.len, e])
    have HD := Lib.hid hd
    have hne : ((n : Int) != (n' : Int)) = true := by simp; omega
    clear hd h h' hnn
    go_enter Try.func17, Try.ntmps17
    go_wp2
    go_ret
    exact ⟨by rw [HD.out]; rfl, 0, rfl⟩

theorem same_yes (A : Option Addr) (n c : Nat) (A' : Option Addr) (n' c' : Nat) (l l' : List Int) (w : World) (h : Byt w A n c l) (h' : Byt w A' n' c' l') (e : l = l') :
    Calls Try.prog 17 #[.slice A n c, .slice A' n' c'] w (Quiet (.bool true) w) := by
  have := same_any A n c A' n' c' l l' w h h'
  rw [show decide (l = l') = true from by simp [e]] at this
  exact this

theorem same_no (A : Option Addr) (n c : Nat) (A' : Option Addr) (n' c' : Nat) (l l' : List Int) (w : World) (h : Byt w A n c l) (h' : Byt w A' n' c' l') (e : l ≠ l') :
    Calls Try.prog 17 #[.slice A n c, .slice A' n' c'] w (Quiet (.bool false) w) := by
  have := same_any A n c A' n' c' l l' w h h'
  rw [show decide (l = l') = false from by simp [e]] at this
  exact this
end Go.Proofs.Ytomhofppcogojaa

/- of a sealed body the body is opened, whatever stands behind it; the statements' awake() answers true. -/
namespace Go.Proofs.Ytomhofppcogojaa
open Go.RowKit

theorem numF_short (x : Nat) (hx : x < 18446744073709551616) (r : List Int) (most : Int) : numF (shortL x ++ r) most = if most < 0 ∨ most < (x : Int) then (0, 0, 12) else (x, (shortL x).length, 0) := by
  unfold numF
  rw [takeF_short x hx r, if_neg (by simp)]

theorem textF_text (l r : List Int) (hl : l.length < 18446744073709551616) (most : Int) (hm : (l.length : Int) ≤ most) : textF (textL l ++ r) most = (l, (textL l).length, 0) := by
  have e := numF_short l.length hl (l ++ r) most
  rw [if_neg (by omega)] at e
  unfold textF textL
  rw [List.append_assoc, e, if_neg (by simp), if_neg (by simp)]
  simp

theorem open_seal (l r : List Int) (hl : l.length ≤ 4096) : openF (sealL l ++ r) = (l, (sealL l).length, 0) := by
  have e : sealL l ++ r = textL l ++ (sumL (textL l) ++ r) := by simp [sealL]
  unfold openF
  rw [e, textF_text l _ (by omega) 4096 (by omega), if_neg (by simp)]
  simp only [List.drop_left, List.take_left]
  have h4 : (sumL (textL l)).length = 4 := sumL_len _
  rw [if_neg (by simp; omega), if_pos (by rw [List.take_append_of_le_length (by omega), List.take_of_length_le (by omega)])]
  simp [sealL, h4]

theorem open_seal0 (l : List Int) (hl : l.length ≤ 4096) : openF (sealL l) = (l, (sealL l).length, 0) := by
  have := open_seal l [] hl
  rwa [List.append_nil] at this

theorem sealL_len (l : List Int) : (sealL l).length = (textL l).length + 4 := by simp [sealL, sumL_len]

theorem sealL_a : (sealL [97]).length = 6 := by
  rw [sealL_len]
  have : shortL 1 = [1] := by unfold shortL; rw [hiD]; simp
  simp [textL, this]

end Go.Proofs.Ytomhofppcogojaa

/- the Go text of trothlaw03.SealCuts answers true, and writes nothing that was there. -/
namespace Go.Proofs.Ytomhofppcogojaa
open Go.RowKit

theorem numF_cut (x : Nat) (hx : x < 18446744073709551616) (k : Nat) (hk : k < (shortL x).length) (most : Int) : numF ((shortL x).take k) most = (0, 0, 10) := by
  unfold numF
  rw [takeF_short_cut x hx k hk, if_pos (by simp)]

theorem textF_cut (l : List Int) (hl : l.length < 18446744073709551616) (most : Int) (hm : (l.length : Int) ≤ most) (k : Nat) (hk : k < (textL l).length) : textF ((textL l).take k) most = ([], 0, 10) := by
  unfold textF
  by_cases h : k < (shortL l.length).length
  · have e : (textL l).take k = (shortL l.length).take k := by
      unfold textL; rw [List.take_append_of_le_length (by omega)]
    rw [e, numF_cut _ hl k h, if_pos (by simp)]
  · have e : (textL l).take k = shortL l.length ++ l.take (k - (shortL l.length).length) := by
      unfold textL; rw [List.take_append, List.take_of_length_le (by omega)]
    have en := numF_short l.length hl (l.take (k - (shortL l.length).length)) most
    rw [if_neg (by omega)] at en
    rw [e, en, if_neg (by simp), if_pos (by simp [textL] at hk; simp; omega)]

theorem open_cut (l : List Int) (hl : l.length ≤ 4096) (k : Nat) (hk : k < (sealL l).length) : openF ((sealL l).take k) = ([], 0, 10) := by
  unfold openF
  by_cases h : k < (textL l).length
  · have e : (sealL l).take k = (textL l).take k := by
      unfold sealL; rw [List.take_append_of_le_length (by omega)]
    rw [e, textF_cut l (by omega) 4096 (by omega) k h, if_pos (by simp)]
  · have e : (sealL l).take k = textL l ++ (sumL (textL l)).take (k - (textL l).length) := by
      unfold sealL; rw [List.take_append, List.take_of_length_le (by omega)]
    rw [e, textF_text l _ (by omega) 4096 (by omega), if_neg (by simp)]
    rw [sealL_len] at hk
    rw [if_pos (by simp [sumL_len]; omega)]

end Go.Proofs.Ytomhofppcogojaa

/- seal.Read lays a reader in new memory; Left, Err, End; a nil reader's methods. -/
namespace Go.Proofs.Ytomhofppcogojaa
open Go.RowKit

/-- Behind the end: what End makes of a reader's error. -/
def endE (l : List Int) (e : Nat) : Nat := if e = 0 ∧ 0 < l.length then 13 else e

theorem rErr_any (b g : Nat) (l : List Int) (e0 : Nat) (w : World) (h : Rd w 120 b g l e0) :
    Calls Try.prog 72 #[.pointer (some ⟨b, 0, none⟩)] w (fun e w' => e = .returned (.int .i64 e0) ∧ w = w') := by
  obtain ⟨A, n, c, _, _, h1, _⟩ := h.byt
  clear h
  go_enter Try.func72, Try.ntmps72
  go_wp2_with fail
  go_ret
  exact ⟨rfl, rfl⟩

theorem rLeft_any (b g : Nat) (l : List Int) (e0 : Nat) (w : World) (h : Rd w 120 b g l e0) :
    Calls Try.prog 54 #[.pointer (some ⟨b, 0, none⟩)] w (fun e w' => e = .returned (.int .i64 l.length) ∧ w = w') := by
  obtain ⟨A, n, c, _, h0, _, hn⟩ := h.byt
  subst hn
  clear h
  go_enter Try.func54, Try.ntmps54
  go_wp2_with fail
  go_ret
  exact ⟨rfl, rfl⟩

/-- A new struct of a slice and a number is a reader. -/
theorem Rd.new {w1 : World} (t : TypeId) {A : Option Addr} {n c : Nat} {l : List Int} (h : Byt w1 A n c l) (h0 : 0 < w1.heap.size) : ∃ g, g < w1.heap.size ∧ Rd (w1.alloc (.cells #[.slice A n c, .int .i64 0] t)) t w1.heap.size g l 0 := by
  by_cases hn : 0 < n
  · obtain ⟨g, off, rfl, hc⟩ := h.at_ hn
    have hg : g < w1.heap.size := World.block_lt_of_cell? w1 _ (hc 0 hn)
    exact ⟨g, hg, by omega, _, n, c, Bk.new _ _ _, h.alloc _, fun _ a ha => by injection ha with ha; rw [← ha]⟩
  · exact ⟨0, h0, by omega, A, n, c, Bk.new _ _ _, h.alloc _, fun h => absurd h hn⟩

set_option maxHeartbeats 1000000 in
theorem read_any (A : Option Addr) (n c : Nat) (l : List Int) (w : World) (h : Byt w A n c l) (hn : n ≤ 140737488355328) (h0 : 0 < w.heap.size) :
    Calls Try.prog 51 #[.slice A n c] w (fun e w' => ∃ b g, e = .returned (.pointer (some ⟨b, 0, none⟩)) ∧ w.heap.size ≤ b ∧ g < b ∧ Rd w' 120 b g l 0 ∧ Below w.heap.size w w') := by
  have C := Lib.hid (clone_all A n c l w h hn)
  clear h
  go_enter Try.func51, Try.ntmps51
  go_wp2_with fail
  refine C.out.mono ?_
  rintro e w1 ⟨A1, n1, c1, rfl, hb, b1⟩
  obtain ⟨g, hg, R⟩ := Rd.new 120 hb (by have := b1.size; omega)
  have R := Lib.hid R
  have G := Lib.hid hg
  have L := Lib.hid b1
  clear hb b1 hg
  go_wp2_with fail
  go_ret
  exact ⟨w1.heap.size, g, rfl, L.out.size, G.out, R.out, L.out.alloc L.out.size _⟩

/-- The same, and that the bytes lie in new memory. -/
theorem read_own (A : Option Addr) (n c : Nat) (l : List Int) (w : World) (h : Byt w A n c l) (hn : n ≤ 140737488355328) (h0 : 0 < l.length) :
    Calls Try.prog 51 #[.slice A n c] w (fun e w' => ∃ b g, e = .returned (.pointer (some ⟨b, 0, none⟩)) ∧ w.heap.size ≤ b ∧ w.heap.size ≤ g ∧ g < b ∧ Rd w' 120 b g l 0 ∧ Below w.heap.size w w') := by
  have C := Lib.hid (clone_all_own A n c l w h hn)
  clear h
  go_enter Try.func51, Try.ntmps51
  go_wp2_with fail
  refine C.out.mono ?_
  rintro e w1 ⟨A1, n1, c1, rfl, ho, hr, b1⟩
  have hb := Byt.of_own ho hr
  have hl1 : n1 = l.length := hb.len.symm
  obtain ⟨g, hg, hgl, R⟩ : ∃ g, w.heap.size ≤ g ∧ g < w1.heap.size ∧ Rd (w1.alloc (.cells #[.slice A1 n1 c1, .int .i64 0] 120)) 120 w1.heap.size g l 0 := by
    obtain ⟨g, off, rfl, hc⟩ := hb.at_ (by omega)
    have hlt := ho.lt g rfl
    exact ⟨g, hlt.1, hlt.2, by omega, _, n1, c1, Bk.new _ _ _, hb.alloc _, fun _ a ha => by injection ha with ha; rw [← ha]⟩
  have R := Lib.hid R
  have G := Lib.hid (And.intro hg hgl)
  have L := Lib.hid b1
  clear ho hr hb b1 hg hgl hl1
  go_wp2_with fail
  go_ret
  exact ⟨w1.heap.size, g, rfl, L.out.size, G.out.1, G.out.2, R.out, L.out.alloc L.out.size _⟩

theorem rNum_nil (most : Int) (w : World) :
    Calls Try.prog 52 #[.pointer none, .int .i64 most] w (Ret (.int .i64 0) w) := by
  go_enter Try.func52, Try.ntmps52
  go_wp2_with fail
  refine (takeInt_nil _ _).mono ?_
  rintro e w1 ⟨rfl, rfl⟩
  go_wp2_with fail
  go_ret
  exact ⟨rfl, (Below.refl _ _).alloc (Nat.le_refl _) _⟩

theorem rText_nil (most : Int) (w : World) :
    Calls Try.prog 78 #[.pointer none, .int .i64 most] w (Ret (.string ByteArray.empty) w) := by
  go_enter Try.func78, Try.ntmps78
  go_wp2_with fail
  refine (takeStr_nil _ _).mono ?_
  rintro e w1 ⟨rfl, rfl⟩
  go_wp2_with fail
  go_ret
  exact ⟨rfl, (Below.refl _ _).alloc (Nat.le_refl _) _⟩

theorem rFlag_nil (w : World) :
    Calls Try.prog 79 #[.pointer none] w (Ret (.bool false) w) := by
  go_enter Try.func79, Try.ntmps79
  go_wp2_with fail
  refine (takeBool_nil _).mono ?_
  rintro e w1 ⟨rfl, rfl⟩
  go_wp2_with fail
  go_ret
  exact ⟨rfl, Below.refl _ _⟩

theorem rLeft_nil (w : World) : Calls Try.prog 54 #[.pointer none] w (Ret (.int .i64 0) w) := by
  go_enter Try.func54, Try.ntmps54
  go_wp2_with fail
  go_ret
  exact ⟨rfl, Below.refl _ _⟩

theorem rErr_nil (w : World) : Calls Try.prog 72 #[.pointer none] w (Ret (.int .i64 2) w) := by
  go_enter Try.func72, Try.ntmps72
  go_wp2_with fail
  go_ret
  exact ⟨rfl, Below.refl _ _⟩

end Go.Proofs.Ytomhofppcogojaa

/- the methods of trothref03.Reader step as seal.Reader's do; trothref03.Open answers what seal.Open answers. -/
namespace Go.Proofs.Ytomhofppcogojaa
open Go.RowKit

set_option maxHeartbeats 1000000 in
theorem mNum_any (b g : Nat) (l : List Int) (e0 : Nat) (most : Int) (w : World) (h : Rd w 110 b g l e0) (hm : -9223372036854775808 ≤ most ∧ most ≤ 9223372036854775807) (x k er : Nat) (hF : numF l most = (x, k, er)) :
    Calls Try.prog 58 #[.pointer (some ⟨b, 0, none⟩), .int .i64 most] w (RdPost 110 b g (stepL l k e0 er) (stepE e0 er) (stepV (.int .i64 0) (.int .i64 x) e0 er) w) := by
  have hf0 : w.frozen? ⟨b, 0, none⟩ = false := by obtain ⟨A, n, c, h1, _⟩ := h.ex; exact h1.frz 0
  have hf1 : w.frozen? ⟨b, 1, none⟩ = false := by obtain ⟨A, n, c, h1, _⟩ := h.ex; exact h1.frz 1
  have H := Lib.hid h
  by_cases he : e0 = 0
  · subst he
    obtain ⟨A, n, c, h1, h2, h3⟩ := h.ex
    have c0 : w.cell? ⟨b, 0, none⟩ = some (.slice A n c) := h1.cell 0
    have c1 : w.cell? ⟨b, 1, none⟩ = some (.int .i64 0) := h1.cell 1
    obtain ⟨x0, k0, e1, ht⟩ : ∃ x k e, takeF l 0 0 = (x, k, e) := ⟨_, _, _, rfl⟩
    have hlt : e1 = 0 → x0 < 18446744073709551616 ∧ k0 ≤ l.length := fun e => by have := takeF_read l h2.rng x0 k0 (by rw [ht, e]); exact ⟨this.1, this.2.1⟩
    have C := Lib.hid (refTake_is A n c l x0 k0 e1 w h2 ht)
    have hF' : (if e1 ≠ 0 then (0, 0, e1) else if most < 0 ∨ most < (x0 : Int) then (0, 0, 12) else (x0, k0, 0)) = (x, k, er) := by
      rw [← hF]; unfold numF; rw [ht]
    have hlen := h2.len
    clear ht hF
    by_cases h0 : e1 = 0
    · subst h0
      obtain ⟨hx, hk⟩ := hlt rfl
      rw [if_neg (by simp)] at hF'
      clear hlt
      by_cases hm1 : most < 0 ∨ most < (x0 : Int)
      · rw [if_pos hm1] at hF'
        obtain ⟨rfl, rfl, rfl⟩ := triple hF'
        have R := Lib.hid (fun m => H.out.fail m 12)
        have hm2 : (most < 0) ∨ (0 ≤ most ∧ most < (x0 : Int)) := by omega
        clear h h1 h2 h3 hm1 hF'
        rcases hm2 with q1 | ⟨q1, q2⟩
        · go_enter Try.func58, Try.ntmps58
          go_wp2_with fail
          refine C.out.mono ?_
          rintro e w1 ⟨rfl, m, rfl⟩
          go_wp2_with fail
          go_ret
          exact ⟨rfl, R.out m⟩
        · obtain ⟨z, rfl⟩ := Int.eq_ofNat_of_zero_le q1
          obtain ⟨_, hz⟩ := hm
          go_enter Try.func58, Try.ntmps58
          go_wp2_with fail
          refine C.out.mono ?_
          rintro e w1 ⟨rfl, m, rfl⟩
          go_wp2_with fail
          go_ret
          exact ⟨rfl, R.out m⟩
      · rw [if_neg hm1] at hF'
        obtain ⟨rfl, rfl, rfl⟩ := triple hF'
        obtain ⟨B, j, d, hs, hkn, hb, hB⟩ := cut_lb h2 k0 (by omega) (k0 : Int) rfl
        have R := Lib.hid (fun m => H.out.next m hb (fun hk a ha => by obtain ⟨a', e1, e2⟩ := hB a ha; rw [e2]; exact h3 (by omega) a' e1))
        obtain ⟨z, rfl⟩ := Int.eq_ofNat_of_zero_le (show 0 ≤ most by omega)
        obtain ⟨_, hz⟩ := hm
        have q2 : ¬ (z : Int) < (x0 : Int) := by omega
        clear h h1 h2 h3 hm1 hF' hb hB hkn
        go_enter Try.func58, Try.ntmps58
        go_wp2_with fail
        refine C.out.mono ?_
        rintro e w1 ⟨rfl, m, rfl⟩
        go_wp2_with fail
        go_ret
        exact ⟨rfl, R.out m⟩
    · rw [if_pos h0] at hF'
      obtain ⟨rfl, rfl, rfl⟩ := triple hF'
      have hne : ((e1 : Int) != 0) = true := by simp; omega
      have R := Lib.hid (fun m => H.out.fail m e1)
      have e2 : stepL l 0 0 e1 = l := by simp [stepL, h0]
      have e3 : stepE 0 e1 = e1 := rfl
      have e4 : stepV (.int .i64 0) (.int .i64 (0 : Nat)) 0 e1 = .int .i64 0 := by simp [stepV]
      rw [e2, e3, e4]
      clear hlt h h1 h2 h3 hF' h0 e2 e3 e4
      go_enter Try.func58, Try.ntmps58
      go_wp2_with fail
      refine C.out.mono ?_
      rintro e w1 ⟨rfl, m, rfl⟩
      go_wp2_with fail
      go_ret
      exact ⟨rfl, R.out m⟩
  · have c1 : w.cell? ⟨b, 1, none⟩ = some (.int .i64 e0) := by obtain ⟨A, n, c, h1, _⟩ := h.ex; exact h1.cell 1
    have hne : ((e0 : Int) != 0) = true := by simp; omega
    have e2 : stepL l k e0 er = l := by simp [stepL, he]
    have e3 : stepE e0 er = e0 := by simp [stepE, he]
    have e4 : stepV (.int .i64 0) (.int .i64 x) e0 er = .int .i64 0 := by simp [stepV, he]
    rw [e2, e3, e4]
    clear h he e2 e3 e4
    go_enter Try.func58, Try.ntmps58
    go_wp2_with fail
    go_ret
    exact ⟨rfl, H.out, grown_drewN w 0 _⟩

set_option maxHeartbeats 1000000 in
theorem mByte_any (b g : Nat) (l : List Int) (e0 : Nat) (w : World) (h : Rd w 110 b g l e0) :
    Calls Try.prog 80 #[.pointer (some ⟨b, 0, none⟩)] w (RdPost 110 b g (stepL l (byteF l).2.1 e0 (byteF l).2.2) (stepE e0 (byteF l).2.2) (stepV (.int .u8 0) (.int .u8 (byteF l).1) e0 (byteF l).2.2) w) := by
  have hf0 : w.frozen? ⟨b, 0, none⟩ = false := by obtain ⟨A, n, c, h1, _⟩ := h.ex; exact h1.frz 0
  have hf1 : w.frozen? ⟨b, 1, none⟩ = false := by obtain ⟨A, n, c, h1, _⟩ := h.ex; exact h1.frz 1
  have H := Lib.hid h
  obtain ⟨A, n, c, h1, h2, h3⟩ := h.ex
  have c0 : w.cell? ⟨b, 0, none⟩ = some (.slice A n c) := h1.cell 0
  have c1 : w.cell? ⟨b, 1, none⟩ = some (.int .i64 e0) := h1.cell 1
  by_cases he : e0 = 0
  · subst he
    cases l with
    | nil =>
      have hn : n = 0 := by have := h2.len; simpa using this.symm
      subst hn
      have R := Lib.hid (fun m => H.out.fail m 10)
      clear h h1 h2 h3
      go_enter Try.func80, Try.ntmps80
      go_wp2_with fail
      go_ret
      exact ⟨rfl, R.out 0⟩
    | cons x r =>
      have hn : r.length + 1 = n := h2.len
      obtain ⟨B, j, d, hs, hkn, hb, hB⟩ := cut_lb h2 1 (by omega) (1 : Int) rfl
      have R := Lib.hid (fun m => H.out.next m hb (fun hk a ha => by obtain ⟨a', e1, e2⟩ := hB a ha; rw [e2]; exact h3 (by omega) a' e1))
      obtain ⟨g', off, rfl, hc⟩ := h2.at_ (by omega)
      have hc0 : w.cell? ⟨g', off, none⟩ = some (.int .u8 x) := by
        have := hc 0 (by omega)
        simpa using this
      have hn0 : ((n : Int) == 0) = false := by simp; omega
      have hn1 : (0 : Int) < (n : Int) := by omega
      have hcap := h2.cap
      have hmax := h2.max
      unfold maxLen at hmax
      clear h h1 h2 h3 hb hB hc hn hkn
      go_enter Try.func80, Try.ntmps80
      go_wp2_with fail
      go_ret
      exact ⟨rfl, R.out 0⟩
  · have hne : ((e0 : Int) != 0) = true := by simp; omega
    have e2 : stepL l (byteF l).2.1 e0 (byteF l).2.2 = l := by simp [stepL, he]
    have e3 : stepE e0 (byteF l).2.2 = e0 := by simp [stepE, he]
    have e4 : stepV (.int .u8 0) (.int .u8 (byteF l).1) e0 (byteF l).2.2 = .int .u8 0 := by simp [stepV, he]
    rw [e2, e3, e4]
    clear h he e2 e3 e4 h1 h2 h3
    go_enter Try.func80, Try.ntmps80
    go_wp2_with fail
    go_ret
    exact ⟨rfl, H.out, grown_drewN w 0 _⟩

/-- A reader that is set back. -/
theorem Rd.back {w w1 : World} {t : TypeId} {b g : Nat} {l l1 : List Int} {e e1 er : Nat} {A : Option Addr} {n c : Nat} (h : Rd w t b g l e) (h1 : Rd w1 t b g l1 e1) (hg : w.grownBy w1 (some b)) (hb : Byt w A n c l) (hA : 0 < n → ∀ a, A = some a → a.block = g) :
    Rd ((w1.setCell ⟨b, 1, none⟩ (.int .i64 er)).setCell ⟨b, 0, none⟩ (.slice A n c)) t b g l er ∧ w.grownBy ((w1.setCell ⟨b, 1, none⟩ (.int .i64 er)).setCell ⟨b, 0, none⟩ (.slice A n c)) (some b) := by
  have g1 := grown_trans hg (grown_trans (grown_set w1 b 1 (.int .i64 er)) (grown_set (w1.setCell ⟨b, 1, none⟩ (.int .i64 er)) b 0 (.slice A n c)))
  obtain ⟨A1, n1, c1, k1, _, _⟩ := h1.ex
  refine ⟨⟨h.ne, A, n, c, ?_, hb.grown g1 (fun hn a ha => by rw [hA hn a ha]; simpa using h.ne), hA⟩, g1⟩
  have := (k1.setc 1 (.int .i64 er)).setc 0 (.slice A n c)
  simpa using this

theorem flagF_byte (l : List Int) : (byteF l).2.2 ≠ 0 → l = [] := by
  cases l with
  | nil => simp
  | cons x r => simp [byteF]

set_option maxHeartbeats 1000000 in
theorem mFlag_any (b g : Nat) (l : List Int) (e0 : Nat) (w : World) (h : Rd w 110 b g l e0) :
    Calls Try.prog 75 #[.pointer (some ⟨b, 0, none⟩)] w (RdPost 110 b g (stepL l (flagF l).2.1 e0 (flagF l).2.2) (stepE e0 (flagF l).2.2) (stepV (.bool false) (.bool (flagF l).1) e0 (flagF l).2.2) w) := by
  have C := mByte_any b g l e0 w h
  have H := Lib.hid h
  obtain ⟨A, n, c, h1, h2, h3⟩ := h.ex
  have c0 : w.cell? ⟨b, 0, none⟩ = some (.slice A n c) := h1.cell 0
  by_cases he : e0 = 0
  · subst he
    cases l with
    | nil =>
      have C := Lib.hid C
      clear h h1 h2 h3
      go_enter Try.func75, Try.ntmps75
      go_wp2_with fail
      refine C.out.mono ?_
      rintro e w1 ⟨rfl, R⟩
      have R := Lib.hid R
      simp only [stepV, byteF]
      go_wp2_with fail
      go_ret
      exact ⟨rfl, R.out⟩
    | cons x r =>
      have eb : byteF (x :: r) = (x, 1, 0) := rfl
      rw [eb] at C
      have hx := h2.rng x (by simp)
      by_cases hx1 : 1 < x
      · rw [show flagF (x :: r) = (false, 0, 11) from if_pos hx1]
        have C := Lib.hid C
        have BK := Lib.hid (fun w1 l1 e1 (k1 : Rd w1 110 b g l1 e1) hg => H.out.back (er := 11) k1 hg h2 h3)
        clear h h1 h2 h3 eb
        go_enter Try.func75, Try.ntmps75
        go_wp2_with fail
        refine C.out.mono ?_
        rintro e w1 ⟨rfl, R, hg⟩
        have hf0 : w1.frozen? ⟨b, 0, none⟩ = false := by obtain ⟨A, n, c, h1, _⟩ := R.ex; exact h1.frz 0
        have hf1 : w1.frozen? ⟨b, 1, none⟩ = false := by obtain ⟨A, n, c, h1, _⟩ := R.ex; exact h1.frz 1
        obtain ⟨A1, n1, c1, k1, _, _⟩ := R.ex
        have d0 : w1.cell? ⟨b, 0, none⟩ = some (.slice A1 n1 c1) := k1.cell 0
        have d1 : w1.cell? ⟨b, 1, none⟩ = some (.int .i64 (stepE 0 0 : Nat)) := k1.cell 1
        have R2 := Lib.hid (BK.out w1 _ _ R hg)
        clear R hg k1
        simp only [stepV]
        go_wp2_with fail
        go_ret
        refine ⟨?_, R2.out⟩
        have : (x == 1) = false := by simp; omega
        simp [this, stepV]
      · rw [show flagF (x :: r) = (x == 1, 1, 0) from if_neg hx1]
        have C := Lib.hid C
        clear h h1 h2 h3 eb
        go_enter Try.func75, Try.ntmps75
        go_wp2_with fail
        refine C.out.mono ?_
        rintro e w1 ⟨rfl, R⟩
        have R := Lib.hid R
        simp only [stepV]
        go_wp2_with fail
        go_ret
        exact ⟨rfl, R.out⟩
  · have e2 : ∀ u er, stepL l u e0 er = l := fun u er => by simp [stepL, he]
    have e3 : ∀ er, stepE e0 er = e0 := fun er => by simp [stepE, he]
    have e4 : ∀ z v er, stepV z v e0 er = z := fun z v er => by simp [stepV, he]
    rw [e2, e3, e4] at C
    rw [e2, e3, e4]
    have C := Lib.hid C
    clear h he e2 e3 e4 h1 h2 h3
    go_enter Try.func75, Try.ntmps75
    go_wp2_with fail
    refine C.out.mono ?_
    rintro e w1 ⟨rfl, R⟩
    have R := Lib.hid R
    go_wp2_with fail
    go_ret
    exact ⟨rfl, R.out⟩

end Go.Proofs.Ytomhofppcogojaa

/- trothref03.Reader's Text steps as seal.Reader's does; trothref03.Open answers what seal.Open answers. -/
namespace Go.Proofs.Ytomhofppcogojaa
open Go.RowKit

theorem numF_of {l : List Int} {most : Int} {x0 k0 e1 : Nat} (ht : takeF l 0 0 = (x0, k0, e1)) : numF l most = if e1 ≠ 0 then (0, 0, e1) else if most < 0 ∨ most < (x0 : Int) then (0, 0, 12) else (x0, k0, 0) := by
  unfold numF; rw [ht]

theorem textF_of {l : List Int} {most : Int} {x0 k0 e1 : Nat} (ht : numF l most = (x0, k0, e1)) : textF l most = if e1 ≠ 0 then ([], 0, e1) else if l.length - k0 < x0 then ([], 0, 10) else ((l.drop k0).take x0, k0 + x0, 0) := by
  unfold textF; rw [ht]

set_option maxRecDepth 4000 in
set_option maxHeartbeats 2000000 in
theorem mText_any (b g : Nat) (l : List Int) (e0 : Nat) (most : Int) (w : World) (h : Rd w 110 b g l e0) (hm : -9223372036854775808 ≤ most ∧ most ≤ 9223372036854775807) (s : List Int) (k er : Nat) (hF : textF l most = (s, k, er)) :
    Calls Try.prog 74 #[.pointer (some ⟨b, 0, none⟩), .int .i64 most] w (RdPost 110 b g (stepL l k e0 er) (stepE e0 er) (stepV (.string ByteArray.empty) (.string (strOfNums s)) e0 er) w) := by
  have hf0 : w.frozen? ⟨b, 0, none⟩ = false := by obtain ⟨A, n, c, h1, _⟩ := h.ex; exact h1.frz 0
  have hf1 : w.frozen? ⟨b, 1, none⟩ = false := by obtain ⟨A, n, c, h1, _⟩ := h.ex; exact h1.frz 1
  have H := Lib.hid h
  obtain ⟨A, n, c, h1, h2, h3⟩ := h.ex
  have c0 : w.cell? ⟨b, 0, none⟩ = some (.slice A n c) := h1.cell 0
  have c1 : w.cell? ⟨b, 1, none⟩ = some (.int .i64 e0) := h1.cell 1
  by_cases he : e0 = 0
  · subst he
    obtain ⟨x0, k0, e1, ht⟩ : ∃ x k e, takeF l 0 0 = (x, k, e) := ⟨_, _, _, rfl⟩
    have hlt : e1 = 0 → x0 < 18446744073709551616 ∧ k0 ≤ l.length := fun e => by have := takeF_read l h2.rng x0 k0 (by rw [ht, e]); exact ⟨this.1, this.2.1⟩
    have C := Lib.hid (refTake_is A n c l x0 k0 e1 w h2 ht)
    have hN := numF_of (most := most) ht
    have hlen := h2.len
    have hcap := h2.cap
    have hmax := h2.max
    unfold maxLen at hmax
    clear ht
    by_cases h0 : e1 = 0
    · subst h0
      obtain ⟨hx, hk⟩ := hlt rfl
      rw [if_neg (by simp)] at hN
      clear hlt
      by_cases hm1 : most < 0 ∨ most < (x0 : Int)
      · rw [if_pos hm1] at hN
        rw [textF_of hN, if_pos (by simp)] at hF
        obtain ⟨rfl, rfl, rfl⟩ := triple hF
        have R := Lib.hid (fun m => H.out.fail m 12)
        have hm2 : (most < 0) ∨ (0 ≤ most ∧ most < (x0 : Int)) := by omega
        clear h h1 h2 h3 hm1 hF hN
        rcases hm2 with q1 | ⟨q1, q2⟩
        · go_enter Try.func74, Try.ntmps74
          go_wp2_with fail
          refine C.out.mono ?_
          rintro e w1 ⟨rfl, m, rfl⟩
          go_wp2_with fail
          go_ret
          exact ⟨rfl, R.out m⟩
        · obtain ⟨z, rfl⟩ := Int.eq_ofNat_of_zero_le q1
          obtain ⟨_, hz⟩ := hm
          go_enter Try.func74, Try.ntmps74
          go_wp2_with fail
          refine C.out.mono ?_
          rintro e w1 ⟨rfl, m, rfl⟩
          go_wp2_with fail
          go_ret
          exact ⟨rfl, R.out m⟩
      · rw [if_neg hm1] at hN
        obtain ⟨z, rfl⟩ := Int.eq_ofNat_of_zero_le (show 0 ≤ most by omega)
        obtain ⟨_, hz⟩ := hm
        have q2 : ¬ (z : Int) < (x0 : Int) := by omega
        have hkn : (k0 : Int) ≤ (n : Int) := by omega
        by_cases hs : l.length - k0 < x0
        · rw [textF_of hN, if_neg (by simp), if_pos hs] at hF
          obtain ⟨rfl, rfl, rfl⟩ := triple hF
          have R := Lib.hid (fun m => H.out.fail m 10)
          have q3 : (n : Int) - (k0 : Int) < (x0 : Int) := by omega
          clear h h1 h2 h3 hm1 hF hN hs
          go_enter Try.func74, Try.ntmps74
          go_wp2_with fail
          refine C.out.mono ?_
          rintro e w1 ⟨rfl, m, rfl⟩
          go_wp2_with fail
          go_ret
          exact ⟨rfl, R.out m⟩
        · rw [textF_of hN, if_neg (by simp), if_neg hs] at hF
          obtain ⟨rfl, rfl, rfl⟩ := triple hF
          obtain ⟨B1, m1, d1, hs1, hm1', hb1⟩ := cut_lh h2 k0 (k0 + x0) (by omega) (by omega) (k0 : Int) ((k0 + x0 : Nat) : Int) rfl rfl
          rw [Nat.add_sub_cancel_left] at hm1' hb1
          obtain ⟨B, j, d, hs2, hkn2, hb, hB⟩ := cut_lb h2 (k0 + x0) (by omega) ((k0 + x0 : Nat) : Int) rfl
          have R := Lib.hid (fun m => H.out.next m hb (fun hk a ha => by obtain ⟨a', e1, e2⟩ := hB a ha; rw [e2]; exact h3 (by omega) a' e1))
          have q4 : k0 + x0 ≤ n := by omega
          have KC := Lib.hid (fun m => conv_byt (hb1.drewN m))
          obtain ⟨y, ey⟩ : ∃ y, k0 + x0 = y := ⟨_, rfl⟩
          rw [ey] at hs1 hs2 R q4 ⊢
          have ey' : (k0 : Int) + (x0 : Int) = (y : Int) := by omega
          obtain ⟨r, er⟩ : ∃ r, n - k0 = r := ⟨_, rfl⟩
          have er' : (n : Int) - (k0 : Int) = (r : Int) := by omega
          have q5 : (x0 : Int) ≤ (r : Int) := by omega
          have q6 : (r : Int) ≤ 9223372036854775807 := by omega
          have q7 : (y : Int) ≤ 9223372036854775807 := by omega
          have q8 : (x0 : Int) ≤ 9223372036854775807 := by omega
          clear h h1 h2 h3 hm1 hF hN hs hb hB hb1 hkn2 hm1' ey er q4 hk hkn
          go_enter Try.func74, Try.ntmps74
          go_wp2_with fail
          refine C.out.mono ?_
          rintro e w1 ⟨rfl, m, rfl⟩
          have kc := KC.out m
          go_wp2_with fail
          go_ret
          exact ⟨rfl, R.out m⟩
    · rw [if_pos h0] at hN
      rw [textF_of hN, if_pos h0] at hF
      obtain ⟨rfl, rfl, rfl⟩ := triple hF
      have hne : ((e1 : Int) != 0) = true := by simp; omega
      have R := Lib.hid (fun m => H.out.fail m e1)
      have e2 : stepL l 0 0 e1 = l := by simp [stepL, h0]
      have e3 : stepE 0 e1 = e1 := rfl
      have e4 : ∀ v, stepV (.string ByteArray.empty) v 0 e1 = .string ByteArray.empty := by intro v; simp [stepV, h0]
      rw [e2, e3, e4]
      clear hlt h h1 h2 h3 hF h0 e2 e3 e4 hN
      go_enter Try.func74, Try.ntmps74
      go_wp2_with fail
      refine C.out.mono ?_
      rintro e w1 ⟨rfl, m, rfl⟩
      go_wp2_with fail
      go_ret
      exact ⟨rfl, R.out m⟩
  · have hne : ((e0 : Int) != 0) = true := by simp; omega
    have e2 : stepL l k e0 er = l := by simp [stepL, he]
    have e3 : stepE e0 er = e0 := by simp [stepE, he]
    have e4 : ∀ v, stepV (.string ByteArray.empty) v e0 er = .string ByteArray.empty := by intro v; simp [stepV, he]
    rw [e2, e3, e4]
    clear h he e2 e3 e4 h1 h2 h3
    go_enter Try.func74, Try.ntmps74
    go_wp2_with fail
    go_ret
    exact ⟨rfl, H.out, grown_drewN w 0 _⟩

theorem stepV_ok (z v : Value) : stepV z v 0 0 = v := by simp [stepV]
theorem stepV_no (z v : Value) (er : Nat) (h : er ≠ 0) : stepV z v 0 er = z := by simp [stepV, h]
theorem stepE_0 (er : Nat) : stepE 0 er = er := rfl
theorem stepL_ok (l : List Int) (u : Nat) : stepL l u 0 0 = l.drop u := by simp [stepL]
theorem stepL_no (l : List Int) (u er : Nat) (h : er ≠ 0) : stepL l u 0 er = l := by simp [stepL, h]

/-- '[]byte(s)' of a string of known bytes. -/
theorem ofStr (w : World) (b : List Int) (hr : ∀ x ∈ b, 0 ≤ x ∧ x < 256) (hb : b.length ≤ 4096) : ∃ A n c w', (convert 9 35 (.string (strOfNums b))).run Try.prog w = .ok (.slice A n c) w' ∧ Byt w' A n c b ∧ Below w.heap.size w w' := by
  have h := Byt.ofString w 5 (strOfNums b) (by rw [str_size]; unfold maxLen; omega)
  rw [nums_str b hr] at h
  exact ⟨_, _, _, _, conv_str w _, h, bytesWorld_below _ _ _⟩

theorem RdPost.below {t : TypeId} {b g : Nat} {l : List Int} {e0 : Nat} {v : Value} {w w1 : World} {e : Ending} {w' : World} (hb : Below w.heap.size w w1) (hw : w.heap.size ≤ b) (h : RdPost t b g l e0 v w1 e w') : Below w.heap.size w w' :=
  hb.grown h.2.2 hb.size (fun k hk => by injection hk with hk; omega)

end Go.Proofs.Ytomhofppcogojaa

/- the Go text of trothlaw03.SealOpens answers true, and writes nothing that was there. -/
namespace Go.Proofs.Ytomhofppcogojaa
open Go.RowKit

theorem openF_ok {l : List Int} (hr : ∀ x ∈ l, 0 ≤ x ∧ x < 256) {b : List Int} {u : Nat} (h : openF l = (b, u, 0)) : u ≤ l.length ∧ l.take u = sealL b ∧ b.length ≤ 4096 := by
  unfold openF at h
  split at h
  · rename_i h0
    exact absurd (triple h).2.2 h0
  · rename_i h0
    split at h
    · have := (triple h).2.2; omega
    · rename_i h1
      split at h
      · rename_i h2
        obtain ⟨e1, e2, _⟩ := triple h
        obtain ⟨hu, ht, hb⟩ := textF_ok hr (l := l) (most := 4096) (by omega)
        rw [e1] at ht hb
        refine ⟨by omega, ?_, by omega⟩
        rw [← e2, List.take_add, h2, ht]
        rfl
      · have := (triple h).2.2; omega

theorem sealPost_is (l : List Int) : ∃ xs xe, (∀ w, SealPost l w = RetOwn2 xs xe w) ∧ ((xe = 0 ∧ xs = sealL l ∧ l.length ≤ 4096) ∨ xe = 12) := by
  by_cases h : 4096 < l.length
  · exact ⟨[], 12, fun w => by unfold SealPost; rw [if_pos h], .inr rfl⟩
  · exact ⟨sealL l, 0, fun w => by unfold SealPost; rw [if_neg h], .inl ⟨rfl, rfl, by omega⟩⟩

end Go.Proofs.Ytomhofppcogojaa

/- plain mathematics of sheets: what is found in them, how bodies are laid into them; what was laid is found. No program is named; no condition. -/
namespace Go.Proofs.Ytomhofppcogojaa
open Go.RowKit

/-- Bytes. -/
def isB (l : List Int) : Prop := ∀ x ∈ l, 0 ≤ x ∧ x < 256
theorem isB.drop {l : List Int} (h : isB l) (n : Nat) : isB (l.drop n) := fun x hx => h x (List.mem_of_mem_drop hx)
theorem isB.take {l : List Int} (h : isB l) (n : Nat) : isB (l.take n) := fun x hx => h x (List.mem_of_mem_take hx)
theorem isB.app {l m : List Int} (h : isB l) (k : isB m) : isB (l ++ m) := fun x hx => by
  rcases List.mem_append.1 hx with q | q
  · exact h x q
  · exact k x q

/-- The bodies at the beginning of bytes, the bytes of one that is begun, and whether one may go on. -/
def opensF : Nat → List Int → List (List Int) × List Int × Bool
  | 0, _ => ([], [], true)
  | f + 1, b => if b = [] then ([], [], true) else
      if (openF b).2.2 = 0 then ((openF b).1 :: (opensF f (b.drop (openF b).2.1)).1, (opensF f (b.drop (openF b).2.1)).2) else if (openF b).2.2 = 10 then ([], b, true) else ([], [], false)

theorem sealL_pos (b : List Int) : 4 < (sealL b).length := by
  rw [sealL_len]
  have h := shortL_pos b.length
  unfold textL
  rw [List.length_append]
  omega

theorem opensF_more : ∀ (f g : Nat) (b : List Int), isB b → b.length < f → b.length < g → opensF f b = opensF g b
  | 0, _, b, _, h, _ => absurd h (by omega)
  | _, 0, b, _, _, h => absurd h (by omega)
  | f + 1, g + 1, b, hb, h1, h2 => by
    unfold opensF
    by_cases h0 : b = []
    · rw [if_pos h0, if_pos h0]
    · rw [if_neg h0, if_neg h0]
      by_cases he : (openF b).2.2 = 0
      · rw [if_pos he, if_pos he]
        obtain ⟨hu, ht, _⟩ := openF_ok hb (b := (openF b).1) (u := (openF b).2.1) (by rw [← he])
        have hp := sealL_pos (openF b).1
        have : (b.take (openF b).2.1).length = (sealL (openF b).1).length := by rw [ht]
        rw [List.length_take] at this
        have hl : (b.drop (openF b).2.1).length < b.length := by rw [List.length_drop]; omega
        rw [opensF_more f g _ (hb.drop _) (by omega) (by omega)]
      · rw [if_neg he, if_neg he]

def opens (b : List Int) : List (List Int) × List Int × Bool := opensF (b.length + 1) b

theorem opens_nil : opens [] = ([], [], true) := rfl
theorem opens_ok {b x : List Int} {u : Nat} (hb : isB b) (h0 : b ≠ []) (h : openF b = (x, u, 0)) : opens b = (x :: (opens (b.drop u)).1, (opens (b.drop u)).2) := by
  unfold opens
  have e : opensF (b.length + 1) b = (x :: (opensF b.length (b.drop u)).1, (opensF b.length (b.drop u)).2) := by
    rw [opensF, if_neg h0, h, if_pos rfl]
  rw [e]
  obtain ⟨hu, ht, _⟩ := openF_ok hb h
  have hp := sealL_pos x
  have : (b.take u).length = (sealL x).length := by rw [ht]
  rw [List.length_take] at this
  have hl : (b.drop u).length < b.length := by rw [List.length_drop]; omega
  rw [opensF_more b.length ((b.drop u).length + 1) _ (hb.drop _) hl (by omega)]
theorem opens_short {b x : List Int} {u : Nat} (h0 : b ≠ []) (h : openF b = (x, u, 10)) : opens b = ([], b, true) := by
  unfold opens
  rw [opensF, if_neg h0, h, if_neg (by simp), if_pos rfl]
theorem opens_bad {b x : List Int} {u e : Nat} (h0 : b ≠ []) (h : openF b = (x, u, e)) (he : e ≠ 0) (h10 : e ≠ 10) : opens b = ([], [], false) := by
  unfold opens
  rw [opensF, if_neg h0, h, if_neg he, if_neg h10]

/-- Where a search stands: what was found, what there is of a body that is begun, and where that begins. -/
structure Fs where
  out : List (List Int × Int)
  beg : List Int
  frm : Int

def headF (s : Fs) (h : List Int) : Fs × Bool :=
  if s.beg = [] then (s, true) else
    if (openF (s.beg ++ h)).2.2 = 10 then (⟨s.out, s.beg ++ h, s.frm⟩, true)
    else if (openF (s.beg ++ h)).2.2 = 0 ∧ (openF (s.beg ++ h)).2.1 = (s.beg ++ h).length then (⟨s.out ++ [((openF (s.beg ++ h)).1, s.frm)], [], s.frm⟩, true) else (s, false)
def bodsF (s : Fs) (b : List Int) (i : Int) : Fs × Bool := (⟨s.out ++ (opens b).1.map (fun x => (x, i)), (opens b).2.1, i⟩, (opens b).2.2)
/-- A sheet's First and Data. -/
def inS (first : Int) (d : List Int) : Prop := 0 ≤ first ∧ first ≤ (d.length : Int)
instance (first : Int) (d : List Int) : Decidable (inS first d) := inferInstanceAs (Decidable (_ ∧ _))
def cutS (first : Int) (d : List Int) : Nat := if inS first d then first.toNat else d.length
theorem cutS_le (first : Int) (d : List Int) : cutS first d ≤ d.length := by
  unfold cutS
  split
  · rename_i h; have := h.1; have := h.2; omega
  · exact Nat.le_refl _
def sheetF (s : Fs) (i : Int) (first : Int) (d : List Int) : Fs × Bool :=
  if (headF s (d.take (cutS first d))).2 = false then headF s (d.take (cutS first d))
  else if inS first d then bodsF (headF s (d.take (cutS first d))).1 (d.drop (cutS first d)) i else headF s (d.take (cutS first d))
def findF : Fs → Nat → List (Int × List Int) → List (List Int × Int)
  | s, _, [] => s.out
  | s, i, x :: r => if (sheetF s i x.1 x.2).2 then findF (sheetF s i x.1 x.2).1 (i + 1) r else (sheetF s i x.1 x.2).1.out
def fs0 : Fs := ⟨[], [], 0⟩
/-- What is found. -/
def found (l : List (Int × List Int)) : List (List Int × Int) := findF fs0 0 l

/- What was found are bytes, and what is begun. -/
def Fs.Ok (s : Fs) : Prop := isB s.beg ∧ ∀ x ∈ s.out, isB x.1 ∧ x.1.length ≤ 4096

theorem sealL_inB {b : List Int} {x : List Int} {n : Nat} (hb : isB b) (h : b.take n = sealL x) : isB x := fun y hy => by
  refine hb.take n y ?_
  rw [h]
  unfold sealL textL
  simp [hy]

theorem opensF_isB : ∀ (f : Nat) (b : List Int), isB b → isB (opensF f b).2.1 ∧ ∀ x ∈ (opensF f b).1, isB x ∧ x.length ≤ 4096
  | 0, b, h => ⟨fun x hx => (by cases hx), fun x hx => (by cases hx)⟩
  | f + 1, b, h => by
    unfold opensF
    split
    · exact ⟨fun x hx => (by cases hx), fun x hx => (by cases hx)⟩
    · split
      · rename_i he
        obtain ⟨hu, ht, hl⟩ := openF_ok h (b := (openF b).1) (u := (openF b).2.1) (by rw [← he])
        obtain ⟨h1, h2⟩ := opensF_isB f (b.drop (openF b).2.1) (h.drop _)
        refine ⟨h1, fun x hx => ?_⟩
        rcases List.mem_cons.1 hx with rfl | hx
        · exact ⟨sealL_inB h ht, hl⟩
        · exact h2 x hx
      · split
        · exact ⟨h, fun x hx => (by cases hx)⟩
        · exact ⟨fun x hx => (by cases hx), fun x hx => (by cases hx)⟩

theorem headF_ok {s : Fs} {h : List Int} (hs : s.Ok) (hh : isB h) : (headF s h).1.Ok := by
  unfold headF
  split
  · exact hs
  · split
    · exact ⟨hs.1.app hh, hs.2⟩
    · split
      · rename_i hc
        obtain ⟨hu, ht, hl⟩ := openF_ok (hs.1.app hh) (b := (openF (s.beg ++ h)).1) (u := (openF (s.beg ++ h)).2.1) (by rw [← hc.1])
        refine ⟨fun x hx => (by cases hx), fun x hx => ?_⟩
        rcases List.mem_append.1 hx with q | q
        · exact hs.2 x q
        · simp at q
          subst q
          exact ⟨sealL_inB (hs.1.app hh) ht, hl⟩
      · exact hs
theorem bodsF_ok {s : Fs} {b : List Int} (i : Int) (hs : s.Ok) (hb : isB b) : (bodsF s b i).1.Ok := by
  obtain ⟨h1, h2⟩ := opensF_isB (b.length + 1) b hb
  refine ⟨h1, fun x hx => ?_⟩
  rcases List.mem_append.1 hx with q | q
  · exact hs.2 x q
  · obtain ⟨y, hy, rfl⟩ := List.mem_map.1 q
    exact h2 y hy
theorem sheetF_ok {s : Fs} {i first : Int} {d : List Int} (hs : s.Ok) (hd : isB d) : (sheetF s i first d).1.Ok := by
  unfold sheetF
  split
  · exact headF_ok hs (hd.take _)
  · split
    · exact bodsF_ok _ (headF_ok hs (hd.take _)) (hd.drop _)
    · exact headF_ok hs (hd.take _)

/- How long what is begun may be, and how much is found. -/
theorem opensF_len : ∀ (f : Nat) (b : List Int), isB b → (opensF f b).1.length * 5 + (opensF f b).2.1.length ≤ b.length
  | 0, b, _ => by simp [opensF]
  | f + 1, b, h => by
    unfold opensF
    split
    · simp
    · split
      · rename_i he
        obtain ⟨hu, ht, hl⟩ := openF_ok h (b := (openF b).1) (u := (openF b).2.1) (by rw [← he])
        have hp := sealL_pos (openF b).1
        have e : (b.take (openF b).2.1).length = (sealL (openF b).1).length := by rw [ht]
        rw [List.length_take] at e
        have := opensF_len f (b.drop (openF b).2.1) (h.drop _)
        rw [List.length_drop] at this
        simp only [List.length_cons]
        omega
      · split
        · simp
        · simp
theorem headF_len {s : Fs} {h : List Int} : (headF s h).1.beg.length ≤ s.beg.length + h.length ∧ (headF s h).1.out.length ≤ s.out.length + 1 := by
  unfold headF
  split
  · exact ⟨by simp, by simp⟩
  · split
    · simp
    · split
      · simp
      · exact ⟨by simp, by simp⟩
theorem bodsF_len {s : Fs} {b : List Int} {i : Int} (hb : isB b) : (bodsF s b i).1.beg.length ≤ b.length ∧ (bodsF s b i).1.out.length ≤ s.out.length + b.length := by
  have := opensF_len (b.length + 1) b hb
  unfold bodsF opens
  simp only [List.length_append, List.length_map]
  omega
theorem sheetF_len {s : Fs} {i first : Int} {d : List Int} (hd : isB d) : (sheetF s i first d).1.beg.length ≤ s.beg.length + d.length ∧ (sheetF s i first d).1.out.length ≤ s.out.length + 1 + d.length := by
  have hc := cutS_le first d
  have h1 := @headF_len s (d.take (cutS first d))
  rw [List.length_take, Nat.min_eq_left hc] at h1
  unfold sheetF
  split
  · omega
  · split
    · have h2 := @bodsF_len (headF s (d.take (cutS first d))).1 (d.drop (cutS first d)) i (hd.drop _)
      rw [List.length_drop] at h2
      omega
    · omega
end Go.Proofs.Ytomhofppcogojaa

/- plain mathematics of sheets: bodies laid into sheets, by place; of the first sheets of what was laid just those bodies are found that end in them; what was laid later is found too. No program is named; no condition. -/
namespace Go.Proofs.Ytomhofppcogojaa
open Go.RowKit

/-- Bodies sealed, one behind the other. -/
def allL (bs : List (List Int)) : List Int := bs.flatMap sealL
/-- Where body number j begins. -/
def bgn (bs : List (List Int)) (j : Nat) : Nat := (allL (bs.take j)).length
/-- Where they begin. -/
def bgns (bs : List (List Int)) : List Nat := (List.range bs.length).map (bgn bs)
/-- The first of these numbers that lies in sheet number i. -/
def fstIn (l : List Nat) (i : Nat) : Int := match l.find? (fun b => b / 242 == i) with
  | some b => ((b % 242 : Nat) : Int)
  | none => 255
/-- How many sheets so many bytes have. -/
def shN (n : Nat) : Nat := (n + 241) / 242
/-- A sheet's First and Data, of what was laid. -/
def laidAt (bs : List (List Int)) (i : Nat) : Int × List Int := (fstIn (bgns bs) i, ((allL bs).drop (242 * i)).take 242)
def laidL (bs : List (List Int)) : List (Int × List Int) := (List.range (shN (allL bs).length)).map (laidAt bs)

theorem allL_cons (b : List Int) (r : List (List Int)) : allL (b :: r) = sealL b ++ allL r := by simp [allL]
theorem allL_app (a r : List (List Int)) : allL (a ++ r) = allL a ++ allL r := by simp [allL]
theorem allL_isB {bs : List (List Int)} (h : ∀ b ∈ bs, isB b) : isB (allL bs) := fun x hx => by
  obtain ⟨b, hb, hx⟩ := List.mem_flatMap.1 hx
  exact sealL_rng (h b hb) x hx

section
variable {bs : List (List Int)}
theorem bgn_zero : bgn bs 0 = 0 := by simp [bgn, allL]
theorem bgn_end {j : Nat} (h : bs.length ≤ j) : bgn bs j = (allL bs).length := by unfold bgn; rw [List.take_of_length_le h]
theorem take_succ_getD {α : Type} (l : List α) (d : α) (j : Nat) (h : j < l.length) : l.take (j + 1) = l.take j ++ [l.getD j d] := by
  rw [List.take_add_one]
  congr 1
  simp [List.getElem?_eq_getElem h]
theorem bgn_next {j : Nat} (h : j < bs.length) : bgn bs (j + 1) = bgn bs j + (sealL (bs.getD j [])).length := by
  unfold bgn
  rw [take_succ_getD bs [] j h, allL_app, List.length_append]
  simp [allL]
theorem bgn_lt {j : Nat} (h : j < bs.length) : bgn bs j < bgn bs (j + 1) := by
  rw [bgn_next h]
  have := sealL_pos (bs.getD j [])
  omega
theorem bgn_mono {i j : Nat} (h : i ≤ j) : bgn bs i ≤ bgn bs j := by
  induction j with
  | zero => rw [Nat.le_zero.1 h]; exact Nat.le_refl _
  | succ j ih =>
    by_cases e : i = j + 1
    · rw [e]; exact Nat.le_refl _
    · have h1 := ih (by omega)
      by_cases hj : j < bs.length
      · have := bgn_lt hj; omega
      · rw [bgn_end (by omega : bs.length ≤ j)] at h1
        rw [bgn_end (j := j + 1) (by omega)]
        exact h1
theorem bgn_le (j : Nat) : bgn bs j ≤ (allL bs).length := by
  rw [← bgn_end (Nat.le_refl bs.length)]
  by_cases h : j ≤ bs.length
  · exact bgn_mono h
  · rw [bgn_end (by omega), bgn_end (Nat.le_refl _)]; exact Nat.le_refl _
theorem bgn_smono {i j : Nat} (h : i < j) (hj : j ≤ bs.length) : bgn bs i < bgn bs j :=
  Nat.lt_of_lt_of_le (bgn_lt (by omega)) (bgn_mono h)
theorem all_drop (j : Nat) : (allL bs).drop (bgn bs j) = allL (bs.drop j) := by
  have e : allL bs = allL (bs.take j) ++ allL (bs.drop j) := by rw [← allL_app, List.take_append_drop]
  rw [e]
  unfold bgn
  rw [List.drop_left]
theorem drop_getD_cons {α : Type} (l : List α) (d : α) (j : Nat) (h : j < l.length) : l.drop j = l.getD j d :: l.drop (j + 1) := by
  rw [List.drop_eq_getElem_cons h]
  simp [List.getD, List.getElem?_eq_getElem h]

/- The first begin in a sheet. -/
theorem bgns_get (j : Nat) (h : j < bs.length) : (bgns bs)[j]? = some (bgn bs j) := by simp [bgns, h]
theorem fst_is {i j : Nat} (hj : j < bs.length) (h1 : bgn bs j / 242 = i) (h2 : ∀ k, k < j → bgn bs k / 242 ≠ i) : fstIn (bgns bs) i = ((bgn bs j % 242 : Nat) : Int) := by
  have : (bgns bs).find? (fun b => b / 242 == i) = some (bgn bs j) := by
    rw [List.find?_eq_some_iff_getElem]
    refine ⟨by simpa using h1, j, by simpa [bgns] using hj, by simp [bgns], fun k hk => ?_⟩
    simpa [bgns] using h2 k hk
  unfold fstIn
  rw [this]
theorem fst_none {i : Nat} (h : ∀ k, k < bs.length → bgn bs k / 242 ≠ i) : fstIn (bgns bs) i = 255 := by
  have : (bgns bs).find? (fun b => b / 242 == i) = none := by
    rw [List.find?_eq_none]
    intro x hx
    obtain ⟨k, hk, rfl⟩ := List.mem_map.1 hx
    simpa using h k (by simpa using hk)
  unfold fstIn
  rw [this]
end

/-- Of the first n bytes of sealed bodies those are opened that end there. -/
theorem opens_all : ∀ (bs : List (List Int)) (n : Nat), (∀ b ∈ bs, isB b ∧ b.length ≤ 4096) → n ≤ (allL bs).length → ∃ q, q ≤ bs.length ∧ bgn bs q ≤ n ∧ (q < bs.length → n < bgn bs (q + 1)) ∧
    opens ((allL bs).take n) = (bs.take q, ((allL bs).drop (bgn bs q)).take (n - bgn bs q), true)
  | [], n, _, hn => ⟨0, Nat.le_refl _, by simp [bgn, allL], fun h => absurd h (by simp), by simp [allL, opens_nil]⟩
  | b :: r, n, hb, hn => by
    obtain ⟨hb1, hb2⟩ := hb b (by simp)
    have hp := sealL_pos b
    by_cases h0 : n = 0
    · subst h0
      refine ⟨0, Nat.zero_le _, by simp [bgn_zero], fun _ => ?_, by simp [bgn_zero, opens_nil]⟩
      rw [bgn_next (by simp), bgn_zero]
      simp
      omega
    · rw [allL_cons, List.length_append] at hn
      by_cases h1 : n < (sealL b).length
      · have e : (allL (b :: r)).take n = (sealL b).take n := by rw [allL_cons, List.take_append_of_le_length (by omega)]
        refine ⟨0, Nat.zero_le _, by simp [bgn_zero], fun _ => ?_, ?_⟩
        · rw [bgn_next (by simp), bgn_zero]
          simpa using h1
        · have hne : (sealL b).take n ≠ [] := by
            intro q
            have := congrArg List.length q
            rw [List.length_take] at this
            simp only [List.length_nil] at this
            omega
          rw [bgn_zero, List.drop_zero, Nat.sub_zero, e, opens_short hne (open_cut b hb2 n h1)]
          simp
      · obtain ⟨q, hq, hq1, hq2, hq3⟩ := opens_all r (n - (sealL b).length) (fun x hx => hb x (by simp [hx])) (by omega)
        have bq : ∀ k, bgn (b :: r) (k + 1) = (sealL b).length + bgn r k := by
          intro k
          unfold bgn
          rw [List.take_succ_cons, allL_cons, List.length_append]
        refine ⟨q + 1, by simp; omega, by rw [bq]; omega, fun h => ?_, ?_⟩
        · rw [bq]
          have := hq2 (by simpa using h)
          omega
        · have e : (allL (b :: r)).take n = sealL b ++ (allL r).take (n - (sealL b).length) := by
            rw [allL_cons, List.take_append, List.take_of_length_le (by omega)]
          have hB : isB ((allL (b :: r)).take n) := (allL_isB (fun x hx => (hb x hx).1)).take n
          have hne : (allL (b :: r)).take n ≠ [] := by
            rw [e]
            intro q
            have := congrArg List.length q
            simp at this
            have := sealL_pos b
            simp_all
          rw [opens_ok hB hne (by rw [e]; exact open_seal b _ hb2), e, List.drop_left, hq3, bq]
          have e2 : (allL (b :: r)).drop ((sealL b).length + bgn r q) = (allL r).drop (bgn r q) := by
            rw [allL_cons, List.drop_append, List.drop_of_length_le (by omega), List.nil_append]
            congr 1
            omega
          rw [e2, List.take_succ_cons, Nat.sub_sub]

/-- Where a search stands behind the first k sheets of what was laid; o: what it had found ahead of them. -/
structure InvL (bs : List (List Int)) (o : List (List Int)) (k : Nat) (s : Fs) (j : Nat) : Prop where
  le : j ≤ bs.length
  out : s.out.map Prod.fst = o ++ bs.take j
  low : bgn bs j ≤ 242 * k
  high : j < bs.length → 242 * k < bgn bs (j + 1)
  beg : s.beg = ((allL bs).take (242 * k)).drop (bgn bs j)

theorem drop_take_part {α : Type} (l : List α) (a b : Nat) : (l.take b).drop a = (l.drop a).take (b - a) := by rw [List.drop_take]
theorem take_more {α : Type} (l : List α) (a b c : Nat) (h : a ≤ b) : (l.drop a).take (b - a) ++ (l.drop b).take c = (l.drop a).take (b - a + c) := by
  rw [List.take_add, List.drop_drop]
  congr 3
  omega

section
variable {bs : List (List Int)} {o : List (List Int)} {k j : Nat} {s : Fs}

theorem fst_lt (bs : List (List Int)) (i : Nat) : fstIn (bgns bs) i = 255 ∨ ∃ b : Nat, b < 242 ∧ fstIn (bgns bs) i = (b : Int) := by
  unfold fstIn
  split
  · exact .inr ⟨_, Nat.mod_lt _ (by omega), rfl⟩
  · exact .inl rfl

/-- One sheet more. -/
theorem InvL.step (h : InvL bs o k s j) (hb : ∀ b ∈ bs, isB b ∧ b.length ≤ 4096) (hk : 242 * k < (allL bs).length) (i : Int) :
    (sheetF s i (laidAt bs k).1 (laidAt bs k).2).2 = true ∧ ∃ j', InvL bs o (k + 1) (sheetF s i (laidAt bs k).1 (laidAt bs k).2).1 j' := by
  obtain ⟨hle, hout, hlow, hhigh, hbeg⟩ := h
  have hj : j < bs.length := by
    rcases Nat.lt_or_ge j bs.length with q | q
    · exact q
    · rw [bgn_end q] at hlow; omega
  have hnx := hhigh hj
  have hnl : bgn bs (j + 1) ≤ (allL bs).length := bgn_le _
  obtain ⟨T, hT⟩ : ∃ T, T = (allL bs).length := ⟨_, rfl⟩
  obtain ⟨d, hd⟩ : ∃ d, d = ((allL bs).drop (242 * k)).take 242 := ⟨_, rfl⟩
  have hdl : d.length = min 242 (T - 242 * k) := by rw [hd, List.length_take, List.length_drop, hT]
  have hla : laidAt bs k = (fstIn (bgns bs) k, d) := by unfold laidAt; rw [hd]
  rw [hla]
  have hS := bgn_next hj
  have hbj : isB (bs.getD j []) ∧ (bs.getD j []).length ≤ 4096 := by
    have : bs.getD j [] = bs[j] := by simp [List.getD, List.getElem?_eq_getElem hj]
    rw [this]
    exact hb _ (List.getElem_mem hj)
  have hrest : (allL bs).drop (bgn bs j) = sealL (bs.getD j []) ++ allL (bs.drop (j + 1)) := by rw [all_drop, drop_getD_cons bs [] j hj, allL_cons]
  have hbeg' : s.beg = ((allL bs).drop (bgn bs j)).take (242 * k - bgn bs j) := by rw [hbeg, List.drop_take]
  have hbl : s.beg.length = 242 * k - bgn bs j := by rw [hbeg', List.length_take, List.length_drop]; omega
  have happ : ∀ c, s.beg ++ (d.take c) = ((allL bs).drop (bgn bs j)).take (242 * k - bgn bs j + min c 242) := by
    intro c
    rw [hbeg', hd, List.take_take, take_more _ _ _ _ hlow]
  -- begins ahead of this sheet, and behind
  have hbefore : ∀ i, i ≤ j → bgn bs i ≤ 242 * k := fun i hi => Nat.le_trans (bgn_mono hi) hlow
  -- what the bodies of a sheet do, from body q on
  have hbods : ∀ (q c : Nat) (s1 : Fs), q ≤ bs.length → c ≤ d.length → bgn bs q = 242 * k + c → s1.out.map Prod.fst = o ++ bs.take q → (bodsF s1 (d.drop c) i).2 = true ∧ ∃ j', InvL bs o (k + 1) (bodsF s1 (d.drop c) i).1 j' := by
    intro q c s1 hq hc hbq ho1
    have hdc : d.drop c = (allL (bs.drop q)).take (d.length - c) := by
      rw [hd, List.drop_take, List.drop_drop, ← hbq, all_drop]
      have hl : (allL (bs.drop q)).length = T - bgn bs q := by rw [← all_drop, List.length_drop, hT]
      by_cases h242 : 242 ≤ T - 242 * k
      · rw [← hd, hdl, Nat.min_eq_left h242]
      · rw [← hd, hdl, Nat.min_eq_right (by omega), List.take_of_length_le (by omega), List.take_of_length_le (by omega)]
    have hl : (allL (bs.drop q)).length = T - bgn bs q := by rw [← all_drop, List.length_drop, hT]
    obtain ⟨r, hr, hr1, hr2, hr3⟩ := opens_all (bs.drop q) (d.length - c) (fun b hb' => hb b (List.mem_of_mem_drop hb')) (by omega)
    have hbr : ∀ m, bgn (bs.drop q) m = bgn bs (q + m) - bgn bs q := by
      intro m
      unfold bgn
      rw [List.take_add, allL_app, List.length_append]
      omega
    have hge : ∀ m, bgn bs q ≤ bgn bs (q + m) := fun m => bgn_mono (by omega)
    rw [List.length_drop] at hr hr2
    unfold bodsF
    rw [hdc, hr3]
    refine ⟨rfl, q + r, by omega, ?_, ?_, fun hlt => ?_, ?_⟩
    · simp only [List.map_append, ho1, List.map_map]
      rw [List.append_assoc, List.take_add]
      congr 2
      exact List.map_id _
    · rw [hbr] at hr1
      have := hge r
      omega
    · have h1 := hr2 (by omega)
      rw [hbr] at h1
      have h2 := hge (r + 1)
      have h3 : q + r + 1 = q + (r + 1) := by omega
      rw [h3]
      rcases Nat.lt_or_ge T (242 * (k + 1)) with q1 | q1
      · have := bgn_le (bs := bs) (q + (r + 1))
        have := bgn_smono (bs := bs) (i := q + r) (j := q + (r + 1)) (by omega) (by omega)
        omega
      · omega
    · simp only
      rw [hbr] at hr1 ⊢
      have := hge r
      rw [← all_drop, List.drop_drop, List.drop_take]
      have e : bgn bs q + (bgn bs (q + r) - bgn bs q) = bgn bs (q + r) := by omega
      rw [e]
      by_cases h242 : 242 ≤ T - 242 * k
      · congr 1
        omega
      · rw [List.take_of_length_le (by rw [List.length_drop]; omega), List.take_of_length_le (by rw [List.length_drop]; omega)]
  -- no body begins in this sheet
  have hnone : ¬ (bgn bs (j + 1) < 242 * (k + 1) ∧ j + 1 < bs.length) → bgn bs j < 242 * k → fstIn (bgns bs) k = 255 := by
    intro hno hjl
    refine fst_none (fun m hm hmk => ?_)
    rcases Nat.lt_or_ge j m with q | q
    · have := bgn_mono (bs := bs) (i := j + 1) (j := m) q
      have : 242 * k ≤ bgn bs m ∧ bgn bs m < 242 * (k + 1) := by omega
      apply hno
      omega
    · have := bgn_mono (bs := bs) q
      omega
  unfold sheetF
  by_cases hcase : bgn bs j < 242 * k
  · have hbne : s.beg ≠ [] := by intro q; rw [q] at hbl; simp at hbl; omega
    by_cases hin : bgn bs (j + 1) < 242 * (k + 1) ∧ j + 1 < bs.length
    · -- the body ends, and another one begins
      have hf : fstIn (bgns bs) k = ((bgn bs (j + 1) - 242 * k : Nat) : Int) := by
        rw [fst_is (bs := bs) (j := j + 1) hin.2 (by omega) (fun m hm => by have := hbefore m (by omega); have := bgn_mono (bs := bs) (i := m) (j := j) (by omega); omega)]
        congr 1
        omega
      have hlt : bgn bs (j + 1) < T := by
        have := bgn_smono (bs := bs) (i := j + 1) (j := j + 2) (by omega) (by omega)
        have := bgn_le (bs := bs) (j + 2)
        omega
      have hIn : inS (fstIn (bgns bs) k) d := by rw [hf]; exact ⟨by omega, by omega⟩
      have hcut : cutS (fstIn (bgns bs) k) d = bgn bs (j + 1) - 242 * k := by
        unfold cutS
        rw [if_pos hIn, hf]
        omega
      rw [hcut]
      have hx : s.beg ++ d.take (bgn bs (j + 1) - 242 * k) = sealL (bs.getD j []) := by
        rw [happ, hrest, List.take_append_of_le_length (by omega), List.take_of_length_le (by omega)]
      have hH : headF s (d.take (bgn bs (j + 1) - 242 * k)) = (⟨s.out ++ [(bs.getD j [], s.frm)], [], s.frm⟩, true) := by
        unfold headF
        rw [if_neg hbne, hx, open_seal0 _ hbj.2, if_neg (by simp), if_pos ⟨rfl, rfl⟩]
      rw [hH, if_neg (by simp), if_pos hIn]
      refine hbods (j + 1) (bgn bs (j + 1) - 242 * k) _ (by omega) (by omega) (by omega) ?_
      simp only [List.map_append, hout, List.map_cons, List.map_nil, List.append_assoc]
      rw [take_succ_getD bs [] j hj]
    · have hf := hnone hin hcase
      have hIn : ¬ inS (fstIn (bgns bs) k) d := by rw [hf]; intro q; have := q.2; omega
      have hcut : cutS (fstIn (bgns bs) k) d = d.length := by unfold cutS; rw [if_neg hIn]
      rw [hcut, List.take_of_length_le (Nat.le_refl _)]
      have happ' : s.beg ++ d = ((allL bs).drop (bgn bs j)).take (242 * k - bgn bs j + 242) := by
        have := happ 242
        rw [List.take_of_length_le (by omega), Nat.min_self] at this
        exact this
      by_cases hend : bgn bs (j + 1) ≤ 242 * (k + 1)
      · -- the body ends with the sheet
        have hE : bgn bs (j + 1) = 242 * (k + 1) ∨ bgn bs (j + 1) = T := by
          by_cases hl : j + 1 < bs.length
          · left; omega
          · right; rw [bgn_end (by omega), hT]
        have hx : s.beg ++ d = sealL (bs.getD j []) := by
          rw [happ']
          rcases hE with q | q
          · rw [hrest, List.take_append_of_le_length (by omega), List.take_of_length_le (by omega)]
          · have hlast : bs.drop (j + 1) = [] := by
              rcases Nat.lt_or_ge (j + 1) bs.length with r | r
              · have := bgn_smono (bs := bs) (i := j + 1) (j := j + 2) (by omega) (by omega)
                have := bgn_le (bs := bs) (j + 2)
                omega
              · exact List.drop_of_length_le r
            rw [hrest, hlast]
            simp only [allL, List.flatMap_nil, List.append_nil]
            rw [List.take_of_length_le (by omega)]
        have hH : headF s d = (⟨s.out ++ [(bs.getD j [], s.frm)], [], s.frm⟩, true) := by
          unfold headF
          rw [if_neg hbne, hx, open_seal0 _ hbj.2, if_neg (by simp), if_pos ⟨rfl, rfl⟩]
        rw [hH, if_neg (by simp), if_neg hIn]
        refine ⟨rfl, j + 1, by omega, ?_, hend, fun hl => ?_, ?_⟩
        · simp only [List.map_append, hout, List.map_cons, List.map_nil, List.append_assoc]
          rw [take_succ_getD bs [] j hj]
        · have := bgn_lt hl
          rcases hE with q | q
          · omega
          · have := bgn_le (bs := bs) (j + 1 + 1)
            omega
        · simp only
          symm
          apply List.drop_of_length_le
          rw [List.length_take]
          rcases hE with q | q
          · omega
          · omega
      · -- it goes on
        have hx : s.beg ++ d = (sealL (bs.getD j [])).take (242 * (k + 1) - bgn bs j) := by
          rw [happ', hrest, List.take_append_of_le_length (by omega)]
          congr 1
          omega
        have hH : headF s d = (⟨s.out, s.beg ++ d, s.frm⟩, true) := by
          unfold headF
          rw [if_neg hbne, hx, open_cut _ hbj.2 _ (by omega), if_pos rfl]
        rw [hH, if_neg (by simp), if_neg hIn]
        refine ⟨rfl, j, hle, hout, by omega, fun _ => by omega, ?_⟩
        simp only
        rw [happ', List.drop_take]
        congr 1
        omega
  · have hjk : bgn bs j = 242 * k := by omega
    have hb0 : s.beg = [] := List.eq_nil_of_length_eq_zero (by omega)
    have hf : fstIn (bgns bs) k = 0 := by
      rw [fst_is (bs := bs) (j := j) hj (by omega) (fun m hm => by have := bgn_smono (bs := bs) hm hle; omega), hjk]
      simp
    have hIn : inS (fstIn (bgns bs) k) d := by rw [hf]; exact ⟨by omega, by omega⟩
    have hcut : cutS (fstIn (bgns bs) k) d = 0 := by unfold cutS; rw [if_pos hIn, hf]; rfl
    rw [hcut]
    have hH : headF s (d.take 0) = (s, true) := by unfold headF; rw [if_pos hb0]
    rw [hH, if_neg (by simp), if_pos hIn]
    exact hbods j 0 s hle (by omega) (by omega) hout

/-- What a search that stands ahead of what was laid finds of its first sheets. -/
theorem InvL.go (hb : ∀ b ∈ bs, isB b ∧ b.length ≤ 4096) : ∀ (m k : Nat) (i : Nat) (s : Fs) (j : Nat) (rest : List (Int × List Int)), InvL bs o k s j → k + m ≤ shN (allL bs).length →
    ∃ s' j', InvL bs o (k + m) s' j' ∧ findF s i (((List.range m).map (fun n => laidAt bs (k + n))) ++ rest) = findF s' (i + m) rest
  | 0, k, i, s, j, rest, h, _ => ⟨s, j, h, by simp⟩
  | m + 1, k, i, s, j, rest, h, hk => by
    obtain ⟨h1, j1, h2⟩ := h.step hb (by unfold shN at hk; omega) (i : Int)
    obtain ⟨s', j', h3, h4⟩ := InvL.go hb m (k + 1) (i + 1) _ j1 rest h2 (by omega)
    refine ⟨s', j', by rw [show k + (m + 1) = k + 1 + m by omega]; exact h3, ?_⟩
    have e : (List.range (m + 1)).map (fun n => laidAt bs (k + n)) = laidAt bs k :: (List.range m).map (fun n => laidAt bs (k + 1 + n)) := by
      rw [List.range_succ_eq_map, List.map_cons, List.map_map]
      congr 1
      refine List.map_congr_left (fun n _ => ?_)
      simp only [Function.comp]
      congr 1
      omega
    rw [e, List.cons_append, findF, if_pos h1, h4]
    congr 1
    omega
end

theorem InvL.start (bs : List (List Int)) (o : List (List Int)) (s : Fs) (ho : s.out.map Prod.fst = o) (hb : s.beg = []) : InvL bs o 0 s 0 :=
  ⟨Nat.zero_le _, by simp [ho], by simp [bgn_zero], fun h => by have := bgn_lt h; rw [bgn_zero] at this; omega, by simp [hb]⟩

/-- How many bodies end in the first n sheets. -/
def endsIn (bs : List (List Int)) (n j : Nat) : Prop := j ≤ bs.length ∧ bgn bs j ≤ 242 * n ∧ (j < bs.length → 242 * n < bgn bs (j + 1))
theorem endsIn_one {bs : List (List Int)} {n i j : Nat} (h : endsIn bs n i) (k : endsIn bs n j) : i = j := by
  rcases Nat.lt_trichotomy i j with q | q | q
  · have := h.2.2 (by have := k.1; omega)
    have := bgn_mono (bs := bs) (i := i + 1) (j := j) q
    have := k.2.1
    omega
  · exact q
  · have := k.2.2 (by have := h.1; omega)
    have := bgn_mono (bs := bs) (i := j + 1) (j := i) q
    have := h.2.1
    omega

theorem laid_take (bs : List (List Int)) (n : Nat) (hn : n ≤ shN (allL bs).length) : (laidL bs).take n = (List.range n).map (fun m => laidAt bs (0 + m)) := by
  unfold laidL
  rw [← List.map_take, List.take_range, Nat.min_eq_left hn]
  refine List.map_congr_left (fun m _ => ?_)
  rw [Nat.zero_add]
theorem laid_len (bs : List (List Int)) : (laidL bs).length = shN (allL bs).length := by simp [laidL]

/-- Of the first sheets of what was laid. -/
theorem found_first {bs : List (List Int)} (hb : ∀ b ∈ bs, isB b ∧ b.length ≤ 4096) (n j : Nat) (hn : n ≤ shN (allL bs).length) (hj : endsIn bs n j) : (found ((laidL bs).take n)).map Prod.fst = bs.take j := by
  obtain ⟨s', j', h1, h2⟩ := InvL.go (o := []) hb n 0 0 fs0 0 [] (InvL.start bs [] fs0 rfl rfl) (by omega)
  rw [List.append_nil, ← laid_take bs n hn] at h2
  rw [Nat.zero_add] at h1
  unfold found
  rw [h2]
  obtain rfl : j' = j := endsIn_one ⟨h1.le, h1.low, h1.high⟩ hj
  simpa [findF] using h1.out
theorem endsIn_all (bs : List (List Int)) : endsIn bs (shN (allL bs).length) bs.length := ⟨Nat.le_refl _, by rw [bgn_end (Nat.le_refl _)]; unfold shN; omega, fun h => absurd h (by omega)⟩
theorem found_all {bs : List (List Int)} (hb : ∀ b ∈ bs, isB b ∧ b.length ≤ 4096) : (found (laidL bs)).map Prod.fst = bs := by
  have := found_first hb (shN (allL bs).length) bs.length (Nat.le_refl _) (endsIn_all bs)
  rwa [List.take_of_length_le (by rw [laid_len]; exact Nat.le_refl _), List.take_length] at this

/-- With what was laid later behind them. -/
theorem found_later {bs cs : List (List Int)} (hb : ∀ b ∈ bs, isB b ∧ b.length ≤ 4096) (hc : ∀ b ∈ cs, isB b ∧ b.length ≤ 4096) (n j : Nat) (hn : n ≤ shN (allL bs).length) (hj : endsIn bs n j) :
    (found ((laidL bs).take n ++ laidL cs)).map Prod.fst = bs.take j ++ cs := by
  obtain ⟨s', j', h1, h2⟩ := InvL.go (o := []) hb n 0 0 fs0 0 (laidL cs) (InvL.start bs [] fs0 rfl rfl) (by omega)
  rw [← laid_take bs n hn] at h2
  rw [Nat.zero_add] at h1
  unfold found
  rw [h2]
  obtain rfl : j' = j := endsIn_one ⟨h1.le, h1.low, h1.high⟩ hj
  have ho : s'.out.map Prod.fst = bs.take j' := by simpa using h1.out
  rw [Nat.zero_add]
  by_cases h0 : (allL cs).length = 0
  · have hcs : cs = [] := by
      cases cs with
      | nil => rfl
      | cons c r =>
        rw [allL_cons, List.length_append] at h0
        have := sealL_pos c
        omega
    subst hcs
    have : laidL [] = [] := by simp [laidL, allL, shN]
    rw [this]
    simpa [findF] using ho
  · have hpos : 0 < cs.length := by
      cases cs with
      | nil => exact absurd rfl h0
      | cons c r => simp
    have hsh : 0 < shN (allL cs).length := by unfold shN; omega
    -- the first sheet begins with a body: what is begun is given up
    have hl : laidL cs = laidAt cs 0 :: (List.range (shN (allL cs).length - 1)).map (fun m => laidAt cs (1 + m)) := by
      unfold laidL
      obtain ⟨z, hz⟩ : ∃ z, shN (allL cs).length = z + 1 := ⟨shN (allL cs).length - 1, by omega⟩
      rw [hz, List.range_succ_eq_map, List.map_cons, List.map_map]
      congr 1
      simp only [Nat.add_sub_cancel]
      refine List.map_congr_left (fun m _ => ?_)
      simp only [Function.comp]
      congr 1
      omega
    have hf : (laidAt cs 0).1 = 0 := by
      unfold laidAt
      simp only
      rw [fst_is (bs := cs) (j := 0) hpos (by rw [bgn_zero]) (fun m hm => absurd hm (by omega)), bgn_zero]
      rfl
    have hin : inS (laidAt cs 0).1 (laidAt cs 0).2 := by rw [hf]; exact ⟨by omega, by omega⟩
    have hcut : cutS (laidAt cs 0).1 (laidAt cs 0).2 = 0 := by unfold cutS; rw [if_pos hin, hf]; rfl
    have hhead : ∃ b, headF s' [] = (⟨s'.out, b, s'.frm⟩, true) := by
      unfold headF
      by_cases hbe : s'.beg = []
      · rw [if_pos hbe]; exact ⟨s'.beg, rfl⟩
      · rw [if_neg hbe, List.append_nil]
        have hjl : j' < bs.length := by
          rcases Nat.lt_or_ge j' bs.length with q | q
          · exact q
          · exfalso
            apply hbe
            rw [h1.beg, bgn_end q]
            exact List.drop_of_length_le (by rw [List.length_take]; omega)
        have hrest : (allL bs).drop (bgn bs j') = sealL (bs.getD j' []) ++ allL (bs.drop (j' + 1)) := by rw [all_drop, drop_getD_cons bs [] j' hjl, allL_cons]
        have hhigh := h1.high hjl
        rw [bgn_next hjl] at hhigh
        have hlow := h1.low
        have e : s'.beg = (sealL (bs.getD j' [])).take (242 * n - bgn bs j') := by
          rw [h1.beg, List.drop_take, hrest, List.take_append_of_le_length (by omega)]
        have hbj : (bs.getD j' []).length ≤ 4096 := by
          have : bs.getD j' [] = bs[j'] := by simp [List.getD, List.getElem?_eq_getElem hjl]
          rw [this]
          exact (hb _ (List.getElem_mem hjl)).2
        rw [e, open_cut _ hbj _ (by omega), if_pos rfl, ← e]
        exact ⟨s'.beg, rfl⟩
    obtain ⟨b, hh⟩ := hhead
    have hsheet : sheetF s' ((n : Nat) : Int) (laidAt cs 0).1 (laidAt cs 0).2 = sheetF ⟨s'.out, [], s'.frm⟩ ((n : Nat) : Int) (laidAt cs 0).1 (laidAt cs 0).2 := by
      unfold sheetF
      rw [hcut, List.take_zero, hh, if_neg (by simp), if_pos hin]
      have : headF ⟨s'.out, [], s'.frm⟩ [] = (⟨s'.out, [], s'.frm⟩, true) := by unfold headF; rw [if_pos rfl]
      rw [this, if_neg (by simp), if_pos hin]
      rfl
    have hsw : findF s' n (laidL cs) = findF ⟨s'.out, [], s'.frm⟩ n (laidL cs) := by
      rw [hl, findF, findF, hsheet]
    rw [hsw]
    obtain ⟨s2, j2, k1, k2⟩ := InvL.go (o := bs.take j') hc (shN (allL cs).length) 0 n ⟨s'.out, [], s'.frm⟩ 0 [] (InvL.start cs _ _ ho rfl) (by omega)
    rw [List.append_nil, ← laid_take cs _ (Nat.le_refl _), List.take_of_length_le (by rw [laid_len]; exact Nat.le_refl _)] at k2
    rw [k2]
    rw [Nat.zero_add] at k1
    obtain rfl : j2 = cs.length := endsIn_one ⟨k1.le, k1.low, k1.high⟩ (endsIn_all cs)
    simpa [findF] using k1.out
end Go.Proofs.Ytomhofppcogojaa

/- bytes in a block of bytes; slices of elements of several cells; rows of one's own of unlike types stay apart; one element more; parts of bytes by three indices. No condition. -/
namespace Go.Proofs.Ytomhofppcogojaa
open Go.RowKit

theorem own_form {w : World} {base n : Nat} {e : TypeId} {size : Nat} {v : Value} {xs : List Value} (h : w.ownsRow base e size v n xs) : ∃ A c, v = .slice A n c := by
  rcases h.2 with ⟨h1, h2⟩ | ⟨g, cap, _, h1, _⟩
  · subst h2; exact ⟨none, 0, h1⟩
  · exact ⟨_, _, h1⟩
theorem own_ty {w : World} {base n q : Nat} {e : TypeId} {size : Nat} {v : Value} {xs : List Value} (h : w.ownsRow base e size v n xs) (hq : v.ownBlock = some q) : ∃ cur, w.heap[q]? = some (.cells cur e (0, 0)) := by
  rcases h.2 with ⟨h1, h2⟩ | ⟨g, cap, cur, h1, _, hg, _⟩
  · rw [h1] at hq; simp [Value.ownBlock] at hq
  · rw [h1] at hq
    simp [Value.ownBlock] at hq
    subst hq
    exact ⟨cur, hg⟩
theorem own_stay {w w' : World} {base n : Nat} {e : TypeId} {size : Nat} {v : Value} {xs : List Value} (h : w.ownsRow base e size v n xs) (hk : ∀ k, v.ownBlock = some k → w'.heap[k]? = w.heap[k]?) : w'.ownsRow base e size v n xs := by
  obtain ⟨h1, h2⟩ := h
  refine ⟨h1, ?_⟩
  rcases h2 with h2 | ⟨g, cap, cur, hv, hb, hg, r⟩
  · exact .inl h2
  · exact .inr ⟨g, cap, cur, hv, hb, (hk g (by rw [hv]; rfl)).trans hg, r⟩
/-- Rows of unlike types: the one grows, the other stays. -/
theorem own_apart {w w' : World} {b b' k k' n n' : Nat} {e e' : TypeId} {v v' : Value} {xs xs' : List Value} (h : w.ownsRow b e k v n xs) (h' : w.ownsRow b' e' k' v' n' xs') (he : e ≠ e') (hg : w.grownBy w' v.ownBlock) : w'.ownsRow b' e' k' v' n' xs' :=
  own_stay h' (fun q hq => hg.block q (h'.lt q hq).2 (fun eq => by
    obtain ⟨c1, h1⟩ := own_ty h eq.symm
    obtain ⟨c2, h2⟩ := own_ty h' hq
    rw [h1] at h2
    injection h2 with h2
    injection h2 with _ h2
    exact he h2))
theorem bk_apart {w w' : World} {b k n g : Nat} {e t : TypeId} {v : Value} {xs : List Value} {cs : Array Value} (h : w.ownsRow b e k v n xs) (hb : Bk w g t cs) (he : e ≠ t) (hg : w.grownBy w' v.ownBlock) : Bk w' g t cs :=
  (hg.block g hb.lt (fun eq => by
    obtain ⟨c1, h1⟩ := own_ty h eq.symm
    unfold Bk at hb
    rw [h1] at hb
    injection hb with hb
    injection hb with _ hb
    exact he hb)).trans hb
theorem own_set {w : World} {b k n g i : Nat} {e t : TypeId} {v u : Value} {xs : List Value} {cs : Array Value} (h : w.ownsRow b e k v n xs) (hb : Bk w g t cs) (he : e ≠ t) : (w.setCell ⟨g, i, none⟩ u).ownsRow b e k v n xs :=
  own_stay h (fun q hq => Below.heap_setCell w ⟨g, i, none⟩ u q (fun eq => by
    obtain ⟨c1, h1⟩ := own_ty h hq
    have eq' : q = g := eq
    subst eq'
    unfold Bk at hb
    rw [h1] at hb
    injection hb with hb
    injection hb with _ hb
    exact he hb))

/-- The slice lies in a block of bytes. -/
def u8At (w : World) (A : Option Addr) : Prop := ∀ a, A = some a → ∃ cs fr, w.heap[a.block]? = some (.cells cs 5 fr)
structure Bty (w : World) (A : Option Addr) (n c : Nat) (l : List Int) : Prop where
  byt : Byt w A n c l
  ty : u8At w A

section
variable {w w' : World} {A : Option Addr} {n c : Nat} {l : List Int}
theorem u8At.lt (h : u8At w A) : ∀ a, A = some a → a.block < w.heap.size := fun a ha => by
  obtain ⟨cs, fr, e⟩ := h a ha
  exact (Array.getElem?_eq_some_iff.1 e).1
theorem u8At.stay (h : u8At w A) (hk : ∀ a, A = some a → w'.heap[a.block]? = w.heap[a.block]?) : u8At w' A := fun a ha => by
  obtain ⟨cs, fr, e⟩ := h a ha
  exact ⟨cs, fr, (hk a ha).trans e⟩
theorem Byt.stay_ (h : Byt w A n c l) (hk : ∀ a, A = some a → w'.heap[a.block]? = w.heap[a.block]?) : Byt w' A n c l :=
  ⟨h.len, h.cap, h.max, h.rng, h.nil_, fun hn => by
    obtain ⟨g, off, e, hc⟩ := h.at_ hn
    exact ⟨g, off, e, fun i hi => (World.cell?_of_block (w := w) (w' := w') (a := ⟨g, off + i, none⟩) (hk ⟨g, off, none⟩ e)).trans (hc i hi)⟩⟩
theorem Bty.stay (h : Bty w A n c l) (hk : ∀ a, A = some a → w'.heap[a.block]? = w.heap[a.block]?) : Bty w' A n c l := ⟨h.byt.stay_ hk, h.ty.stay hk⟩
theorem Bty.below (h : Bty w A n c l) (hb : Below w.heap.size w w') : Bty w' A n c l := h.stay (fun a ha => hb.block _ (h.ty.lt a ha))
theorem Bty.nil (w : World) : Bty w none 0 0 [] := ⟨Byt.nil w, fun _ h => nomatch h⟩
theorem Bty.of_own {base : Nat} (h : w.ownsRow base 5 1 (.slice A n c) n (l.map (Value.int .u8))) (hr : ∀ x ∈ l, 0 ≤ x ∧ x < 256) : Bty w A n c l := by
  refine ⟨Byt.of_own h hr, fun a ha => ?_⟩
  obtain ⟨cur, hc⟩ := own_ty h (q := a.block) (by rw [ha]; rfl)
  exact ⟨cur, _, hc⟩
theorem Bty.ofString (w : World) (s : ByteArray) (hs : s.size ≤ maxLen) : Bty (Lib.bytesWorld w 5 s) (some ⟨w.heap.size, 0, none⟩) s.size (grownCap w s.size 0 5) (nums s) := by
  refine ⟨Byt.ofString w _ s hs, fun a ha => ?_⟩
  injection ha with ha
  subst ha
  exact ⟨_, _, Lib.bytesWorld_at_new w 5 s⟩
theorem Bty.apart {b k m : Nat} {e : TypeId} {v : Value} {xs : List Value} (h : Bty w A n c l) (ho : w.ownsRow b e k v m xs) (he : e ≠ 5) (hg : w.grownBy w' v.ownBlock) : Bty w' A n c l :=
  h.stay (fun a ha => hg.block _ (h.ty.lt a ha) (fun eq => by
    obtain ⟨c1, h1⟩ := own_ty ho eq.symm
    obtain ⟨cs, fr, h2⟩ := h.ty a ha
    rw [h1] at h2
    injection h2 with h2
    injection h2 with _ h2
    exact he h2))
theorem Bty.set {g i : Nat} {t : TypeId} {u : Value} {cs : Array Value} (h : Bty w A n c l) (hb : Bk w g t cs) (ht : t ≠ 5) : Bty (w.setCell ⟨g, i, none⟩ u) A n c l :=
  h.stay (fun a ha => Below.heap_setCell w ⟨g, i, none⟩ u _ (fun eq => by
    obtain ⟨cs', fr, h2⟩ := h.ty a ha
    have eq' : a.block = g := eq
    unfold Bk at hb
    rw [eq', hb] at h2
    injection h2 with h2
    injection h2 with _ h2
    exact ht h2))

/-- 's[j:k:k]'. -/
theorem cut_lhm (h : Bty w A n c l) (j k : Nat) (hjk : j ≤ k) (hk : k ≤ n) :
    ∃ B, (∀ v, (Instr.slice 35 (.slice A n c) (some (.int .i64 (j : Int))) (some (.int .i64 (k : Int))) (some (.int .i64 (k : Int)))).run Try.prog v = .ok (.slice B (k - j) (k - j)) v) ∧ Bty w B (k - j) (k - j) ((l.drop j).take (k - j)) := by
  have hcap := h.byt.cap
  refine ⟨if k = j then A else A.map (·.add (j * 1)), fun v => ?_, ?_, ?_⟩
  · rw [run_slice_lhm (P := Try.prog) (w := v) 35 A n c under25 .i64 .i64 .i64 j k k (by omega) (by omega) (by omega) (by omega), elem25, sz_u8]
    simp [sliced, Result.andThen]
  · by_cases e : k = j
    · subst e
      rw [if_pos rfl, Nat.sub_self, List.take_zero]
      exact ⟨rfl, Nat.le_refl _, Nat.zero_le _, by simp, fun _ => ⟨rfl, rfl⟩, fun h => absurd h (by omega)⟩
    · rw [if_neg e]
      have := h.byt.sub j k hjk hk
      have hmax := h.byt.max
      unfold subA at this
      rw [if_neg (by omega)] at this
      exact ⟨this.len, Nat.le_refl _, by omega, this.rng, fun e => by have := this.nil_ e; omega, this.at_⟩
  · intro a ha
    split at ha
    · exact h.ty a ha
    · cases A with
      | none => simp at ha
      | some a' =>
        simp at ha
        obtain ⟨cs, fr, e⟩ := h.ty a' rfl
        refine ⟨cs, fr, ?_⟩
        have : a.block = a'.block := by rw [← ha]; unfold Addr.add; split <;> rfl
        rw [this]
        exact e
end

/-- The slice '.slice A n c' of elements of k cells reads as these cells. -/
structure Flt (w : World) (A : Option Addr) (n c k : Nat) (vs : List Value) : Prop where
  len : vs.length = n * k
  cap : n ≤ c
  max : c ≤ maxLen
  nil_ : A = none → n = 0 ∧ c = 0
  at_ : 0 < n → ∃ g off, A = some ⟨g, off, none⟩ ∧ ∀ j v, vs[j]? = some v → w.cell? ⟨g, off + j, none⟩ = some v
section
variable {w w' : World} {A : Option Addr} {n c k : Nat} {vs : List Value}
theorem Flt.nil (w : World) (k : Nat) : Flt w none 0 0 k [] := ⟨by simp, Nat.le_refl _, Nat.zero_le _, fun _ => ⟨rfl, rfl⟩, fun h => absurd h (by omega)⟩
theorem Flt.keep (h : Flt w A n c k vs) (hk : ∀ (p : Addr) u, w.cell? p = some u → w'.cell? p = some u) : Flt w' A n c k vs :=
  ⟨h.len, h.cap, h.max, h.nil_, fun hn => by
    obtain ⟨g, off, e, hc⟩ := h.at_ hn
    exact ⟨g, off, e, fun j v hv => hk _ _ (hc j v hv)⟩⟩
theorem Flt.below (h : Flt w A n c k vs) (hb : Below w.heap.size w w') : Flt w' A n c k vs := h.keep fun p _ hu => (hb.cell (World.block_lt_of_cell? w p hu)).trans hu
theorem Flt.of_own {base : Nat} {e : TypeId} (h : w.ownsRow base e k (.slice A n c) n vs) : Flt w A n c k vs := by
  have hl := h.1
  rcases h.2 with ⟨hv, hn⟩ | ⟨g, cap, cur, hv, hb, hg, hnc, hm, hs, ht⟩
  · injection hv with h1 h2 h3
    subst h1 h2 h3
    exact ⟨hl, Nat.le_refl _, Nat.zero_le _, fun _ => ⟨rfl, rfl⟩, fun h => absurd h (by omega)⟩
  · injection hv with h1 h2 h3
    subst h1 h3
    refine ⟨hl, hnc, hm, (fun h => nomatch h), fun _ => ⟨g, 0, rfl, fun i v hv => ?_⟩⟩
    have := h.cells (g := g) rfl i v hv
    have hadd : (⟨g, 0, none⟩ : Addr).add i = ⟨g, 0 + i, none⟩ := by unfold Addr.add; split <;> simp_all
    rwa [hadd] at this
theorem Flt.take (h : Flt w A n c k vs) (m : Nat) (hm : m ≤ n) : Flt w A m c k (vs.take (m * k)) := by
  refine ⟨by rw [List.length_take, h.len, Nat.min_eq_left (Nat.mul_le_mul_right _ hm)], by have := h.cap; omega, h.max, fun e => ⟨by have := (h.nil_ e).1; omega, (h.nil_ e).2⟩, fun hk0 => ?_⟩
  obtain ⟨g, off, e, hc⟩ := h.at_ (by omega)
  refine ⟨g, off, e, fun i v hi => hc i v ?_⟩
  rw [List.getElem?_take] at hi
  split at hi
  · exact hi
  · cases hi
theorem Flt.news (h : Flt w A n c k vs) (ad : Addr) (hA : A = some ad) : ∀ j u, vs[j]? = some u → w.cell? (ad.add j) = some u := by
  intro j u hu
  have hj : j < n * k := by rw [← h.len]; exact (List.getElem?_eq_some_iff.1 hu).1
  have hn : 0 < n := by
    rcases Nat.eq_zero_or_pos n with q | q
    · subst q; simp at hj
    · exact q
  obtain ⟨g, off, e, hc⟩ := h.at_ hn
  rw [hA] at e
  injection e with e
  subst e
  have hadd : (⟨g, off, none⟩ : Addr).add j = ⟨g, off + j, none⟩ := by unfold Addr.add; split <;> simp_all
  rw [hadd]
  exact hc j u hu
end

theorem flatL_len {α : Type} (f : α → List Value) (k : Nat) (hf : ∀ x, (f x).length = k) : ∀ l : List α, (l.flatMap f).length = l.length * k
  | [] => by simp
  | x :: r => by rw [List.flatMap_cons, List.length_append, hf, flatL_len f k hf r, List.length_cons, Nat.add_mul]; omega
theorem flatL_get {α : Type} (d : α) (f : α → List Value) (k : Nat) (hf : ∀ x, (f x).length = k) : ∀ (l : List α) (i j : Nat), i < l.length → j < k → (l.flatMap f)[i * k + j]? = (f (l.getD i d))[j]?
  | [], _, _, hi, _ => absurd hi (by simp)
  | x :: r, 0, j, _, hj => by
    rw [List.flatMap_cons, List.getElem?_append_left (by rw [hf]; omega)]
    simp
  | x :: r, i + 1, j, hi, hj => by
    rw [List.flatMap_cons, List.getElem?_append_right (by rw [hf, Nat.add_mul]; omega), hf]
    have e : (i + 1) * k + j - k = i * k + j := by rw [Nat.add_mul]; omega
    rw [e, flatL_get d f k hf r i j (by simpa using hi) hj]
    simp
theorem flatL_take {α : Type} (f : α → List Value) (k : Nat) (hf : ∀ x, (f x).length = k) (l : List α) (m : Nat) : (l.flatMap f).take (m * k) = (l.take m).flatMap f := by
  induction l generalizing m with
  | nil => simp
  | cons x r ih =>
    cases m with
    | zero => simp
    | succ m =>
      rw [List.flatMap_cons, List.take_succ_cons, List.flatMap_cons, List.take_append, hf, List.take_of_length_le (by rw [hf, Nat.add_mul]; omega)]
      congr 1
      rw [show (m + 1) * k - k = m * k by rw [Nat.add_mul]; omega, ih]
theorem Flt.at_get {α : Type} {w : World} {A : Option Addr} {n c k : Nat} {l : List α} (d : α) (f : α → List Value) (hf : ∀ x, (f x).length = k) (h : Flt w A n c k (l.flatMap f)) (hl : l.length = n) (hn : 0 < n) :
    ∃ g off, A = some ⟨g, off, none⟩ ∧ ∀ i, i < n → ∀ j v, (f (l.getD i d))[j]? = some v → w.cell? ⟨g, off + i * k + j, none⟩ = some v := by
  obtain ⟨g, off, e, hc⟩ := h.at_ hn
  refine ⟨g, off, e, fun i hi j v hv => ?_⟩
  have hj : j < k := by rw [← hf (l.getD i d)]; exact (List.getElem?_eq_some_iff.1 hv).1
  rw [Nat.add_assoc]
  exact hc _ v (by rw [flatL_get d f k hf l i j (by omega) hj]; exact hv)

/-- 'append(out, x)': x one element in a block of its own. -/
theorem wp_append_1 {P : Program} {w : World} {o : Oper} {a : Act} {K : Act → World → Prop} {Q : Exit → Act → World → Prop} (s x : Operand) (t : TypeId)
    (ho : o.op = .call { callee := .builtin .append, args := #[s, x], argTypes := #[t, t] }) (base : Nat) (e : TypeId) (i : TypeInfo) (z : Value) (size bytes : Nat) (ht : P.underlying t = some (.slice e)) (hi : P.info? e = some i) (hz : i.zero = some z)
    (hsize : i.size = size) (hby : i.bytes = bytes) (hzs : z.cells.size = size) (hpos : 0 < size) {v : Value} {n : Nat} {xs : List Value} (hs : a.eval s = v) (hown : w.ownsRow base e size v n xs)
    {g c : Nat} {cs : Array Value} (hx : a.eval x = .slice (some ⟨g, 0, none⟩) 1 c) (hb : Bk w g e cs) (hcs : cs.size = size) (h1 : ∀ u ∈ cs.toList, u.oneCell' = true) (hn : n ≤ 1000000) (hbb : bytes ≤ 1000) (hbase : base ≤ w.heap.size)
    (h : ∀ A' c' w', w'.ownsRow base e size (.slice A' (n + 1) c') (n + 1) (xs ++ cs.toList) → w.grownBy w' v.ownBlock → (∀ q, (Value.slice A' (n + 1) c').ownBlock = some q → v.ownBlock = some q ∨ w.heap.size ≤ q) → K (a.put o.dst (.slice A' (n + 1) c')) w') : o.wp P a w K Q := by
  have hbt : (n + 1) * bytes ≤ 140737488355328 := Nat.le_trans (Nat.mul_le_mul (show n + 1 ≤ 1000001 by omega) hbb) (by omega)
  refine wp_append_lies w s x t ho base e i z size bytes ht hi hz hsize hby hzs hpos v n xs hs hown ⟨g, 0, none⟩ 1 c cs.toList hx (by simp [hcs]) (fun j u hu => ?_) h1 (by omega) (by unfold maxLen; omega) hbt hbase _ rfl ?_
  · have hadd : (⟨g, 0, none⟩ : Addr).add j = ⟨g, j, none⟩ := by unfold Addr.add; split <;> simp_all
    rw [hadd, hb.cell]
    simpa using hu
  · intro g' cap w' k1 k2 k3 _
    refine h _ cap w' k1 k2 (fun q hq => ?_)
    simp [Value.ownBlock] at hq
    rcases k3 with k3 | k3
    · exact .inl (by rw [k3, hq])
    · exact .inr (by omega)
theorem wpList_append_1 {P : Program} {w : World} {ops : Array Oper} {rest : List Oper} {o : Oper} {a : Act} {Q : Exit → Act → World → Prop} (hgd : o.guard = none) (s x : Operand) (t : TypeId)
    (ho : o.op = .call { callee := .builtin .append, args := #[s, x], argTypes := #[t, t] }) (base : Nat) (e : TypeId) (i : TypeInfo) (z : Value) (size bytes : Nat) (ht : P.underlying t = some (.slice e)) (hi : P.info? e = some i) (hz : i.zero = some z)
    (hsize : i.size = size) (hby : i.bytes = bytes) (hzs : z.cells.size = size) (hpos : 0 < size) {v : Value} {n : Nat} {xs : List Value} (hs : a.eval s = v) (hown : w.ownsRow base e size v n xs)
    {g c : Nat} {cs : Array Value} (hx : a.eval x = .slice (some ⟨g, 0, none⟩) 1 c) (hb : Bk w g e cs) (hcs : cs.size = size) (h1 : ∀ u ∈ cs.toList, u.oneCell' = true) (hn : n ≤ 1000000) (hbb : bytes ≤ 1000) (hbase : base ≤ w.heap.size)
    (h : ∀ A' c' w', w'.ownsRow base e size (.slice A' (n + 1) c') (n + 1) (xs ++ cs.toList) → w.grownBy w' v.ownBlock → (∀ q, (Value.slice A' (n + 1) c').ownBlock = some q → v.ownBlock = some q ∨ w.heap.size ≤ q) → wpList P ops Q rest (a.put o.dst (.slice A' (n + 1) c')) w') :
    wpList P ops Q (o :: rest) a w :=
  wpList_plain hgd fun _ hK => wp_append_1 s x t ho base e i z size bytes ht hi hz hsize hby hzs hpos hs hown hx hb hcs h1 hn hbb hbase fun A' c' w' k1 k2 k3 => hK _ _ (h A' c' w' k1 k2 k3)
end Go.Proofs.Ytomhofppcogojaa

/- page.isValue, isCell, isPage; trothref07.Key, Value; trothref10.May: each answers whether what it is asked of may be. -/
namespace Go.Proofs.Ytomhofppcogojaa
open Go.RowKit

def Cl.cells (c : Cl) : List Value := [.string c.key, .bool c.val.has, .string c.val.data]
theorem Cl.cells_len (c : Cl) : c.cells.length = 3 := rfl
/-- Cells in memory. -/
structure Pcs (w : World) (A : Option Addr) (n c : Nat) (l : List Cl) : Prop where
  flt : Flt w A n c 3 (l.flatMap Cl.cells)
  len : l.length = n
theorem Pcs.below {w w' : World} {A : Option Addr} {n c : Nat} {l : List Cl} (h : Pcs w A n c l) (hb : Below w.heap.size w w') : Pcs w' A n c l := ⟨h.flt.below hb, h.len⟩
theorem Pcs.get {w : World} {A : Option Addr} {n c : Nat} {l : List Cl} (h : Pcs w A n c l) (hn : 0 < n) : ∃ g off, A = some ⟨g, off, none⟩ ∧ g < w.heap.size ∧ ∀ i, i < n →
    w.cell? ⟨g, off + i * 3, none⟩ = some (.string (l.getD i default).key) ∧ w.cell? ⟨g, off + i * 3 + 1, none⟩ = some (.bool (l.getD i default).val.has) ∧ w.cell? ⟨g, off + i * 3 + 2, none⟩ = some (.string (l.getD i default).val.data) := by
  obtain ⟨g, off, rfl, hc⟩ := h.flt.at_get (default : Cl) Cl.cells Cl.cells_len h.len hn
  refine ⟨g, off, rfl, ?_, fun i hi => ⟨hc i hi 0 _ rfl, hc i hi 1 _ rfl, hc i hi 2 _ rfl⟩⟩
  exact World.block_lt_of_cell? w _ (hc 0 hn 0 _ rfl)

theorem ret_dec {P : Prop} [Decidable P] {b : Bool} {w w' : World} (h : b = true ↔ P) (hb : Below w.heap.size w w') : Ret (.bool (decide P)) w (.returned (.bool b)) w' :=
  ⟨by
    have : decide P = b := by
      cases b
      · exact decide_eq_false (fun q => by have := h.2 q; cases this)
      · exact decide_eq_true (h.1 rfl)
    rw [this], hb⟩
theorem ret_yes {P : Prop} [Decidable P] {w w' : World} (h : P) (hb : Below w.heap.size w w') : Ret (.bool (decide P)) w (.returned (.bool true)) w' := ret_dec ⟨fun _ => h, fun _ => rfl⟩ hb
theorem ret_no {P : Prop} [Decidable P] {w w' : World} (h : ¬ P) (hb : Below w.heap.size w w') : Ret (.bool (decide P)) w (.returned (.bool false)) w' := ret_dec ⟨(fun q => nomatch q), fun q => absurd q h⟩ hb
theorem str_empty (d : ByteArray) : d.toList.isEmpty = true ↔ d = ByteArray.empty := by
  rw [List.isEmpty_iff]
  constructor
  · intro q
    exact ba_inj (by rw [q]; simp)
  · intro q
    rw [q]
    simp

set_option maxHeartbeats 2000000 in
theorem isValue_any (v : Vl) (w : World) : Calls Try.prog 76 #[.agg #[.bool v.has, .string v.data]] w (Ret (.bool (decide (vlOk v))) w) := by
  obtain ⟨hs, d⟩ := v
  have HB : Hid (Below w.heap.size w (w.alloc (.cells #[.bool hs, .string d] 61))) := Lib.hid ((Below.refl _ _).alloc (Nat.le_refl _) _)
  show Calls _ _ #[.agg #[.bool hs, .string d]] w _
  cases hs with
  | true =>
    have HV : vlOk ⟨true, d⟩ ↔ (d.size : Int) ≤ 32 := Iff.rfl
    by_cases h1 : (d.size : Int) ≤ 32
    · have R := Lib.hid (ret_yes (HV.2 h1) HB.out)
      clear HV HB
      go_enter Try.func76, Try.ntmps76
      go_wp2
      go_ret
      exact R.out
    · have R := Lib.hid (ret_no (fun q => h1 (HV.1 q)) HB.out)
      clear HV HB
      go_enter Try.func76, Try.ntmps76
      go_wp2
      go_ret
      exact R.out
  | false =>
    have HV : vlOk ⟨false, d⟩ ↔ d = ByteArray.empty := by unfold vlOk; simp
    have R := Lib.hid (ret_dec ((str_empty d).trans HV.symm) HB.out)
    clear HV HB
    go_enter Try.func76, Try.ntmps76
    go_wp2
    go_ret
    exact R.out

set_option maxHeartbeats 2000000 in
theorem refValue_any (v : Vl) (w : World) : Calls Try.prog 34 #[.agg #[.bool v.has, .string v.data]] w (Ret (.bool (decide (vlOk v))) w) := by
  obtain ⟨hs, d⟩ := v
  have HB : Hid (Below w.heap.size w (w.alloc (.cells #[.bool hs, .string d] 61))) := Lib.hid ((Below.refl _ _).alloc (Nat.le_refl _) _)
  show Calls _ _ #[.agg #[.bool hs, .string d]] w _
  cases hs with
  | true =>
    have HV : vlOk ⟨true, d⟩ ↔ (d.size : Int) ≤ 32 := Iff.rfl
    by_cases h1 : (d.size : Int) ≤ 32
    · have R := Lib.hid (ret_yes (HV.2 h1) HB.out)
      clear HV HB
      go_enter Try.func34, Try.ntmps34
      go_wp2
      go_ret
      exact R.out
    · have R := Lib.hid (ret_no (fun q => h1 (HV.1 q)) HB.out)
      clear HV HB
      go_enter Try.func34, Try.ntmps34
      go_wp2
      go_ret
      exact R.out
  | false =>
    have HV : vlOk ⟨false, d⟩ ↔ d = ByteArray.empty := by unfold vlOk; simp
    have R := Lib.hid (ret_dec ((str_empty d).trans HV.symm) HB.out)
    clear HV HB
    go_enter Try.func34, Try.ntmps34
    go_wp2
    go_ret
    exact R.out

set_option maxHeartbeats 1000000 in
theorem rKey_any (k : ByteArray) (w : World) : Calls Try.prog 33 #[.string k] w (Ret (.bool (decide (keyOk k))) w) := by
  by_cases h1 : 1 ≤ k.size
  · have h1' : (1 : Int) ≤ (k.size : Int) := by omega
    by_cases h2 : k.size ≤ 16
    · have h2' : (k.size : Int) ≤ 16 := by omega
      have R := Lib.hid (ret_yes (P := keyOk k) ⟨h1, h2⟩ (Below.refl _ w))
      go_enter Try.func33, Try.ntmps33
      go_wp2
      go_ret
      exact R.out
    · have h2' : ¬ (k.size : Int) ≤ 16 := by omega
      have R := Lib.hid (ret_no (P := keyOk k) (fun q => h2 q.2) (Below.refl _ w))
      go_enter Try.func33, Try.ntmps33
      go_wp2
      go_ret
      exact R.out
  · have h1' : ¬ (1 : Int) ≤ (k.size : Int) := by omega
    have R := Lib.hid (ret_no (P := keyOk k) (fun q => h1 q.1) (Below.refl _ w))
    go_enter Try.func33, Try.ntmps33
    go_wp2
    go_ret
    exact R.out

set_option maxHeartbeats 2000000 in
theorem isCell_any (c : Cl) (w : World) : Calls Try.prog 61 #[.agg c.cells.toArray] w (Ret (.bool (decide (clOk c))) w) := by
  obtain ⟨k, ⟨hs, d⟩⟩ := c
  show Calls _ _ #[.agg #[.string k, .bool hs, .string d]] w _
  obtain ⟨W, hW⟩ : ∃ W, W = w.alloc (.cells #[.string k, .bool hs, .string d] 63) := ⟨_, rfl⟩
  have HB : Hid (Below w.heap.size w (w.alloc (.cells #[.string k, .bool hs, .string d] 63))) := Lib.hid ((Below.refl _ _).alloc (Nat.le_refl _) _)
  by_cases h1 : 1 ≤ k.size
  · have h1' : (0 : Int) < (k.size : Int) := by omega
    by_cases h2 : k.size ≤ 16
    · have h2' : (k.size : Int) ≤ 16 := by omega
      have e : decide (clOk ⟨k, ⟨hs, d⟩⟩) = decide (vlOk ⟨hs, d⟩) := by
        by_cases hv : vlOk ⟨hs, d⟩
        · rw [decide_eq_true hv]; exact decide_eq_true ⟨⟨h1, h2⟩, hv⟩
        · rw [decide_eq_false hv]; exact decide_eq_false (fun q => hv q.2)
      rw [e]
      obtain ⟨b, hb⟩ : ∃ b, decide (vlOk ⟨hs, d⟩) = b := ⟨_, rfl⟩
      have C := Lib.hid (fun W => isValue_any ⟨hs, d⟩ W)
      rw [hb] at C ⊢
      clear e hb
      go_enter Try.func61, Try.ntmps61
      go_wp2_with fail
      refine (C.out _).mono ?_
      rintro e w1 ⟨rfl, b1⟩
      have B1 := Lib.hid (Below.then HB.out b1)
      clear b1
      go_wp2_with fail
      go_ret
      exact ⟨rfl, B1.out⟩
    · have h2' : ¬ (k.size : Int) ≤ 16 := by omega
      have R := Lib.hid (ret_no (P := clOk ⟨k, ⟨hs, d⟩⟩) (fun q => h2 q.1.2) HB.out)
      clear HB
      go_enter Try.func61, Try.ntmps61
      go_wp2_with fail
      go_ret
      exact R.out
  · have h1' : ¬ (0 : Int) < (k.size : Int) := by omega
    have R := Lib.hid (ret_no (P := clOk ⟨k, ⟨hs, d⟩⟩) (fun q => h1 q.1.1) HB.out)
    clear HB
    go_enter Try.func61, Try.ntmps61
    go_wp2_with fail
    go_ret
    exact R.out
end Go.Proofs.Ytomhofppcogojaa

/- page.isPage and trothref10.May answer whether a page may be. -/
namespace Go.Proofs.Ytomhofppcogojaa
open Go.RowKit

/-- What holds of the first k cells. -/
def upTo (l : List Cl) (k : Nat) : Prop := ∀ i, i < k → clOk (l.getD i default) ∧ (0 < i → kLt (l.getD (i - 1) default).key (l.getD i default).key)
theorem upTo_next {l : List Cl} {k : Nat} (h : upTo l k) (h1 : clOk (l.getD k default)) (h2 : 0 < k → kLt (l.getD (k - 1) default).key (l.getD k default).key) : upTo l (k + 1) := fun i hi => by
  rcases Nat.lt_or_ge i k with q | q
  · exact h i q
  · obtain rfl : i = k := by omega
    exact ⟨h1, h2⟩
theorem rises_no {l : List Cl} {k : Nat} (hk : k < l.length) (h : ¬ (clOk (l.getD k default) ∧ (0 < k → kLt (l.getD (k - 1) default).key (l.getD k default).key))) : ¬ clsOk l := fun q => h (q k hk)
theorem pgOk_iff (lsn : Int) (l : List Cl) : (⟨lsn, l⟩ : Pg).ok ↔ (0 ≤ lsn ∧ lsn ≤ 1099511627776) ∧ l.length ≤ 4 ∧ clsOk l := Iff.rfl

set_option maxRecDepth 100000 in
set_option maxHeartbeats 4000000 in
theorem isPage_any (lsn : Int) (A : Option Addr) (n c : Nat) (l : List Cl) (w : World) (h : Pcs w A n c l) : Calls Try.prog 43 #[.agg #[.int .i64 lsn, .slice A n c]] w (Ret (.bool (decide ((⟨lsn, l⟩ : Pg).ok))) w) := by
  have hcap := h.flt.cap
  have hmax := h.flt.max
  unfold maxLen at hmax
  have hlen := h.len
  obtain ⟨W0, hW0⟩ : ∃ W, W = w.alloc (.cells #[.int .i64 lsn, .slice A n c] 24) := ⟨_, rfl⟩
  have HB : Hid (Below w.heap.size w W0) := Lib.hid (by rw [hW0]; exact (Below.refl _ _).alloc (Nat.le_refl _) _)
  have BK : Hid (Bk W0 w.heap.size 24 #[.int .i64 lsn, .slice A n c]) := Lib.hid (by rw [hW0]; exact Bk.new w _ _)
  have OKI := Lib.hid (pgOk_iff lsn l)
  by_cases h0 : 0 ≤ lsn
  rotate_left
  · have R := Lib.hid (ret_no (P := (⟨lsn, l⟩ : Pg).ok) (fun q => h0 q.1.1) HB.out)
    have hW := Lib.hid hW0
    clear HB BK OKI hW0 h
    go_enter Try.func43, Try.ntmps43
    go_wp2_with fail
    go_ret
    rw [hW.out] at R
    exact R.out
  by_cases h1 : lsn ≤ 1099511627776
  rotate_left
  · have R := Lib.hid (ret_no (P := (⟨lsn, l⟩ : Pg).ok) (fun q => h1 q.1.2) HB.out)
    have hW := Lib.hid hW0
    clear HB BK OKI hW0 h
    go_enter Try.func43, Try.ntmps43
    go_wp2_with fail
    go_ret
    rw [hW.out] at R
    exact R.out
  by_cases h2 : n ≤ 4
  rotate_left
  · have R := Lib.hid (ret_no (P := (⟨lsn, l⟩ : Pg).ok) (fun q => h2 (by rw [← hlen]; exact q.2.1)) HB.out)
    have hW := Lib.hid hW0
    have h2' : ¬ (n : Int) ≤ 4 := by omega
    clear HB BK OKI hW0 h
    go_enter Try.func43, Try.ntmps43
    go_wp2_with fail
    go_ret
    rw [hW.out] at R
    exact R.out
  have h2' : (n : Int) ≤ 4 := by omega
  have YES : Hid (clsOk l → ∀ w', Below W0.heap.size W0 w' → Ret (.bool (decide ((⟨lsn, l⟩ : Pg).ok))) w (.returned (.bool true)) w') := Lib.hid (fun q w' hb => ret_yes (OKI.out.2 ⟨⟨h0, h1⟩, by omega, q⟩) (Below.then HB.out hb))
  have NO : Hid (¬ clsOk l → ∀ w', Below W0.heap.size W0 w' → Ret (.bool (decide ((⟨lsn, l⟩ : Pg).ok))) w (.returned (.bool false)) w') := Lib.hid (fun q w' hb => ret_no (fun z => q (OKI.out.1 z).2.2) (Below.then HB.out hb))
  have hW := Lib.hid hW0
  have HP := Lib.hid (h.below HB.out)
  have hc1 : W0.cell? ⟨w.heap.size, 1, none⟩ = some (.slice A n c) := BK.out.cell 1
  clear OKI hW0 h
  go_enter Try.func43, Try.ntmps43
  go_upto_region 3 with fail
  rw [← hW.out]
  go_wp2_with fail
  go_loopw [22] (fun y wr => ∃ k : Nat, k ≤ n ∧ y = .int .i64 k ∧ Below W0.heap.size W0 wr ∧ upTo l k) (fun y _ => n - (intOf y).toNat)
  case atStart => exact ⟨0, Nat.zero_le _, rfl, Below.refl _ _, fun i hi => absurd hi (by omega)⟩
  case round =>
    obtain ⟨k, hk, rfl, hb, hu⟩ := hrel
    by_cases hlt : k < n
    · obtain ⟨g, off, rfl, _, hc⟩ := (HP.out.below hb).get (by omega)
      obtain ⟨a0, a1, a2⟩ := hc k hlt
      have HPR := Lib.hid hc
      obtain ⟨x, hx⟩ : ∃ x, l.getD k default = x := ⟨_, rfl⟩
      rw [hx] at a0 a1 a2
      obtain ⟨key, ⟨hs, d⟩⟩ := x
      simp only at a0 a1 a2
      have HX := Lib.hid hx
      have HU := Lib.hid hu
      have HBB := Lib.hid hb
      have hcp : wr.cell? ⟨w.heap.size, 1, none⟩ = some (.slice (some ⟨g, off, none⟩) n c) := (BK.out.bel hb BK.out.lt).cell 1
      clear hc hb hu hx
      go_wp2_with fail
      obtain ⟨W1, hW1⟩ : ∃ W, W = wr.alloc (.cells #[.string key, .bool hs, .string d] 63) := ⟨_, rfl⟩
      have bW1 : Below wr.heap.size wr W1 := by rw [hW1]; exact (Below.refl _ _).alloc (Nat.le_refl _) _
      have bk1 : Bk W1 wr.heap.size 63 #[.string key, .bool hs, .string d] := by rw [hW1]; exact Bk.new wr _ _
      rw [← hW1]
      have f0 : ∀ d' os, (Go.Sort.grow (redrawn W1 d') os).cell? ⟨wr.heap.size, 0, none⟩ = some (.string key) := cell_regrown (bk1.cell 0)
      have f1 : ∀ d' os, (Go.Sort.grow (redrawn W1 d') os).cell? ⟨wr.heap.size, 1, none⟩ = some (.bool hs) := cell_regrown (bk1.cell 1)
      have f2 : ∀ d' os, (Go.Sort.grow (redrawn W1 d') os).cell? ⟨wr.heap.size, 2, none⟩ = some (.string d) := cell_regrown (bk1.cell 2)
      have fp : ∀ d' os, (Go.Sort.grow (redrawn W1 d') os).cell? ⟨w.heap.size, 1, none⟩ = some (.slice (some ⟨g, off, none⟩) n c) := cell_regrown ((bW1.cell (World.block_lt_of_cell? wr _ hcp)).trans hcp)
      have BW := Lib.hid (Below.then HBB.out bW1)
      have BW1 := Lib.hid bW1
      have C := Lib.hid (fun W => isCell_any ⟨key, ⟨hs, d⟩⟩ W)
      clear hW1 bW1 bk1 a0 a1 a2 hcp
      by_cases hok : clOk ⟨key, ⟨hs, d⟩⟩
      · rw [decide_eq_true hok] at C
        rcases Nat.eq_zero_or_pos k with hk0 | hk0
        · subst hk0
          have HN : Hid (upTo l (0 + 1)) := Lib.hid (upTo_next HU.out (by rw [HX.out]; exact hok) (fun q => absurd q (by omega)))
          clear hok
          refine wp_region_quiet_below (by kernel_rfl) (by kernel_rfl) ?_
          repeat (any_goals (first | go_big_quiet_step ((go_at_call 61; exact Calls.regrown_of (C.out _))) | quiet_step ((go_at_call 61; exact Calls.regrown_of (C.out _)))))
          refine wpQuiet_nil ?_
          intro _ hw'
          obtain ⟨⟨dq, osq⟩, hw''⟩ := hw'
          subst hw''
          have L11 := Lib.hid (Below.then BW.out (below_regrown W1 dq osq))
          clear BW f0 f1 f2 fp C
          go_wp2_with fail
          go_roundw
          case rel => exact ⟨0 + 1, by omega, by go_num, L11.out, HN.out⟩
          case measure => simp [intOf]; omega
        · obtain ⟨m, rfl⟩ : ∃ m, k = m + 1 := ⟨k - 1, by omega⟩
          obtain ⟨b0, _, _⟩ := HPR.out m (by omega)
          obtain ⟨pk, hpk⟩ : ∃ x, (l.getD m default).key = x := ⟨_, rfl⟩
          rw [hpk] at b0
          have fq : ∀ d' os, (Go.Sort.grow (redrawn W1 d') os).cell? ⟨g, off + m * 3, none⟩ = some (.string pk) := cell_regrown ((BW1.out.cell (World.block_lt_of_cell? wr _ b0)).trans b0)
          clear b0
          by_cases hlt2 : kLt pk key
          · have hA : Op.bytesLess key.toList pk.toList = false := by
              have := kLt_asym hlt2
              unfold kLt at this
              simpa using this
            have hB : (key.toList == pk.toList) = false := by
              rw [beq_eq_false_iff_ne]
              exact fun q => kLt_ne hlt2 (ba_inj q).symm
            have HN : Hid (upTo l (m + 1 + 1)) := Lib.hid (upTo_next HU.out (by rw [HX.out]; exact hok) (fun _ => by rw [Nat.add_sub_cancel, hpk, HX.out]; exact hlt2))
            clear hok hlt2 hpk
            refine wp_region_quiet_below (by kernel_rfl) (by kernel_rfl) ?_
            repeat (any_goals (first | go_big_quiet_step ((go_at_call 61; exact Calls.regrown_of (C.out _))) | quiet_step ((go_at_call 61; exact Calls.regrown_of (C.out _)))))
            refine wpQuiet_nil ?_
            intro _ hw'
            obtain ⟨⟨dq, osq⟩, hw''⟩ := hw'
            subst hw''
            have L11 := Lib.hid (Below.then BW.out (below_regrown W1 dq osq))
            clear BW f0 f1 f2 fp C fq
            go_wp2_with fail
            go_roundw
            case rel => exact ⟨m + 1 + 1, by omega, by go_num, L11.out, HN.out⟩
            case measure => simp [intOf]; omega
          · have HNO : Hid (¬ clsOk l) := Lib.hid (rises_no (k := m + 1) (by omega) (fun q => hlt2 (by have := q.2 (by omega); rw [Nat.add_sub_cancel, hpk, HX.out] at this; exact this)))
            by_cases heq : key = pk
            · subst heq
              have hB : (key.toList == key.toList) = true := by simp
              clear hok hlt2 hpk
              refine wp_region_quiet_below (by kernel_rfl) (by kernel_rfl) ?_
              repeat (any_goals (first | go_big_quiet_step ((go_at_call 61; exact Calls.regrown_of (C.out _))) | quiet_step ((go_at_call 61; exact Calls.regrown_of (C.out _)))))
              refine wpQuiet_nil ?_
              intro _ hw'
              obtain ⟨⟨dq, osq⟩, hw''⟩ := hw'
              subst hw''
              have L11 := Lib.hid (Below.then BW.out (below_regrown W1 dq osq))
              have R := Lib.hid (NO.out HNO.out _ L11.out)
              clear BW f0 f1 f2 fp C L11
              go_wp2_with fail
              go_ret
              exact R.out
            · have hA : Op.bytesLess key.toList pk.toList = true := kLt_tri hlt2 (fun q => heq q.symm)
              clear hok hlt2 hpk heq
              refine wp_region_quiet_below (by kernel_rfl) (by kernel_rfl) ?_
              repeat (any_goals (first | go_big_quiet_step ((go_at_call 61; exact Calls.regrown_of (C.out _))) | quiet_step ((go_at_call 61; exact Calls.regrown_of (C.out _)))))
              refine wpQuiet_nil ?_
              intro _ hw'
              obtain ⟨⟨dq, osq⟩, hw''⟩ := hw'
              subst hw''
              have L11 := Lib.hid (Below.then BW.out (below_regrown W1 dq osq))
              have R := Lib.hid (NO.out HNO.out _ L11.out)
              clear BW f0 f1 f2 fp C L11
              go_wp2_with fail
              go_ret
              exact R.out
      · rw [decide_eq_false hok] at C
        have HNO : Hid (¬ clsOk l) := Lib.hid (rises_no (k := k) (by omega) (fun q => hok (by have := q.1; rw [HX.out] at this; exact this)))
        clear hok
        refine wp_region_quiet_below (by kernel_rfl) (by kernel_rfl) ?_
        repeat (any_goals (first | go_big_quiet_step ((go_at_call 61; exact Calls.regrown_of (C.out _))) | quiet_step ((go_at_call 61; exact Calls.regrown_of (C.out _)))))
        refine wpQuiet_nil ?_
        intro _ hw'
        obtain ⟨⟨dq, osq⟩, hw''⟩ := hw'
        subst hw''
        have L11 := Lib.hid (Below.then BW.out (below_regrown W1 dq osq))
        have R := Lib.hid (NO.out HNO.out _ L11.out)
        clear BW f0 f1 f2 fp C L11
        go_wp2_with fail
        go_ret
        exact R.out
    · obtain rfl : k = n := by omega
      have R := Lib.hid (YES.out (fun i hi => hu i (by omega)) _ hb)
      clear hb hu hlt
      go_wp2_with fail
      go_ret
      exact R.out
end Go.Proofs.Ytomhofppcogojaa
