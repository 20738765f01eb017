/- What it says: contracts and plain mathematics that the laws' walks use, 21 of 34: each part's own remark says what; no condition. -/
import Derived.Test.YtfldcddbmikfiaaPw1
import Derived.Test.YtfldcddbmikfiaaPw3
import Derived.Test.YtfldcddbmikfiaaPw5
import Derived.Test.YtfldcddbmikfiaaPw6
import Derived.Test.YtfldcddbmikfiaaPw0
import Derived.Test.YtfldcddbmikfiaaPw15
import Derived.Test.YtfldcddbmikfiaaPw16
import Derived.Test.YtfldcddbmikfiaaPw17
import Derived.Test.YtfldcddbmikfiaaPw18
import Derived.Test.YtfldcddbmikfiaaPw19
import Derived.Test.YtfldcddbmikfiaaPw20
import Derived.Test.YtfldcddbmikfiaaRows
import Derived.Deep.QuietTactic
import Derived.BigQuiet
import Derived.LoopTactic
import Derived.Deep.CutBlock
import Derived.BigRegion
import Derived.Handy
import Derived.Laws.ResultCell
import Derived.Laws.CopyOwn

set_option linter.unusedSimpArgs false
set_option linter.unusedVariables false
set_option linter.deprecated false
set_option linter.unusedSectionVars false
set_option linter.all false

/- rec.isSame, whatever it compares. -/
namespace Go.Proofs.Ytfldcddbmikfiaa
open Go.RowKit
theorem bytes_ne {a b : ByteArray} (h : ¬ a = b) : (a.toList == b.toList) = false := by
  rw [ByteArray.toList_eq, ByteArray.toList_eq]
  cases q : (a.data.toList == b.data.toList) with
  | false => rfl
  | true => exact absurd (Go.WideShapes.bytes_inj (by simpa using q)) h
theorem int_ne {a b : Int} (h : ¬ a = b) : (a == b) = false := by simpa using h
theorem bool_ne {a b : Bool} (h : ¬ a = b) : (a == b) = false := by cases a <;> cases b <;> simp_all
theorem nat_ne {a b : Nat} (h : ¬ a = b) : ((a : Int) == (b : Int)) = false := by simp; omega
theorem isSame_all : IsSame := by
  intro x y w
  have no : ∀ (q : ¬ SameX x y), (∀ e w', (e = Ending.returned (.bool false) ∧ Below w.heap.size w w') → ∃ b, e = .returned (.bool b) ∧ (b = true ↔ SameX x y) ∧ Below w.heap.size w w') := fun q e w' h => ⟨false, h.1, ⟨(fun z => nomatch z), fun z => absurd z q⟩, h.2⟩
  unfold SameX at no ⊢
  by_cases h0 : x.tx = y.tx
  rotate_left
  · exact (isSame_0 x y w trivial (int_ne h0)).mono (no fun q => h0 q.1)
  by_cases h1 : x.prev = y.prev
  rotate_left
  · exact (isSame_1 x y w h0 (int_ne h1)).mono (no fun q => h1 q.2.1)
  by_cases h2 : x.next = y.next
  rotate_left
  · exact (isSame_2 x y w ⟨h0, h1⟩ (int_ne h2)).mono (no fun q => h2 q.2.2.1)
  by_cases h3 : x.key = y.key
  rotate_left
  · exact (isSame_3 x y w ⟨h0, h1, h2⟩ (bytes_ne h3)).mono (no fun q => h3 q.2.2.2.1)
  by_cases h4 : x.old.has = y.old.has
  rotate_left
  · exact (isSame_4 x y w ⟨h0, h1, h2, h3⟩ (bool_ne h4)).mono (no fun q => h4 q.2.2.2.2.1)
  by_cases h5 : x.old.data = y.old.data
  rotate_left
  · exact (isSame_5 x y w ⟨h0, h1, h2, h3, h4⟩ (bytes_ne h5)).mono (no fun q => h5 q.2.2.2.2.2.1)
  by_cases h6 : x.new.has = y.new.has
  rotate_left
  · exact (isSame_6 x y w ⟨h0, h1, h2, h3, h4, h5⟩ (bool_ne h6)).mono (no fun q => h6 q.2.2.2.2.2.2.1)
  by_cases h7 : x.new.data = y.new.data
  rotate_left
  · exact (isSame_7 x y w ⟨h0, h1, h2, h3, h4, h5, h6⟩ (bytes_ne h7)).mono (no fun q => h7 q.2.2.2.2.2.2.2.1)
  by_cases h8 : x.co = y.co
  rotate_left
  · exact (isSame_8 x y w ⟨h0, h1, h2, h3, h4, h5, h6, h7⟩ (int_ne h8)).mono (no fun q => h8 q.2.2.2.2.2.2.2.2.1)
  by_cases h9 : x.mn = y.mn
  rotate_left
  · exact (isSame_9 x y w ⟨h0, h1, h2, h3, h4, h5, h6, h7, h8⟩ (nat_ne h9)).mono (no fun q => h9 q.2.2.2.2.2.2.2.2.2.1)
  by_cases h10 : x.kn = y.kn
  rotate_left
  · exact (isSame_10 x y w ⟨h0, h1, h2, h3, h4, h5, h6, h7, h8, h9⟩ (nat_ne h10)).mono (no fun q => h10 q.2.2.2.2.2.2.2.2.2.2.1)
  by_cases h11 : x.rn = y.rn
  rotate_left
  · exact (isSame_11 x y w ⟨h0, h1, h2, h3, h4, h5, h6, h7, h8, h9, h10⟩ (nat_ne h11)).mono (no fun q => h11 q.2.2.2.2.2.2.2.2.2.2.2.1)
  by_cases h12 : x.dn = y.dn
  rotate_left
  · exact (isSame_12 x y w ⟨h0, h1, h2, h3, h4, h5, h6, h7, h8, h9, h10, h11⟩ (nat_ne h12)).mono (no fun q => h12 q.2.2.2.2.2.2.2.2.2.2.2.2.1)
  by_cases h13 : x.en = y.en
  rotate_left
  · exact (isSame_13 x y w ⟨h0, h1, h2, h3, h4, h5, h6, h7, h8, h9, h10, h11, h12⟩ (nat_ne h13)).mono (no fun q => h13 q.2.2.2.2.2.2.2.2.2.2.2.2.2.1)
  by_cases h14 : x.pn = y.pn
  rotate_left
  · exact (isSame_14 x y w ⟨h0, h1, h2, h3, h4, h5, h6, h7, h8, h9, h10, h11, h12, h13⟩ (nat_ne h14)).mono (no fun q => h14 q.2.2.2.2.2.2.2.2.2.2.2.2.2.2)
  refine (isSame_15 x y w ⟨h0, h1, h2, h3, h4, h5, h6, h7, h8, h9, h10, h11, h12, h13, h14⟩).mono ?_
  rintro e w' ⟨rfl, hb⟩
  exact ⟨true, rfl, ⟨fun _ => ⟨h0, h1, h2, h3, h4, h5, h6, h7, h8, h9, h10, h11, h12, h13, h14⟩, fun _ => rfl⟩, hb⟩
end Go.Proofs.Ytfldcddbmikfiaa

/- trothref01.Same tells whether two slices read as the same bytes, and writes nothing. -/
namespace Go.Proofs.Ytfldcddbmikfiaa
open Go.RowKit

theorem take_one_more {l l' : List Int} {k : Nat} (h : l.take k = l'.take k) (hk : k < l.length) (hk' : k < l'.length) (he : l.getD k 0 = l'.getD k 0) : l.take (k + 1) = l'.take (k + 1) := by
  rw [List.take_succ_eq_append_getElem hk, List.take_succ_eq_append_getElem hk', h]
  simp [List.getD, List.getElem?_eq_getElem hk, List.getElem?_eq_getElem hk'] at he
  rw [he]

theorem same_ne {l l' : List Int} {k : Nat} (he : l.getD k 0 ≠ l'.getD k 0) : decide (l = l') = false := by
  simp only [decide_eq_false_iff_not]
  intro e
  rw [e] at he
  exact he rfl

theorem same_all {l l' : List Int} {n : Nat} (hl : l.length = n) (hl' : l'.length = n) (h : l.take n = l'.take n) : decide (l = l') = true := by
  simp only [decide_eq_true_eq]
  rwa [List.take_of_length_le (by omega), List.take_of_length_le (by omega)] at h

set_option maxHeartbeats 800000 in
theorem same_rows (g off n c g' off' c' : Nat) (l l' : List Int) (w : World) (h : Byt w (some ⟨g, off, none⟩) n c l) (h' : Byt w (some ⟨g', off', none⟩) n c' l') (hn : 0 < n) :
    Calls Try.prog 12 #[.slice (some ⟨g, off, none⟩) n c, .slice (some ⟨g', off', none⟩) n c'] w (Quiet (.bool (decide (l = l'))) w) := by
  have hc0 : ∀ i, i < n → w.cell? ⟨g, off + i, none⟩ = some (.int .u8 (l.getD i 0)) := by
    obtain ⟨g1, o1, e, hc⟩ := h.at_ hn
    injection e with e; injection e with e1 e2; subst e1; subst e2
    exact hc
  have hc1 : ∀ i, i < n → w.cell? ⟨g', off' + i, none⟩ = some (.int .u8 (l'.getD i 0)) := by
    obtain ⟨g1, o1, e, hc⟩ := h'.at_ hn
    injection e with e; injection e with e1 e2; subst e1; subst e2
    exact hc
  have hcap := h.cap
  have hmax := h.max
  unfold maxLen at hmax
  have HL := Lib.hid h.len
  have HL' := Lib.hid h'.len
  have HC0 := Lib.hid hc0
  have HC1 := Lib.hid hc1
  clear hc0 hc1 h h'
  go_enter Try.func12, Try.ntmps12
  go_wp2
  go_loopw [5] (fun i wr => ∃ k : Nat, k ≤ n ∧ i = .int .i64 k ∧ l.take k = l'.take k ∧ ∃ m, wr = w.drewN m) (fun i _ => n - (intOf i).toNat)
  case atStart => exact ⟨0, Nat.zero_le _, rfl, rfl, 0, rfl⟩
  case round =>
    obtain ⟨k, hk, rfl, htk, m, rfl⟩ := hrel
    have HT := Lib.hid htk
    clear htk
    by_cases hlt : k < n
    · have hx := HC0.out k hlt
      have hy := HC1.out k hlt
      have H1 := Lib.hid (take_one_more HT.out (by rw [HL.out]; exact hlt) (by rw [HL'.out]; exact hlt))
      have H2 := Lib.hid (@same_ne l l' k)
      obtain ⟨x, ex⟩ : ∃ x, x = l.getD k 0 := ⟨_, rfl⟩
      obtain ⟨y, ey⟩ : ∃ y, y = l'.getD k 0 := ⟨_, rfl⟩
      rw [← ex] at hx H1 H2
      rw [← ey] at hy H1 H2
      clear ex ey
      go_wp2
      go_quiet (fail)
      go_wp2
      · have hne : (x != y) = true := by assumption
        have e := H2.out (by simpa using hne)
        go_ret
        exact ⟨by rw [e]; rfl, _, World.drewN_drewN _ _ _⟩
      · have heq : (x != y) = false := by assumption
        have e := H1.out (by simpa using heq)
        go_roundw
        case rel => exact ⟨k + 1, by omega, by go_num, e, _, rfl⟩
        case measure => simp [intOf]; omega
    · have hkn : k = n := by omega
      subst hkn
      go_wp2
      have e := same_all HL.out HL'.out HT.out
      go_ret
      exact ⟨by rw [e]; rfl, _, rfl⟩

theorem same_any (A : Option Addr) (n c : Nat) (A' : Option Addr) (n' c' : Nat) (l l' : List Int) (w : World) (h : Byt w A n c l) (h' : Byt w A' n' c' l') :
    Calls Try.prog 12 #[.slice A n c, .slice A' n' c'] w (Quiet (.bool (decide (l = l'))) w) := by
  by_cases hnn : n = n'
  · subst hnn
    by_cases hn : 0 < n
    · obtain ⟨g, off, rfl, _⟩ := h.at_ hn
      obtain ⟨g', off', rfl, _⟩ := h'.at_ hn
      exact same_rows g off n c g' off' c' l l' w h h' hn
    · have h0 : n = 0 := by omega
      subst h0
      have e : l = [] := List.eq_nil_of_length_eq_zero h.len
      have e' : l' = [] := List.eq_nil_of_length_eq_zero h'.len
      subst e e'
      clear h h' hn
      go_enter Try.func12, Try.ntmps12
      go_wp2
      refine wp_loop_rounds 1 ?_
      rw [rounds_succ]
      go_wp2
      go_ret
      exact ⟨rfl, 0, rfl⟩
  · have hd : decide (l = l') = false := by
      simp only [decide_eq_false_iff_not]
      intro e
      exact hnn (by rw [← h.len, ← h'.len, e])
    have HD := Lib.hid hd
    have hne : ((n : Int) != (n' : Int)) = true := by simp; omega
    clear hd h h' hnn
    go_enter Try.func12, Try.ntmps12
    go_wp2
    go_ret
    exact ⟨by rw [HD.out]; rfl, 0, rfl⟩

theorem same_yes (A : Option Addr) (n c : Nat) (A' : Option Addr) (n' c' : Nat) (l l' : List Int) (w : World) (h : Byt w A n c l) (h' : Byt w A' n' c' l') (e : l = l') :
    Calls Try.prog 12 #[.slice A n c, .slice A' n' c'] w (Quiet (.bool true) w) := by
  have := same_any A n c A' n' c' l l' w h h'
  rw [show decide (l = l') = true from by simp [e]] at this
  exact this

theorem same_no (A : Option Addr) (n c : Nat) (A' : Option Addr) (n' c' : Nat) (l l' : List Int) (w : World) (h : Byt w A n c l) (h' : Byt w A' n' c' l') (e : l ≠ l') :
    Calls Try.prog 12 #[.slice A n c, .slice A' n' c'] w (Quiet (.bool false) w) := by
  have := same_any A n c A' n' c' l l' w h h'
  rw [show decide (l = l') = false from by simp [e]] at this
  exact this
end Go.Proofs.Ytfldcddbmikfiaa

/- the statements' example: the record of six, five, three. -/
namespace Go.Proofs.Ytfldcddbmikfiaa
open Go.RowKit
def xEx : Xr := ⟨6, 5, 3, 0, ⟨#[]⟩, ⟨false, ⟨#[]⟩⟩, ⟨false, ⟨#[]⟩⟩, 0, none, 0, 0, [], none, 0, 0, [], none, 0, 0, [], none, 0, 0, [], none, 0, 0, [], none, 0, 0, []⟩
theorem num_one (n : Nat) (h : n < 128) : numL (n : Int) = [(n : Int)] := by
  rw [numL_nat]
  unfold shortL
  rw [show n / 128 = 0 by omega, hiD_zero]
  simp; omega
theorem xEx_rc : rcL xEx.read = [6, 5, 3] := by
  show numL ((6 : Nat) : Int) ++ (numL ((5 : Nat) : Int) ++ numL ((3 : Nat) : Int)) = _
  rw [num_one 6 (by omega), num_one 5 (by omega), num_one 3 (by omega)]
  rfl
theorem xEx_ok : xEx.read.ok := (ok_iff _).1 ⟨⟨by decide, by decide⟩, by
  show (spE 6).ok xEx.read
  exact ⟨⟨by decide, by decide⟩, ⟨by decide, by decide⟩⟩, rfl⟩
theorem xEx_encE : encE xEx.read = 0 := encE_ok xEx_ok (by rw [xEx_rc]; decide)
theorem xEx_encB : encB xEx.read = [6, 5, 3] := by unfold encB; rw [xEx_encE, if_pos rfl, xEx_rc]
theorem xEx_in (H : Nat) (w : World) : XrIn H w xEx :=
  ⟨i64_of _ rfl, i64_of _ rfl, i64_of _ rfl, i64_of _ rfl, Nat.zero_le _, Nat.zero_le _, Nat.zero_le _, i64_of _ rfl, Sl.nil _ _ _, Sl.nil _ _ _, Sl.nil _ _ _, Sl.nil _ _ _, Sl.nil _ _ _, Sl.nil _ _ _⟩

set_option maxRecDepth 100000 in
set_option maxHeartbeats 4000000 in
theorem awake_any (w : World) : Calls Try.prog 6 #[] w (Ret (.bool true) w) := by
  have CE := recEncode_any isSame_all xEx w (xEx_in _ _)
  rw [xEx_encE, xEx_encB] at CE
  unfold xEx Xr.val at CE
  simp only at CE
  have CE := Lib.hid CE
  go_enter Try.func6, Try.ntmps6
  go_wp2_with fail
  refine CE.out.mono ?_
  rintro e w1 ⟨A, n, c, rfl, ho, hr, hb⟩
  have CS := Lib.hid (same_yes A n c (some ⟨w1.heap.size, 0, none⟩) 3 3 [6, 5, 3] [6, 5, 3] (w1.alloc (.cells #[.int .u8 6, .int .u8 5, .int .u8 3] 5)) ((Byt.of_own ho hr).below ((Below.refl _ _).alloc (Nat.le_refl _) _)) (Byt.lit w1 5 [6, 5, 3] 3 rfl (by unfold maxLen; omega) (by intro x hx; simp at hx; omega)) rfl)
  have B1 := Lib.hid (hb.alloc hb.size (.cells #[.int .u8 6, .int .u8 5, .int .u8 3] 5))
  clear ho hr hb CE
  go_wp2_with fail
  refine CS.out.mono ?_
  rintro e w2 ⟨rfl, m, rfl⟩
  have R := Lib.hid (below_drewN B1.out m)
  go_wp2_with fail
  go_ret
  exact ⟨rfl, R.out⟩
end Go.Proofs.Ytfldcddbmikfiaa

/- trothref07.SameInts and sameLocks say yes of lists that read as the same. -/
namespace Go.Proofs.Ytfldcddbmikfiaa
open Go.RowKit
set_option maxHeartbeats 1000000 in
theorem sameInts_yes (A : Option Addr) (n c : Nat) (A' : Option Addr) (n' c' H H' : Nat) (l : List Int) (w : World) (h : Sl elI H w A n c l) (h' : Sl elI H' w A' n' c' l) :
    Calls Try.prog 43 #[.slice A n c, .slice A' n' c'] w (Quiet (.bool true) w) := by
  obtain rfl : n = n' := by rw [← h.len, ← h'.len]
  by_cases hn : 0 < n
  · obtain ⟨g, off, rfl, _, hr⟩ := h.at_ hn
    obtain ⟨g', off', rfl, _, hr'⟩ := h'.at_ hn
    have hc0 : ∀ i, i < n → w.cell? ⟨g, off + i, none⟩ = some (.int .i64 (l.getD i default)) := fun i hi => by have := hr i hi 0 _ rfl; simpa [elI] using this
    have hc1 : ∀ i, i < n → w.cell? ⟨g', off' + i, none⟩ = some (.int .i64 (l.getD i default)) := fun i hi => by have := hr' i hi 0 _ rfl; simpa [elI] using this
    have hcap := h.cap
    have hmax := h.max
    unfold maxLen at hmax
    have HC0 := Lib.hid hc0
    have HC1 := Lib.hid hc1
    clear hc0 hc1 h h' hr hr'
    go_enter Try.func43, Try.ntmps43
    go_wp2
    go_loopw [5] (fun i wr => ∃ k : Nat, k ≤ n ∧ i = .int .i64 k ∧ ∃ m, wr = w.drewN m) (fun i _ => n - (intOf i).toNat)
    case atStart => exact ⟨0, Nat.zero_le _, rfl, 0, rfl⟩
    case round =>
      obtain ⟨k, hk, rfl, m, rfl⟩ := hrel
      by_cases hlt : k < n
      · have hx := HC0.out k hlt
        have hy := HC1.out k hlt
        obtain ⟨x, ex⟩ : ∃ x, x = l.getD k default := ⟨_, rfl⟩
        rw [← ex] at hx hy
        clear ex
        go_wp2
        go_quiet (fail)
        go_wp2
        go_roundw
        case rel => exact ⟨k + 1, by omega, by go_num, _, rfl⟩
        case measure => simp [intOf]; omega
      · have hkn : k = n := by omega
        subst hkn
        go_wp2
        go_ret
        exact ⟨rfl, _, rfl⟩
  · have h0 : n = 0 := by omega
    subst h0
    clear h h' hn
    go_enter Try.func43, Try.ntmps43
    go_wp2
    refine wp_loop_rounds 1 ?_
    rw [rounds_succ]
    go_wp2
    go_ret
    exact ⟨rfl, 0, rfl⟩

set_option maxHeartbeats 2000000 in
theorem sameLocks_yes (A : Option Addr) (n c : Nat) (A' : Option Addr) (n' c' H H' : Nat) (l : List Lk) (w : World) (h : Sl elL H w A n c l) (h' : Sl elL H' w A' n' c' l) :
    Calls Try.prog 44 #[.slice A n c, .slice A' n' c'] w (Quiet (.bool true) w) := by
  obtain rfl : n = n' := by rw [← h.len, ← h'.len]
  by_cases hn : 0 < n
  · obtain ⟨g, off, rfl, _, hr⟩ := h.at_ hn
    obtain ⟨g', off', rfl, _, hr'⟩ := h'.at_ hn
    have hcap := h.cap
    have hmax := h.max
    unfold maxLen at hmax
    have HC0 : Hid (∀ i, i < n → w.cell? ⟨g, off + i * 2, none⟩ = some (.string (l.getD i default).key) ∧ w.cell? ⟨g, off + i * 2 + 1, none⟩ = some (.bool (l.getD i default).x)) := Lib.hid (fun i hi => ⟨hr i hi 0 _ rfl, hr i hi 1 _ rfl⟩)
    have HC1 : Hid (∀ i, i < n → w.cell? ⟨g', off' + i * 2, none⟩ = some (.string (l.getD i default).key) ∧ w.cell? ⟨g', off' + i * 2 + 1, none⟩ = some (.bool (l.getD i default).x)) := Lib.hid (fun i hi => ⟨hr' i hi 0 _ rfl, hr' i hi 1 _ rfl⟩)
    clear h h' hr hr'
    go_enter Try.func44, Try.ntmps44
    go_wp2
    go_loopw [5] (fun i wr => ∃ k : Nat, k ≤ n ∧ i = .int .i64 k ∧ ∃ m, wr = w.drewN m) (fun i _ => n - (intOf i).toNat)
    case atStart => exact ⟨0, Nat.zero_le _, rfl, 0, rfl⟩
    case round =>
      obtain ⟨k, hk, rfl, m, rfl⟩ := hrel
      by_cases hlt : k < n
      · obtain ⟨hx0, hx1⟩ := HC0.out k hlt
        obtain ⟨hy0, hy1⟩ := HC1.out k hlt
        obtain ⟨x, ex⟩ : ∃ x, x = (l.getD k default).key := ⟨_, rfl⟩
        obtain ⟨z, ez⟩ : ∃ z, z = (l.getD k default).x := ⟨_, rfl⟩
        rw [← ex] at hx0 hy0
        rw [← ez] at hx1 hy1
        clear ex ez
        go_wp2
        go_quiet (fail)
        go_wp2
        go_roundw
        case rel => exact ⟨k + 1, by omega, by go_num, _, rfl⟩
        case measure => simp [intOf]; omega
      · have hkn : k = n := by omega
        subst hkn
        go_wp2
        go_ret
        exact ⟨rfl, _, rfl⟩
  · have h0 : n = 0 := by omega
    subst h0
    clear h h' hn
    go_enter Try.func44, Try.ntmps44
    go_wp2
    refine wp_loop_rounds 1 ?_
    rw [rounds_succ]
    go_wp2
    go_ret
    exact ⟨rfl, 0, rfl⟩
end Go.Proofs.Ytfldcddbmikfiaa

/- trothref07.SameRow says yes of rows that read as the same. -/
namespace Go.Proofs.Ytfldcddbmikfiaa
open Go.RowKit
theorem calm_drewN (H : Nat) (w : World) (m : Nat) : Calm H w (w.drewN m) := ⟨rfl, rfl, rfl, Nat.le_refl _, fun _ _ _ => rfl⟩
set_option maxRecDepth 100000 in
set_option maxHeartbeats 4000000 in
theorem sameRow_yes (x y : Xw) (H H' : Nat) (w : World) (hx : XwIn H w x) (hy : XwIn H' w y) (e : x.row = y.row) :
    Calls Try.prog 65 #[.agg (elR.cells x).toArray, .agg (elR.cells y).toArray] w (fun e w' => e = .returned (.bool true) ∧ Below w.heap.size w w') := by
  obtain ⟨tx, st, fi, la, un, co, mA, mn, mc, mem, kA, kn, kc, lks⟩ := x
  obtain ⟨tx', st', fi', la', un', co', mA', mn', mc', mem', kA', kn', kc', lks'⟩ := y
  obtain rfl : tx = tx' := congrArg Rw.tx e
  obtain rfl : st = st' := congrArg Rw.st e
  obtain rfl : fi = fi' := congrArg Rw.fi e
  obtain rfl : la = la' := congrArg Rw.la e
  obtain rfl : un = un' := congrArg Rw.un e
  obtain rfl : co = co' := congrArg Rw.co e
  obtain rfl : mem = mem' := congrArg Rw.mem e
  obtain rfl : lks = lks' := congrArg Rw.lks e
  clear e
  show Calls _ _ #[.agg #[.int .i64 tx, .int .i64 st, .int .i64 fi, .int .i64 la, .int .i64 un, .int .i64 co, .slice mA mn mc, .slice kA kn kc], .agg #[.int .i64 tx, .int .i64 st, .int .i64 fi, .int .i64 la, .int .i64 un, .int .i64 co, .slice mA' mn' mc', .slice kA' kn' kc']] w _
  obtain ⟨r, hrr⟩ : ∃ r, w.heap.size = r := ⟨_, rfl⟩
  obtain ⟨W1, hW1⟩ : ∃ W1, W1 = (w.alloc (.cells #[.int .i64 tx, .int .i64 st, .int .i64 fi, .int .i64 la, .int .i64 un, .int .i64 co, .slice mA mn mc, .slice kA kn kc] 51)).alloc (.cells #[.int .i64 tx, .int .i64 st, .int .i64 fi, .int .i64 la, .int .i64 un, .int .i64 co, .slice mA' mn' mc', .slice kA' kn' kc'] 51) := ⟨_, rfl⟩
  have hb : Below w.heap.size w W1 := by rw [hW1]; exact ((Below.refl _ _).alloc (Nat.le_refl _) _).alloc (by simp) _
  have V0 : Bk W1 r 51 #[.int .i64 tx, .int .i64 st, .int .i64 fi, .int .i64 la, .int .i64 un, .int .i64 co, .slice mA mn mc, .slice kA kn kc] := by rw [hW1, ← hrr]; exact (Bk.new w _ _).bel ((Below.refl _ _).alloc (Nat.le_refl _) _) (by simp)
  have V1 : Bk W1 (r + 1) 51 #[.int .i64 tx, .int .i64 st, .int .i64 fi, .int .i64 la, .int .i64 un, .int .i64 co, .slice mA' mn' mc', .slice kA' kn' kc'] := by
    rw [hW1, ← hrr]
    have := Bk.new (w.alloc (.cells #[.int .i64 tx, .int .i64 st, .int .i64 fi, .int .i64 la, .int .i64 un, .int .i64 co, .slice mA mn mc, .slice kA kn kc] 51)) 51 #[.int .i64 tx, .int .i64 st, .int .i64 fi, .int .i64 la, .int .i64 un, .int .i64 co, .slice mA' mn' mc', .slice kA' kn' kc']
    rw [World.size_alloc] at this
    exact this
  have a0 : W1.cell? ⟨r, 0, none⟩ = some (.int .i64 tx) := V0.cell 0
  have a1 : W1.cell? ⟨r, 1, none⟩ = some (.int .i64 st) := V0.cell 1
  have a2 : W1.cell? ⟨r, 2, none⟩ = some (.int .i64 fi) := V0.cell 2
  have a3 : W1.cell? ⟨r, 3, none⟩ = some (.int .i64 la) := V0.cell 3
  have a4 : W1.cell? ⟨r, 4, none⟩ = some (.int .i64 un) := V0.cell 4
  have a5 : W1.cell? ⟨r, 5, none⟩ = some (.int .i64 co) := V0.cell 5
  have a6 : W1.cell? ⟨r, 6, none⟩ = some (.slice mA mn mc) := V0.cell 6
  have a7 : W1.cell? ⟨r, 7, none⟩ = some (.slice kA kn kc) := V0.cell 7
  have b0 : W1.cell? ⟨r + 1, 0, none⟩ = some (.int .i64 tx) := V1.cell 0
  have b1 : W1.cell? ⟨r + 1, 1, none⟩ = some (.int .i64 st) := V1.cell 1
  have b2 : W1.cell? ⟨r + 1, 2, none⟩ = some (.int .i64 fi) := V1.cell 2
  have b3 : W1.cell? ⟨r + 1, 3, none⟩ = some (.int .i64 la) := V1.cell 3
  have b4 : W1.cell? ⟨r + 1, 4, none⟩ = some (.int .i64 un) := V1.cell 4
  have b5 : W1.cell? ⟨r + 1, 5, none⟩ = some (.int .i64 co) := V1.cell 5
  have b6 : W1.cell? ⟨r + 1, 6, none⟩ = some (.slice mA' mn' mc') := V1.cell 6
  have b7 : W1.cell? ⟨r + 1, 7, none⟩ = some (.slice kA' kn' kc') := V1.cell 7
  have CI := Lib.hid (sameInts_yes mA mn mc mA' mn' mc' H H' mem W1 (hx.mem.calm (Calm.of_below hb)) (hy.mem.calm (Calm.of_below hb)))
  have CL := Lib.hid (fun m => sameLocks_yes kA kn kc kA' kn' kc' H H' lks (W1.drewN m) ((hx.lks.calm (Calm.of_below hb)).calm (calm_drewN H W1 m)) ((hy.lks.calm (Calm.of_below hb)).calm (calm_drewN H' W1 m)))
  have HB := Lib.hid hb
  have HW := Lib.hid hW1
  clear hx hy hb hW1 V0 V1
  go_enter Try.func65, Try.ntmps65
  go_upto_region 1 with fail
  (try rw [hrr])
  rw [← HW.out]
  clear HW hrr
  go_wp2_with fail
  refine CI.out.mono ?_
  rintro e w2 ⟨rfl, m, rfl⟩
  go_wp2_with fail
  refine (CL.out m).mono ?_
  rintro e w3 ⟨rfl, m2, rfl⟩
  have R : Hid (Below w.heap.size w (W1.drewN (m + m2))) := Lib.hid (HB.out.trans (below_drewN (Below.refl _ _) _))
  go_wp2_with fail
  go_ret
  exact ⟨rfl, R.out⟩
end Go.Proofs.Ytfldcddbmikfiaa

/- 'append' of a slice of elements onto a row of one's own; such a row as a slice. -/
namespace Go.Proofs.Ytfldcddbmikfiaa
open Go.RowKit

/-- What an append onto a row of one's own leaves. -/
structure Apd {α : Type} (E : El α) (base : Nat) (w w' : World) (row : Option Nat) (A : Option Addr) (n c : Nat) (l : List α) : Prop where
  own : w'.ownsRow base E.ty E.size (.slice A n c) n (l.flatMap E.cells)
  grown : w.grownBy w' row

theorem append_nocap {P : Program} {w : World} (base : Nat) (t ty e : TypeId) (i : TypeInfo) (size : Nat) (ht : P.underlying t = some (.slice e)) (hi : P.info? e = some i)
    (v : Value) (n c : Nat) (xs : List Value) (hown : w.ownsRow base e size v n xs) : (Builtin.append_ #[t, t] ty #[v, .slice none 0 c]).run P w = .ok v w := by
  rcases hown.2 with ⟨rfl, rfl⟩ | ⟨g, cap, cur, rfl, _, _, hnc, _⟩
  · simp [Builtin.append_, run_underlying ht, sizeOf, typeInfo, hi, Builtin.lenOf, Builtin.firstCells]
  · simp [Builtin.append_, run_underlying ht, sizeOf, typeInfo, hi, Builtin.lenOf, Builtin.firstCells, hnc, storeCells]

/-- Whether something old may be taken. -/
abbrev iP (o : Prop) : Inhabited Prop := ⟨o⟩
section
variable {α : Type} [Inhabited α] {E : El α} {H : Nat}
theorem Sl.news {w : World} {ad : Addr} {n c : Nat} {l : List α} (h : Sl E H w (some ad) n c l) : ∀ j u, (l.flatMap E.cells)[j]? = some u → w.cell? (ad.add j) = some u := by
  intro j v hv
  have hj : j < n * E.size := by rw [← h.len, ← flat_len]; exact (List.getElem?_eq_some_iff.1 hv).1
  have hi : j / E.size < n := Nat.div_lt_of_lt_mul (by rw [Nat.mul_comm]; exact hj)
  have hr : j % E.size < E.size := Nat.mod_lt _ E.pos
  obtain ⟨d, hd'⟩ : ∃ d, j / E.size = d := ⟨_, rfl⟩
  obtain ⟨r, hr'⟩ : ∃ r, j % E.size = r := ⟨_, rfl⟩
  have e : j = d * E.size + r := by rw [← hd', ← hr', Nat.mul_comm]; exact (Nat.div_add_mod j E.size).symm
  rw [hd'] at hi
  rw [hr'] at hr
  obtain ⟨g', off, e1, _, hc⟩ := h.at_ (by omega)
  injection e1 with e1
  subst e1
  rw [e, flat_get E _ _ _ (by rw [h.len]; exact hi) hr] at hv
  have := hc d hi r v hv
  rw [Addr.add_mid, ← this, e]
  congr 2
  omega

theorem own_slice {w : World} {base n : Nat} {e : TypeId} {size : Nat} {v : Value} {xs : List Value} (h : w.ownsRow base e size v n xs) : ∃ A c, v = .slice A n c := by
  rcases h.2 with ⟨h1, h2⟩ | ⟨g, cap, _, h1, _⟩
  · subst h2; exact ⟨none, 0, h1⟩
  · exact ⟨_, _, h1⟩

theorem wp_append_sl {P : Program} {w : World} {o : Oper} {a : Act} {K : Act → World → Prop} {Q : Exit → Act → World → Prop} (s x : Operand) (t : TypeId)
    (ho : o.op = .call { callee := .builtin .append, args := #[s, x], argTypes := #[t, t] }) (base : Nat) (i : TypeInfo) (z : Value) (bytes : Nat) (ht : P.underlying t = some (.slice E.ty)) (hi : P.info? E.ty = some i) (hz : i.zero = some z)
    (hsize : i.size = E.size) (hby : i.bytes = bytes) (hzs : z.cells.size = E.size) {v : Value} {k : Nat} {xs : List α} (hs : a.eval s = v) (hown : w.ownsRow base E.ty E.size v k (xs.flatMap E.cells))
    {A : Option Addr} {n c : Nat} {l : List α} (hx : a.eval x = .slice A n c) (hl : Sl E H w A n c l) (hk : k + n ≤ 100000) (hbb : bytes ≤ 1000) (hbase : base ≤ w.heap.size)
    (h : ∀ A' c' w', Hid (Apd E base w w' v.ownBlock A' (k + n) c' (xs ++ l)) → K (a.put o.dst (.slice A' (k + n) c')) w') : o.wp P a w K Q := by
  cases A with
  | none =>
    obtain ⟨rfl, rfl⟩ := hl.nil_ rfl
    obtain rfl := hl.none_
    have hrun := append_nocap (P := P) (w := w) base t o.type E.ty i E.size ht hi v k 0 _ hown
    obtain ⟨A', c', rfl⟩ := own_slice hown
    have h' := h A' c' w (Lib.hid ⟨by simpa using hown, World.grownBy.refl w _⟩)
    simp only [Nat.add_zero] at h'
    unfold Oper.wp
    simp only [execOp, ho, resolve, invoke, builtin, List.map_toArray, List.map_cons, List.map_nil, hs, hx, Sem.run_bind, Sem.run_pure, Result.andThen_ok, hrun]
    exact h'
  | some ad =>
    have hbt : (k + n) * bytes ≤ 140737488355328 := Nat.le_trans (Nat.mul_le_mul hk hbb) (by omega)
    refine wp_append_own w s x t ho base E.ty i z E.size bytes ht hi hz hsize hby hzs E.pos v k _ hs hown ad n c (l.flatMap E.cells) hx (by rw [flat_len, hl.len]) hl.news (flat_one E l) (by unfold maxLen; omega) hbt hbase ?_
    intro v' w' h1 h2 _
    obtain ⟨A', c', rfl⟩ := own_slice h1
    exact h A' c' w' (Lib.hid ⟨by rw [List.flatMap_append]; exact h1, h2⟩)

theorem wpList_append_sl {P : Program} {w : World} {ops : Array Oper} {rest : List Oper} {o : Oper} {a : Act} {Q : Exit → Act → World → Prop} (hgd : o.guard = none) (s x : Operand) (t : TypeId)
    (ho : o.op = .call { callee := .builtin .append, args := #[s, x], argTypes := #[t, t] }) (base : Nat) (i : TypeInfo) (z : Value) (bytes : Nat) (ht : P.underlying t = some (.slice E.ty)) (hi : P.info? E.ty = some i) (hz : i.zero = some z)
    (hsize : i.size = E.size) (hby : i.bytes = bytes) (hzs : z.cells.size = E.size) {v : Value} {k : Nat} {xs : List α} (hs : a.eval s = v) (hown : w.ownsRow base E.ty E.size v k (xs.flatMap E.cells))
    {A : Option Addr} {n c : Nat} {l : List α} (hx : a.eval x = .slice A n c) (hl : Sl E H w A n c l) (hk : k + n ≤ 100000) (hbb : bytes ≤ 1000) (hbase : base ≤ w.heap.size)
    (h : ∀ A' c' w', Hid (Apd E base w w' v.ownBlock A' (k + n) c' (xs ++ l)) → wpList P ops Q rest (a.put o.dst (.slice A' (k + n) c')) w') : wpList P ops Q (o :: rest) a w :=
  wpList_plain hgd fun _ hK => wp_append_sl s x t ho base i z bytes ht hi hz hsize hby hzs hs hown hx hl hk hbb hbase fun A' c' w' h1 => hK _ _ (h A' c' w' h1)

/-- A row of one's own, as a slice. -/
theorem Sl.of_ownI {_ : Inhabited Prop} {w : World} {base : Nat} {A : Option Addr} {n c : Nat} {l : List α} (h : w.ownsRow base E.ty E.size (.slice A n c) n (l.flatMap E.cells)) (hH : H ≤ base) (hl : l.length = n) (he : ∀ x ∈ l, E.inn H w x) : Sl E H w A n c l := by
  rcases h.2 with ⟨hv, h0⟩ | ⟨g, cap, cur, hv, hb, hg, h1, h2, h3, h4⟩
  · injection hv with e1 e2 e3
    subst e1 e2 e3
    obtain rfl := List.eq_nil_of_length_eq_zero hl
    exact Sl.nil E H w
  · injection hv with e1 e2 e3
    subst e1 e3
    refine ⟨hl, h1, h2, (fun q => nomatch q), he, fun _ => ⟨g, 0, rfl, ⟨(Array.getElem?_eq_some_iff.1 hg).1, .inr ⟨Nat.le_trans hH hb, cur, hg⟩, .inr ⟨cur, _, hg⟩⟩, fun i hi j v hv => ?_⟩⟩
    have hj : j < E.size := by rw [← E.len (l.getD i default)]; exact (List.getElem?_eq_some_iff.1 hv).1
    have e : (l.flatMap E.cells)[i * E.size + j]? = some v := by rw [flat_get E l i j (by omega) hj]; exact hv
    have := h.cells (g := g) rfl (i * E.size + j) v e
    rw [Addr.add_mid] at this
    rw [Nat.zero_add]
    simpa using this
theorem Sl.of_ownO (o : Prop) {w : World} {base : Nat} {A : Option Addr} {n c : Nat} {l : List α} (h : w.ownsRow base E.ty E.size (.slice A n c) n (l.flatMap E.cells)) (hH : H ≤ base) (hl : l.length = n) (he : ∀ x ∈ l, E.inn H w x) : @Sl (iP o) _ _ E H w A n c l := Sl.of_ownI h hH hl he
theorem Sl.of_own {w : World} {base : Nat} {A : Option Addr} {n c : Nat} {l : List α} (h : w.ownsRow base E.ty E.size (.slice A n c) n (l.flatMap E.cells)) (hl : l.length = n) (he : ∀ x ∈ l, E.inn H w x) : Sl E H w A n c l := by
  rcases h.2 with ⟨hv, h0⟩ | ⟨g, cap, cur, hv, hb, hg, h1, h2, h3, h4⟩
  · injection hv with e1 e2 e3
    subst e1 e2 e3
    obtain rfl := List.eq_nil_of_length_eq_zero hl
    exact Sl.nil E H w
  · injection hv with e1 e2 e3
    subst e1 e3
    refine ⟨hl, h1, h2, (fun q => nomatch q), he, fun _ => ⟨g, 0, rfl, ⟨(Array.getElem?_eq_some_iff.1 hg).1, .inl trivial, .inr ⟨cur, _, hg⟩⟩, fun i hi j v hv => ?_⟩⟩
    have hj : j < E.size := by rw [← E.len (l.getD i default)]; exact (List.getElem?_eq_some_iff.1 hv).1
    have e : (l.flatMap E.cells)[i * E.size + j]? = some v := by rw [flat_get E l i j (by omega) hj]; exact hv
    have := h.cells (g := g) rfl (i * E.size + j) v e
    rw [Addr.add_mid] at this
    rw [Nat.zero_add]
    simpa using this
theorem apd0 {w w' : World} {b k n c : Nat} {A : Option Addr} {l : List α} (h : Apd E b w w' (Value.ownBlock (.slice (some ⟨k, 0, none⟩) 0 0)) A (0 + n) c ([] ++ l)) : Apd E b w w' (some k) A n c l := by
  rw [Nat.zero_add] at h
  exact h
/-- 'x.f = append([]T{}, l..)': the variable's block, the new list, and what else is turned. -/
theorem cp_step {w1 w2 : World} {r j n : Nat} {t : TypeId} {C : Array Value} {A' : Option Addr} {c' : Nat} {l : List α} (hv : Bk w1 r t C) (ht : t ≠ E.ty) (hti : E.inner t = false) (hH : H ≤ r) (hl : l.length = n)
    (h : Apd E w1.heap.size (w1.alloc (.cells #[] E.ty)) w2 (some w1.heap.size) A' n c' l) (he : ∀ x ∈ l, E.inn H w1 x) :
    Bk (w2.setCell ⟨r, j, none⟩ (.slice A' n c')) r t (C.setIfInBounds j (.slice A' n c')) ∧ w1.grownBy (w2.setCell ⟨r, j, none⟩ (.slice A' n c')) (some r) ∧ Sl E H (w2.setCell ⟨r, j, none⟩ (.slice A' n c')) A' n c' l ∧ Bk w2 r t C := by
  have hb : Below w1.heap.size w1 w2 := ((Below.refl _ _).alloc (Nat.le_refl _) _).grown h.grown (by simp) (fun k hk => by injection hk with hk; omega)
  have h2 : Bk w2 r t C := hv.bel hb hv.lt
  have hs : Sl E H w2 A' n c' l := Sl.of_own h.own hl (fun x hx => E.calm H w1 w2 x (he x hx) (Calm.of_below hb))
  exact ⟨h2.setc j _, grown_trans ⟨hb.os, hb.tape, hb.output, hb.size, fun k hk _ => hb.block k hk⟩ (grown_set w2 r j _), hs.other hti ht h2 hH (grown_set w2 r j _), h2⟩
theorem cp_stepO (o : Prop) {w1 w2 : World} {r j n : Nat} {t : TypeId} {C : Array Value} {A' : Option Addr} {c' : Nat} {l : List α} (hv : Bk w1 r t C) (ht : t ≠ E.ty) (hti : E.inner t = false) (hH : H ≤ r) (hl : l.length = n)
    (h : Apd E w1.heap.size (w1.alloc (.cells #[] E.ty)) w2 (some w1.heap.size) A' n c' l) (he : ∀ x ∈ l, E.inn H w1 x) :
    Bk (w2.setCell ⟨r, j, none⟩ (.slice A' n c')) r t (C.setIfInBounds j (.slice A' n c')) ∧ w1.grownBy (w2.setCell ⟨r, j, none⟩ (.slice A' n c')) (some r) ∧ @Sl (iP o) _ _ E H (w2.setCell ⟨r, j, none⟩ (.slice A' n c')) A' n c' l ∧ Bk w2 r t C := by
  have hb : Below w1.heap.size w1 w2 := ((Below.refl _ _).alloc (Nat.le_refl _) _).grown h.grown (by simp) (fun k hk => by injection hk with hk; omega)
  have h2 : Bk w2 r t C := hv.bel hb hv.lt
  have hs : @Sl (iP o) _ _ E H w2 A' n c' l := Sl.of_ownO o h.own (Nat.le_trans hH (Nat.le_of_lt hv.lt)) hl (fun x hx => E.calm H w1 w2 x (he x hx) (Calm.of_below hb))
  exact ⟨h2.setc j _, grown_trans ⟨hb.os, hb.tape, hb.output, hb.size, fun k hk _ => hb.block k hk⟩ (grown_set w2 r j _), hs.other hti ht h2 hH (grown_set w2 r j _), h2⟩
end
/-- At the head of a loop that gathers copies of elements: k of them, in a row of one's own. -/
def GatRel {α β : Type} (E : El α) (rd : α → β) (W5 : World) (r : Nat) (xs : List α) (k : Nat) (A : Option Addr) (c : Nat) (wr : World) : Prop := ∃ ys : List α,
  wr.ownsRow W5.heap.size E.ty E.size (.slice A k c) k (ys.flatMap E.cells) ∧ ys.length = k ∧ ys.map rd = (xs.take k).map rd ∧ (∀ y ∈ ys, E.inn r wr y) ∧ Below W5.heap.size W5 wr
/-- One more. -/
theorem GatRel.next {α β : Type} [Inhabited α] {E : El α} {rd : α → β} {W5 wr we wf : World} {r k : Nat} {xs ys : List α} {A A' : Option Addr} {c c' : Nat} {z' : α} (hr : r ≤ W5.heap.size) (hi : E.inner E.ty = false) (hlen : ys.length = k) (hmap : ys.map rd = (xs.take k).map rd) (hin : ∀ y ∈ ys, E.inn r wr y) (hb : Below W5.heap.size W5 wr)
    (hbe : Below wr.heap.size wr we) (own : we.ownsRow W5.heap.size E.ty E.size (.slice A k c) k (ys.flatMap E.cells)) (hz : E.inn r we z') (hzr : rd z' = rd (xs.getD k default)) (hk : k < xs.length)
    (h : Apd E W5.heap.size we wf (Value.ownBlock (.slice A k c)) A' (k + 1) c' (ys ++ [z'])) : GatRel E rd W5 r xs (k + 1) A' c' wf := by
  have hbw : Below W5.heap.size W5 we := hb.trans (hbe.mono hb.size)
  refine ⟨ys ++ [z'], h.own, by simp [hlen], ?_, fun y hy => ?_, hbw.grown h.grown hbw.size (fun q hq => (own.lt q hq).1)⟩
  · have e : xs.take (k + 1) = xs.take k ++ [xs.getD k default] := by
      rw [List.take_succ]
      congr 1
      simp [List.getElem?_eq_getElem hk]
    rw [e, List.map_append, List.map_append, hmap]
    simp only [List.map_cons, List.map_nil, hzr]
  · have hy' : E.inn r we y := by
      rcases List.mem_append.1 hy with q | q
      · exact E.calm r wr we y (hin y q) (Calm.of_below hbe)
      · simp at q; rw [q]; exact hz
    rcases own.2 with ⟨hv, _⟩ | ⟨g, cap, cur, hv, hg, hgg, _⟩
    · injection hv with a
      subst a
      have : Calm r we wf := Calm.grown h.grown (fun q hq => by simp [Value.ownBlock] at hq)
      exact E.calm r we wf y hy' this
    · injection hv with a
      subst a
      exact E.apart r we wf y g E.ty cur _ hi hy' (by omega) hgg h.grown
end Go.Proofs.Ytfldcddbmikfiaa

/- master.numbers answers the five places of a record. -/
namespace Go.Proofs.Ytfldcddbmikfiaa
open Go.RowKit

/-- The five places of the record at block b. -/
def ptrs5 (b : Nat) : Value := .agg #[.pointer (some ⟨b, 0, none⟩), .pointer (some ⟨b, 1, none⟩), .pointer (some ⟨b, 2, none⟩), .pointer (some ⟨b, 3, none⟩), .pointer (some ⟨b, 4, none⟩)]

/-- 'a[i]' of an array of pointers by value. -/
theorem run_index_ptrs {P : Program} (w : World) (t e te : TypeId) (n : Nat) (cs : Array Value) (i : Nat) (v : Value) (hi : i < n) (hu : P.underlying t = some (.array n e)) (hue : P.underlying e = some (.pointer te)) (hs : (P.info? e).map (·.size) = some 1) (ha : cs[i]? = some v) :
    (Instr.index t (.agg cs) (.int .i64 (i : Int))).run P w = .ok v w := by
  cases hq : P.info? e with
  | none => simp [hq] at hs
  | some ie =>
    have h1 : ie.size = 1 := by simpa [hq] using hs
    have hsz : ∀ w, (sizeOf e).run P w = .ok 1 w := fun w => by simp [sizeOf, typeInfo, hq, h1]
    have hagg : ∀ w, (isAgg e).run P w = .ok false w := fun w => by simp [isAgg, Sem.run_bind, run_underlying hue w]
    have hc : (0 ≤ (i : Int) ∧ (i : Int) < ((n : Nat) : Int)) := by omega
    unfold Instr.index
    simp only [Sem.run_bind, asIntOf, Sem.run_pure, Result.andThen, run_underlying hu w]
    rw [if_pos hc]
    simp only [Sem.run_bind, hsz, Result.andThen, part, hagg, Int.toNat_natCast, Nat.mul_one, ha]
    simp
end Go.Proofs.Ytfldcddbmikfiaa

/- master.encode answers a record's bytes. -/
namespace Go.Proofs.Ytfldcddbmikfiaa
open Go.RowKit

/-- A record's cells. -/
def msC (m : Ms) : Array Value := #[.int .i64 m.gen, .int .i64 m.inc, .int .i64 m.first, .int .i64 m.lsn, .int .i64 m.chk]

end Go.Proofs.Ytfldcddbmikfiaa

/- master.decode answers the five numbers at the beginning of bytes, or the error. -/
namespace Go.Proofs.Ytfldcddbmikfiaa
open Go.RowKit

/-- A struct's cells and one number beside it. -/
theorem results_cellT {P : Program} {fn : Func} {p u : Tmp} {ty : TypeId} (h : fn.results = #[.cell p ty, .tmp u]) (tmps : Array Value) (w : World) (g : Nat) (t : TypeId) (cs : Array Value) (d : TypeDesc)
    (hp : tmps.getD p undef = .pointer (some ⟨g, 0, none⟩)) (hg : Bk w g t cs)
    (hu : P.underlying ty = some d) (hd : (match d with | .struct _ | .array _ _ => true | _ => false) = true) (hi : (P.info? ty).map (·.size) = some cs.size) :
    (results fn tmps).run P w = .ok (.tuple #[.agg cs, tmps.getD u undef]) w := by
  rw [results_cell_tmp h, hp]
  simp [asAddr, run_loadVar_row w g t ty cs (0, 0) d hg hu hd hi, Result.andThen]

theorem ms_one (x0 x1 x2 x3 x4 : Int) : (#[Value.int .i64 x0, .int .i64 x1, .int .i64 x2, .int .i64 x3, .int .i64 x4] : Array Value).all (·.oneCell') = true := by simp [Value.oneCell']
theorem Bk.later {w w' : World} {g : Nat} {t : TypeId} {cs : Array Value} (h : Bk w g t cs) (hb : Below w.heap.size w w') : Bk w' g t cs := h.bel hb h.lt
theorem Bk.row {w : World} {g : Nat} {t : TypeId} {old : Array Value} (h : Bk w g t old) (cs : Array Value) : Bk (w.setRow g cs) g t cs := setRow_heap w g old cs _ _ h

theorem rdNum_any (b g : Nat) (l : List Int) (e : Nat) (w : World) (h : Rd w 93 b g l e) :
    Calls Try.prog 67 #[.pointer (some ⟨b, 0, none⟩), .int .i64 1099511627776] w (RdPost 93 b g (rdL l e) (rdE l e) (.int .i64 (rdV l e)) w) := by
  have := rNum_any b g l e 1099511627776 w h (by omega) (numF l 1099511627776).1 (numF l 1099511627776).2.1 (numF l 1099511627776).2.2 rfl
  rw [rdV_step] at this
  exact this

end Go.Proofs.Ytfldcddbmikfiaa

/- rec.Decode answers as the document says, in plain mathematics. -/
namespace Go.Proofs.Ytfldcddbmikfiaa
open Go.RowKit
open Classical in
/-- What Decode answers of bytes. -/
noncomputable def decF (l : List Int) : Rc × Nat :=
  if 4096 < l.length then (rc0 0, 12) else if (decRc l).2 ≠ 0 then (rc0 0, (decRc l).2) else if (decRc l).1.ok then ((decRc l).1, 0) else (rc0 0, 11)

set_option maxHeartbeats 1000000 in
theorem read_rdt (A : Option Addr) (n c : Nat) (l : List Int) (w : World) (h : Byt w A n c l) (hn : n ≤ 140737488355328) (h0 : 0 < w.heap.size) :
    Calls Try.prog 31 #[.slice A n c] w (fun e w' => ∃ b g, e = .returned (.pointer (some ⟨b, 0, none⟩)) ∧ w.heap.size ≤ b ∧ Rdt w' b g l 0 ∧ Below w.heap.size w w') := by
  have C := Lib.hid (clone_all_own A n c l w h hn)
  clear h
  go_enter Try.func31, Try.ntmps31
  go_wp2_with fail
  refine C.out.mono ?_
  rintro e w1 ⟨A1, n1, c1, rfl, ho, hr, b1⟩
  have hb := Byt.of_own ho hr
  obtain ⟨g, hg, R⟩ := Rd.new 93 hb (by have := b1.size; omega)
  have hty : 0 < l.length → special (w1.alloc (.cells #[.slice A1 n1 c1, .int .i64 0] 93)) g := by
    intro hl
    obtain ⟨A', n', c', k1, k2, k3⟩ := R.ex
    have e0 := (Bk.new w1 93 #[.slice A1 n1 c1, .int .i64 0])
    have e1 : (#[.slice A' n' c', .int .i64 0] : Array Value) = #[.slice A1 n1 c1, .int .i64 0] := by
      have : some (Obj.cells #[.slice A' n' c', .int .i64 0] 93 (0, 0)) = some (Obj.cells #[.slice A1 n1 c1, .int .i64 0] 93 (0, 0)) := k1.symm.trans e0
      injection this with this
      injection this
    have e2 : Value.slice A' n' c' = .slice A1 n1 c1 := by
      have := congrArg (fun a : Array Value => a[0]?) e1
      simpa using this
    injection e2 with a1 a2 a3
    subst a1 a2 a3
    obtain ⟨g', off, q1, q2⟩ := hb.at_ (by rw [← hb.len]; exact hl)
    have e3 : g' = g := k3 (by rw [← hb.len]; exact hl) _ q1
    subst e3
    rcases ho.2 with ⟨hv, _⟩ | ⟨gg, cap, cur, hv, _, hgg, _⟩
    · rw [q1] at hv; injection hv with hv; cases hv
    · rw [q1] at hv
      injection hv with hv
      injection hv with hv
      injection hv with hv
      subst hv
      exact ⟨cur, _, _, (((Below.refl _ w1).alloc (Nat.le_refl _) _).block g' hg).trans hgg, rfl⟩
  have R := Lib.hid (show Rdt _ _ _ _ _ from ⟨R, hty⟩)
  have L := Lib.hid b1
  clear hb b1 hg ho hr hty
  go_wp2_with fail
  go_ret
  exact ⟨w1.heap.size, g, rfl, L.out.size, R.out, L.out.alloc L.out.size _⟩

/-- The record of a kind alone. -/
def xk (k : Int) : Xr := { xr0 with kind := k }
theorem xk_in [Inhabited Prop] (H : Nat) (w : World) (k : Int) (h : i64 k) : XrIn H w (xk k) :=
  ⟨h, i64_of _ rfl, i64_of _ rfl, i64_of _ rfl, Nat.zero_le _, Nat.zero_le _, Nat.zero_le _, i64_of _ rfl, Sl.nil _ _ _, Sl.nil _ _ _, Sl.nil _ _ _, Sl.nil _ _ _, Sl.nil _ _ _, Sl.nil _ _ _⟩

/-- How rec's reading and the document's hang together. -/
theorem dec_bad {l : List Int} {k : Int} {σ : Sg} (hp : pN (l, 0) = (k, σ)) (he : σ.2 = 0) (hk : ¬ (1 ≤ k ∧ k ≤ 10)) : decRc l = (rc0 0, 11) := by
  unfold decRc
  rw [hp, if_pos ⟨he, hk⟩]
theorem dec_err {l : List Int} {k : Int} {σ : Sg} (hp : pN (l, 0) = (k, σ)) (he : σ.2 ≠ 0) : (decRc l).2 = endS σ := by
  unfold decRc
  rw [hp, if_neg (fun h => he h.1)]
  show endS (restP (pN (l, 0)).1 (pN (l, 0)).2).2 = _
  rw [hp, (codec_rest k).stick σ he]
theorem dec_go {l : List Int} {k : Int} {σ : Sg} (hp : pN (l, 0) = (k, σ)) (hk : 1 ≤ k ∧ k ≤ 10) : decRc l = ((restP k σ).1, endS (restP k σ).2) := by
  unfold decRc
  rw [hp, if_neg (fun h => h.2 hk)]
  show ((restP (pN (l, 0)).1 (pN (l, 0)).2).1, endS (restP (pN (l, 0)).1 (pN (l, 0)).2).2) = _
  rw [hp]
theorem endE_endS (σ : Sg) : endE σ.1 σ.2 = endS σ := rfl
/-- A record that is read has nothing but what its kind has. -/
theorem rest_keep (k : Int) (hk : 1 ≤ k ∧ k ≤ 10) (l : List Int) (hl : ∀ y ∈ l, 0 ≤ y ∧ y < 256) (h : (restP k (l, 0)).2.2 = 0) : (restP k (l, 0)).1.kind = k ∧ (kindSp k).keep (restP k (l, 0)).1 = (restP k (l, 0)).1 := by
  have e := ((codec_rest k).exact l hl h).2
  have e1 := rdKind_kind hk e
  refine ⟨e1, ?_⟩
  obtain ⟨r, hr⟩ : ∃ r, (restP k (l, 0)).1 = r := ⟨_, rfl⟩
  rw [hr] at e e1 ⊢
  have vk : ∀ v : Vl, rdVl v → valSp.keep v = v := fun v q => val_keep q
  unfold rdKind at e
  unfold kindSp
  by_cases h1 : k = 1
  · rw [if_pos h1] at e ⊢
    obtain ⟨⟨⟨_, a⟩, b⟩, c⟩ := e
    show mkU ((((r.tx, r.prev), r.key), valSp.keep r.old), valSp.keep r.new) = r
    rw [vk _ a, vk _ b]; exact c
  rw [if_neg h1] at e ⊢
  by_cases h2 : k = 2
  · rw [if_pos h2] at e ⊢
    obtain ⟨⟨_, b⟩, c⟩ := e
    show mkC ((((r.tx, r.prev), r.next), r.key), valSp.keep r.new) = r
    rw [vk _ b]; exact c
  rw [if_neg h2] at e ⊢
  by_cases h3 : k = 3
  · rw [if_pos h3] at e ⊢; exact e.2
  rw [if_neg h3] at e ⊢
  by_cases h4 : k = 4 ∨ k = 5 ∨ k = 6
  · rw [if_pos h4] at e ⊢; exact e.2
  rw [if_neg h4] at e ⊢
  by_cases h7 : k = 7
  · rw [if_pos h7] at e ⊢; exact e.symm
  rw [if_neg h7] at e ⊢
  by_cases h8 : k = 8
  · rw [if_pos h8] at e ⊢; exact e.2
  rw [if_neg h8] at e ⊢
  by_cases h9 : k = 9
  · rw [if_pos h9] at e ⊢; exact e.2
  rw [if_neg h9] at e ⊢
  exact e.2
end Go.Proofs.Ytfldcddbmikfiaa
