/- What it says: contracts and plain mathematics that the laws' walks use, 5 of 5: each part's own remark says what; no condition. -/
import Derived.Test.YtfmfmdiegabobaaPa1
import Derived.Test.YtfmfmdiegabobaaPa4
import Derived.Test.YtfmfmdiegabobaaRows
import Derived.Deep.QuietTactic
import Derived.BigQuiet
import Derived.Laws.Tables
import Derived.Deep.CutRange

set_option linter.unusedSimpArgs false
set_option linter.unusedVariables false
set_option linter.deprecated false
set_option linter.unusedSectionVars false
set_option linter.all false
namespace Go.Proofs.Ytfmfmdiegabobaa

/- num.Fold answers what bytes are folded to. -/
section
open Go.RowKit
theorem mul31 (v : Nat) (hv : v < 18446744073709551616) : ∃ h l : Nat, h * 18446744073709551616 + l = v * 31 ∧ h ≤ 30 ∧ l < 18446744073709551616 ∧ ∀ w,
    Calls Try.prog 68 #[.int .u64 v, .int .u64 31] w (fun e w' => e = .returned (.tuple #[.int .u64 (h : Int), .int .u64 (l : Int)]) ∧ w = w') := by
  refine ⟨v * 31 / 18446744073709551616, v * 31 % 18446744073709551616, by omega, by omega, by omega, fun w => ?_⟩
  exact (mul64 v 31 hv (by omega) w).mono fun _ _ ⟨he, hw⟩ => ⟨he, hw.symm⟩
theorem addc (l c : Nat) (hl : l < 18446744073709551616) (hc : c < 256) : ∃ l2 k : Nat, k * 18446744073709551616 + l2 = l + c ∧ k ≤ 1 ∧ l2 < 18446744073709551616 ∧ ∀ w,
    (callFunc 69 #[.int .u64 (l : Int), .int .u64 (c : Int), .int .u64 0]).run Try.prog w = .ok (.value (.tuple #[.int .u64 (l2 : Int), .int .u64 (k : Int)])) w := by
  refine ⟨(l + c) % 18446744073709551616, (l + c) / 18446744073709551616, by omega, by omega, by omega, fun w => ?_⟩
  rw [add64 (l : Int) (c : Int) (by omega) (by omega) w]
  simp
theorem fold_sum {hg k lw l2 v x N : Nat} (m1 : hg * 18446744073709551616 + lw = v * 31) (k1 : k * 18446744073709551616 + l2 = lw + x) : ((hg + k) * 18446744073709551616 + l2) % N = (v * 31 + x) % N := by
  rw [Nat.add_mul, Nat.add_assoc, k1, ← Nat.add_assoc, m1]
set_option maxHeartbeats 2000000 in
theorem numFold_rows (g off n c N : Nat) (l : List Int) (w : World) (h : Byt w (some ⟨g, off, none⟩) n c l) (hn : 0 < n) (h1 : 1 ≤ N) (h2 : N ≤ 9223372036854775807) :
    Calls Try.prog 48 #[.slice (some ⟨g, off, none⟩) n c, .int .i64 N] w (Ret (.int .i64 (foldL l N)) w) := by
  have hc0 : ∀ i, i < n → w.cell? ⟨g, off + i, none⟩ = some (.int .u8 (l.getD i 0)) := by
    obtain ⟨g1, o1, e, hc⟩ := h.at_ hn
    injection e with e; injection e with e1 e2; subst e1; subst e2
    exact hc
  have hcap := h.cap
  have hmax := h.max
  unfold maxLen at hmax
  have HL := Lib.hid h.len
  have HR := Lib.hid h.lt_
  have HC := Lib.hid hc0
  clear hc0 h
  go_enter Try.func48, Try.ntmps48
  go_wp2_with fail
  go_loopw [5, 15] (fun s j wr => ∃ i v : Nat, i ≤ n ∧ s = .int .u64 v ∧ j = .int .i64 i ∧ v = foldL (l.take i) N ∧ Below w.heap.size w wr) (fun _ j _ => n - (intOf j).toNat)
  case atStart => exact ⟨0, 0, Nat.zero_le _, rfl, rfl, rfl, Below.refl _ _⟩
  case round =>
    obtain ⟨i, v, hin, rfl, rfl, hv, hbel⟩ := hrel
    have HV := Lib.hid hv
    have HB := Lib.hid hbel
    have hvN : v < N := by rw [hv]; exact foldL_lt _ _ (by omega)
    clear hv
    by_cases hlt : i < n
    · have hx0 := HC.out i hlt
      have hx : wr.cell? ⟨g, off + i, none⟩ = some (.int .u8 (l.getD i 0)) := (hbel.cell (World.block_lt_of_cell? w _ hx0)).trans hx0
      have hr := HR.out i hlt
      have st := foldL_step l N i (by rw [HL.out]; exact hlt)
      rw [← HV.out] at st
      obtain ⟨x, ex⟩ : ∃ x : Nat, x = (l.getD i 0).toNat := ⟨_, rfl⟩
      have exi : l.getD i 0 = (x : Int) := by omega
      rw [exi] at hx hr
      rw [← ex] at st
      have ST := Lib.hid st
      obtain ⟨hr0, hr1⟩ := hr
      have hx256 : x < 256 := by omega
      clear exi ex st hbel hx0 hr0 hr1
      obtain ⟨hg, lw, m1, m2, m3, CM⟩ := mul31 v (by omega)
      obtain ⟨l2, k, k1, k2, k3, CA⟩ := addc lw x m3 hx256
      obtain ⟨sm, esm⟩ : ∃ sm : Nat, sm = hg + k := ⟨_, rfl⟩
      have hsum : (hg : Int) + (k : Int) = (sm : Int) := by omega
      have hcon : (sm * 18446744073709551616 + l2) % N = (v * 31 + x) % N := by rw [esm]; exact fold_sum m1 k1
      have CR := Lib.hid (fun w => Quiet.ret (rem_any sm l2 N (by omega) k3 (by omega) (by omega) w))
      rw [hcon, ← ST.out] at CR
      have HM := Lib.hid CM
      have HN := foldL_lt (l.take (i + 1)) N (by omega)
      clear CM m1 k1 esm hcon
      obtain ⟨v2, ev2⟩ : ∃ v2, v2 = foldL (l.take (i + 1)) N := ⟨_, rfl⟩
      rw [← ev2] at CR HN
      have EV := Lib.hid ev2
      clear ev2 ST
      go_wp2_with fail
      refine (HM.out _).mono ?_
      rintro e w1 ⟨rfl, rfl⟩
      go_wp2_with fail
      refine (CR.out _).mono ?_
      rintro e w2 ⟨rfl, b2⟩
      have B2 := Lib.hid (Below.then HB.out b2)
      clear b2 hx
      go_wp2_with fail
      go_roundw
      case rel => exact ⟨i + 1, v2, by omega, rfl, by go_num, EV.out, B2.out⟩
      case measure => simp [intOf]; omega
    · have hik : i = n := by omega
      subst hik
      have e := HV.out
      rw [List.take_of_length_le (by rw [HL.out]; omega)] at e
      have E := Lib.hid e
      clear e hbel
      go_wp2_with fail
      go_ret
      exact ⟨by rw [← E.out]; rfl, HB.out⟩
set_option maxHeartbeats 1000000 in
theorem numFold_any (A : Option Addr) (n c N : Nat) (l : List Int) (w : World) (h : Byt w A n c l) (h1 : 1 ≤ N) (h2 : N ≤ 9223372036854775807) :
    Calls Try.prog 48 #[.slice A n c, .int .i64 N] w (Ret (.int .i64 (foldL l N)) w) := by
  by_cases hn : 0 < n
  · obtain ⟨g, off, rfl, _⟩ := h.at_ hn
    exact numFold_rows g off n c N l w h hn h1 h2
  · have h0 : n = 0 := by omega
    subst h0
    have e : l = [] := List.eq_nil_of_length_eq_zero h.len
    subst e
    clear h hn
    go_enter Try.func48, Try.ntmps48
    go_wp2_with fail
    refine wp_loop_rounds 1 ?_
    rw [rounds_succ]
    go_wp2_with fail
    go_ret
    exact ⟨rfl, Below.refl _ _⟩
set_option maxHeartbeats 1000000 in
theorem numFold_no (A : Option Addr) (n c : Nat) (x : Int) (w : World) (h1 : x < 1) :
    Calls Try.prog 48 #[.slice A n c, .int .i64 x] w (Ret (.int .i64 0) w) := by
  go_enter Try.func48, Try.ntmps48
  go_wp2_with fail
  go_ret
  exact ⟨rfl, Below.refl _ _⟩
end

/- trothref01.Fold answers what bytes are folded to. -/
section
open Go.RowKit
def Same0 (x : Int) (w : World) (e : Ending) (w' : World) : Prop := e = .returned (.int .u64 x) ∧ w = w'
set_option maxHeartbeats 1000000 in
theorem addmod_any (a b n : Nat) (ha : a < n) (hb : b < n) (hn : n ≤ 9223372036854775807) (w : World) :
    Calls Try.prog 72 #[.int .u64 a, .int .u64 b, .int .u64 n] w (Same0 (((a + b) % n : Nat) : Int) w) := by
  by_cases h : n ≤ a + b
  · have e : (a + b) % n = a + b - n := by rw [Nat.mod_eq_sub_mod h, Nat.mod_eq_of_lt (by omega)]
    rw [e]
    clear e
    have t : (n : Int) - (b : Int) ≤ (a : Int) := by omega
    go_enter Try.func72, Try.ntmps72
    go_wp2_with fail
    go_ret
    exact ⟨by show Ending.returned (.int .u64 _) = _; congr 2; omega, rfl⟩
  · have e : (a + b) % n = a + b := Nat.mod_eq_of_lt (by omega)
    rw [e]
    clear e
    have t : ¬ (n : Int) - (b : Int) ≤ (a : Int) := by omega
    go_enter Try.func72, Try.ntmps72
    go_wp2_with fail
    go_ret
    exact ⟨rfl, rfl⟩
theorem mulmod_step (v k a n : Nat) (h : v = k * a % n) : (v + a) % n = (k + 1) * a % n := by
  rw [h, Nat.add_mul, Nat.one_mul, Nat.mod_add_mod]
set_option maxHeartbeats 1000000 in
theorem mulmod_any (a n m : Nat) (hm : Hid (m = 31 * a % n)) (ha : a < n) (hn : n ≤ 9223372036854775807) (w : World) :
    Calls Try.prog 71 #[.int .u64 a, .int .i64 31, .int .u64 n] w (Same0 (m : Int) w) := by
  go_enter Try.func71, Try.ntmps71
  go_wp2_with fail
  go_loop [7, 8] (fun s j => ∃ i v : Nat, i ≤ 31 ∧ s = .int .u64 v ∧ j = .int .i64 i ∧ v = i * a % n) (fun _ j => 31 - (intOf j).toNat)
  case atStart => exact ⟨0, 0, Nat.zero_le _, rfl, rfl, by simp⟩
  case round =>
    obtain ⟨i, v, hi, rfl, rfl, hv⟩ := hrel
    have hvn : v < n := by rw [hv]; exact Nat.mod_lt _ (by omega)
    have ST := Lib.hid (mulmod_step v i a n hv)
    have HV := Lib.hid hv
    clear hv
    by_cases hlt : i < 31
    · obtain ⟨v2, ev2⟩ : ∃ v2, v2 = (i + 1) * a % n := ⟨_, rfl⟩
      have CA := Lib.hid (fun w => addmod_any v a n hvn ha hn w)
      rw [ST.out, ← ev2] at CA
      have EV := Lib.hid ev2
      clear ev2 ST HV
      go_wp2_with fail
      refine (CA.out _).mono ?_
      rintro e w1 ⟨rfl, rfl⟩
      go_wp2_with fail
      go_round
      case rel => exact ⟨i + 1, v2, by omega, rfl, by go_num, EV.out⟩
      case measure => simp [intOf]; omega
    · have h31 : i = 31 := by omega
      subst h31
      obtain rfl : v = m := HV.out.trans hm.out.symm
      clear ST HV hm
      go_wp2_with fail
      go_ret
      exact ⟨rfl, rfl⟩
theorem fold_ref {l : List Int} {N k v x m : Nat} (h : k < l.length) (hv : v = foldL (l.take k) N) (hx : x = (l.getD k 0).toNat) (hm : m = 31 * v % N) : (m + x % N) % N = foldL (l.take (k + 1)) N := by
  rw [foldL_step l N k h, ← hv, ← hx, hm, ← Nat.add_mod, Nat.mul_comm]
set_option maxHeartbeats 2000000 in
theorem refFold_rows (g off n c N : Nat) (l : List Int) (w : World) (h : Byt w (some ⟨g, off, none⟩) n c l) (hn : 0 < n) (h1 : 1 ≤ N) (h2 : N ≤ 9223372036854775807) :
    Calls Try.prog 49 #[.slice (some ⟨g, off, none⟩) n c, .int .i64 N] w (Ret (.int .i64 (foldL l N)) w) := by
  have hc0 : ∀ i, i < n → w.cell? ⟨g, off + i, none⟩ = some (.int .u8 (l.getD i 0)) := by
    obtain ⟨g1, o1, e, hc⟩ := h.at_ hn
    injection e with e; injection e with e1 e2; subst e1; subst e2
    exact hc
  have hcap := h.cap
  have hmax := h.max
  unfold maxLen at hmax
  have HL := Lib.hid h.len
  have HR := Lib.hid h.lt_
  have HC := Lib.hid hc0
  clear hc0 h
  have N0 : ((N : Int) == 0) = false := by simp; omega
  have Npos : (0 : Int) < (N : Int) := by omega
  go_enter Try.func49, Try.ntmps49
  go_wp2_with fail
  go_loop [5, 6] (fun s j => ∃ i v : Nat, i ≤ n ∧ s = .int .u64 v ∧ j = .int .i64 i ∧ v = foldL (l.take i) N) (fun _ j => n - (intOf j).toNat)
  case atStart => exact ⟨0, 0, Nat.zero_le _, rfl, rfl, rfl⟩
  case round =>
    obtain ⟨i, v, hin, rfl, rfl, hv⟩ := hrel
    have HV := Lib.hid hv
    have hvN : v < N := by rw [hv]; exact foldL_lt _ _ (by omega)
    clear hv
    by_cases hlt : i < n
    · have hx := HC.out i hlt
      have hr := HR.out i hlt
      obtain ⟨x, ex⟩ : ∃ x : Nat, x = (l.getD i 0).toNat := ⟨_, rfl⟩
      have exi : l.getD i 0 = (x : Int) := by omega
      rw [exi] at hx hr
      obtain ⟨hr0, hr1⟩ := hr
      have hx256 : x < 256 := by omega
      obtain ⟨m, em⟩ : ∃ m, m = 31 * v % N := ⟨_, rfl⟩
      have hmN : m < N := by rw [em]; exact Nat.mod_lt _ (by omega)
      have FR := fold_ref (by rw [HL.out]; exact hlt) HV.out ex em
      obtain ⟨v2, ev2⟩ : ∃ v2, v2 = foldL (l.take (i + 1)) N := ⟨_, rfl⟩
      rw [← ev2] at FR
      obtain ⟨x2, ex2⟩ : ∃ x2, x % N = x2 := ⟨_, rfl⟩
      have hx2 : (x : Int) % (N : Int) = (x2 : Int) := by rw [← ex2]; simp
      have hx2N : x2 < N := by rw [← ex2]; exact Nat.mod_lt _ (by omega)
      rw [ex2] at FR
      have CM := Lib.hid (fun w => mulmod_any v N m em hvN h2 w)
      have CA := Lib.hid (fun w => addmod_any m x2 N hmN hx2N h2 w)
      rw [FR] at CA
      have EV := Lib.hid ev2
      clear exi ex hr0 hr1 em FR ev2 ex2
      go_wp2_with fail
      refine (CM.out _).mono ?_
      rintro e w1 ⟨rfl, rfl⟩
      go_wp2_with fail
      refine (CA.out _).mono ?_
      rintro e w1 ⟨rfl, rfl⟩
      go_wp2_with fail
      go_round
      case rel => exact ⟨i + 1, v2, by omega, rfl, by go_num, EV.out⟩
      case measure => simp [intOf]; omega
    · have hik : i = n := by omega
      subst hik
      have e := HV.out
      rw [List.take_of_length_le (by rw [HL.out]; omega)] at e
      have E := Lib.hid e
      clear e
      go_wp2_with fail
      go_ret
      exact ⟨by rw [← E.out]; rfl, Below.refl _ _⟩
set_option maxHeartbeats 1000000 in
theorem refFold_any (A : Option Addr) (n c N : Nat) (l : List Int) (w : World) (h : Byt w A n c l) (h1 : 1 ≤ N) (h2 : N ≤ 9223372036854775807) :
    Calls Try.prog 49 #[.slice A n c, .int .i64 N] w (Ret (.int .i64 (foldL l N)) w) := by
  by_cases hn : 0 < n
  · obtain ⟨g, off, rfl, _⟩ := h.at_ hn
    exact refFold_rows g off n c N l w h hn h1 h2
  · have h0 : n = 0 := by omega
    subst h0
    have e : l = [] := List.eq_nil_of_length_eq_zero h.len
    subst e
    clear h hn
    go_enter Try.func49, Try.ntmps49
    go_wp2_with fail
    refine wp_loop_rounds 1 ?_
    rw [rounds_succ]
    go_wp2_with fail
    go_ret
    exact ⟨rfl, Below.refl _ _⟩
set_option maxHeartbeats 1000000 in
theorem refFold_no (A : Option Addr) (n c : Nat) (x : Int) (w : World) (h1 : x < 1) :
    Calls Try.prog 49 #[.slice A n c, .int .i64 x] w (Ret (.int .i64 0) w) := by
  go_enter Try.func49, Try.ntmps49
  go_wp2_with fail
  go_ret
  exact ⟨rfl, Below.refl _ _⟩
end

/- page.Set and trothref10.Set answer the same page, or the same error. -/
section
open Go.RowKit
theorem set_any (lsn0 : Int) (A : Option Addr) (n c : Nat) (l : List Cl) (lsn : Int) (x : Cl) (w : World) (h : Pcs w A n c l) :
    Calls Try.prog 17 #[pgV lsn0 A n c, .int .i64 lsn, .string x.key, vlV x.val] w (RetPg (setPg ⟨lsn0, l⟩ lsn x) w) := by
  by_cases hy : (⟨lsn0, l⟩ : Pg).ok ∧ clOk x ∧ 1 ≤ lsn ∧ lsn ≤ 1099511627776
  · cases hr : roomC l x.key with
    | false => rw [setPg_page hy hr]; exact set_full lsn0 A n c l lsn x w h hy hr
    | true => rw [setPg_ok hy hr]; exact set_ok lsn0 A n c l lsn x w h hy hr
  · rw [setPg_arg hy]; exact set_no lsn0 A n c l lsn x w h hy
theorem refSet_any (lsn0 : Int) (A : Option Addr) (n c : Nat) (l : List Cl) (lsn : Int) (x : Cl) (w : World) (h : Pcs w A n c l) :
    Calls Try.prog 18 #[pgV lsn0 A n c, .int .i64 lsn, .string x.key, vlV x.val] w (RetPg (setPg ⟨lsn0, l⟩ lsn x) w) := by
  by_cases hy : (⟨lsn0, l⟩ : Pg).ok ∧ clOk x ∧ 1 ≤ lsn ∧ lsn ≤ 1099511627776
  · cases hr : roomC l x.key with
    | false => rw [setPg_page hy hr]; exact refSet_full lsn0 A n c l lsn x w h hy hr
    | true => rw [setPg_ok hy hr]; exact refSet_ok lsn0 A n c l lsn x w h hy hr
  · rw [setPg_arg hy]; exact refSet_no lsn0 A n c l lsn x w h hy
theorem setPg_len {p : Pg} {lsn : Int} {x : Cl} (h : (setPg p lsn x).2 = 0) : (setPg p lsn x).1.cells.length ≤ 4 := by
  by_cases hy : p.ok ∧ clOk x ∧ 1 ≤ lsn ∧ lsn ≤ 1099511627776
  · cases hr : roomC p.cells x.key with
    | false => rw [setPg_page hy hr] at h; cases h
    | true => rw [setPg_ok hy hr]; exact (setPg_isok hy hr).2.1
  · rw [setPg_arg hy] at h; cases h
theorem setPg_zero {p : Pg} {lsn : Int} {x : Cl} (h : (setPg p lsn x).2 ≠ 0) : (setPg p lsn x).1 = pg0 := by
  by_cases hy : p.ok ∧ clOk x ∧ 1 ≤ lsn ∧ lsn ≤ 1099511627776
  · cases hr : roomC p.cells x.key with
    | false => rw [setPg_page hy hr]
    | true => rw [setPg_ok hy hr] at h; exact absurd rfl h
  · rw [setPg_arg hy]
theorem setPg_small (p : Pg) (lsn : Int) (x : Cl) : (setPg p lsn x).1.cells.length ≤ 4 := by
  by_cases h : (setPg p lsn x).2 = 0
  · exact setPg_len h
  · rw [setPg_zero h]; simp [pg0]
end

/- a region that draws its order, in which two operations may come up next: both ways; a new variable in memory, and what is stored in it. -/
section
open Go.RowKit
section
variable {P : Program} {Q : Exit → Act → World → Prop} {S : World → Prop} {n : Nat}
theorem Upto.two {i j : Nat} {oi oj : Oper} {fuel : Nat} {listed : Array Bool} {a : Act} {w : World} {l ri rj : List Oper} (hi : l.drop i = oi :: ri) (hj : l.drop j = oj :: rj) (hc : Region.ready .any l.toArray listed = [i, j]) (hgi : oi.guard = none) (hgj : oj.guard = none)
    (h1 : ∀ K : Act → World → Prop, (∀ a' w', S w' → Upto P l.toArray Q S n fuel (listed.setIfInBounds i true) a' w' → K a' w') → oi.wp P a w K Q)
    (h2 : ∀ K : Act → World → Prop, (∀ a' w', S w' → Upto P l.toArray Q S n fuel (listed.setIfInBounds j true) a' w' → K a' w') → oj.wp P a w K Q) : Upto P l.toArray Q S n (fuel + 1) listed a w := by
  have hi := drop_at hi
  have hj := drop_at hj
  refine ⟨fun h0 => (by rw [h0] at hc; cases hc), fun k hk => ?_⟩
  rw [hc] at hk
  unfold wpOp
  rcases List.mem_cons.1 hk with e | e
  · subst e
    simp only [hi, wanted_plain hgi, if_true]
    exact .inl (h1 _ fun a' w' hS hU => ⟨fun _ => hS, hU⟩)
  · have e : k = j := by simpa using e
    subst e
    simp only [hj, wanted_plain hgj, if_true]
    exact .inl (h2 _ fun a' w' hS hU => ⟨fun _ => hS, hU⟩)
theorem wp_new {o : Oper} {a : Act} {w : World} {K : Act → World → Prop} {t : TypeId} (ho : o.op = .alloc t) {z : Array Value} (hz : ∀ w, (zeroValue t).run P w = .ok (.agg z) w) (h : K (a.put o.dst (.pointer (some ⟨w.heap.size, 0, none⟩))) (w.alloc (.cells z t))) : o.wp P a w K Q := by
  unfold Oper.wp
  rw [exec_allocA ho hz]
  exact h
end
theorem zero_pg (w : World) : (zeroValue 24).run Try.prog w = .ok (.agg #[.int .i64 0, .slice none 0 0]) w := by
  have h : (Try.prog.info? 24).map (fun i => i.zero) = some (some (.agg #[.int .i64 0, .slice none 0 0])) := by kernel_rfl
  cases hi : Try.prog.info? 24 with
  | none => rw [hi] at h; cases h
  | some i =>
    rw [hi] at h
    simp at h
    simp [zeroValue, typeInfo, hi, h]
theorem row_own {w : World} {b k n g : Nat} {e t : TypeId} {v : Value} {xs : List Value} {cs : Array Value} (h : w.ownsRow b e k v n xs) (hb : Bk w g t cs) (he : e ≠ t) (cs' : Array Value) : (w.setRow g cs').ownsRow b e k v n xs :=
  own_stay h (fun q hq => setRow_other w g q cs' (fun eq => by
    obtain ⟨c1, h1⟩ := own_ty h hq
    subst eq
    unfold Bk at hb
    rw [h1] at hb
    injection hb with hb
    injection hb with _ hb
    exact he hb))
theorem row_below {B : Nat} {a w : World} (h : Below B a w) (hB : B ≤ w.heap.size) {g : Nat} (hg : B ≤ g) (cs : Array Value) : Below B a (w.setRow g cs) :=
  h.grown (w' := w.setRow g cs) (row := some g) ⟨rfl, rfl, rfl, by simp [World.setRow], fun k _ hk => setRow_other w g k cs (fun q => hk (by simp [q]))⟩ hB (fun k hk => by simp at hk; omega)
theorem row_bk {w : World} {g : Nat} {t : TypeId} {old : Array Value} (h : Bk w g t old) (cs : Array Value) : Bk (w.setRow g cs) g t cs := setRow_heap w g old cs _ _ h
theorem pg_one (z : Int) (A : Option Addr) (n c : Nat) : (#[Value.int .i64 z, Value.slice A n c] : Array Value).all (·.oneCell') = true := by simp [Value.oneCell']
structure GotPg (Wb wx : World) (r : Pg × Nat) (t u : Value) : Prop where
  ex : ∃ X A n c, t = .pointer (some ⟨X, 0, none⟩) ∧ Bk wx X 24 #[.int .i64 r.1.lsn, .slice A n c] ∧ OwnP Wb.heap.size wx A n c r.1.cells ∧ Wb.heap.size ≤ X
  e : u = .int .i64 r.2
  below : Below Wb.heap.size Wb wx
theorem GotPg.of {Wb w6 : World} {r : Pg × Nat} {X n c base : Nat} {A : Option Addr} {old : Array Value} (hb : Bk w6 X 24 old) (ho : OwnP base w6 A n c r.1.cells) (h1 : Wb.heap.size ≤ X) (h2 : Wb.heap.size ≤ base) (h3 : Below Wb.heap.size Wb w6) :
    GotPg Wb (w6.setRow X #[.int .i64 r.1.lsn, .slice A n c]) r (.pointer (some ⟨X, 0, none⟩)) (.int .i64 r.2) :=
  ⟨⟨X, A, n, c, rfl, row_bk hb _, OwnP.lo ⟨row_own ho.own hb (by decide) _, ho.len⟩ h2, h1⟩, rfl, row_below h3 h3.size h1 _⟩
end
end Go.Proofs.Ytfmfmdiegabobaa
