/- What it says: contracts and plain mathematics that the laws' walks use, 24 of 34: each part's own remark says what; no condition. -/
import Derived.Test.YtfldcddbmikfiaaPw21
import Derived.Test.YtfldcddbmikfiaaPw23
import Derived.Laws.Cover1

set_option linter.unusedSimpArgs false
set_option linter.unusedVariables false
set_option linter.deprecated false
set_option linter.unusedSectionVars false
set_option linter.all false

/- trothref07.Members answers true just of members that may be. -/
namespace Go.Proofs.Ytfldcddbmikfiaa
open Go.RowKit

set_option maxHeartbeats 4000000 in
theorem refMem_any (A : Option Addr) (n c H : Nat) (l : List Int) (w : World) (h : Sl elI H w A n c l) :
    Calls Try.prog 29 #[.slice A n c] w (RetB (memOk l) w) := by
  have hl := h.len
  by_cases hn : 0 < n
  · obtain ⟨g, off, rfl, _, hr⟩ := h.at_ hn
    have hc0 : ∀ i, i < n → w.cell? ⟨g, off + i, none⟩ = some (.int .i64 (l.getD i default)) := fun i hi => by have := hr i hi 0 _ rfl; simpa [elI] using this
    have hcap := h.cap
    have hmax := h.max
    unfold maxLen at hmax
    have HC0 := Lib.hid hc0
    have HL := Lib.hid hl
    clear hc0 h hr hl
    go_enter Try.func29, Try.ntmps29
    go_wp2
    go_loopw [3] (fun i wr => ∃ k : Nat, k ≤ n ∧ i = .int .i64 k ∧ (∃ m, wr = w.drewN m) ∧ Hid (∀ j, j < k → (0 ≤ l.getD j default ∧ l.getD j default ≤ 7) ∧ (0 < j → l.getD (j - 1) default < l.getD j default))) (fun i _ => n - (intOf i).toNat)
    case atStart => exact ⟨0, Nat.zero_le _, rfl, ⟨0, rfl⟩, Lib.hid (fun j hj => absurd hj (by omega))⟩
    case round =>
      obtain ⟨k, hk, rfl, ⟨m, rfl⟩, HP⟩ := hrel
      by_cases hlt : k < n
      · have hx := HC0.out k hlt
        obtain ⟨x, ex⟩ : ∃ x, x = l.getD k default := ⟨_, rfl⟩
        have no : (¬ ((0 ≤ x ∧ x ≤ 7) ∧ (0 < k → l.getD (k - 1) default < x))) → Hid (∀ m, RetB (memOk l) w (.returned (.bool false)) (w.drewN m)) := fun q => Lib.hid fun m => RetB.no (fun z => q (by have := z k (by rw [HL.out]; exact hlt); rw [ex]; exact this)) (drew_n w m)
        have NO := Lib.hid no
        have yes : ((0 ≤ x ∧ x ≤ 7) ∧ (0 < k → l.getD (k - 1) default < x)) → Hid (∀ j, j < k + 1 → (0 ≤ l.getD j default ∧ l.getD j default ≤ 7) ∧ (0 < j → l.getD (j - 1) default < l.getD j default)) := fun q => Lib.hid fun j hj => by
          by_cases e : j = k
          · subst e; rw [← ex]; exact q
          · exact HP.out j (by omega)
        have YES := Lib.hid yes
        rw [← ex] at hx
        clear no yes HP
        by_cases h1 : x < 0
        · have R := NO.out (fun q => by omega)
          clear NO YES ex
          go_wp2
          go_quiet (fail)
          go_wp2
          go_ret
          first | exact R.out _ | (rw [World.drewN_drewN]; exact R.out _)
        · have h1' : decide (x < 0) = false := decide_eq_false (by omega)
          by_cases h2 : 7 < x
          · have R := NO.out (fun q => by omega)
            have h2' : decide (7 < x) = true := decide_eq_true (by omega)
            clear NO YES ex
            go_wp2
            go_quiet (fail)
            go_wp2
            go_ret
            first | exact R.out _ | (rw [World.drewN_drewN]; exact R.out _)
          · have h2' : decide (7 < x) = false := decide_eq_false (by omega)
            by_cases h3 : 0 < k
            · have hy := HC0.out (k - 1) (by omega)
              obtain ⟨y, ey⟩ : ∃ y, y = l.getD (k - 1) default := ⟨_, rfl⟩
              rw [← ey] at hy NO YES
              have e3 : ((off + (k - 1) : Nat) : Int) = (off : Int) + ((k : Int) - 1) := by omega
              obtain ⟨k1, rfl⟩ : ∃ k1, k = k1 + 1 := ⟨k - 1, by omega⟩
              simp only [Nat.add_sub_cancel] at hy
              have h3' : decide ((0 : Int) < ((k1 + 1 : Nat) : Int)) = true := decide_eq_true (by omega)
              have e4 : ((k1 + 1 : Nat) : Int) - 1 = (k1 : Int) := by omega
              clear ey ex e3
              by_cases h4 : x ≤ y
              · have R := NO.out (fun q => by have := q.2 h3; omega)
                have h4' : decide (x ≤ y) = true := decide_eq_true (by omega)
                clear NO YES
                go_wp2
                go_quiet (fail)
                go_wp2
                go_ret
                first | exact R.out _ | (rw [World.drewN_drewN]; exact R.out _)
              · have h4' : decide (x ≤ y) = false := decide_eq_false (by omega)
                have HQ := YES.out ⟨by omega, fun _ => by omega⟩
                clear NO YES
                go_wp2
                go_quiet (fail)
                go_wp2
                go_roundw
                case rel => exact ⟨k1 + 1 + 1, by omega, by go_num, ⟨_, rfl⟩, HQ⟩
                case measure => simp [intOf]; omega
            · have h3' : decide ((0 : Int) < (k : Int)) = false := decide_eq_false (by omega)
              have HQ := YES.out ⟨by omega, fun q => absurd q (by omega)⟩
              clear NO YES ex
              go_wp2
              go_quiet (fail)
              go_wp2
              go_roundw
              case rel => exact ⟨k + 1, by omega, by go_num, ⟨_, rfl⟩, HQ⟩
              case measure => simp [intOf]; omega
      · have hkn : k = n := by omega
        subst hkn
        have R := Lib.hid (RetB.yes (P := memOk l) (w := w) (w' := w.drewN m) (fun i hi => HP.out i (by rw [← HL.out]; exact hi)) (drew_n w m))
        go_wp2
        go_ret
        exact R.out
  · have h0 : n = 0 := by omega
    subst h0
    have R := Lib.hid (RetB.yes (P := memOk l) (w := w) (w' := w) (fun i hi => absurd hi (by omega)) (drew_self w))
    clear h hn hl
    go_enter Try.func29, Try.ntmps29
    go_wp2
    refine wp_loop_rounds 1 ?_
    rw [rounds_succ]
    go_wp2
    go_ret
    exact R.out
end Go.Proofs.Ytfldcddbmikfiaa

/- trothref07.Locks answers true just of locks that may be. -/
namespace Go.Proofs.Ytfldcddbmikfiaa
open Go.RowKit

set_option maxHeartbeats 4000000 in
theorem refLks_any (A : Option Addr) (n c H : Nat) (l : List Lk) (w : World) (h : Sl elL H w A n c l) :
    Calls Try.prog 30 #[.slice A n c] w (RetB (lksOk l) w) := by
  have hl := h.len
  by_cases hbig : (64 : Int) < (n : Int)
  · have R := Lib.hid (RetB.no (P := lksOk l) (w := w) (w' := w) (fun q => by have := q.1; omega) (drew_self w))
    clear h hl
    go_enter Try.func30, Try.ntmps30
    go_wp2
    go_ret
    exact R.out
  · by_cases hn : 0 < n
    · obtain ⟨g, off, rfl, _, hr⟩ := h.at_ hn
      have HC0 : Hid (∀ i, i < n → w.cell? ⟨g, off + i * 2, none⟩ = some (.string (l.getD i default).key)) := Lib.hid (fun i hi => hr i hi 0 _ rfl)
      have hcap := h.cap
      have hmax := h.max
      unfold maxLen at hmax
      have HL := Lib.hid hl
      clear h hr hl
      go_enter Try.func30, Try.ntmps30
      go_wp2
      go_loopw [3] (fun i wr => ∃ k : Nat, k ≤ n ∧ i = .int .i64 k ∧ (∃ m, wr = w.drewN m) ∧ Hid (∀ j, j < k → keyOk (l.getD j default).key ∧ (0 < j → kLt (l.getD (j - 1) default).key (l.getD j default).key))) (fun i _ => n - (intOf i).toNat)
      case atStart => exact ⟨0, Nat.zero_le _, rfl, ⟨0, rfl⟩, Lib.hid (fun j hj => absurd hj (by omega))⟩
      case round =>
        obtain ⟨k, hk, rfl, ⟨m, rfl⟩, HP⟩ := hrel
        by_cases hlt : k < n
        · have hx := HC0.out k hlt
          obtain ⟨x, ex⟩ : ∃ x, x = (l.getD k default).key := ⟨_, rfl⟩
          have no : (¬ (keyOk x ∧ (0 < k → kLt (l.getD (k - 1) default).key x))) → Hid (∀ m, RetB (lksOk l) w (.returned (.bool false)) (w.drewN m)) := fun q => Lib.hid fun m => RetB.no (fun z => q (by have := z.2 k (by rw [HL.out]; exact hlt); rw [ex]; exact this)) (drew_n w m)
          have NO := Lib.hid no
          have yes : (keyOk x ∧ (0 < k → kLt (l.getD (k - 1) default).key x)) → Hid (∀ j, j < k + 1 → keyOk (l.getD j default).key ∧ (0 < j → kLt (l.getD (j - 1) default).key (l.getD j default).key)) := fun q => Lib.hid fun j hj => by
            by_cases e : j = k
            · subst e; rw [← ex]; exact q
            · exact HP.out j (by omega)
          have YES := Lib.hid yes
          rw [← ex] at hx
          clear no yes HP
          by_cases h1 : keyOk x
          · have CK := Lib.hid (fun w' => RetB.true_ (refKey_any x w') h1)
            by_cases h3 : 0 < k
            · have hy := HC0.out (k - 1) (by omega)
              obtain ⟨y, ey⟩ : ∃ y, y = (l.getD (k - 1) default).key := ⟨_, rfl⟩
              rw [← ey] at hy NO YES
              obtain ⟨k1, rfl⟩ : ∃ k1, k = k1 + 1 := ⟨k - 1, by omega⟩
              simp only [Nat.add_sub_cancel] at hy
              have h3' : decide ((0 : Int) < ((k1 + 1 : Nat) : Int)) = true := decide_eq_true (by omega)
              have e4 : ((k1 + 1 : Nat) : Int) - 1 = (k1 : Int) := by omega
              clear ey ex
              by_cases h4 : Op.bytesLess y.toList x.toList = true
              · have HQ := YES.out ⟨h1, fun _ => h4⟩
                clear NO YES h1
                go_wp2
                go_quiet (first | (go_at_call 27; exact quiet_m (CK.out _)))
                go_wp2
                go_roundw
                case rel => exact ⟨k1 + 1 + 1, by omega, by go_num, ⟨_, rfl⟩, HQ⟩
                case measure => simp [intOf]; omega
              · have R := NO.out (fun q => h4 (q.2 h3))
                have h4' : Op.bytesLess y.toList x.toList = false := by simpa using h4
                clear NO YES h1 h4
                go_wp2
                go_quiet (first | (go_at_call 27; exact quiet_m (CK.out _)))
                go_wp2
                go_ret
                first | exact R.out _ | (rw [World.drewN_drewN]; exact R.out _) | (rw [World.drewN_drewN, World.drewN_drewN]; exact R.out _)
            · have h3' : decide ((0 : Int) < (k : Int)) = false := decide_eq_false (by omega)
              have HQ := YES.out ⟨h1, fun q => absurd q h3⟩
              clear NO YES ex h1
              go_wp2
              go_quiet (first | (go_at_call 27; exact quiet_m (CK.out _)))
              go_wp2
              go_roundw
              case rel => exact ⟨k + 1, by omega, by go_num, ⟨_, rfl⟩, HQ⟩
              case measure => simp [intOf]; omega
          · have CK := Lib.hid (fun w' => RetB.false_ (refKey_any x w') h1)
            have R := NO.out (fun q => h1 q.1)
            clear NO YES ex h1
            go_wp2
            go_quiet (first | (go_at_call 27; exact quiet_m (CK.out _)))
            go_wp2
            go_ret
            first | exact R.out _ | (rw [World.drewN_drewN]; exact R.out _) | (rw [World.drewN_drewN, World.drewN_drewN]; exact R.out _)
        · have hkn : k = n := by omega
          subst hkn
          have R := Lib.hid (RetB.yes (P := lksOk l) (w := w) (w' := w.drewN m) ⟨by rw [HL.out]; omega, fun i hi => HP.out i (by rw [← HL.out]; exact hi)⟩ (drew_n w m))
          go_wp2
          go_ret
          exact R.out
    · have h0 : n = 0 := by omega
      subst h0
      have R := Lib.hid (RetB.yes (P := lksOk l) (w := w) (w' := w) ⟨by omega, fun i hi => absurd hi (by omega)⟩ (drew_self w))
      clear h hn hl
      go_enter Try.func30, Try.ntmps30
      go_wp2
      refine wp_loop_rounds 1 ?_
      rw [rounds_succ]
      go_wp2
      go_ret
      exact R.out
end Go.Proofs.Ytfldcddbmikfiaa

/- trothref07's sameLocks and Value answer true just where the document's words hold. -/
namespace Go.Proofs.Ytfldcddbmikfiaa
open Go.RowKit

theorem lk_ext {a b : Lk} (h1 : a.key = b.key) (h2 : a.x = b.x) : a = b := by cases a; cases b; simp_all
theorem ba_list {a b : ByteArray} (h : a ≠ b) : (a.toList == b.toList) = false := by
  cases hq : a.toList == b.toList with
  | false => rfl
  | true =>
    have := eq_of_beq hq
    exact absurd (by rw [ByteArray.toList_eq, ByteArray.toList_eq] at this; cases a; cases b; simp_all [Array.ext']) h
set_option maxHeartbeats 4000000 in
theorem refSameLks_any (A : Option Addr) (n c : Nat) (A' : Option Addr) (n' c' H H' : Nat) (l l' : List Lk) (w : World) (h : Sl elL H w A n c l) (h' : Sl elL H' w A' n' c' l') :
    Calls Try.prog 44 #[.slice A n c, .slice A' n' c'] w (RetB (l = l') w) := by
  have hl := h.len
  have hl' := h'.len
  by_cases hnn : n = n'
  · subst hnn
    by_cases hn : 0 < n
    · obtain ⟨g, off, rfl, _, hr⟩ := h.at_ hn
      obtain ⟨g', off', rfl, _, hr'⟩ := h'.at_ hn
      have hcap := h.cap
      have hmax := h.max
      have hcap' := h'.cap
      have hmax' := h'.max
      unfold maxLen at hmax hmax'
      have HC0 : Hid (∀ i, i < n → w.cell? ⟨g, off + i * 2, none⟩ = some (.string (l.getD i default).key) ∧ w.cell? ⟨g, off + i * 2 + 1, none⟩ = some (.bool (l.getD i default).x)) := Lib.hid (fun i hi => ⟨hr i hi 0 _ rfl, hr i hi 1 _ rfl⟩)
      have HC1 : Hid (∀ i, i < n → w.cell? ⟨g', off' + i * 2, none⟩ = some (.string (l'.getD i default).key) ∧ w.cell? ⟨g', off' + i * 2 + 1, none⟩ = some (.bool (l'.getD i default).x)) := Lib.hid (fun i hi => ⟨hr' i hi 0 _ rfl, hr' i hi 1 _ rfl⟩)
      have HL := Lib.hid (And.intro hl hl')
      clear h h' hr hr' hl hl'
      go_enter Try.func44, Try.ntmps44
      go_wp2
      go_loopw [5] (fun i wr => ∃ k : Nat, k ≤ n ∧ i = .int .i64 k ∧ (∃ m, wr = w.drewN m) ∧ Hid (∀ j, j < k → l.getD j default = l'.getD j default)) (fun i _ => n - (intOf i).toNat)
      case atStart => exact ⟨0, Nat.zero_le _, rfl, ⟨0, rfl⟩, Lib.hid (fun j hj => absurd hj (by omega))⟩
      case round =>
        obtain ⟨k, hk, rfl, ⟨m, rfl⟩, HP⟩ := hrel
        by_cases hlt : k < n
        · obtain ⟨hx0, hx1⟩ := HC0.out k hlt
          obtain ⟨hy0, hy1⟩ := HC1.out k hlt
          by_cases hxy : l.getD k default = l'.getD k default
          · have HQ : Hid (∀ j, j < k + 1 → l.getD j default = l'.getD j default) := Lib.hid (fun j hj => by
              by_cases q : j = k
              · subst q; exact hxy
              · exact HP.out j (by omega))
            rw [hxy] at hx0 hx1
            obtain ⟨x, ex⟩ : ∃ x, x = (l'.getD k default).key := ⟨_, rfl⟩
            obtain ⟨z, ez⟩ : ∃ z, z = (l'.getD k default).x := ⟨_, rfl⟩
            rw [← ex] at hx0 hy0
            rw [← ez] at hx1 hy1
            clear ex ez hxy
            go_wp2
            go_quiet (fail)
            go_wp2
            go_roundw
            case rel => exact ⟨k + 1, by omega, by go_num, ⟨_, rfl⟩, HQ⟩
            case measure => simp [intOf]; omega
          · have R := Lib.hid (fun m => RetB.no (P := l = l') (w := w) (w' := w.drewN m) (fun q => hxy (by rw [q])) (drew_n w m))
            obtain ⟨x, ex⟩ : ∃ x, x = (l.getD k default).key := ⟨_, rfl⟩
            obtain ⟨z, ez⟩ : ∃ z, z = (l.getD k default).x := ⟨_, rfl⟩
            obtain ⟨x', ex'⟩ : ∃ x, x = (l'.getD k default).key := ⟨_, rfl⟩
            obtain ⟨z', ez'⟩ : ∃ z, z = (l'.getD k default).x := ⟨_, rfl⟩
            have hne : x ≠ x' ∨ z ≠ z' := by
              by_cases q : x = x'
              · right
                intro q'
                exact hxy (lk_ext (by rw [← ex, ← ex', q]) (by rw [← ez, ← ez', q']))
              · exact .inl q
            rw [← ex] at hx0
            rw [← ez] at hx1
            rw [← ex'] at hy0
            rw [← ez'] at hy1
            clear ex ez ex' ez' hxy
            by_cases hxx : x = x'
            · subst hxx
              have hzz : z ≠ z' := hne.resolve_left (fun q => q rfl)
              cases z <;> cases z' <;> first
                | exact absurd rfl hzz
                | (clear hne hzz
                   go_wp2
                   go_quiet (fail)
                   go_wp2
                   go_ret
                   first | exact R.out _ | (rw [World.drewN_drewN]; exact R.out _))
            · have hb := ba_list hxx
              clear hne hxx
              go_wp2
              go_quiet (fail)
              go_wp2
              go_ret
              first | exact R.out _ | (rw [World.drewN_drewN]; exact R.out _)
        · have hkn : k = n := by omega
          subst hkn
          have he : l = l' := List.ext_getElem (by rw [HL.out.1, HL.out.2]) fun i h1 h2 => by
            have := HP.out i (by rw [← HL.out.1]; exact h1)
            rw [List.getD_eq_getElem?_getD, List.getD_eq_getElem?_getD, List.getElem?_eq_getElem h1, List.getElem?_eq_getElem h2] at this
            exact this
          have R := Lib.hid (RetB.yes (P := l = l') (w := w) (w' := w.drewN m) he (drew_n w m))
          clear he
          go_wp2
          go_ret
          exact R.out
    · have h0 : n = 0 := by omega
      subst h0
      have R := Lib.hid (RetB.yes (P := l = l') (w := w) (w' := w) (by rw [List.length_eq_zero_iff.1 hl, List.length_eq_zero_iff.1 hl']) (drew_self w))
      clear h h' hn hl hl'
      go_enter Try.func44, Try.ntmps44
      go_wp2
      refine wp_loop_rounds 1 ?_
      rw [rounds_succ]
      go_wp2
      go_ret
      exact R.out
  · have R := Lib.hid (RetB.no (P := l = l') (w := w) (w' := w) (fun q => hnn (by rw [← hl, ← hl', q])) (drew_self w))
    have hne : ((n : Int) != (n' : Int)) = true := by simp; omega
    clear h h' hl hl'
    go_enter Try.func44, Try.ntmps44
    go_wp2
    go_ret
    exact R.out
end Go.Proofs.Ytfldcddbmikfiaa

/- trothref07.Value answers true just of values that may be. -/
namespace Go.Proofs.Ytfldcddbmikfiaa
open Go.RowKit

/-- A yes or a no, and nothing that was there is written. -/
def RetBB (P : Prop) (w : World) (e : Ending) (w' : World) : Prop := ∃ b : Bool, e = .returned (.bool b) ∧ (b = true ↔ P) ∧ Below w.heap.size w w'
theorem RetBB.of {P : Prop} {w w' : World} {b : Bool} (h : b = true ↔ P) (hb : Below w.heap.size w w') : RetBB P w (.returned (.bool b)) w' := ⟨b, rfl, h, hb⟩
theorem RetB.below {P : Prop} {w w' : World} {e : Ending} (h : RetB P w e w') : RetBB P w e w' := by
  obtain ⟨b, he, hb, m, hm⟩ := h
  exact ⟨b, he, hb, by rw [hm]; exact below_drewN (Below.refl _ _) m⟩
set_option maxHeartbeats 2000000 in
theorem refVal_any (hs : Bool) (d : ByteArray) (w : World) : Calls Try.prog 28 #[.agg #[.bool hs, .string d]] w (RetBB (vlOk ⟨hs, d⟩) w) := by
  have HB : Hid (Below w.heap.size w (w.alloc (.cells #[.bool hs, .string d] 23))) := Lib.hid ((Below.refl _ _).alloc (Nat.le_refl _) _)
  cases hs with
  | true =>
    have HV : vlOk ⟨true, d⟩ ↔ (d.size : Int) ≤ 32 := Iff.rfl
    by_cases h1 : (d.size : Int) ≤ 32
    · have R := Lib.hid (RetBB.of (b := true) ⟨fun _ => HV.2 h1, fun _ => rfl⟩ HB.out)
      clear HV HB
      go_enter Try.func28, Try.ntmps28
      go_wp2
      go_ret
      exact R.out
    · have R := Lib.hid (RetBB.of (b := false) ⟨(fun q => nomatch q), fun q => absurd (HV.1 q) h1⟩ HB.out)
      clear HV HB
      go_enter Try.func28, Try.ntmps28
      go_wp2
      go_ret
      exact R.out
  | false =>
    have HV : vlOk ⟨false, d⟩ ↔ d = ByteArray.empty := by unfold vlOk; simp
    have he : d.toList.isEmpty = true ↔ d = ByteArray.empty := by
      rw [List.isEmpty_iff]
      constructor
      · intro q
        by_cases e : d = ByteArray.empty
        · exact e
        · have := ba_list e
          rw [q, show ByteArray.empty.toList = [] by simp] at this
          cases this
      · intro q
        rw [q]
        simp
    have R := Lib.hid (RetBB.of (he.trans HV.symm) HB.out)
    clear HV HB he
    go_enter Try.func28, Try.ntmps28
    go_wp2
    go_ret
    exact R.out
end Go.Proofs.Ytfldcddbmikfiaa

/- trothref07.SameRow answers true just of rows that read as the same. -/
namespace Go.Proofs.Ytfldcddbmikfiaa
open Go.RowKit

set_option maxRecDepth 100000 in
set_option maxHeartbeats 8000000 in
theorem refSameRow_any (x y : Xw) (H H' : Nat) (w : World) (hx : XwIn H w x) (hy : XwIn H' w y) :
    Calls Try.prog 65 #[.agg (elR.cells x).toArray, .agg (elR.cells y).toArray] w (RetBB (x.row = y.row) w) := by
  obtain ⟨tx, st, fi, la, un, co, mA, mn, mc, mem, kA, kn, kc, lks⟩ := x
  obtain ⟨tx', st', fi', la', un', co', mA', mn', mc', mem', kA', kn', kc', lks'⟩ := y
  show Calls _ _ #[.agg #[.int .i64 tx, .int .i64 st, .int .i64 fi, .int .i64 la, .int .i64 un, .int .i64 co, .slice mA mn mc, .slice kA kn kc], .agg #[.int .i64 tx', .int .i64 st', .int .i64 fi', .int .i64 la', .int .i64 un', .int .i64 co', .slice mA' mn' mc', .slice kA' kn' kc']] w (RetBB ((⟨tx, st, fi, la, un, co, mem, lks⟩ : Rw) = ⟨tx', st', fi', la', un', co', mem', lks'⟩) w)
  obtain ⟨r, hrr⟩ : ∃ r, w.heap.size = r := ⟨_, rfl⟩
  obtain ⟨W1, hW1⟩ : ∃ W1, W1 = (w.alloc (.cells #[.int .i64 tx, .int .i64 st, .int .i64 fi, .int .i64 la, .int .i64 un, .int .i64 co, .slice mA mn mc, .slice kA kn kc] 51)).alloc (.cells #[.int .i64 tx', .int .i64 st', .int .i64 fi', .int .i64 la', .int .i64 un', .int .i64 co', .slice mA' mn' mc', .slice kA' kn' kc'] 51) := ⟨_, rfl⟩
  have hb : Below w.heap.size w W1 := by rw [hW1]; exact ((Below.refl _ _).alloc (Nat.le_refl _) _).alloc (by simp) _
  have V0 : Bk W1 r 51 #[.int .i64 tx, .int .i64 st, .int .i64 fi, .int .i64 la, .int .i64 un, .int .i64 co, .slice mA mn mc, .slice kA kn kc] := by rw [hW1, ← hrr]; exact (Bk.new w _ _).bel ((Below.refl _ _).alloc (Nat.le_refl _) _) (by simp)
  have V1 : Bk W1 (r + 1) 51 #[.int .i64 tx', .int .i64 st', .int .i64 fi', .int .i64 la', .int .i64 un', .int .i64 co', .slice mA' mn' mc', .slice kA' kn' kc'] := by
    rw [hW1, ← hrr]
    have := Bk.new (w.alloc (.cells #[.int .i64 tx, .int .i64 st, .int .i64 fi, .int .i64 la, .int .i64 un, .int .i64 co, .slice mA mn mc, .slice kA kn kc] 51)) 51 #[.int .i64 tx', .int .i64 st', .int .i64 fi', .int .i64 la', .int .i64 un', .int .i64 co', .slice mA' mn' mc', .slice kA' kn' kc']
    rw [World.size_alloc] at this
    exact this
  have a0 : W1.cell? ⟨r, 0, none⟩ = some (.int .i64 tx) := V0.cell 0
  have b0 : W1.cell? ⟨r + 1, 0, none⟩ = some (.int .i64 tx') := V1.cell 0
  have a1 : W1.cell? ⟨r, 1, none⟩ = some (.int .i64 st) := V0.cell 1
  have b1 : W1.cell? ⟨r + 1, 1, none⟩ = some (.int .i64 st') := V1.cell 1
  have a2 : W1.cell? ⟨r, 2, none⟩ = some (.int .i64 fi) := V0.cell 2
  have b2 : W1.cell? ⟨r + 1, 2, none⟩ = some (.int .i64 fi') := V1.cell 2
  have a3 : W1.cell? ⟨r, 3, none⟩ = some (.int .i64 la) := V0.cell 3
  have b3 : W1.cell? ⟨r + 1, 3, none⟩ = some (.int .i64 la') := V1.cell 3
  have a4 : W1.cell? ⟨r, 4, none⟩ = some (.int .i64 un) := V0.cell 4
  have b4 : W1.cell? ⟨r + 1, 4, none⟩ = some (.int .i64 un') := V1.cell 4
  have a5 : W1.cell? ⟨r, 5, none⟩ = some (.int .i64 co) := V0.cell 5
  have b5 : W1.cell? ⟨r + 1, 5, none⟩ = some (.int .i64 co') := V1.cell 5
  have a6 : W1.cell? ⟨r, 6, none⟩ = some (.slice mA mn mc) := V0.cell 6
  have a7 : W1.cell? ⟨r, 7, none⟩ = some (.slice kA kn kc) := V0.cell 7
  have b6 : W1.cell? ⟨r + 1, 6, none⟩ = some (.slice mA' mn' mc') := V1.cell 6
  have b7 : W1.cell? ⟨r + 1, 7, none⟩ = some (.slice kA' kn' kc') := V1.cell 7
  have CI := Lib.hid (refInts_any mA mn mc mA' mn' mc' H H' mem mem' W1 (hx.mem.calm (Calm.of_below hb)) (hy.mem.calm (Calm.of_below hb)))
  have CL := Lib.hid (fun m => refSameLks_any kA kn kc kA' kn' kc' H H' lks lks' (W1.drewN m) ((hx.lks.calm (Calm.of_below hb)).calm (calm_drewN H W1 m)) ((hy.lks.calm (Calm.of_below hb)).calm (calm_drewN H' W1 m)))
  have NO : Hid (¬ ((⟨tx, st, fi, la, un, co, mem, lks⟩ : Rw) = ⟨tx', st', fi', la', un', co', mem', lks'⟩) → ∀ m, RetBB ((⟨tx, st, fi, la, un, co, mem, lks⟩ : Rw) = ⟨tx', st', fi', la', un', co', mem', lks'⟩) w (.returned (.bool false)) (W1.drewN m)) := Lib.hid (fun q m => RetBB.of ⟨(fun z => nomatch z), fun z => absurd z q⟩ (below_drewN hb m))
  have NO1 : Hid (¬ ((⟨tx, st, fi, la, un, co, mem, lks⟩ : Rw) = ⟨tx', st', fi', la', un', co', mem', lks'⟩) → RetBB ((⟨tx, st, fi, la, un, co, mem, lks⟩ : Rw) = ⟨tx', st', fi', la', un', co', mem', lks'⟩) w (.returned (.bool false)) W1) := Lib.hid (fun q => RetBB.of ⟨(fun z => nomatch z), fun z => absurd z q⟩ hb)
  have YES : Hid (((⟨tx, st, fi, la, un, co, mem, lks⟩ : Rw) = ⟨tx', st', fi', la', un', co', mem', lks'⟩) → ∀ m, RetBB ((⟨tx, st, fi, la, un, co, mem, lks⟩ : Rw) = ⟨tx', st', fi', la', un', co', mem', lks'⟩) w (.returned (.bool true)) (W1.drewN m)) := Lib.hid (fun q m => RetBB.of ⟨fun _ => q, fun _ => rfl⟩ (below_drewN hb m))
  have HW := Lib.hid hW1
  clear hx hy hb hW1 V0 V1
  go_enter Try.func65, Try.ntmps65
  go_upto_region 1 with fail
  (try rw [hrr])
  rw [← HW.out]
  clear HW hrr
  by_cases h_tx : tx = tx'
  rotate_left
  · have R := Lib.hid (NO1.out (fun q => h_tx (congrArg Rw.tx q)))
    have hne : (tx == tx') = false := by simpa using h_tx
    clear NO NO1 YES CI CL h_tx
    go_wp2_with fail
    go_ret
    exact R.out
  subst h_tx
  by_cases h_st : st = st'
  rotate_left
  · have R := Lib.hid (NO1.out (fun q => h_st (congrArg Rw.st q)))
    have hne : (st == st') = false := by simpa using h_st
    clear NO NO1 YES CI CL h_st
    go_wp2_with fail
    go_ret
    exact R.out
  subst h_st
  by_cases h_fi : fi = fi'
  rotate_left
  · have R := Lib.hid (NO1.out (fun q => h_fi (congrArg Rw.fi q)))
    have hne : (fi == fi') = false := by simpa using h_fi
    clear NO NO1 YES CI CL h_fi
    go_wp2_with fail
    go_ret
    exact R.out
  subst h_fi
  by_cases h_la : la = la'
  rotate_left
  · have R := Lib.hid (NO1.out (fun q => h_la (congrArg Rw.la q)))
    have hne : (la == la') = false := by simpa using h_la
    clear NO NO1 YES CI CL h_la
    go_wp2_with fail
    go_ret
    exact R.out
  subst h_la
  by_cases h_un : un = un'
  rotate_left
  · have R := Lib.hid (NO1.out (fun q => h_un (congrArg Rw.un q)))
    have hne : (un == un') = false := by simpa using h_un
    clear NO NO1 YES CI CL h_un
    go_wp2_with fail
    go_ret
    exact R.out
  subst h_un
  by_cases h_co : co = co'
  rotate_left
  · have R := Lib.hid (NO1.out (fun q => h_co (congrArg Rw.co q)))
    have hne : (co == co') = false := by simpa using h_co
    clear NO NO1 YES CI CL h_co
    go_wp2_with fail
    go_ret
    exact R.out
  subst h_co
  go_wp2_with fail
  refine CI.out.mono ?_
  rintro e w2 ⟨b, rfl, hb, m, rfl⟩
  cases b with
  | false =>
    have R := Lib.hid (NO.out (fun q => by have := hb.2 (congrArg Rw.mem q); cases this) m)
    clear NO NO1 YES CI CL hb
    go_wp2_with fail
    go_ret
    exact R.out
  | true =>
    have hm := hb.1 rfl
    subst hm
    clear hb
    go_wp2_with fail
    refine (CL.out m).mono ?_
    rintro e w3 ⟨b, rfl, hb, m2, rfl⟩
    cases b with
    | false =>
      have R := Lib.hid (NO.out (fun q => by have := hb.2 (congrArg Rw.lks q); cases this) (m + m2))
      clear NO NO1 YES CI CL hb
      go_wp2_with fail
      go_ret
      first | exact R.out | (rw [World.drewN_drewN]; exact R.out)
    | true =>
      have hm := hb.1 rfl
      subst hm
      have R := Lib.hid (YES.out rfl (m + m2))
      clear NO NO1 YES CI CL hb
      go_wp2_with fail
      go_ret
      first | exact R.out | (rw [World.drewN_drewN]; exact R.out)
end Go.Proofs.Ytfldcddbmikfiaa
