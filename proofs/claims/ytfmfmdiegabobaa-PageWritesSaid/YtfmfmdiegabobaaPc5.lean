/- What it says: contracts and plain mathematics that the laws' walks use, 5 of 8: each part's own remark says what; no condition. -/
import Derived.Test.YtfmfmdiegabobaaPc3
import Derived.Test.YtfmfmdiegabobaaPc4
import Derived.Deep.QuietTactic
import Derived.Lib.QuietBelow
import Derived.BigQuiet
import Derived.Laws.Cover1
import Derived.WalkMore
import Derived.LoopTactic
import Derived.Deep.CutBlock
import Derived.Handy
import Derived.Deep.RegionHeld
import Derived.Great.BuildSlice
import Derived.Lib.Bytealg

set_option linter.unusedSimpArgs false
set_option linter.unusedVariables false
set_option linter.deprecated false
set_option linter.unusedSectionVars false
set_option linter.all false

/- page.isValue, isCell, isPage; trothref07.Key, Value; trothref10.May: each answers whether what it is asked of may be. -/
namespace Go.Proofs.Ytfmfmdiegabobaa
open Go.RowKit

def Cl.cells (c : Cl) : List Value := [.string c.key, .bool c.val.has, .string c.val.data]
theorem Cl.cells_len (c : Cl) : c.cells.length = 3 := rfl
/-- Cells in memory. -/
structure Pcs (w : World) (A : Option Addr) (n c : Nat) (l : List Cl) : Prop where
  flt : Flt w A n c 3 (l.flatMap Cl.cells)
  len : l.length = n
theorem Pcs.below {w w' : World} {A : Option Addr} {n c : Nat} {l : List Cl} (h : Pcs w A n c l) (hb : Below w.heap.size w w') : Pcs w' A n c l := ⟨h.flt.below hb, h.len⟩
theorem Pcs.get {w : World} {A : Option Addr} {n c : Nat} {l : List Cl} (h : Pcs w A n c l) (hn : 0 < n) : ∃ g off, A = some ⟨g, off, none⟩ ∧ g < w.heap.size ∧ ∀ i, i < n →
    w.cell? ⟨g, off + i * 3, none⟩ = some (.string (l.getD i default).key) ∧ w.cell? ⟨g, off + i * 3 + 1, none⟩ = some (.bool (l.getD i default).val.has) ∧ w.cell? ⟨g, off + i * 3 + 2, none⟩ = some (.string (l.getD i default).val.data) := by
  obtain ⟨g, off, rfl, hc⟩ := h.flt.at_get (default : Cl) Cl.cells Cl.cells_len h.len hn
  refine ⟨g, off, rfl, ?_, fun i hi => ⟨hc i hi 0 _ rfl, hc i hi 1 _ rfl, hc i hi 2 _ rfl⟩⟩
  exact World.block_lt_of_cell? w _ (hc 0 hn 0 _ rfl)

theorem ret_dec {P : Prop} [Decidable P] {b : Bool} {w w' : World} (h : b = true ↔ P) (hb : Below w.heap.size w w') : Ret (.bool (decide P)) w (.returned (.bool b)) w' :=
  ⟨by
    have : decide P = b := by
      cases b
      · exact decide_eq_false (fun q => by have := h.2 q; cases this)
      · exact decide_eq_true (h.1 rfl)
    rw [this], hb⟩
theorem ret_yes {P : Prop} [Decidable P] {w w' : World} (h : P) (hb : Below w.heap.size w w') : Ret (.bool (decide P)) w (.returned (.bool true)) w' := ret_dec ⟨fun _ => h, fun _ => rfl⟩ hb
theorem ret_no {P : Prop} [Decidable P] {w w' : World} (h : ¬ P) (hb : Below w.heap.size w w') : Ret (.bool (decide P)) w (.returned (.bool false)) w' := ret_dec ⟨(fun q => nomatch q), fun q => absurd q h⟩ hb
theorem str_empty (d : ByteArray) : d.toList.isEmpty = true ↔ d = ByteArray.empty := by
  rw [List.isEmpty_iff]
  constructor
  · intro q
    exact ba_inj (by rw [q]; simp)
  · intro q
    rw [q]
    simp

set_option maxHeartbeats 2000000 in
theorem isValue_any (v : Vl) (w : World) : Calls Try.prog 63 #[.agg #[.bool v.has, .string v.data]] w (Ret (.bool (decide (vlOk v))) w) := by
  obtain ⟨hs, d⟩ := v
  have HB : Hid (Below w.heap.size w (w.alloc (.cells #[.bool hs, .string d] 42))) := Lib.hid ((Below.refl _ _).alloc (Nat.le_refl _) _)
  show Calls _ _ #[.agg #[.bool hs, .string d]] w _
  cases hs with
  | true =>
    have HV : vlOk ⟨true, d⟩ ↔ (d.size : Int) ≤ 32 := Iff.rfl
    by_cases h1 : (d.size : Int) ≤ 32
    · have R := Lib.hid (ret_yes (HV.2 h1) HB.out)
      clear HV HB
      go_enter Try.func63, Try.ntmps63
      go_wp2
      go_ret
      exact R.out
    · have R := Lib.hid (ret_no (fun q => h1 (HV.1 q)) HB.out)
      clear HV HB
      go_enter Try.func63, Try.ntmps63
      go_wp2
      go_ret
      exact R.out
  | false =>
    have HV : vlOk ⟨false, d⟩ ↔ d = ByteArray.empty := by unfold vlOk; simp
    have R := Lib.hid (ret_dec ((str_empty d).trans HV.symm) HB.out)
    clear HV HB
    go_enter Try.func63, Try.ntmps63
    go_wp2
    go_ret
    exact R.out

set_option maxHeartbeats 2000000 in
theorem refValue_any (v : Vl) (w : World) : Calls Try.prog 26 #[.agg #[.bool v.has, .string v.data]] w (Ret (.bool (decide (vlOk v))) w) := by
  obtain ⟨hs, d⟩ := v
  have HB : Hid (Below w.heap.size w (w.alloc (.cells #[.bool hs, .string d] 42))) := Lib.hid ((Below.refl _ _).alloc (Nat.le_refl _) _)
  show Calls _ _ #[.agg #[.bool hs, .string d]] w _
  cases hs with
  | true =>
    have HV : vlOk ⟨true, d⟩ ↔ (d.size : Int) ≤ 32 := Iff.rfl
    by_cases h1 : (d.size : Int) ≤ 32
    · have R := Lib.hid (ret_yes (HV.2 h1) HB.out)
      clear HV HB
      go_enter Try.func26, Try.ntmps26
      go_wp2
      go_ret
      exact R.out
    · have R := Lib.hid (ret_no (fun q => h1 (HV.1 q)) HB.out)
      clear HV HB
      go_enter Try.func26, Try.ntmps26
      go_wp2
      go_ret
      exact R.out
  | false =>
    have HV : vlOk ⟨false, d⟩ ↔ d = ByteArray.empty := by unfold vlOk; simp
    have R := Lib.hid (ret_dec ((str_empty d).trans HV.symm) HB.out)
    clear HV HB
    go_enter Try.func26, Try.ntmps26
    go_wp2
    go_ret
    exact R.out

set_option maxHeartbeats 1000000 in
theorem rKey_any (k : ByteArray) (w : World) : Calls Try.prog 25 #[.string k] w (Ret (.bool (decide (keyOk k))) w) := by
  by_cases h1 : 1 ≤ k.size
  · have h1' : (1 : Int) ≤ (k.size : Int) := by omega
    by_cases h2 : k.size ≤ 16
    · have h2' : (k.size : Int) ≤ 16 := by omega
      have R := Lib.hid (ret_yes (P := keyOk k) ⟨h1, h2⟩ (Below.refl _ w))
      go_enter Try.func25, Try.ntmps25
      go_wp2
      go_ret
      exact R.out
    · have h2' : ¬ (k.size : Int) ≤ 16 := by omega
      have R := Lib.hid (ret_no (P := keyOk k) (fun q => h2 q.2) (Below.refl _ w))
      go_enter Try.func25, Try.ntmps25
      go_wp2
      go_ret
      exact R.out
  · have h1' : ¬ (1 : Int) ≤ (k.size : Int) := by omega
    have R := Lib.hid (ret_no (P := keyOk k) (fun q => h1 q.1) (Below.refl _ w))
    go_enter Try.func25, Try.ntmps25
    go_wp2
    go_ret
    exact R.out

set_option maxHeartbeats 2000000 in
theorem isCell_any (c : Cl) (w : World) : Calls Try.prog 41 #[.agg c.cells.toArray] w (Ret (.bool (decide (clOk c))) w) := by
  obtain ⟨k, ⟨hs, d⟩⟩ := c
  show Calls _ _ #[.agg #[.string k, .bool hs, .string d]] w _
  obtain ⟨W, hW⟩ : ∃ W, W = w.alloc (.cells #[.string k, .bool hs, .string d] 54) := ⟨_, rfl⟩
  have HB : Hid (Below w.heap.size w (w.alloc (.cells #[.string k, .bool hs, .string d] 54))) := Lib.hid ((Below.refl _ _).alloc (Nat.le_refl _) _)
  by_cases h1 : 1 ≤ k.size
  · have h1' : (0 : Int) < (k.size : Int) := by omega
    by_cases h2 : k.size ≤ 16
    · have h2' : (k.size : Int) ≤ 16 := by omega
      have e : decide (clOk ⟨k, ⟨hs, d⟩⟩) = decide (vlOk ⟨hs, d⟩) := by
        by_cases hv : vlOk ⟨hs, d⟩
        · rw [decide_eq_true hv]; exact decide_eq_true ⟨⟨h1, h2⟩, hv⟩
        · rw [decide_eq_false hv]; exact decide_eq_false (fun q => hv q.2)
      rw [e]
      obtain ⟨b, hb⟩ : ∃ b, decide (vlOk ⟨hs, d⟩) = b := ⟨_, rfl⟩
      have C := Lib.hid (fun W => isValue_any ⟨hs, d⟩ W)
      rw [hb] at C ⊢
      clear e hb
      go_enter Try.func41, Try.ntmps41
      go_wp2_with fail
      refine (C.out _).mono ?_
      rintro e w1 ⟨rfl, b1⟩
      have B1 := Lib.hid (Below.then HB.out b1)
      clear b1
      go_wp2_with fail
      go_ret
      exact ⟨rfl, B1.out⟩
    · have h2' : ¬ (k.size : Int) ≤ 16 := by omega
      have R := Lib.hid (ret_no (P := clOk ⟨k, ⟨hs, d⟩⟩) (fun q => h2 q.1.2) HB.out)
      clear HB
      go_enter Try.func41, Try.ntmps41
      go_wp2_with fail
      go_ret
      exact R.out
  · have h1' : ¬ (0 : Int) < (k.size : Int) := by omega
    have R := Lib.hid (ret_no (P := clOk ⟨k, ⟨hs, d⟩⟩) (fun q => h1 q.1.1) HB.out)
    clear HB
    go_enter Try.func41, Try.ntmps41
    go_wp2_with fail
    go_ret
    exact R.out
end Go.Proofs.Ytfmfmdiegabobaa

/- page.isPage and trothref10.May answer whether a page may be. -/
namespace Go.Proofs.Ytfmfmdiegabobaa
open Go.RowKit

/-- What holds of the first k cells. -/
def upTo (l : List Cl) (k : Nat) : Prop := ∀ i, i < k → clOk (l.getD i default) ∧ (0 < i → kLt (l.getD (i - 1) default).key (l.getD i default).key)
theorem upTo_next {l : List Cl} {k : Nat} (h : upTo l k) (h1 : clOk (l.getD k default)) (h2 : 0 < k → kLt (l.getD (k - 1) default).key (l.getD k default).key) : upTo l (k + 1) := fun i hi => by
  rcases Nat.lt_or_ge i k with q | q
  · exact h i q
  · obtain rfl : i = k := by omega
    exact ⟨h1, h2⟩
theorem rises_no {l : List Cl} {k : Nat} (hk : k < l.length) (h : ¬ (clOk (l.getD k default) ∧ (0 < k → kLt (l.getD (k - 1) default).key (l.getD k default).key))) : ¬ clsOk l := fun q => h (q k hk)
theorem pgOk_iff (lsn : Int) (l : List Cl) : (⟨lsn, l⟩ : Pg).ok ↔ (0 ≤ lsn ∧ lsn ≤ 1099511627776) ∧ l.length ≤ 4 ∧ clsOk l := Iff.rfl

set_option maxRecDepth 100000 in
set_option maxHeartbeats 4000000 in
theorem isPage_any (lsn : Int) (A : Option Addr) (n c : Nat) (l : List Cl) (w : World) (h : Pcs w A n c l) : Calls Try.prog 27 #[.agg #[.int .i64 lsn, .slice A n c]] w (Ret (.bool (decide ((⟨lsn, l⟩ : Pg).ok))) w) := by
  have hcap := h.flt.cap
  have hmax := h.flt.max
  unfold maxLen at hmax
  have hlen := h.len
  obtain ⟨W0, hW0⟩ : ∃ W, W = w.alloc (.cells #[.int .i64 lsn, .slice A n c] 24) := ⟨_, rfl⟩
  have HB : Hid (Below w.heap.size w W0) := Lib.hid (by rw [hW0]; exact (Below.refl _ _).alloc (Nat.le_refl _) _)
  have BK : Hid (Bk W0 w.heap.size 24 #[.int .i64 lsn, .slice A n c]) := Lib.hid (by rw [hW0]; exact Bk.new w _ _)
  have OKI := Lib.hid (pgOk_iff lsn l)
  by_cases h0 : 0 ≤ lsn
  rotate_left
  · have R := Lib.hid (ret_no (P := (⟨lsn, l⟩ : Pg).ok) (fun q => h0 q.1.1) HB.out)
    have hW := Lib.hid hW0
    clear HB BK OKI hW0 h
    go_enter Try.func27, Try.ntmps27
    go_wp2_with fail
    go_ret
    rw [hW.out] at R
    exact R.out
  by_cases h1 : lsn ≤ 1099511627776
  rotate_left
  · have R := Lib.hid (ret_no (P := (⟨lsn, l⟩ : Pg).ok) (fun q => h1 q.1.2) HB.out)
    have hW := Lib.hid hW0
    clear HB BK OKI hW0 h
    go_enter Try.func27, Try.ntmps27
    go_wp2_with fail
    go_ret
    rw [hW.out] at R
    exact R.out
  by_cases h2 : n ≤ 4
  rotate_left
  · have R := Lib.hid (ret_no (P := (⟨lsn, l⟩ : Pg).ok) (fun q => h2 (by rw [← hlen]; exact q.2.1)) HB.out)
    have hW := Lib.hid hW0
    have h2' : ¬ (n : Int) ≤ 4 := by omega
    clear HB BK OKI hW0 h
    go_enter Try.func27, Try.ntmps27
    go_wp2_with fail
    go_ret
    rw [hW.out] at R
    exact R.out
  have h2' : (n : Int) ≤ 4 := by omega
  have YES : Hid (clsOk l → ∀ w', Below W0.heap.size W0 w' → Ret (.bool (decide ((⟨lsn, l⟩ : Pg).ok))) w (.returned (.bool true)) w') := Lib.hid (fun q w' hb => ret_yes (OKI.out.2 ⟨⟨h0, h1⟩, by omega, q⟩) (Below.then HB.out hb))
  have NO : Hid (¬ clsOk l → ∀ w', Below W0.heap.size W0 w' → Ret (.bool (decide ((⟨lsn, l⟩ : Pg).ok))) w (.returned (.bool false)) w') := Lib.hid (fun q w' hb => ret_no (fun z => q (OKI.out.1 z).2.2) (Below.then HB.out hb))
  have hW := Lib.hid hW0
  have HP := Lib.hid (h.below HB.out)
  have hc1 : W0.cell? ⟨w.heap.size, 1, none⟩ = some (.slice A n c) := BK.out.cell 1
  clear OKI hW0 h
  go_enter Try.func27, Try.ntmps27
  go_upto_region 3 with fail
  rw [← hW.out]
  go_wp2_with fail
  go_loopw [22] (fun y wr => ∃ k : Nat, k ≤ n ∧ y = .int .i64 k ∧ Below W0.heap.size W0 wr ∧ upTo l k) (fun y _ => n - (intOf y).toNat)
  case atStart => exact ⟨0, Nat.zero_le _, rfl, Below.refl _ _, fun i hi => absurd hi (by omega)⟩
  case round =>
    obtain ⟨k, hk, rfl, hb, hu⟩ := hrel
    by_cases hlt : k < n
    · obtain ⟨g, off, rfl, _, hc⟩ := (HP.out.below hb).get (by omega)
      obtain ⟨a0, a1, a2⟩ := hc k hlt
      have HPR := Lib.hid hc
      obtain ⟨x, hx⟩ : ∃ x, l.getD k default = x := ⟨_, rfl⟩
      rw [hx] at a0 a1 a2
      obtain ⟨key, ⟨hs, d⟩⟩ := x
      simp only at a0 a1 a2
      have HX := Lib.hid hx
      have HU := Lib.hid hu
      have HBB := Lib.hid hb
      have hcp : wr.cell? ⟨w.heap.size, 1, none⟩ = some (.slice (some ⟨g, off, none⟩) n c) := (BK.out.bel hb BK.out.lt).cell 1
      clear hc hb hu hx
      go_wp2_with fail
      obtain ⟨W1, hW1⟩ : ∃ W, W = wr.alloc (.cells #[.string key, .bool hs, .string d] 54) := ⟨_, rfl⟩
      have bW1 : Below wr.heap.size wr W1 := by rw [hW1]; exact (Below.refl _ _).alloc (Nat.le_refl _) _
      have bk1 : Bk W1 wr.heap.size 54 #[.string key, .bool hs, .string d] := by rw [hW1]; exact Bk.new wr _ _
      rw [← hW1]
      have f0 : ∀ d' os, (Go.Sort.grow (redrawn W1 d') os).cell? ⟨wr.heap.size, 0, none⟩ = some (.string key) := cell_regrown (bk1.cell 0)
      have f1 : ∀ d' os, (Go.Sort.grow (redrawn W1 d') os).cell? ⟨wr.heap.size, 1, none⟩ = some (.bool hs) := cell_regrown (bk1.cell 1)
      have f2 : ∀ d' os, (Go.Sort.grow (redrawn W1 d') os).cell? ⟨wr.heap.size, 2, none⟩ = some (.string d) := cell_regrown (bk1.cell 2)
      have fp : ∀ d' os, (Go.Sort.grow (redrawn W1 d') os).cell? ⟨w.heap.size, 1, none⟩ = some (.slice (some ⟨g, off, none⟩) n c) := cell_regrown ((bW1.cell (World.block_lt_of_cell? wr _ hcp)).trans hcp)
      have BW := Lib.hid (Below.then HBB.out bW1)
      have BW1 := Lib.hid bW1
      have C := Lib.hid (fun W => isCell_any ⟨key, ⟨hs, d⟩⟩ W)
      clear hW1 bW1 bk1 a0 a1 a2 hcp
      by_cases hok : clOk ⟨key, ⟨hs, d⟩⟩
      · rw [decide_eq_true hok] at C
        rcases Nat.eq_zero_or_pos k with hk0 | hk0
        · subst hk0
          have HN : Hid (upTo l (0 + 1)) := Lib.hid (upTo_next HU.out (by rw [HX.out]; exact hok) (fun q => absurd q (by omega)))
          clear hok
          refine wp_region_quiet_below (by kernel_rfl) (by kernel_rfl) ?_
          repeat (any_goals (first | go_big_quiet_step ((go_at_call 41; exact Calls.regrown_of (C.out _))) | quiet_step ((go_at_call 41; exact Calls.regrown_of (C.out _)))))
          refine wpQuiet_nil ?_
          intro _ hw'
          obtain ⟨⟨dq, osq⟩, hw''⟩ := hw'
          subst hw''
          have L11 := Lib.hid (Below.then BW.out (below_regrown W1 dq osq))
          clear BW f0 f1 f2 fp C
          go_wp2_with fail
          go_roundw
          case rel => exact ⟨0 + 1, by omega, by go_num, L11.out, HN.out⟩
          case measure => simp [intOf]; omega
        · obtain ⟨m, rfl⟩ : ∃ m, k = m + 1 := ⟨k - 1, by omega⟩
          obtain ⟨b0, _, _⟩ := HPR.out m (by omega)
          obtain ⟨pk, hpk⟩ : ∃ x, (l.getD m default).key = x := ⟨_, rfl⟩
          rw [hpk] at b0
          have fq : ∀ d' os, (Go.Sort.grow (redrawn W1 d') os).cell? ⟨g, off + m * 3, none⟩ = some (.string pk) := cell_regrown ((BW1.out.cell (World.block_lt_of_cell? wr _ b0)).trans b0)
          clear b0
          by_cases hlt2 : kLt pk key
          · have hA : Op.bytesLess key.toList pk.toList = false := by
              have := kLt_asym hlt2
              unfold kLt at this
              simpa using this
            have hB : (key.toList == pk.toList) = false := by
              rw [beq_eq_false_iff_ne]
              exact fun q => kLt_ne hlt2 (ba_inj q).symm
            have HN : Hid (upTo l (m + 1 + 1)) := Lib.hid (upTo_next HU.out (by rw [HX.out]; exact hok) (fun _ => by rw [Nat.add_sub_cancel, hpk, HX.out]; exact hlt2))
            clear hok hlt2 hpk
            refine wp_region_quiet_below (by kernel_rfl) (by kernel_rfl) ?_
            repeat (any_goals (first | go_big_quiet_step ((go_at_call 41; exact Calls.regrown_of (C.out _))) | quiet_step ((go_at_call 41; exact Calls.regrown_of (C.out _)))))
            refine wpQuiet_nil ?_
            intro _ hw'
            obtain ⟨⟨dq, osq⟩, hw''⟩ := hw'
            subst hw''
            have L11 := Lib.hid (Below.then BW.out (below_regrown W1 dq osq))
            clear BW f0 f1 f2 fp C fq
            go_wp2_with fail
            go_roundw
            case rel => exact ⟨m + 1 + 1, by omega, by go_num, L11.out, HN.out⟩
            case measure => simp [intOf]; omega
          · have HNO : Hid (¬ clsOk l) := Lib.hid (rises_no (k := m + 1) (by omega) (fun q => hlt2 (by have := q.2 (by omega); rw [Nat.add_sub_cancel, hpk, HX.out] at this; exact this)))
            by_cases heq : key = pk
            · subst heq
              have hB : (key.toList == key.toList) = true := by simp
              clear hok hlt2 hpk
              refine wp_region_quiet_below (by kernel_rfl) (by kernel_rfl) ?_
              repeat (any_goals (first | go_big_quiet_step ((go_at_call 41; exact Calls.regrown_of (C.out _))) | quiet_step ((go_at_call 41; exact Calls.regrown_of (C.out _)))))
              refine wpQuiet_nil ?_
              intro _ hw'
              obtain ⟨⟨dq, osq⟩, hw''⟩ := hw'
              subst hw''
              have L11 := Lib.hid (Below.then BW.out (below_regrown W1 dq osq))
              have R := Lib.hid (NO.out HNO.out _ L11.out)
              clear BW f0 f1 f2 fp C L11
              go_wp2_with fail
              go_ret
              exact R.out
            · have hA : Op.bytesLess key.toList pk.toList = true := kLt_tri hlt2 (fun q => heq q.symm)
              clear hok hlt2 hpk heq
              refine wp_region_quiet_below (by kernel_rfl) (by kernel_rfl) ?_
              repeat (any_goals (first | go_big_quiet_step ((go_at_call 41; exact Calls.regrown_of (C.out _))) | quiet_step ((go_at_call 41; exact Calls.regrown_of (C.out _)))))
              refine wpQuiet_nil ?_
              intro _ hw'
              obtain ⟨⟨dq, osq⟩, hw''⟩ := hw'
              subst hw''
              have L11 := Lib.hid (Below.then BW.out (below_regrown W1 dq osq))
              have R := Lib.hid (NO.out HNO.out _ L11.out)
              clear BW f0 f1 f2 fp C L11
              go_wp2_with fail
              go_ret
              exact R.out
      · rw [decide_eq_false hok] at C
        have HNO : Hid (¬ clsOk l) := Lib.hid (rises_no (k := k) (by omega) (fun q => hok (by have := q.1; rw [HX.out] at this; exact this)))
        clear hok
        refine wp_region_quiet_below (by kernel_rfl) (by kernel_rfl) ?_
        repeat (any_goals (first | go_big_quiet_step ((go_at_call 41; exact Calls.regrown_of (C.out _))) | quiet_step ((go_at_call 41; exact Calls.regrown_of (C.out _)))))
        refine wpQuiet_nil ?_
        intro _ hw'
        obtain ⟨⟨dq, osq⟩, hw''⟩ := hw'
        subst hw''
        have L11 := Lib.hid (Below.then BW.out (below_regrown W1 dq osq))
        have R := Lib.hid (NO.out HNO.out _ L11.out)
        clear BW f0 f1 f2 fp C L11
        go_wp2_with fail
        go_ret
        exact R.out
    · obtain rfl : k = n := by omega
      have R := Lib.hid (YES.out (fun i hi => hu i (by omega)) _ hb)
      clear hb hu hlt
      go_wp2_with fail
      go_ret
      exact R.out
end Go.Proofs.Ytfmfmdiegabobaa

/- trothref10.May answers whether a page may be. -/
namespace Go.Proofs.Ytfmfmdiegabobaa
open Go.RowKit

set_option maxRecDepth 100000 in
set_option maxHeartbeats 4000000 in
theorem may10_any (lsn : Int) (A : Option Addr) (n c : Nat) (l : List Cl) (w : World) (h : Pcs w A n c l) : Calls Try.prog 31 #[.agg #[.int .i64 lsn, .slice A n c]] w (Ret (.bool (decide ((⟨lsn, l⟩ : Pg).ok))) w) := by
  have hcap := h.flt.cap
  have hmax := h.flt.max
  unfold maxLen at hmax
  have hlen := h.len
  obtain ⟨W0, hW0⟩ : ∃ W, W = w.alloc (.cells #[.int .i64 lsn, .slice A n c] 24) := ⟨_, rfl⟩
  have HB : Hid (Below w.heap.size w W0) := Lib.hid (by rw [hW0]; exact (Below.refl _ _).alloc (Nat.le_refl _) _)
  have BK : Hid (Bk W0 w.heap.size 24 #[.int .i64 lsn, .slice A n c]) := Lib.hid (by rw [hW0]; exact Bk.new w _ _)
  have OKI := Lib.hid (pgOk_iff lsn l)
  by_cases h0 : 0 ≤ lsn
  rotate_left
  · have R := Lib.hid (ret_no (P := (⟨lsn, l⟩ : Pg).ok) (fun q => h0 q.1.1) HB.out)
    have hW := Lib.hid hW0
    clear HB BK OKI hW0 h
    go_enter Try.func31, Try.ntmps31
    go_wp2_with fail
    go_ret
    rw [hW.out] at R
    exact R.out
  by_cases h1 : lsn ≤ 1099511627776
  rotate_left
  · have R := Lib.hid (ret_no (P := (⟨lsn, l⟩ : Pg).ok) (fun q => h1 q.1.2) HB.out)
    have hW := Lib.hid hW0
    clear HB BK OKI hW0 h
    go_enter Try.func31, Try.ntmps31
    go_wp2_with fail
    go_ret
    rw [hW.out] at R
    exact R.out
  by_cases h2 : n ≤ 4
  rotate_left
  · have R := Lib.hid (ret_no (P := (⟨lsn, l⟩ : Pg).ok) (fun q => h2 (by rw [← hlen]; exact q.2.1)) HB.out)
    have hW := Lib.hid hW0
    have h2' : ¬ (n : Int) ≤ 4 := by omega
    clear HB BK OKI hW0 h
    go_enter Try.func31, Try.ntmps31
    go_wp2_with fail
    go_ret
    rw [hW.out] at R
    exact R.out
  have h2' : (n : Int) ≤ 4 := by omega
  have YES : Hid (clsOk l → ∀ w', Below W0.heap.size W0 w' → Ret (.bool (decide ((⟨lsn, l⟩ : Pg).ok))) w (.returned (.bool true)) w') := Lib.hid (fun q w' hb => ret_yes (OKI.out.2 ⟨⟨h0, h1⟩, by omega, q⟩) (Below.then HB.out hb))
  have NO : Hid (¬ clsOk l → ∀ w', Below W0.heap.size W0 w' → Ret (.bool (decide ((⟨lsn, l⟩ : Pg).ok))) w (.returned (.bool false)) w') := Lib.hid (fun q w' hb => ret_no (fun z => q (OKI.out.1 z).2.2) (Below.then HB.out hb))
  have hW := Lib.hid hW0
  have HP := Lib.hid (h.below HB.out)
  have hc1 : W0.cell? ⟨w.heap.size, 1, none⟩ = some (.slice A n c) := BK.out.cell 1
  clear OKI hW0 h
  go_enter Try.func31, Try.ntmps31
  go_upto_region 3 with fail
  rw [← hW.out]
  go_wp2_with fail
  go_loopw [3] (fun y wr => ∃ k : Nat, k ≤ n ∧ y = .int .i64 k ∧ Below W0.heap.size W0 wr ∧ upTo l k) (fun y _ => n - (intOf y).toNat)
  case atStart => exact ⟨0, Nat.zero_le _, rfl, Below.refl _ _, fun i hi => absurd hi (by omega)⟩
  case round =>
    obtain ⟨k, hk, rfl, hb, hu⟩ := hrel
    have hcp : wr.cell? ⟨w.heap.size, 1, none⟩ = some (.slice A n c) := (BK.out.bel hb BK.out.lt).cell 1
    by_cases hlt : k < n
    · obtain ⟨g, off, rfl, _, hc⟩ := (HP.out.below hb).get (by omega)
      obtain ⟨a0, a1, a2⟩ := hc k hlt
      have HPR := Lib.hid hc
      obtain ⟨x, hx⟩ : ∃ x, l.getD k default = x := ⟨_, rfl⟩
      rw [hx] at a0 a1 a2
      obtain ⟨key, ⟨hs, d⟩⟩ := x
      simp only at a0 a1 a2
      have HX := Lib.hid hx
      have HU := Lib.hid hu
      have HBB := Lib.hid hb
      clear hc hb hu hx
      go_wp2_with fail
      obtain ⟨W1, hW1⟩ : ∃ W, W = wr.alloc (.cells #[.string key, .bool hs, .string d] 54) := ⟨_, rfl⟩
      have bW1 : Below wr.heap.size wr W1 := by rw [hW1]; exact (Below.refl _ _).alloc (Nat.le_refl _) _
      have bk1 : Bk W1 wr.heap.size 54 #[.string key, .bool hs, .string d] := by rw [hW1]; exact Bk.new wr _ _
      rw [← hW1]
      have f0 : ∀ d' os, (Go.Sort.grow (redrawn W1 d') os).cell? ⟨wr.heap.size, 0, none⟩ = some (.string key) := cell_regrown (bk1.cell 0)
      have f1 : ∀ d' os, (Go.Sort.grow (redrawn W1 d') os).cell? ⟨wr.heap.size, 1, none⟩ = some (.bool hs) := cell_regrown (bk1.cell 1)
      have f2 : ∀ d' os, (Go.Sort.grow (redrawn W1 d') os).cell? ⟨wr.heap.size, 2, none⟩ = some (.string d) := cell_regrown (bk1.cell 2)
      have fp : ∀ d' os, (Go.Sort.grow (redrawn W1 d') os).cell? ⟨w.heap.size, 1, none⟩ = some (.slice (some ⟨g, off, none⟩) n c) := cell_regrown ((bW1.cell (World.block_lt_of_cell? wr _ hcp)).trans hcp)
      have BW := Lib.hid (Below.then HBB.out bW1)
      have BW1 := Lib.hid bW1
      have CK := Lib.hid (fun W => rKey_any key W)
      have CV := Lib.hid (fun W => refValue_any ⟨hs, d⟩ W)
      clear hW1 bW1 bk1 a0 a1 a2 hcp
      by_cases hok : clOk ⟨key, ⟨hs, d⟩⟩
      · rw [decide_eq_true hok.1] at CK
        rw [decide_eq_true hok.2] at CV
        rcases Nat.eq_zero_or_pos k with hk0 | hk0
        · subst hk0
          have HN : Hid (upTo l (0 + 1)) := Lib.hid (upTo_next HU.out (by rw [HX.out]; exact hok) (fun q => absurd q (by omega)))
          clear hok
          refine wp_region_quiet_below (by kernel_rfl) (by kernel_rfl) ?_
          repeat (any_goals (first | go_big_quiet_step ((first | (go_at_call 25; exact Calls.regrown_of (CK.out _)) | (go_at_call 26; exact Calls.regrown_of (CV.out _)))) | quiet_step ((first | (go_at_call 25; exact Calls.regrown_of (CK.out _)) | (go_at_call 26; exact Calls.regrown_of (CV.out _))))))
          refine wpQuiet_nil ?_
          intro _ hw'
          obtain ⟨⟨dq, osq⟩, hw''⟩ := hw'
          subst hw''
          have L11 := Lib.hid (Below.then BW.out (below_regrown W1 dq osq))
          clear BW f0 f1 f2 fp CK CV
          go_wp2_with fail
          go_roundw
          case rel => exact ⟨0 + 1, by omega, by go_num, L11.out, HN.out⟩
          case measure => simp [intOf]; omega
        · obtain ⟨m, rfl⟩ : ∃ m, k = m + 1 := ⟨k - 1, by omega⟩
          obtain ⟨b0, _, _⟩ := HPR.out m (by omega)
          obtain ⟨pk, hpk⟩ : ∃ x, (l.getD m default).key = x := ⟨_, rfl⟩
          rw [hpk] at b0
          have fq : ∀ d' os, (Go.Sort.grow (redrawn W1 d') os).cell? ⟨g, off + m * 3, none⟩ = some (.string pk) := cell_regrown ((BW1.out.cell (World.block_lt_of_cell? wr _ b0)).trans b0)
          clear b0
          by_cases hlt2 : kLt pk key
          · have hA : Op.bytesLess pk.toList key.toList = true := hlt2
            have HN : Hid (upTo l (m + 1 + 1)) := Lib.hid (upTo_next HU.out (by rw [HX.out]; exact hok) (fun _ => by rw [Nat.add_sub_cancel, hpk, HX.out]; exact hlt2))
            clear hok hlt2 hpk
            refine wp_region_quiet_below (by kernel_rfl) (by kernel_rfl) ?_
            repeat (any_goals (first | go_big_quiet_step ((first | (go_at_call 25; exact Calls.regrown_of (CK.out _)) | (go_at_call 26; exact Calls.regrown_of (CV.out _)))) | quiet_step ((first | (go_at_call 25; exact Calls.regrown_of (CK.out _)) | (go_at_call 26; exact Calls.regrown_of (CV.out _))))))
            refine wpQuiet_nil ?_
            intro _ hw'
            obtain ⟨⟨dq, osq⟩, hw''⟩ := hw'
            subst hw''
            have L11 := Lib.hid (Below.then BW.out (below_regrown W1 dq osq))
            clear BW f0 f1 f2 fp CK CV fq
            go_wp2_with fail
            go_roundw
            case rel => exact ⟨m + 1 + 1, by omega, by go_num, L11.out, HN.out⟩
            case measure => simp [intOf]; omega
          · have HNO : Hid (¬ clsOk l) := Lib.hid (rises_no (k := m + 1) (by omega) (fun q => hlt2 (by have := q.2 (by omega); rw [Nat.add_sub_cancel, hpk, HX.out] at this; exact this)))
            have hA : Op.bytesLess pk.toList key.toList = false := by
              unfold kLt at hlt2
              simpa using hlt2
            clear hok hlt2 hpk
            refine wp_region_quiet_below (by kernel_rfl) (by kernel_rfl) ?_
            repeat (any_goals (first | go_big_quiet_step ((first | (go_at_call 25; exact Calls.regrown_of (CK.out _)) | (go_at_call 26; exact Calls.regrown_of (CV.out _)))) | quiet_step ((first | (go_at_call 25; exact Calls.regrown_of (CK.out _)) | (go_at_call 26; exact Calls.regrown_of (CV.out _))))))
            refine wpQuiet_nil ?_
            intro _ hw'
            obtain ⟨⟨dq, osq⟩, hw''⟩ := hw'
            subst hw''
            have L11 := Lib.hid (Below.then BW.out (below_regrown W1 dq osq))
            have R := Lib.hid (NO.out HNO.out _ L11.out)
            clear BW f0 f1 f2 fp CK CV L11
            go_wp2_with fail
            go_ret
            exact R.out
      · have HNO : Hid (¬ clsOk l) := Lib.hid (rises_no (k := k) (by omega) (fun q => hok (by have := q.1; rw [HX.out] at this; exact this)))
        by_cases hk1 : keyOk key
        · have hv : ¬ vlOk ⟨hs, d⟩ := fun q => hok ⟨hk1, q⟩
          rw [decide_eq_true hk1] at CK
          rw [decide_eq_false hv] at CV
          clear hok hk1 hv
          refine wp_region_quiet_below (by kernel_rfl) (by kernel_rfl) ?_
          repeat (any_goals (first | go_big_quiet_step ((first | (go_at_call 25; exact Calls.regrown_of (CK.out _)) | (go_at_call 26; exact Calls.regrown_of (CV.out _)))) | quiet_step ((first | (go_at_call 25; exact Calls.regrown_of (CK.out _)) | (go_at_call 26; exact Calls.regrown_of (CV.out _))))))
          refine wpQuiet_nil ?_
          intro _ hw'
          obtain ⟨⟨dq, osq⟩, hw''⟩ := hw'
          subst hw''
          have L11 := Lib.hid (Below.then BW.out (below_regrown W1 dq osq))
          have R := Lib.hid (NO.out HNO.out _ L11.out)
          clear BW f0 f1 f2 fp CK CV L11
          go_wp2_with fail
          go_ret
          exact R.out
        · rw [decide_eq_false hk1] at CK
          clear hok hk1
          refine wp_region_quiet_below (by kernel_rfl) (by kernel_rfl) ?_
          repeat (any_goals (first | go_big_quiet_step ((first | (go_at_call 25; exact Calls.regrown_of (CK.out _)) | (go_at_call 26; exact Calls.regrown_of (CV.out _)))) | quiet_step ((first | (go_at_call 25; exact Calls.regrown_of (CK.out _)) | (go_at_call 26; exact Calls.regrown_of (CV.out _))))))
          refine wpQuiet_nil ?_
          intro _ hw'
          obtain ⟨⟨dq, osq⟩, hw''⟩ := hw'
          subst hw''
          have L11 := Lib.hid (Below.then BW.out (below_regrown W1 dq osq))
          have R := Lib.hid (NO.out HNO.out _ L11.out)
          clear BW f0 f1 f2 fp CK CV L11
          go_wp2_with fail
          go_ret
          exact R.out
    · obtain rfl : k = n := by omega
      have R := Lib.hid (YES.out (fun i hi => hu i (by omega)) _ hb)
      clear hb hu hlt
      go_wp2_with fail
      go_ret
      exact R.out
end Go.Proofs.Ytfmfmdiegabobaa

/- page.indexOf, Get, Room and trothref10.Get, has, Room: the first cell of a key. -/
namespace Go.Proofs.Ytfmfmdiegabobaa
open Go.RowKit

/-- No cell ahead of number j has the key. -/
def noneTo (l : List Cl) (k : ByteArray) (j : Nat) : Prop := ∀ i, i < j → (l.getD i default).key ≠ k
theorem noneTo_next {l : List Cl} {k : ByteArray} {j : Nat} (h : noneTo l k j) (h1 : (l.getD j default).key ≠ k) : noneTo l k (j + 1) := fun i hi => by
  rcases Nat.lt_or_ge i j with q | q
  · exact h i q
  · obtain rfl : i = j := by omega
    exact h1
theorem first_at {k : ByteArray} : ∀ {l : List Cl} {j : Nat}, j < l.length → noneTo l k j → (l.getD j default).key = k → getC l k = some (l.getD j default) ∧ hasC l k = true
  | [], _, h, _, _ => absurd h (by simp)
  | c :: r, 0, _, _, e => by
    have e' : c.key = k := by simpa using e
    unfold getC hasC
    simp [e']
  | c :: r, j + 1, h, hn, e => by
    have h0 : c.key ≠ k := by simpa using hn 0 (by omega)
    obtain ⟨h1, h2⟩ := first_at (l := r) (j := j) (by simpa using h) (fun i hi => by simpa using hn (i + 1) (by omega)) (by simpa using e)
    unfold getC hasC at *
    constructor
    · rw [List.find?_cons_of_neg (by simpa using h0), h1]
      simp
    · rw [List.any_cons, h2]
      simp
theorem first_none {k : ByteArray} {l : List Cl} (h : noneTo l k l.length) : getC l k = none ∧ hasC l k = false := by
  have h' : ∀ x ∈ l, x.key ≠ k := fun x hx => by
    obtain ⟨i, hi, rfl⟩ := List.getElem_of_mem hx
    have := h i hi
    rwa [List.getD_eq_getElem?_getD, List.getElem?_eq_getElem hi] at this
  refine ⟨find_none h', ?_⟩
  cases q : hasC l k with
  | false => rfl
  | true =>
    obtain ⟨x, hx, e⟩ := (has_iff l k).1 q
    exact absurd e (h' x hx)

/-- Where the first cell of a key stands. -/
def Idx (l : List Cl) (k : ByteArray) (j : Int) : Prop := (∃ m : Nat, j = m ∧ m < l.length ∧ getC l k = some (l.getD m default) ∧ hasC l k = true) ∨ (j = -1 ∧ getC l k = none ∧ hasC l k = false)
def RetIdx (l : List Cl) (k : ByteArray) (w : World) (e : Ending) (w' : World) : Prop := ∃ j : Int, e = .returned (.int .i64 j) ∧ Idx l k j ∧ Below w.heap.size w w'

theorem beq_key {a b : ByteArray} : (a.toList == b.toList) = decide (a = b) := by
  by_cases h : a = b
  · subst h; simp
  · rw [decide_eq_false h, beq_eq_false_iff_ne]
    exact fun q => h (ba_inj q)

set_option maxHeartbeats 1000000 in
theorem isKey_any (x : Cl) (q : Addr) (k : ByteArray) (w : World) (hq : w.cell? q = some (.string k)) :
    Calls Try.prog 67 #[.agg x.cells.toArray, .pointer (some q)] w (Ret (.bool (decide (x.key = k))) w) := by
  obtain ⟨key, ⟨hs, d⟩⟩ := x
  show Calls _ _ #[.agg #[.string key, .bool hs, .string d], .pointer (some q)] w _
  have HB : Hid (Below w.heap.size w (w.alloc (.cells #[.string key, .bool hs, .string d] 54))) := Lib.hid ((Below.refl _ _).alloc (Nat.le_refl _) _)
  have hq' : (w.alloc (.cells #[.string key, .bool hs, .string d] 54)).cell? q = some (.string k) := (HB.out.cell (World.block_lt_of_cell? w _ hq)).trans hq
  go_enter Try.func67, Try.ntmps67
  go_wp2_with fail
  go_ret
  exact ⟨by rw [← beq_key]; rfl, HB.out⟩

set_option maxRecDepth 100000 in
set_option maxHeartbeats 4000000 in
theorem indexFunc_any (A : Option Addr) (n c : Nat) (l : List Cl) (q : Addr) (k : ByteArray) (w : World) (h : Pcs w A n c l) (hq : w.cell? q = some (.string k)) :
    Calls Try.prog 66 #[.slice A n c, .func (.func 67) #[] #[.pointer (some q)]] w (RetIdx l k w) := by
  have hcap := h.flt.cap
  have hmax := h.flt.max
  unfold maxLen at hmax
  have HP := Lib.hid h
  have hlen := Lib.hid h.len
  have HQ : Hid (∀ W, Below w.heap.size w W → W.cell? q = some (.string k)) := Lib.hid (fun W hb => (hb.cell (World.block_lt_of_cell? w _ hq)).trans hq)
  clear h hq
  go_enter Try.func66, Try.ntmps66
  go_wp2_with fail
  go_loopw [8] (fun y wr => ∃ j : Nat, j ≤ n ∧ y = .int .i64 j ∧ Below w.heap.size w wr ∧ noneTo l k j) (fun y _ => n - (intOf y).toNat)
  case atStart => exact ⟨0, Nat.zero_le _, rfl, Below.refl _ _, fun i hi => absurd hi (by omega)⟩
  case round =>
    obtain ⟨j, hj, rfl, hb, hu⟩ := hrel
    have HB := Lib.hid hb
    have HU := Lib.hid hu
    by_cases hlt : j < n
    · obtain ⟨g, off, rfl, _, hc⟩ := (HP.out.below hb).get (by omega)
      obtain ⟨a0, a1, a2⟩ := hc j hlt
      obtain ⟨x, hx⟩ : ∃ x, l.getD j default = x := ⟨_, rfl⟩
      rw [hx] at a0 a1 a2
      obtain ⟨key, ⟨hs, d⟩⟩ := x
      simp only at a0 a1 a2
      have HX := Lib.hid hx
      clear hc hb hu hx
      obtain ⟨b, hbk⟩ : ∃ b, decide (key = k) = b := ⟨_, rfl⟩
      have C : Hid (∀ W, W.cell? q = some (.string k) → Calls Try.prog 67 #[.agg #[.string key, .bool hs, .string d], .pointer (some q)] W (Ret (.bool b) W)) := Lib.hid (fun W hW => by rw [← hbk]; exact isKey_any ⟨key, ⟨hs, d⟩⟩ q k W hW)
      have HBK := Lib.hid hbk
      clear hbk
      go_wp2_with fail
      refine (C.out _ (HQ.out _ HB.out)).mono ?_
      rintro e w1 ⟨rfl, b1⟩
      have B1 := Lib.hid (Below.then HB.out b1)
      clear b1 C a0 a1 a2
      cases b with
      | true =>
        have R : Hid (RetIdx l k w (.returned (.int .i64 (j : Int))) w1) := Lib.hid ⟨j, rfl, .inl ⟨j, rfl, by rw [hlen.out]; exact hlt, first_at (by rw [hlen.out]; exact hlt) HU.out (by rw [HX.out]; exact of_decide_eq_true HBK.out)⟩, B1.out⟩
        clear B1 HU HX HBK HB
        go_wp2_with fail
        (try rw [Exit.noGoto_ret])
        go_ret
        exact R.out
      | false =>
        have HN : Hid (noneTo l k (j + 1)) := Lib.hid (noneTo_next HU.out (by rw [HX.out]; exact of_decide_eq_false HBK.out))
        clear HU HX HBK HB
        go_wp2_with fail
        go_roundw
        case rel => exact ⟨j + 1, by omega, by go_num, B1.out, HN.out⟩
        case measure => simp [intOf]; omega
    · obtain rfl : j = n := by omega
      have R : Hid (RetIdx l k w (.returned (.int .i64 (-1))) wr) := Lib.hid ⟨-1, rfl, .inr ⟨rfl, first_none (by rw [hlen.out]; exact HU.out)⟩, HB.out⟩
      clear hb hu hlt HU HB
      go_wp2_with fail
      go_ret
      exact R.out

set_option maxHeartbeats 1000000 in
theorem indexOf_any (A : Option Addr) (n c : Nat) (l : List Cl) (k : ByteArray) (w : World) (h : Pcs w A n c l) :
    Calls Try.prog 46 #[.slice A n c, .string k] w (RetIdx l k w) := by
  obtain ⟨W0, hW0⟩ : ∃ W, W = w.alloc (.cells #[.string k] 9) := ⟨_, rfl⟩
  have HB : Hid (Below w.heap.size w W0) := Lib.hid (by rw [hW0]; exact (Below.refl _ _).alloc (Nat.le_refl _) _)
  have BK : Hid (Bk W0 w.heap.size 9 #[.string k]) := Lib.hid (by rw [hW0]; exact Bk.new w _ _)
  have C := Lib.hid (indexFunc_any A n c l ⟨w.heap.size, 0, none⟩ k W0 (h.below HB.out) (BK.out.cell 0))
  have HW := Lib.hid hW0
  clear h hW0
  go_enter Try.func46, Try.ntmps46
  go_upto_region 1 with fail
  rw [← HW.out]
  go_wp2_with fail
  refine C.out.mono ?_
  rintro e w1 ⟨j, rfl, hj, b1⟩
  have R : Hid (RetIdx l k w (.returned (.int .i64 j)) w1) := Lib.hid ⟨j, rfl, hj, Below.then HB.out b1⟩
  clear hj b1
  go_wp2_with fail
  go_ret
  exact R.out

theorem vl_inf : (Try.prog.info? 42).map (·.size) = some 2 := by kernel_rfl
theorem cl_inf : (Try.prog.info? 54).map (·.size) = some 3 := by kernel_rfl
theorem pg_inf : (Try.prog.info? 24).map (·.size) = some 2 := by kernel_rfl
/-- A page's value. -/
abbrev pgV (lsn : Int) (A : Option Addr) (n c : Nat) : Value := .agg #[.int .i64 lsn, .slice A n c]
abbrev vlV (v : Vl) : Value := .agg #[.bool v.has, .string v.data]

set_option maxRecDepth 100000 in
set_option maxHeartbeats 4000000 in
theorem get_any (lsn : Int) (A : Option Addr) (n c : Nat) (l : List Cl) (k : ByteArray) (w : World) (h : Pcs w A n c l) :
    Calls Try.prog 19 #[pgV lsn A n c, .string k] w (Ret (vlV (getV l k)) w) := by
  have hcap := h.flt.cap
  have hmax := h.flt.max
  unfold maxLen at hmax
  have hlen := Lib.hid h.len
  obtain ⟨W0, hW0⟩ : ∃ W, W = (w.alloc (.cells #[.int .i64 lsn, .slice A n c] 24)).alloc (.cells #[.bool false, .string ⟨#[]⟩] 42) := ⟨_, rfl⟩
  have HB : Hid (Below w.heap.size w W0) := Lib.hid (by rw [hW0]; exact ((Below.refl _ _).alloc (Nat.le_refl _) _).alloc (by simp) _)
  have BP : Hid (Bk W0 w.heap.size 24 #[.int .i64 lsn, .slice A n c]) := Lib.hid (by rw [hW0]; exact (Bk.new w _ _).bel ((Below.refl _ _).alloc (Nat.le_refl _) _) (by simp))
  have BV : Hid (Bk W0 (w.heap.size + 1) 42 #[.bool false, .string ⟨#[]⟩]) := Lib.hid (by
    rw [hW0]
    have := Bk.new (w.alloc (.cells #[.int .i64 lsn, .slice A n c] 24)) 42 #[.bool false, .string ⟨#[]⟩]
    rwa [World.size_alloc] at this)
  have HP := Lib.hid (h.below HB.out)
  have C := Lib.hid (indexOf_any A n c l k W0 HP.out)
  have hc1 : W0.cell? ⟨w.heap.size, 1, none⟩ = some (.slice A n c) := BP.out.cell 1
  have HW := Lib.hid hW0
  clear h hW0
  go_enter Try.func19, Try.ntmps19
  go_upto_region 1 with fail
  rw [← HW.out]
  go_wp2_with fail
  refine C.out.mono ?_
  rintro e w1 ⟨j, rfl, hj, b1⟩
  have B1 := Lib.hid b1
  have BV1 := Lib.hid (BV.out.bel b1 BV.out.lt)
  have hcq : w1.cell? ⟨w.heap.size, 1, none⟩ = some (.slice A n c) := (BP.out.bel b1 BP.out.lt).cell 1
  have hf0 : w1.frozen? ⟨w.heap.size + 1, 0, none⟩ = false := BV1.out.frz 0
  have hf1 : w1.frozen? ⟨w.heap.size + 1, 1, none⟩ = false := BV1.out.frz 1
  have hv0 : w1.cell? ⟨w.heap.size + 1, 0, none⟩ = some (.bool false) := BV1.out.cell 0
  have hv1 : w1.cell? ⟨w.heap.size + 1, 1, none⟩ = some (.string ⟨#[]⟩) := BV1.out.cell 1
  have HP1 := Lib.hid (HP.out.below b1)
  clear hc1 b1
  rcases hj with ⟨m, rfl, hm, hg, _⟩ | ⟨rfl, hg, _⟩
  · have hmn : m < n := by rw [← hlen.out]; exact hm
    obtain ⟨g, off, rfl, _, hc⟩ := HP1.out.get (by omega)
    obtain ⟨a0, a1, a2⟩ := hc m hmn
    have hgv : getV l k = (l.getD m default).val := by unfold getV; rw [hg]; rfl
    have HG : Hid (getV l k = (l.getD m default).val) := Lib.hid hgv
    clear hgv hg hc hm
    obtain ⟨x, hx⟩ : ∃ x, l.getD m default = x := ⟨_, rfl⟩
    rw [hx] at a0 a1 a2 HG
    clear hx
    obtain ⟨key, ⟨hs, d⟩⟩ := x
    simp only at a0 a1 a2
    go_wp2_with fail
    have FB : Hid (Bk ((w1.setCell ⟨w.heap.size + 1, 0, none⟩ (.bool hs)).setCell ⟨w.heap.size + 1, 1, none⟩ (.string d)) (w.heap.size + 1) 42 #[.bool hs, .string d]) := Lib.hid (by simpa using (BV1.out.setc 0 (.bool hs)).setc 1 (.string d))
    have RB : Hid (Below w.heap.size w ((w1.setCell ⟨w.heap.size + 1, 0, none⟩ (.bool hs)).setCell ⟨w.heap.size + 1, 1, none⟩ (.string d))) := Lib.hid (((Below.then HB.out B1.out).setCell (p := ⟨w.heap.size + 1, 0, none⟩) (by simp) _).setCell (p := ⟨w.heap.size + 1, 1, none⟩) (by simp) _)
    (try simp only [Exit.inBlock, Exit.then])
    refine bodyPost_ret (results_cell_row (p := 4) (ty := 42) rfl _ _ (w.heap.size + 1) 42 _ (0, 0) _ rfl FB.out Try.underlying42 rfl vl_inf) rfl ?_
    exact ⟨by rw [HG.out], RB.out⟩
  · have hgv : getV l k = vl0 := by unfold getV; rw [hg]; rfl
    have HG : Hid (getV l k = vl0) := Lib.hid hgv
    clear hgv hg
    go_wp2_with fail
    have FB : Hid (Bk ((w1.setCell ⟨w.heap.size + 1, 0, none⟩ (.bool false)).setCell ⟨w.heap.size + 1, 1, none⟩ (.string ⟨#[]⟩)) (w.heap.size + 1) 42 #[.bool false, .string ⟨#[]⟩]) := Lib.hid (by simpa using (BV1.out.setc 0 (.bool false)).setc 1 (.string ⟨#[]⟩))
    have RB : Hid (Below w.heap.size w ((w1.setCell ⟨w.heap.size + 1, 0, none⟩ (.bool false)).setCell ⟨w.heap.size + 1, 1, none⟩ (.string ⟨#[]⟩))) := Lib.hid (((Below.then HB.out B1.out).setCell (p := ⟨w.heap.size + 1, 0, none⟩) (by simp) _).setCell (p := ⟨w.heap.size + 1, 1, none⟩) (by simp) _)
    (try simp only [Exit.inBlock, Exit.then])
    refine bodyPost_ret (results_cell_row (p := 4) (ty := 42) rfl _ _ (w.heap.size + 1) 42 _ (0, 0) _ rfl FB.out Try.underlying42 rfl vl_inf) rfl ?_
    exact ⟨by rw [HG.out]; rfl, RB.out⟩

set_option maxRecDepth 100000 in
set_option maxHeartbeats 4000000 in
theorem room_any (lsn : Int) (A : Option Addr) (n c : Nat) (l : List Cl) (k : ByteArray) (w : World) (h : Pcs w A n c l) :
    Calls Try.prog 21 #[pgV lsn A n c, .string k] w (Ret (.bool (roomC l k)) w) := by
  have hcap := h.flt.cap
  have hmax := h.flt.max
  unfold maxLen at hmax
  have hlen := Lib.hid h.len
  obtain ⟨W0, hW0⟩ : ∃ W, W = w.alloc (.cells #[.int .i64 lsn, .slice A n c] 24) := ⟨_, rfl⟩
  have HB : Hid (Below w.heap.size w W0) := Lib.hid (by rw [hW0]; exact (Below.refl _ _).alloc (Nat.le_refl _) _)
  have BP : Hid (Bk W0 w.heap.size 24 #[.int .i64 lsn, .slice A n c]) := Lib.hid (by rw [hW0]; exact Bk.new w _ _)
  have C := Lib.hid (indexOf_any A n c l k W0 (h.below HB.out))
  have hc1 : W0.cell? ⟨w.heap.size, 1, none⟩ = some (.slice A n c) := BP.out.cell 1
  have HW := Lib.hid hW0
  clear h hW0
  go_enter Try.func21, Try.ntmps21
  go_upto_region 1 with fail
  rw [← HW.out]
  go_wp2_with fail
  refine C.out.mono ?_
  rintro e w1 ⟨j, rfl, hj, b1⟩
  have B1 := Lib.hid (Below.then HB.out b1)
  have hcq : w1.cell? ⟨w.heap.size, 1, none⟩ = some (.slice A n c) := (BP.out.bel b1 BP.out.lt).cell 1
  clear hc1 b1
  rcases hj with ⟨m, rfl, hm, _, hh⟩ | ⟨rfl, _, hh⟩
  · have E : Hid (roomC l k = true) := Lib.hid (by unfold roomC; rw [hh]; rfl)
    clear hh hm
    have hm0 : (0 : Int) ≤ (m : Int) := by omega
    go_wp2_with fail
    go_ret
    exact ⟨by rw [E.out]; simp, B1.out⟩
  · have E : Hid (roomC l k = decide (n < 4)) := Lib.hid (by unfold roomC; rw [hh, hlen.out]; rfl)
    clear hh
    by_cases h4 : n < 4
    · have h4' : (n : Int) < 4 := by omega
      go_wp2_with fail
      go_ret
      exact ⟨by rw [E.out]; simp [h4], B1.out⟩
    · have h4' : ¬ (n : Int) < 4 := by omega
      go_wp2_with fail
      go_ret
      exact ⟨by rw [E.out]; simp [h4]; omega, B1.out⟩

set_option maxRecDepth 100000 in
set_option maxHeartbeats 4000000 in
theorem refHas_any (lsn : Int) (A : Option Addr) (n c : Nat) (l : List Cl) (k : ByteArray) (w : World) (h : Pcs w A n c l) :
    Calls Try.prog 47 #[pgV lsn A n c, .string k] w (Ret (.bool (hasC l k)) w) := by
  have hcap := h.flt.cap
  have hmax := h.flt.max
  unfold maxLen at hmax
  have hlen := Lib.hid h.len
  obtain ⟨W0, hW0⟩ : ∃ W, W = w.alloc (.cells #[.int .i64 lsn, .slice A n c] 24) := ⟨_, rfl⟩
  have HB : Hid (Below w.heap.size w W0) := Lib.hid (by rw [hW0]; exact (Below.refl _ _).alloc (Nat.le_refl _) _)
  have BP : Hid (Bk W0 w.heap.size 24 #[.int .i64 lsn, .slice A n c]) := Lib.hid (by rw [hW0]; exact Bk.new w _ _)
  have HP := Lib.hid (h.below HB.out)
  have HW := Lib.hid hW0
  clear h hW0
  go_enter Try.func47, Try.ntmps47
  go_upto_region 1 with fail
  rw [← HW.out]
  go_wp2_with fail
  go_loopw [5] (fun y wr => ∃ j : Nat, j ≤ n ∧ y = .int .i64 j ∧ wr = W0 ∧ noneTo l k j) (fun y _ => n - (intOf y).toNat)
  case atStart => exact ⟨0, Nat.zero_le _, rfl, rfl, fun i hi => absurd hi (by omega)⟩
  case round =>
    obtain ⟨j, hj, rfl, rfl, hu⟩ := hrel
    have HU := Lib.hid hu
    have hc1 : wr.cell? ⟨w.heap.size, 1, none⟩ = some (.slice A n c) := BP.out.cell 1
    by_cases hlt : j < n
    · obtain ⟨g, off, rfl, _, hc⟩ := HP.out.get (by omega)
      obtain ⟨a0, a1, a2⟩ := hc j hlt
      obtain ⟨x, hx⟩ : ∃ x, l.getD j default = x := ⟨_, rfl⟩
      rw [hx] at a0 a1 a2
      obtain ⟨key, ⟨hs, d⟩⟩ := x
      simp only at a0 a1 a2
      have HX := Lib.hid hx
      clear hc hu hx
      by_cases hk : key = k
      · subst hk
        have R : Hid (hasC l key = true) := Lib.hid (first_at (by rw [hlen.out]; exact hlt) HU.out (by rw [HX.out])).2
        have hkk : (key.toList == key.toList) = true := by simp
        go_wp2_with fail
        (try rw [Exit.noGoto_ret])
        go_ret
        exact ⟨by rw [R.out]; rfl, HB.out⟩
      · have hkk : (key.toList == k.toList) = false := by rw [beq_key]; exact decide_eq_false hk
        have HN : Hid (noneTo l k (j + 1)) := Lib.hid (noneTo_next HU.out (by rw [HX.out]; exact hk))
        clear HU HX hk
        go_wp2_with fail
        go_roundw
        case rel => exact ⟨j + 1, by omega, by go_num, trivial, HN.out⟩
        case measure => simp [intOf]; omega
    · obtain rfl : j = n := by omega
      have R : Hid (hasC l k = false) := Lib.hid (first_none (by rw [hlen.out]; exact HU.out)).2
      clear hu hlt HU
      go_wp2_with fail
      go_ret
      exact ⟨by rw [R.out]; rfl, HB.out⟩

set_option maxRecDepth 100000 in
set_option maxHeartbeats 4000000 in
theorem refRoom_any (lsn : Int) (A : Option Addr) (n c : Nat) (l : List Cl) (k : ByteArray) (w : World) (h : Pcs w A n c l) :
    Calls Try.prog 22 #[pgV lsn A n c, .string k] w (Ret (.bool (roomC l k)) w) := by
  have hcap := h.flt.cap
  have hmax := h.flt.max
  unfold maxLen at hmax
  have hlen := Lib.hid h.len
  obtain ⟨W0, hW0⟩ : ∃ W, W = w.alloc (.cells #[.int .i64 lsn, .slice A n c] 24) := ⟨_, rfl⟩
  have HB : Hid (Below w.heap.size w W0) := Lib.hid (by rw [hW0]; exact (Below.refl _ _).alloc (Nat.le_refl _) _)
  have BP : Hid (Bk W0 w.heap.size 24 #[.int .i64 lsn, .slice A n c]) := Lib.hid (by rw [hW0]; exact Bk.new w _ _)
  have C := refHas_any lsn A n c l k W0 (h.below HB.out)
  have hc0 : W0.cell? ⟨w.heap.size, 0, none⟩ = some (.int .i64 lsn) := BP.out.cell 0
  have hc1 : W0.cell? ⟨w.heap.size, 1, none⟩ = some (.slice A n c) := BP.out.cell 1
  have HW := Lib.hid hW0
  obtain ⟨b, hb⟩ : ∃ b, hasC l k = b := ⟨_, rfl⟩
  rw [hb] at C
  have C := Lib.hid C
  have HBB := Lib.hid hb
  clear h hW0 hb
  go_enter Try.func22, Try.ntmps22
  go_upto_region 1 with fail
  rw [← HW.out]
  go_wp2_with fail
  refine C.out.mono ?_
  rintro e w1 ⟨rfl, b1⟩
  have B1 := Lib.hid (Below.then HB.out b1)
  have hcq : w1.cell? ⟨w.heap.size, 1, none⟩ = some (.slice A n c) := (BP.out.bel b1 BP.out.lt).cell 1
  clear hc0 hc1 b1
  cases b with
  | true =>
    have E : Hid (roomC l k = true) := Lib.hid (by unfold roomC; rw [HBB.out]; rfl)
    go_wp2_with fail
    go_ret
    exact ⟨by rw [E.out]; simp, B1.out⟩
  | false =>
    have E : Hid (roomC l k = decide (n < 4)) := Lib.hid (by unfold roomC; rw [HBB.out, hlen.out]; rfl)
    by_cases h4 : n < 4
    · have h4' : (n : Int) < 4 := by omega
      go_wp2_with fail
      go_ret
      exact ⟨by rw [E.out]; simp [h4], B1.out⟩
    · have h4' : ¬ (n : Int) < 4 := by omega
      go_wp2_with fail
      go_ret
      exact ⟨by rw [E.out]; simp [h4]; omega, B1.out⟩

set_option maxRecDepth 100000 in
set_option maxHeartbeats 4000000 in
theorem refGet_any (lsn : Int) (A : Option Addr) (n c : Nat) (l : List Cl) (k : ByteArray) (w : World) (h : Pcs w A n c l) :
    Calls Try.prog 20 #[pgV lsn A n c, .string k] w (Ret (vlV (getV l k)) w) := by
  have hcap := h.flt.cap
  have hmax := h.flt.max
  unfold maxLen at hmax
  have hlen := Lib.hid h.len
  obtain ⟨W0, hW0⟩ : ∃ W, W = (w.alloc (.cells #[.int .i64 lsn, .slice A n c] 24)).alloc (.cells #[.bool false, .string ⟨#[]⟩] 42) := ⟨_, rfl⟩
  have HB : Hid (Below w.heap.size w W0) := Lib.hid (by rw [hW0]; exact ((Below.refl _ _).alloc (Nat.le_refl _) _).alloc (by simp) _)
  have BP : Hid (Bk W0 w.heap.size 24 #[.int .i64 lsn, .slice A n c]) := Lib.hid (by rw [hW0]; exact (Bk.new w _ _).bel ((Below.refl _ _).alloc (Nat.le_refl _) _) (by simp))
  have BV : Hid (Bk W0 (w.heap.size + 1) 42 #[.bool false, .string ⟨#[]⟩]) := Lib.hid (by
    rw [hW0]
    have := Bk.new (w.alloc (.cells #[.int .i64 lsn, .slice A n c] 24)) 42 #[.bool false, .string ⟨#[]⟩]
    rwa [World.size_alloc] at this)
  have HP := Lib.hid (h.below HB.out)
  have HW := Lib.hid hW0
  clear h hW0
  go_enter Try.func20, Try.ntmps20
  go_upto_region 1 with fail
  rw [← HW.out]
  go_wp2_with fail
  go_loopw [5] (fun y wr => ∃ j : Nat, j ≤ n ∧ y = .int .i64 j ∧ wr = W0 ∧ noneTo l k j) (fun y _ => n - (intOf y).toNat)
  case atStart => exact ⟨0, Nat.zero_le _, rfl, rfl, fun i hi => absurd hi (by omega)⟩
  case round =>
    obtain ⟨j, hj, rfl, rfl, hu⟩ := hrel
    have HU := Lib.hid hu
    have hc1 : wr.cell? ⟨w.heap.size, 1, none⟩ = some (.slice A n c) := BP.out.cell 1
    have hf0 : wr.frozen? ⟨w.heap.size + 1, 0, none⟩ = false := BV.out.frz 0
    have hf1 : wr.frozen? ⟨w.heap.size + 1, 1, none⟩ = false := BV.out.frz 1
    have hv0 : wr.cell? ⟨w.heap.size + 1, 0, none⟩ = some (.bool false) := BV.out.cell 0
    have hv1 : wr.cell? ⟨w.heap.size + 1, 1, none⟩ = some (.string ⟨#[]⟩) := BV.out.cell 1
    by_cases hlt : j < n
    · obtain ⟨g, off, rfl, _, hc⟩ := HP.out.get (by omega)
      obtain ⟨a0, a1, a2⟩ := hc j hlt
      obtain ⟨x, hx⟩ : ∃ x, l.getD j default = x := ⟨_, rfl⟩
      rw [hx] at a0 a1 a2
      obtain ⟨key, ⟨hs, d⟩⟩ := x
      simp only at a0 a1 a2
      have HX := Lib.hid hx
      clear hc hu hx
      by_cases hk : key = k
      · subst hk
        have R : Hid (getV l key = ⟨hs, d⟩) := Lib.hid (by
          unfold getV
          rw [(first_at (by rw [hlen.out]; exact hlt) HU.out (by rw [HX.out])).1, HX.out]
          rfl)
        have hkk : (key.toList == key.toList) = true := by simp
        have FB : Hid (Bk ((wr.setCell ⟨w.heap.size + 1, 0, none⟩ (.bool hs)).setCell ⟨w.heap.size + 1, 1, none⟩ (.string d)) (w.heap.size + 1) 42 #[.bool hs, .string d]) := Lib.hid (by simpa using (BV.out.setc 0 (.bool hs)).setc 1 (.string d))
        have RB : Hid (Below w.heap.size w ((wr.setCell ⟨w.heap.size + 1, 0, none⟩ (.bool hs)).setCell ⟨w.heap.size + 1, 1, none⟩ (.string d))) := Lib.hid ((HB.out.setCell (p := ⟨w.heap.size + 1, 0, none⟩) (by simp) _).setCell (p := ⟨w.heap.size + 1, 1, none⟩) (by simp) _)
        go_wp2_with fail
        (try rw [Exit.noGoto_ret])
        (try simp only [Exit.inBlock, Exit.then])
        refine bodyPost_ret (results_cell_row (p := 4) (ty := 42) rfl _ _ (w.heap.size + 1) 42 _ (0, 0) _ rfl FB.out Try.underlying42 rfl vl_inf) rfl ?_
        exact ⟨by rw [R.out], RB.out⟩
      · have hkk : (key.toList == k.toList) = false := by rw [beq_key]; exact decide_eq_false hk
        have HN : Hid (noneTo l k (j + 1)) := Lib.hid (noneTo_next HU.out (by rw [HX.out]; exact hk))
        clear HU HX hk hf0 hf1 hv0 hv1
        go_wp2_with fail
        go_roundw
        case rel => exact ⟨j + 1, by omega, by go_num, trivial, HN.out⟩
        case measure => simp [intOf]; omega
    · obtain rfl : j = n := by omega
      have R : Hid (getV l k = vl0) := Lib.hid (by unfold getV; rw [(first_none (by rw [hlen.out]; exact HU.out)).1]; rfl)
      have FB : Hid (Bk ((wr.setCell ⟨w.heap.size + 1, 0, none⟩ (.bool false)).setCell ⟨w.heap.size + 1, 1, none⟩ (.string ⟨#[]⟩)) (w.heap.size + 1) 42 #[.bool false, .string ⟨#[]⟩]) := Lib.hid (by simpa using (BV.out.setc 0 (.bool false)).setc 1 (.string ⟨#[]⟩))
      have RB : Hid (Below w.heap.size w ((wr.setCell ⟨w.heap.size + 1, 0, none⟩ (.bool false)).setCell ⟨w.heap.size + 1, 1, none⟩ (.string ⟨#[]⟩))) := Lib.hid ((HB.out.setCell (p := ⟨w.heap.size + 1, 0, none⟩) (by simp) _).setCell (p := ⟨w.heap.size + 1, 1, none⟩) (by simp) _)
      clear hu hlt HU
      go_wp2_with fail
      (try simp only [Exit.inBlock, Exit.then])
      refine bodyPost_ret (results_cell_row (p := 4) (ty := 42) rfl _ _ (w.heap.size + 1) 42 _ (0, 0) _ rfl FB.out Try.underlying42 rfl vl_inf) rfl ?_
      exact ⟨by rw [R.out]; rfl, RB.out⟩
end Go.Proofs.Ytfmfmdiegabobaa

/- a region that draws its order, whose last operations go one behind the other: those ahead of them may be taken in an order of one's own, where what they read holds till the last ones begin. No program is named; no condition. -/
namespace Go.Proofs.Ytfmfmdiegabobaa
open Go.RowKit

section
variable {P : Program} {ops : Array Oper} {Q : Exit → Act → World → Prop} {S : World → Prop} {n : Nat}

/-- Whatever comes up next; S holds behind each operation ahead of number n. -/
def Upto (P : Program) (ops : Array Oper) (Q : Exit → Act → World → Prop) (S : World → Prop) (n : Nat) : Nat → Array Bool → Act → World → Prop
  | 0, listed, a, w => Region.ready .any ops listed = [] ∧ Q .normal a w
  | fuel + 1, listed, a, w => (Region.ready .any ops listed = [] → Q .normal a w) ∧
    ∀ i ∈ Region.ready .any ops listed, wpOp P ops Q i (fun a' w' => (i < n → S w') ∧ Upto P ops Q S n fuel (listed.setIfInBounds i true) a' w') a w

theorem any_of_upto : ∀ (fuel : Nat) (listed : Array Bool) (a : Act) (w : World), Upto P ops Q S n fuel listed a w → wpAny P .any ops Q fuel listed a w
  | 0, _, _, _, h => h
  | fuel + 1, _, _, _, h => ⟨h.1, fun i hi => wpOp_mono (fun a' w' h' => any_of_upto fuel _ a' w' h'.2) (h.2 i hi)⟩

/-- The head's state, asked by the kernel. -/
def headB (ops : Array Oper) (n : Nat) (listed : Array Bool) : Bool :=
  listed.size == ops.size && (List.range ops.size).all (fun j => match ops[j]? with
    | none => true
    | some o => !listed.getD j false || o.after.toList.all fun e => !Region.binds .any e || listed.getD e.on false) &&
  (List.range ops.size).all fun t => decide (t < n) || !listed.getD t true

theorem headB_spec {listed : Array Bool} (h : headB ops n listed = true) : HeadInv .any ops n listed := by
  simp only [headB, Bool.and_eq_true, List.all_eq_true, List.mem_range, beq_iff_eq] at h
  obtain ⟨⟨h1, h2⟩, h3⟩ := h
  refine ⟨h1, fun j oj hj hl e he hb => ?_, fun t ht htl => ?_⟩
  · have := h2 j (Array.getElem?_eq_some_iff.1 hj).1
    simp only [hj, hl] at this
    rw [Bool.not_true, Bool.false_or] at this
    have he' := List.all_eq_true.1 this e (by simpa using he)
    simpa [hb] using he'
  · have := h3 t htl
    simpa [Nat.not_lt.2 ht] using this

/-- The region's own facts, asked by the kernel. -/
def tailB (ops : Array Oper) (n : Nat) : Bool := Region.noSelect ops && decide (n < ops.size) && Region.sinkB .any ops n && Region.chainB .any ops n

theorem upto_first (hB : tailB ops n = true) {i : Nat} {oi : Oper} {v : Value} (hin : i < n) (hi : ops[i]? = some oi)
    (hQ : ∀ c a w, Q (.panic c) (a.put oi.dst v) w → Q (.panic c) a w) :
    ∀ (fuel : Nat) (listed : Array Bool) (a : Act) (w : World), HeadInv .any ops n listed →
      (∀ j oj, ops[j]? = some oj → j ≠ i → listed.getD j true = false → (∀ e ∈ oj.after, Region.binds .any e = true → e.on ≠ i) → oi.apart ops oj = true) →
      i ∈ Region.ready .any ops listed → YieldsIf P ops S oi v a → S w →
      Upto P ops Q S n fuel (listed.setIfInBounds i true) (a.put oi.dst v) w → Upto P ops Q S n (fuel + 1) listed a w := by
  simp only [tailB, Bool.and_eq_true, decide_eq_true_eq] at hB
  obtain ⟨⟨⟨hsel0, hns⟩, hsk⟩, hch⟩ := hB
  have hsel := Region.noSelect_spec hsel0
  intro fuel
  induction fuel with
  | zero =>
    intro listed a w _ _ hr hy hS H
    refine ⟨fun h => (by rw [h] at hr; cases hr), fun j hj => ?_⟩
    by_cases hji : j = i
    · subst hji
      exact hy.wpOp hi hS ⟨fun _ => hS, H⟩
    · have := ready_mono hj hji
      rw [H.1] at this
      cases this
  | succ fuel ih =>
    intro listed a w inv hfree hr hy hS H
    refine ⟨fun h => (by rw [h] at hr; cases hr), fun j hj => ?_⟩
    by_cases hji : j = i
    · subst hji
      exact hy.wpOp hi hS ⟨fun _ => hS, H⟩
    · have h1 := H.2 j (ready_mono hj hji)
      have hun := (mem_ready.1 hr).1
      have hjn : j < n := by
        rcases Nat.lt_or_ge j n with h | h
        · exact h
        · exact absurd hj (tail_waits hsk hch hns inv _ i rfl hin hun j h)
      obtain ⟨hjun, oj, hoj, hall⟩ := mem_ready.1 hj
      have hnot : ∀ e ∈ oj.after, Region.binds .any e = true → e.on ≠ i := fun e he hb heq => by
        have h1 := hall e he hb
        rw [heq, getD_both hun] at h1
        cases h1
      have h2 := wpOp_putIf hoj (hfree j oj hoj hji hjun hnot) (fun cs b => hsel i oi cs b hi) (fun cs b => hsel j oj cs b hoj) hQ hy h1
      have hfree' : ∀ k ok, ops[k]? = some ok → k ≠ i → (listed.setIfInBounds j true).getD k true = false →
          (∀ e ∈ ok.after, Region.binds .any e = true → e.on ≠ i) → oi.apart ops ok = true := fun k ok hk hki hunk hno => by
        refine hfree k ok hk hki ?_ hno
        by_cases hjk : j = k
        · subst hjk; exact hjun
        · rw [getD_set_ne true hjk] at hunk; exact hunk
      refine wpOp_mono (fun a' w' h3 => ⟨h3.2.1, ih (listed.setIfInBounds j true) a' w' (inv.set hj hjn) hfree' (ready_mono hr (Ne.symm hji)) h3.1 (h3.2.1 hjn) ?_⟩) h2
      rw [Array.setIfInBounds_comm _ _ hji]
      exact h3.2.2

theorem drop_at {l rest : List Oper} {i : Nat} {o : Oper} (h : l.drop i = o :: rest) : l.toArray[i]? = some o := by
  have h0 : (l.drop i)[0]? = some o := by rw [h]; rfl
  rw [List.getElem?_drop] at h0
  simpa using h0

/-- An operation of the head is taken now. -/
theorem Upto.take {i : Nat} {oi : Oper} {v : Value} {fuel : Nat} {listed : Array Bool} {a : Act} {w : World} {l rest : List Oper} (hi : l.drop i = oi :: rest) (hc : (tailB l.toArray n && decide (i < n) && headB l.toArray n listed && Region.free .any l.toArray listed i && (Region.ready .any l.toArray listed).contains i) = true)
    (hQ : ∀ c a w, Q (.panic c) (a.put oi.dst v) w → Q (.panic c) a w) (hg : oi.guard = none) (hy : ∀ w, S w → (execOp a.eval oi).run P w = .ok (.value v) w) (hS : S w)
    (h : Upto P l.toArray Q S n fuel (listed.setIfInBounds i true) (a.put oi.dst v) w) : Upto P l.toArray Q S n (fuel + 1) listed a w := by
  have hi := drop_at hi
  simp only [Bool.and_eq_true, decide_eq_true_eq] at hc
  obtain ⟨⟨⟨⟨h1, h2⟩, h3⟩, h4⟩, h5⟩ := hc
  exact upto_first h1 h2 hi hQ fuel listed a w (headB_spec h3) (Region.free_spec hi h4) (by simpa using h5) (.inl ⟨wanted_plain hg, hy⟩) hS h

/-- The one operation that may come up now, whatever it does to the world. -/
theorem Upto.only {i : Nat} {oi : Oper} {v : Value} {fuel : Nat} {listed : Array Bool} {a : Act} {w w' : World} {l rest : List Oper} (hi : l.drop i = oi :: rest) (hc : Region.ready .any l.toArray listed = [i])
    (hg : oi.guard = none) (hy : (execOp a.eval oi).run P w = .ok (.value v) w') (hS : S w')
    (h : Upto P l.toArray Q S n fuel (listed.setIfInBounds i true) (a.put oi.dst v) w') : Upto P l.toArray Q S n (fuel + 1) listed a w := by
  have hi := drop_at hi
  refine ⟨fun h0 => (by rw [h0] at hc; cases hc), fun j hj => ?_⟩
  rw [hc] at hj
  have hji : j = i := by simpa using hj
  subst hji
  unfold wpOp
  simp only [hi, wanted_plain hg, if_true]
  refine .inl ?_
  unfold Oper.wp
  rw [hy]
  exact ⟨fun _ => hS, h⟩

/-- The same, by a law of its own. -/
theorem Upto.law {i : Nat} {oi : Oper} {fuel : Nat} {listed : Array Bool} {a : Act} {w : World} {l rest : List Oper} (hi : l.drop i = oi :: rest) (hc : Region.ready .any l.toArray listed = [i]) (hg : oi.guard = none)
    (h : ∀ K : Act → World → Prop, (∀ a' w', S w' → Upto P l.toArray Q S n fuel (listed.setIfInBounds i true) a' w' → K a' w') → oi.wp P a w K Q) : Upto P l.toArray Q S n (fuel + 1) listed a w := by
  have hi := drop_at hi
  refine ⟨fun h0 => (by rw [h0] at hc; cases hc), fun j hj => ?_⟩
  rw [hc] at hj
  have hji : j = i := by simpa using hj
  subst hji
  unfold wpOp
  simp only [hi, wanted_plain hg, if_true]
  exact .inl (h _ fun a' w' hS hU => ⟨fun _ => hS, hU⟩)

/-- A call of a Go function, by its contract. -/
theorem wp_enter {o : Oper} {a : Act} {w : World} {K : Act → World → Prop} {f : FuncId} {args : Array Value} {R : Ending → World → Prop} (hrun : (execOp a.eval o).run P w = .ok (.enter f args) w) (C : Calls P f args w R)
    (hR : ∀ e w', R e w' → ∃ v, e = .returned v ∧ K (a.put o.dst v) w') : o.wp P a w K Q := by
  unfold Oper.wp
  rw [hrun]
  refine C.mono fun e w' h => ?_
  obtain ⟨v, rfl, hK⟩ := hR e w' h
  exact hK

theorem upto_seq : ∀ (l : List Oper) (k : Nat) (listed : Array Bool) (a : Act) (w : World), n ≤ k → (∀ j, l[j]? = ops[k + j]?) →
    Region.seqB .any ops l.length k listed = true → wpList P ops Q l a w → Upto P ops Q S n l.length listed a w
  | [], k, listed, a, w, _, _, hB, h => ⟨by simpa [Region.seqB] using hB, h⟩
  | o :: l, k, listed, a, w, hk, hl, hB, h => by
    have h0 : ops[k]? = some o := by simpa using (hl 0).symm
    simp only [List.length_cons, Region.seqB, Bool.and_eq_true, decide_eq_true_eq] at hB
    refine ⟨fun h1 => (by rw [hB.1] at h1; cases h1), fun i hi => ?_⟩
    rw [hB.1] at hi
    have hik : i = k := by simpa using hi
    subst hik
    have hw : wpOp P ops Q i (wpList P ops Q l) a w := by unfold wpOp; simp only [h0]; exact h
    exact wpOp_mono (fun a' w' h' => ⟨fun hlt => absurd hlt (by omega), upto_seq l (i + 1) _ a' w' (by omega) (fun j => by have := hl (j + 1); simpa [Nat.add_assoc, Nat.add_comm 1 j] using this) hB.2 h'⟩) hw

/-- The last operations, one behind the other. -/
theorem Upto.tail {l : List Oper} {fuel : Nat} {listed : Array Bool} {a : Act} {w : World} (hf : (l.drop n).length = fuel) (hB : Region.seqB .any l.toArray fuel n listed = true) (h : wpList P l.toArray Q (l.drop n) a w) : Upto P l.toArray Q S n fuel listed a w := by
  subst hf
  exact upto_seq (l.drop n) n listed a w (Nat.le_refl _) (fun j => by simp [List.getElem?_drop]) hB h

/-- The beginning. -/
theorem upto_start {id : Nat} {a : Act} {w : World} (S : World → Prop) (n : Nat) (hm : P.follows .mixedOrders = true) (h : Upto P ops Q S n ops.size (Array.replicate ops.size false) a w.drew) : (Code.region id ops true).wp P Q a w :=
  wp_region_any hm (any_of_upto _ _ _ _ h)
end
end Go.Proofs.Ytfmfmdiegabobaa

/- operations behind a guard, in a region that draws its order: taken where the guard says go, left out where it says no. No program is named; no condition. -/
namespace Go.Proofs.Ytfmfmdiegabobaa
open Go.RowKit
section
variable {P : Program} {Q : Exit → Act → World → Prop} {S : World → Prop} {n : Nat}
/-- An operation whose guard says go is taken now. -/
theorem Upto.takeG {i : Nat} {oi : Oper} {v : Value} {fuel : Nat} {listed : Array Bool} {a : Act} {w : World} {l rest : List Oper} (hi : l.drop i = oi :: rest) (hc : (tailB l.toArray n && decide (i < n) && headB l.toArray n listed && Region.free .any l.toArray listed i && (Region.ready .any l.toArray listed).contains i) = true)
    (hQ : ∀ c a w, Q (.panic c) (a.put oi.dst v) w → Q (.panic c) a w) (hg : Region.wanted oi (yielded l.toArray a.tmps) = true) (hy : ∀ w, S w → (execOp a.eval oi).run P w = .ok (.value v) w) (hS : S w)
    (h : Upto P l.toArray Q S n fuel (listed.setIfInBounds i true) (a.put oi.dst v) w) : Upto P l.toArray Q S n (fuel + 1) listed a w := by
  have hi := drop_at hi
  simp only [Bool.and_eq_true, decide_eq_true_eq] at hc
  obtain ⟨⟨⟨⟨h1, h2⟩, h3⟩, h4⟩, h5⟩ := hc
  exact upto_first h1 h2 hi hQ fuel listed a w (headB_spec h3) (Region.free_spec hi h4) (by simpa using h5) (.inl ⟨hg, hy⟩) hS h
/-- An operation whose guard says no is left out now. -/
theorem Upto.skip {i : Nat} {oi : Oper} {fuel : Nat} {listed : Array Bool} {a : Act} {w : World} {l rest : List Oper} (hi : l.drop i = oi :: rest) (hc : (tailB l.toArray n && decide (i < n) && headB l.toArray n listed && Region.free .any l.toArray listed i && (Region.ready .any l.toArray listed).contains i) = true)
    (hQ : ∀ c a w, Q (.panic c) (a.put oi.dst undef) w → Q (.panic c) a w) (hg : Region.wanted oi (yielded l.toArray a.tmps) = false) (hS : S w)
    (h : Upto P l.toArray Q S n fuel (listed.setIfInBounds i true) (a.put oi.dst undef) w) : Upto P l.toArray Q S n (fuel + 1) listed a w := by
  have hi := drop_at hi
  simp only [Bool.and_eq_true, decide_eq_true_eq] at hc
  obtain ⟨⟨⟨⟨h1, h2⟩, h3⟩, h4⟩, h5⟩ := hc
  exact upto_first h1 h2 hi hQ fuel listed a w (headB_spec h3) (Region.free_spec hi h4) (by simpa using h5) (.inr ⟨hg, rfl⟩) hS h
/-- The one that may come up now, whose guard says go, by a law of its own. -/
theorem Upto.lawG {i : Nat} {oi : Oper} {fuel : Nat} {listed : Array Bool} {a : Act} {w : World} {l rest : List Oper} (hi : l.drop i = oi :: rest) (hc : Region.ready .any l.toArray listed = [i]) (hg : Region.wanted oi (yielded l.toArray a.tmps) = true)
    (h : ∀ K : Act → World → Prop, (∀ a' w', S w' → Upto P l.toArray Q S n fuel (listed.setIfInBounds i true) a' w' → K a' w') → oi.wp P a w K Q) : Upto P l.toArray Q S n (fuel + 1) listed a w := by
  have hi := drop_at hi
  refine ⟨fun h0 => (by rw [h0] at hc; cases hc), fun j hj => ?_⟩
  rw [hc] at hj
  have hji : j = i := by simpa using hj
  subst hji
  unfold wpOp
  simp only [hi, hg, if_true]
  exact .inl (h _ fun a' w' hS hU => ⟨fun _ => hS, hU⟩)
/-- A chunk of cells, at the end of the chain of worlds. -/
theorem rangeAt_heap {w w' : World} {g o : Nat} {cs : List Value} (h : w.rangeAt g o cs) (hk : w'.heap[g]? = w.heap[g]?) : w'.rangeAt g o cs := fun j v hv => (World.cell?_of_block (w := w) (w' := w') (a := ⟨g, o + j, none⟩) hk).trans (h j v hv)
end
end Go.Proofs.Ytfmfmdiegabobaa

/- cells that are appended onto a row of one's own; trothref10.Copy, Same, Great. -/
namespace Go.Proofs.Ytfmfmdiegabobaa
open Go.RowKit

theorem cl_one (c : Cl) : ∀ u ∈ c.cells, u.oneCell' = true := by
  intro u hu
  simp [Cl.cells] at hu
  rcases hu with rfl | rfl | rfl <;> rfl
theorem cls_one (l : List Cl) : ∀ u ∈ l.flatMap Cl.cells, u.oneCell' = true := by
  intro u hu
  obtain ⟨x, _, hx⟩ := List.mem_flatMap.1 hu
  exact cl_one x u hx
/-- Cells in a row of one's own. -/
structure OwnP (base : Nat) (w : World) (A : Option Addr) (n c : Nat) (l : List Cl) : Prop where
  own : w.ownsRow base 54 3 (.slice A n c) n (l.flatMap Cl.cells)
  len : l.length = n
theorem OwnP.pcs {base : Nat} {w : World} {A : Option Addr} {n c : Nat} {l : List Cl} (h : OwnP base w A n c l) : Pcs w A n c l := ⟨Flt.of_own h.own, h.len⟩
theorem OwnP.nil (base : Nat) (w : World) : OwnP base w none 0 0 [] := ⟨⟨by simp, .inl ⟨rfl, rfl⟩⟩, rfl⟩
theorem OwnP.below {base : Nat} {w w' : World} {A : Option Addr} {n c : Nat} {l : List Cl} (h : OwnP base w A n c l) (hb : Below w.heap.size w w') : OwnP base w' A n c l :=
  ⟨own_stay h.own (fun q hq => hb.block q (h.own.lt q hq).2), h.len⟩
theorem OwnP.lo {base base' : Nat} {w : World} {A : Option Addr} {n c : Nat} {l : List Cl} (h : OwnP base w A n c l) (hb : base' ≤ base) : OwnP base' w A n c l := by
  refine ⟨⟨h.own.1, ?_⟩, h.len⟩
  rcases h.own.2 with q | ⟨g, cap, cur, q1, q2, q3⟩
  · exact .inl q
  · exact .inr ⟨g, cap, cur, q1, Nat.le_trans hb q2, q3⟩
theorem info_cl : (Try.prog.info? 54).map (fun i => (i.zero, i.size, i.bytes)) = some (some (.agg #[.string ByteArray.empty, .bool false, .string ByteArray.empty]), 3, 40) := by kernel_rfl

section
variable {w : World} {o : Oper} {a : Act} {K : Act → World → Prop} {Q : Exit → Act → World → Prop}
theorem wp_app_cells (s x : Operand) (ho : o.op = .call { callee := .builtin .append, args := #[s, x], argTypes := #[22, 22] }) (base : Nat)
    {v : Value} {A0 : Option Addr} {n c0 : Nat} {xs : List Cl} (hv : v = .slice A0 n c0) (hs : a.eval s = v) (hown : OwnP base w A0 n c0 xs) {A : Option Addr} {m c : Nat} {vs : List Cl} (hx : a.eval x = .slice A m c) (hl : Pcs w A m c vs) (hn : n + m ≤ 1000000) (hbase : base ≤ w.heap.size)
    (h : ∀ A' c' w', OwnP base w' A' (n + m) c' (xs ++ vs) → w.grownBy w' v.ownBlock → K (a.put o.dst (.slice A' (n + m) c')) w') : o.wp Try.prog a w K Q := by
  obtain ⟨i0, hi, hz0, hz1, hz2⟩ := info_parts info_cl
  have hlen : (xs ++ vs).length = n + m := by rw [List.length_append, hown.len, hl.len]
  have ho1 := hown.own
  rw [← hv] at ho1
  cases A with
  | none =>
    obtain ⟨rfl, rfl⟩ := hl.flt.nil_ rfl
    have hv0 : vs = [] := List.eq_nil_of_length_eq_zero hl.len
    subst hv0
    have hrun := run_append_owned_none (P := Try.prog) (w := w) base 22 o.type 54 i0 3 Try.underlying22 hi v n _ ho1
    have h' := h A0 c0 w (by simpa using hown) (World.grownBy.refl w _)
    simp only [Nat.add_zero] at h'
    unfold Oper.wp
    simp only [execOp, ho, resolve, invoke, builtin, List.map_toArray, List.map_cons, List.map_nil, hs, hx, Sem.run_bind, Sem.run_pure, Result.andThen_ok, hrun]
    rw [hv]
    exact h'
  | some ad =>
    refine wp_append_own w s x 22 ho base 54 i0 _ 3 40 Try.underlying22 hi hz0 hz1 hz2 (by rfl) (by omega) v n (xs.flatMap Cl.cells) hs ho1 ad m c (vs.flatMap Cl.cells) hx (by rw [hl.flt.len]) (hl.flt.news ad rfl) (cls_one vs) (by unfold maxLen; omega) (by omega) hbase ?_
    intro v' w' k1 k2 _
    obtain ⟨A', c', rfl⟩ := own_form k1
    exact h A' c' w' ⟨by rw [List.flatMap_append]; exact k1, hlen⟩ k2
end
theorem wpList_app_cells {w : World} {ops : Array Oper} {rest : List Oper} {o : Oper} {a : Act} {Q : Exit → Act → World → Prop} (hgd : o.guard = none) (s x : Operand) (ho : o.op = .call { callee := .builtin .append, args := #[s, x], argTypes := #[22, 22] }) (base : Nat)
    {v : Value} {A0 : Option Addr} {n c0 : Nat} {xs : List Cl} (hv : v = .slice A0 n c0) (hs : a.eval s = v) (hown : OwnP base w A0 n c0 xs) {A : Option Addr} {m c : Nat} {vs : List Cl} (hx : a.eval x = .slice A m c) (hl : Pcs w A m c vs) (hn : n + m ≤ 1000000) (hbase : base ≤ w.heap.size)
    (h : ∀ A' c' w', OwnP base w' A' (n + m) c' (xs ++ vs) → w.grownBy w' v.ownBlock → wpList Try.prog ops Q rest (a.put o.dst (.slice A' (n + m) c')) w') : wpList Try.prog ops Q (o :: rest) a w :=
  wpList_plain hgd fun _ hK => wp_app_cells s x ho base hv hs hown hx hl hn hbase fun A' c' w' k1 k2 => hK _ _ (h A' c' w' k1 k2)

theorem bslice_0 (w : World) : (Instr.buildSlice 22 0 #[]).run Try.prog w = .ok (.slice (some ⟨w.heap.size, 0, none⟩) 0 0) (w.alloc (.cells #[] 54)) := by
  obtain ⟨i0, hi, hz0, hz1, hz2⟩ := info_parts info_cl
  simp [Instr.buildSlice, run_underlying (P := Try.prog) Try.underlying22, sizeOf, typeInfo, hi, Instr.fill, newRow, Result.andThen, show Array.range 0 = #[] from rfl]
theorem bslice_1 (k : ByteArray) (hs : Bool) (d : ByteArray) (w : World) : (Instr.buildSlice 22 1 #[(0, .agg #[.string k, .bool hs, .string d])]).run Try.prog w = .ok (.slice (some ⟨w.heap.size, 0, none⟩) 1 1) (w.alloc (.cells #[.string k, .bool hs, .string d] 54)) := by
  obtain ⟨i0, hi, hz0, hz1, hz2⟩ := info_parts info_cl
  refine Go.run_buildSlice w 22 54 1 _ _ i0 _ Try.underlying22 hi hz0 (by rw [hz1]; omega) (by rw [hz1]; omega) ?_
  rw [hz1]
  kernel_rfl

/-- A page in new memory. -/
def RetPg1 (lsn : Int) (l : List Cl) (w : World) (e : Ending) (w' : World) : Prop := ∃ A n c, e = .returned (pgV lsn A n c) ∧ OwnP w.heap.size w' A n c l ∧ Below w.heap.size w w'

set_option maxRecDepth 100000 in
set_option maxHeartbeats 4000000 in
theorem copy_any (lsn : Int) (A : Option Addr) (n c : Nat) (l : List Cl) (w : World) (h : Pcs w A n c l) (hn : n ≤ 1000) :
    Calls Try.prog 11 #[pgV lsn A n c] w (RetPg1 lsn l w) := by
  obtain ⟨W0, hW0⟩ : ∃ W, W = (w.alloc (.cells #[.int .i64 lsn, .slice A n c] 24)).alloc (.cells #[.int .i64 0, .slice none 0 0] 24) := ⟨_, rfl⟩
  have HB : Hid (Below w.heap.size w W0) := Lib.hid (by rw [hW0]; exact ((Below.refl _ _).alloc (Nat.le_refl _) _).alloc (by simp) _)
  have BP : Hid (Bk W0 w.heap.size 24 #[.int .i64 lsn, .slice A n c]) := Lib.hid (by rw [hW0]; exact (Bk.new w _ _).bel ((Below.refl _ _).alloc (Nat.le_refl _) _) (by simp))
  have BV : Hid (Bk W0 (w.heap.size + 1) 24 #[.int .i64 0, .slice none 0 0]) := Lib.hid (by
    rw [hW0]
    have := Bk.new (w.alloc (.cells #[.int .i64 lsn, .slice A n c] 24)) 24 #[.int .i64 0, .slice none 0 0]
    rwa [World.size_alloc] at this)
  have HP := Lib.hid (h.below HB.out)
  have KS : Hid (∀ W, Below W0.heap.size W0 W → W.cell? ⟨w.heap.size, 0, none⟩ = some (.int .i64 lsn) ∧ W.cell? ⟨w.heap.size, 1, none⟩ = some (.slice A n c)) := Lib.hid (fun W hb => ⟨(BP.out.bel hb BP.out.lt).cell 0, (BP.out.bel hb BP.out.lt).cell 1⟩)
  have HW := Lib.hid hW0
  clear h hW0
  go_enter Try.func11, Try.ntmps11
  go_upto_region 1 with fail
  rw [← HW.out]
  have hS0 := KS.out W0.drew (Below.refl _ _).drew
  refine wp_region_noPanic ?_
  refine upto_start (fun w' => w'.cell? ⟨w.heap.size, 0, none⟩ = some (.int .i64 lsn) ∧ w'.cell? ⟨w.heap.size, 1, none⟩ = some (.slice A n c)) 6 (by kernel_rfl) ?_
  change Upto _ _ _ _ _ 8 _ _ _
  refine Upto.take (i := 0) (v := ?_) rfl (by kernel_rfl) (fun _ _ _ h => h) rfl (fun w' hS => ?_) hS0 ?_
  rotate_left
  · (try dsimp only at hS)
    go_split_ands
    go_simp
    (try with_reducible rfl)
  simp only [Act.put, List.setIfInBounds_toArray, List.set_cons_zero, List.set_cons_succ]
  refine Upto.take (i := 1) (v := ?_) rfl (by kernel_rfl) (fun _ _ _ h => h) rfl (fun w' hS => ?_) hS0 ?_
  rotate_left
  · (try dsimp only at hS)
    go_split_ands
    go_simp
    (try with_reducible rfl)
  simp only [Act.put, List.setIfInBounds_toArray, List.set_cons_zero, List.set_cons_succ]
  refine Upto.take (i := 3) (v := ?_) rfl (by kernel_rfl) (fun _ _ _ h => h) rfl (fun w' hS => ?_) hS0 ?_
  rotate_left
  · (try dsimp only at hS)
    go_split_ands
    go_simp
    (try with_reducible rfl)
  simp only [Act.put, List.setIfInBounds_toArray, List.set_cons_zero, List.set_cons_succ]
  refine Upto.take (i := 4) (v := ?_) rfl (by kernel_rfl) (fun _ _ _ h => h) rfl (fun w' hS => ?_) hS0 ?_
  rotate_left
  · (try dsimp only at hS)
    go_split_ands
    go_simp
    (try with_reducible rfl)
  simp only [Act.put, List.setIfInBounds_toArray, List.set_cons_zero, List.set_cons_succ]
  refine Upto.only (i := 2) rfl (by kernel_rfl) rfl (exec_buildSlice rfl [] (by rfl) (bslice_0 _)) ?_ ?_
  · exact KS.out _ ((Below.refl _ W0).drew.alloc (Nat.le_refl _) _)
  simp only [Act.put, List.setIfInBounds_toArray, List.set_cons_zero, List.set_cons_succ]
  have hbA : Below W0.heap.size W0 (W0.drew.alloc (.cells #[] 54)) := (Below.refl _ W0).drew.alloc (Nat.le_refl _) _
  have hown0 : OwnP W0.heap.size (W0.drew.alloc (.cells #[] 54)) (some ⟨W0.drew.heap.size, 0, none⟩) 0 0 [] := ⟨World.ownsRow_made (base := W0.heap.size) (e := 54) (size := 3) W0.drew #[] 0 (Nat.le_refl _) (Nat.zero_le _) rfl, rfl⟩
  refine Upto.law (i := 5) rfl (by kernel_rfl) rfl (fun K hK => ?_)
  refine wp_app_cells _ _ (by rfl) W0.heap.size rfl (by rfl) hown0 (by rfl) (HP.out.below hbA) (by omega) hbA.size ?_
  intro A' c' W3 hv3 hg3
  have hbB : Below W0.heap.size W0 W3 := hbA.grown hg3 hbA.size (fun k hk => by simp [Value.ownBlock] at hk; omega)
  refine hK _ _ (KS.out _ hbB) ?_
  clear hK hown0 hg3
  rw [Nat.zero_add, List.nil_append] at hv3
  have HV := Lib.hid hv3
  have HB3 := Lib.hid hbB
  have hz3 := BV.out.bel HB3.out BV.out.lt
  have HZ3 := Lib.hid hz3
  have y0 : W3.cell? ⟨w.heap.size + 1, 0, none⟩ = some (.int .i64 0) := hz3.cell 0
  have y1 : W3.cell? ⟨w.heap.size + 1, 1, none⟩ = some (.slice none 0 0) := hz3.cell 1
  have yf := hz3.frz 0
  have yf1 := hz3.frz 1
  clear hv3 hbA hbB hz3 KS hS0
  simp only [Act.put, List.setIfInBounds_toArray, List.set_cons_zero, List.set_cons_succ, Nat.zero_add]
  refine Upto.tail rfl (by kernel_rfl) ?_
  simp only [List.drop_succ_cons, List.drop_zero]
  go_wp2_with fail
  have FB : Hid (Bk ((W3.setCell ⟨w.heap.size + 1, 0, none⟩ (.int .i64 lsn)).setCell ⟨w.heap.size + 1, 1, none⟩ (.slice A' n c')) (w.heap.size + 1) 24 #[.int .i64 lsn, .slice A' n c']) := Lib.hid (by simpa using (HZ3.out.setc 0 (.int .i64 lsn)).setc 1 (.slice A' n c'))
  have RB : Hid (Below w.heap.size w ((W3.setCell ⟨w.heap.size + 1, 0, none⟩ (.int .i64 lsn)).setCell ⟨w.heap.size + 1, 1, none⟩ (.slice A' n c'))) := Lib.hid (((Below.then HB.out HB3.out).setCell (p := ⟨w.heap.size + 1, 0, none⟩) (by simp) _).setCell (p := ⟨w.heap.size + 1, 1, none⟩) (by simp) _)
  have OW : Hid (OwnP w.heap.size ((W3.setCell ⟨w.heap.size + 1, 0, none⟩ (.int .i64 lsn)).setCell ⟨w.heap.size + 1, 1, none⟩ (.slice A' n c')) A' n c' l) := Lib.hid (OwnP.lo ⟨own_set (own_set HV.out.own HZ3.out (by decide)) (HZ3.out.setc 0 _) (by decide), HV.out.len⟩ HB.out.size)
  clear HV HB3 HZ3 y0 y1 yf yf1 HP BV BP HW
  refine NoPanic.normal ?_
  go_wp2_with fail
  (try simp only [Exit.inBlock, Exit.then])
  refine bodyPost_ret (results_cell_row (p := 2) (ty := 24) rfl _ _ (w.heap.size + 1) 24 _ (0, 0) _ rfl FB.out Try.underlying24 rfl pg_inf) rfl ?_
  exact ⟨A', n, c', rfl, OW.out, RB.out⟩

set_option maxRecDepth 100000 in
set_option maxHeartbeats 4000000 in
theorem samePg_yes (lsn : Int) (A : Option Addr) (n c : Nat) (A' : Option Addr) (n' c' : Nat) (l : List Cl) (w : World) (h : Pcs w A n c l) (h' : Pcs w A' n' c' l) :
    Calls Try.prog 16 #[pgV lsn A n c, pgV lsn A' n' c'] w (Ret (.bool true) w) := by
  obtain rfl : n' = n := by rw [← h.len, ← h'.len]
  have hcap := h.flt.cap
  have hmax := h.flt.max
  have hcap' := h'.flt.cap
  have hmax' := h'.flt.max
  unfold maxLen at hmax hmax'
  obtain ⟨W0, hW0⟩ : ∃ W, W = (w.alloc (.cells #[.int .i64 lsn, .slice A n' c] 24)).alloc (.cells #[.int .i64 lsn, .slice A' n' c'] 24) := ⟨_, rfl⟩
  have HB : Hid (Below w.heap.size w W0) := Lib.hid (by rw [hW0]; exact ((Below.refl _ _).alloc (Nat.le_refl _) _).alloc (by simp) _)
  have BP : Hid (Bk W0 w.heap.size 24 #[.int .i64 lsn, .slice A n' c]) := Lib.hid (by rw [hW0]; exact (Bk.new w _ _).bel ((Below.refl _ _).alloc (Nat.le_refl _) _) (by simp))
  have BV : Hid (Bk W0 (w.heap.size + 1) 24 #[.int .i64 lsn, .slice A' n' c']) := Lib.hid (by
    rw [hW0]
    have := Bk.new (w.alloc (.cells #[.int .i64 lsn, .slice A n' c] 24)) 24 #[.int .i64 lsn, .slice A' n' c']
    rwa [World.size_alloc] at this)
  have HP := Lib.hid (h.below HB.out)
  have HP' := Lib.hid (h'.below HB.out)
  have p0 : W0.cell? ⟨w.heap.size, 0, none⟩ = some (.int .i64 lsn) := BP.out.cell 0
  have p1 : W0.cell? ⟨w.heap.size, 1, none⟩ = some (.slice A n' c) := BP.out.cell 1
  have q0 : W0.cell? ⟨w.heap.size + 1, 0, none⟩ = some (.int .i64 lsn) := BV.out.cell 0
  have q1 : W0.cell? ⟨w.heap.size + 1, 1, none⟩ = some (.slice A' n' c') := BV.out.cell 1
  have HW := Lib.hid hW0
  clear h h' hW0
  go_enter Try.func16, Try.ntmps16
  go_upto_region 1 with fail
  rw [← HW.out]
  go_wp2_with fail
  go_loopw [5] (fun i wr => ∃ k : Nat, k ≤ n' ∧ i = .int .i64 k ∧ ∃ m, wr = W0.drewN m) (fun i _ => n' - (intOf i).toNat)
  case atStart => exact ⟨0, Nat.zero_le _, rfl, 0, rfl⟩
  case round =>
    obtain ⟨k, hk, rfl, m, rfl⟩ := hrel
    by_cases hlt : k < n'
    · obtain ⟨g, off, rfl, _, hc⟩ := HP.out.get (by omega)
      obtain ⟨g', off', rfl, _, hc'⟩ := HP'.out.get (by omega)
      obtain ⟨a0, a1, a2⟩ := hc k hlt
      obtain ⟨b0, b1, b2⟩ := hc' k hlt
      obtain ⟨x, hx⟩ : ∃ x, l.getD k default = x := ⟨_, rfl⟩
      rw [hx] at a0 a1 a2 b0 b1 b2
      obtain ⟨key, ⟨hs, d⟩⟩ := x
      simp only at a0 a1 a2 b0 b1 b2
      clear hc hc' hx
      go_wp2
      go_quiet (fail)
      go_wp2
      go_roundw
      case rel => exact ⟨k + 1, by omega, by go_num, _, rfl⟩
      case measure => simp [intOf]; omega
    · obtain rfl : k = n' := by omega
      have RB := Lib.hid (below_drewN HB.out m)
      go_wp2
      go_ret
      exact ⟨rfl, RB.out⟩

/-- A page of which as much is asked. -/
def Few (l : List Cl) : Prop := l.length ≤ 20 ∧ ∀ x ∈ l, x.key.size ≤ 100 ∧ x.val.data.size ≤ 100

def RetGr (l : List Cl) (w : World) (e : Ending) (w' : World) : Prop := ∃ b, e = .returned (.bool b) ∧ (b = false → Few l) ∧ Below w.heap.size w w'

set_option maxRecDepth 100000 in
set_option maxHeartbeats 4000000 in
theorem greatPg_any (lsn : Int) (A : Option Addr) (n c : Nat) (l : List Cl) (w : World) (h : Pcs w A n c l) :
    Calls Try.prog 8 #[pgV lsn A n c] w (RetGr l w) := by
  have hcap := h.flt.cap
  have hmax := h.flt.max
  unfold maxLen at hmax
  have hlen := Lib.hid h.len
  obtain ⟨W0, hW0⟩ : ∃ W, W = w.alloc (.cells #[.int .i64 lsn, .slice A n c] 24) := ⟨_, rfl⟩
  have HB : Hid (Below w.heap.size w W0) := Lib.hid (by rw [hW0]; exact (Below.refl _ _).alloc (Nat.le_refl _) _)
  have BP : Hid (Bk W0 w.heap.size 24 #[.int .i64 lsn, .slice A n c]) := Lib.hid (by rw [hW0]; exact Bk.new w _ _)
  have YES : Hid (RetGr l w (.returned (.bool true)) W0) := Lib.hid ⟨true, rfl, (fun q => nomatch q), HB.out⟩
  have HP := Lib.hid (h.below HB.out)
  have p1 : W0.cell? ⟨w.heap.size, 1, none⟩ = some (.slice A n c) := BP.out.cell 1
  have HW := Lib.hid hW0
  clear h hW0
  by_cases h20 : (20 : Int) < (n : Int)
  · go_enter Try.func8, Try.ntmps8
    go_upto_region 1 with fail
    rw [← HW.out]
    go_wp2_with fail
    go_ret
    exact YES.out
  · go_enter Try.func8, Try.ntmps8
    go_upto_region 1 with fail
    rw [← HW.out]
    go_wp2_with fail
    go_loopw [3] (fun i wr => ∃ k : Nat, k ≤ n ∧ i = .int .i64 k ∧ wr = W0 ∧ ∀ i, i < k → (l.getD i default).key.size ≤ 100 ∧ (l.getD i default).val.data.size ≤ 100) (fun i _ => n - (intOf i).toNat)
    case atStart => exact ⟨0, Nat.zero_le _, rfl, rfl, fun i hi => absurd hi (by omega)⟩
    case round =>
      obtain ⟨k, hk, rfl, rfl, hu⟩ := hrel
      have HU := Lib.hid hu
      by_cases hlt : k < n
      · obtain ⟨g, off, rfl, _, hc⟩ := HP.out.get (by omega)
        obtain ⟨a0, a1, a2⟩ := hc k hlt
        obtain ⟨x, hx⟩ : ∃ x, l.getD k default = x := ⟨_, rfl⟩
        rw [hx] at a0 a1 a2
        obtain ⟨key, ⟨hs, d⟩⟩ := x
        simp only at a0 a1 a2
        have HX := Lib.hid hx
        clear hc hu hx
        by_cases h1 : (100 : Int) < (key.size : Int)
        · go_wp2_with fail
          (try rw [Exit.noGoto_ret])
          go_ret
          exact YES.out
        · by_cases h2 : (100 : Int) < (d.size : Int)
          · go_wp2_with fail
            (try rw [Exit.noGoto_ret])
            go_ret
            exact YES.out
          · have HN : Hid (∀ i, i < k + 1 → (l.getD i default).key.size ≤ 100 ∧ (l.getD i default).val.data.size ≤ 100) := Lib.hid (fun i hi => by
              rcases Nat.lt_or_ge i k with q | q
              · exact HU.out i q
              · obtain rfl : i = k := by omega
                rw [HX.out]
                exact ⟨by simp only; omega, by simp only; omega⟩)
            clear HU HX
            go_wp2_with fail
            go_roundw
            case rel => exact ⟨k + 1, by omega, by go_num, trivial, HN.out⟩
            case measure => simp [intOf]; omega
      · obtain rfl : k = n := by omega
        have R : Hid (RetGr l w (.returned (.bool false)) wr) := Lib.hid ⟨false, rfl, fun _ => ⟨by rw [hlen.out]; omega, fun x hx => by
          obtain ⟨i, hi, rfl⟩ := List.getElem_of_mem hx
          have := HU.out i (by rw [← hlen.out]; exact hi)
          rwa [List.getD_eq_getElem?_getD, List.getElem?_eq_getElem hi] at this⟩, HB.out⟩
        clear hu hlt HU
        go_wp2_with fail
        go_ret
        exact R.out
end Go.Proofs.Ytfmfmdiegabobaa

/- what both readers answer, as a codec says it; page.takeCell. -/
namespace Go.Proofs.Ytfmfmdiegabobaa
open Go.RowKit

theorem prim_v {α : Type} (F : List Int → α × Nat × Nat) (z : α) (l : List Int) (e : Nat) (f : α → Value) : stepV (f z) (f (F l).1) e (F l).2.2 = f (pPrim F z (l, e)).1 := by
  unfold stepV pPrim
  simp only
  split
  · rfl
  · split <;> rfl
theorem sNum {b g : Nat} {l : List Int} {e : Nat} {w : World} (most : Int) (hm : -9223372036854775808 ≤ most ∧ most ≤ 9223372036854775807) (h : Rd w 87 b g l e) :
    Calls Try.prog 35 #[.pointer (some ⟨b, 0, none⟩), .int .i64 most] w (RdPost 87 b g (pNum most (l, e)).2.1 (pNum most (l, e)).2.2 (.int .i64 (pNum most (l, e)).1) w) := by
  have := rNum_any b g l e most w h hm (numF l most).1 (numF l most).2.1 (numF l most).2.2 rfl
  have e2 : stepV (.int .i64 0) (.int .i64 ((numF l most).1 : Int)) e (numF l most).2.2 = _ := prim_v (numI most) (0 : Int) l e (Value.int .i64)
  rw [e2] at this
  exact this
theorem sText {b g : Nat} {l : List Int} {e : Nat} {w : World} (most : Int) (hm : -9223372036854775808 ≤ most ∧ most ≤ 9223372036854775807) (h : Rd w 87 b g l e) :
    Calls Try.prog 59 #[.pointer (some ⟨b, 0, none⟩), .int .i64 most] w (RdPost 87 b g (pText most (l, e)).2.1 (pText most (l, e)).2.2 (.string (pText most (l, e)).1) w) := by
  have := rText_any b g l e most w h hm (textF l most).1 (textF l most).2.1 (textF l most).2.2 rfl
  have e2 : stepV (.string ByteArray.empty) (.string (strOfNums (textF l most).1)) e (textF l most).2.2 = _ := prim_v (textS most) ByteArray.empty l e Value.string
  rw [e2] at this
  exact this
theorem sFlag {b g : Nat} {l : List Int} {e : Nat} {w : World} (h : Rd w 87 b g l e) :
    Calls Try.prog 60 #[.pointer (some ⟨b, 0, none⟩)] w (RdPost 87 b g (pFlag (l, e)).2.1 (pFlag (l, e)).2.2 (.bool (pFlag (l, e)).1) w) := by
  have := rFlag_any b g l e w h
  rw [prim_v flagF false l e Value.bool] at this
  exact this
theorem dNum {b g : Nat} {l : List Int} {e : Nat} {w : World} (most : Int) (hm : -9223372036854775808 ≤ most ∧ most ≤ 9223372036854775807) (h : Rd w 70 b g l e) :
    Calls Try.prog 38 #[.pointer (some ⟨b, 0, none⟩), .int .i64 most] w (RdPost 70 b g (pNum most (l, e)).2.1 (pNum most (l, e)).2.2 (.int .i64 (pNum most (l, e)).1) w) := by
  have := mNum_any b g l e most w h hm (numF l most).1 (numF l most).2.1 (numF l most).2.2 rfl
  have e2 : stepV (.int .i64 0) (.int .i64 ((numF l most).1 : Int)) e (numF l most).2.2 = _ := prim_v (numI most) (0 : Int) l e (Value.int .i64)
  rw [e2] at this
  exact this
theorem dText {b g : Nat} {l : List Int} {e : Nat} {w : World} (most : Int) (hm : -9223372036854775808 ≤ most ∧ most ≤ 9223372036854775807) (h : Rd w 70 b g l e) :
    Calls Try.prog 39 #[.pointer (some ⟨b, 0, none⟩), .int .i64 most] w (RdPost 70 b g (pText most (l, e)).2.1 (pText most (l, e)).2.2 (.string (pText most (l, e)).1) w) := by
  have := mText_any b g l e most w h hm (textF l most).1 (textF l most).2.1 (textF l most).2.2 rfl
  have e2 : stepV (.string ByteArray.empty) (.string (strOfNums (textF l most).1)) e (textF l most).2.2 = _ := prim_v (textS most) ByteArray.empty l e Value.string
  rw [e2] at this
  exact this
theorem dFlag {b g : Nat} {l : List Int} {e : Nat} {w : World} (h : Rd w 70 b g l e) :
    Calls Try.prog 40 #[.pointer (some ⟨b, 0, none⟩)] w (RdPost 70 b g (pFlag (l, e)).2.1 (pFlag (l, e)).2.2 (.bool (pFlag (l, e)).1) w) := by
  have := mFlag_any b g l e w h
  rw [prim_v flagF false l e Value.bool] at this
  exact this

/-- A reading that leaves all else. -/
structure Rdg (t : TypeId) (b g : Nat) (w w' : World) (σ : Sg) : Prop where
  rd : Rd w' t b g σ.1 σ.2
  gr : w.grownBy w' (some b)
theorem RdPost.rdg {t : TypeId} {b g : Nat} {l : List Int} {e0 : Nat} {v : Value} {w : World} {e : Ending} {w' : World} (h : RdPost t b g l e0 v w e w') : e = .returned v ∧ Rdg t b g w w' (l, e0) := ⟨h.1, h.2.1, h.2.2⟩
theorem Bk.grow {w w' : World} {g : Nat} {t : TypeId} {cs : Array Value} {row : Option Nat} (h : Bk w g t cs) (hg : w.grownBy w' row) (hne : row ≠ some g) : Bk w' g t cs := (hg.block g h.lt (fun q => hne q.symm)).trans h

theorem grown_setNew {w w1 : World} {row : Option Nat} (h : w.grownBy w1 row) {p : Addr} (hp : w.heap.size ≤ p.block) (u : Value) : w.grownBy (w1.setCell p u) row :=
  ⟨h.os, h.tape, h.output, by simpa using h.size, fun k hk hne => (Below.heap_setCell w1 p u k (fun q => by omega)).trans (h.block k hk hne)⟩
theorem Rd.setNew {w : World} {t : TypeId} {b g : Nat} {l : List Int} {e : Nat} (h : Rd w t b g l e) {p i : Nat} (hb : b ≠ p) (hg : g ≠ p) (u : Value) : Rd (w.setCell ⟨p, i, none⟩ u) t b g l e :=
  h.grown (grown_set w p i u) (fun q => hb (by injection q)) (fun q => hg (by injection q))

set_option maxRecDepth 100000 in
set_option maxHeartbeats 4000000 in
theorem takeCell_any (b g : Nat) (l : List Int) (e : Nat) (w : World) (h : Rd w 87 b g l e) (hg : g < b) :
    Calls Try.prog 36 #[.pointer (some ⟨b, 0, none⟩)] w (RdPost 87 b g (pCl (l, e)).2.1 (pCl (l, e)).2.2 (.agg (pCl (l, e)).1.cells.toArray) w) := by
  have hbw := h.lt
  obtain ⟨W1, hW1⟩ : ∃ W, W = w.alloc (.cells #[.string ⟨#[]⟩, .bool false, .string ⟨#[]⟩] 54) := ⟨_, rfl⟩
  have g1 : w.grownBy W1 (some b) := by rw [hW1]; exact World.grownBy_alloc w _ _
  have R1 : Hid (Bk W1 w.heap.size 54 #[.string ⟨#[]⟩, .bool false, .string ⟨#[]⟩]) := Lib.hid (by rw [hW1]; exact Bk.new w _ _)
  have HR1 := Lib.hid (show Rd W1 87 b g l e by rw [hW1]; exact h.alloc _)
  have G1 := Lib.hid g1
  have HW := Lib.hid hW1
  have hs1 : W1.heap.size = w.heap.size + 1 := by rw [hW1, World.size_alloc]
  obtain ⟨⟨k, l1, e1⟩, hT⟩ : ∃ x, pText 16 (l, e) = x := ⟨_, rfl⟩
  obtain ⟨⟨f, l2, e2⟩, hF⟩ : ∃ x, pFlag (l1, e1) = x := ⟨_, rfl⟩
  have C1 := sText 16 (by omega) HR1.out
  rw [hT] at C1
  have C1 := Lib.hid C1
  have HT := Lib.hid hT
  have HF := Lib.hid hF
  clear h g1 hW1 hT hF
  go_enter Try.func36, Try.ntmps36
  go_upto_region 1 with fail
  rw [← HW.out]
  go_wp2_with fail
  refine C1.out.mono ?_
  rintro e' w2 ⟨rfl, hr2, g2⟩
  have HR2 := Lib.hid hr2
  have R2 := Lib.hid (R1.out.grow g2 (fun q => by injection q with q; omega))
  have G2 := Lib.hid (grown_trans G1.out g2)
  have hs2 : W1.heap.size ≤ w2.heap.size := g2.size
  clear hr2 g2 C1
  go_upto_region 2 with fail
  obtain ⟨W3, hW3⟩ : ∃ W, W = w2.alloc (.cells #[.string k, .bool false, .string ⟨#[]⟩] 54) := ⟨_, rfl⟩
  rw [← hW3]
  have HR3 := Lib.hid (show Rd W3 87 b g l1 e1 by rw [hW3]; exact HR2.out.alloc _)
  have K3 : Hid (Bk W3 w2.heap.size 54 #[.string k, .bool false, .string ⟨#[]⟩]) := Lib.hid (by rw [hW3]; exact Bk.new w2 _ _)
  have G3 : Hid (w.grownBy W3 (some b)) := Lib.hid (by rw [hW3]; exact grown_trans G2.out (World.grownBy_alloc w2 _ _))
  have R3 : Hid (Bk W3 w.heap.size 54 #[.string ⟨#[]⟩, .bool false, .string ⟨#[]⟩]) := Lib.hid (by rw [hW3]; exact R2.out.bel ((Below.refl _ _).alloc (Nat.le_refl _) _) R2.out.lt)
  clear hW3 R2 G2 HR2
  have C2 := sFlag HR3.out
  rw [HF.out] at C2
  have C2 := Lib.hid C2
  go_wp2_with fail
  refine C2.out.mono ?_
  rintro e' w4 ⟨rfl, hr4, g4⟩
  have hbC : b ≠ w2.heap.size := by omega
  have hgC : g ≠ w2.heap.size := by omega
  have K4 := Lib.hid (K3.out.grow g4 (fun q => by injection q with q; omega))
  have RR4 := Lib.hid (R3.out.grow g4 (fun q => by injection q with q; omega))
  have G4 := Lib.hid (grown_trans G3.out g4)
  have HR4 := Lib.hid hr4
  have c1 := K4.out.cell 1
  have f1 := K4.out.frz 1
  simp only [List.getElem?_toArray, List.getElem?_cons_zero, List.getElem?_cons_succ] at c1
  clear hr4 g4 C2 K3 R3 G3 HR3
  go_upto_if 13 with fail
  obtain ⟨W5, hW5⟩ : ∃ W, W = w4.setCell ⟨w2.heap.size, 1, none⟩ (.bool f) := ⟨_, rfl⟩
  (try rw [← hW5])
  have K5 : Hid (Bk W5 w2.heap.size 54 #[.string k, .bool f, .string ⟨#[]⟩]) := Lib.hid (by rw [hW5]; simpa using K4.out.setc 1 (.bool f))
  have HR5 : Hid (Rd W5 87 b g l2 e2) := Lib.hid (by rw [hW5]; exact HR4.out.setNew hbC hgC _)
  have G5 : Hid (w.grownBy W5 (some b)) := Lib.hid (by rw [hW5]; exact grown_setNew (p := ⟨w2.heap.size, 1, none⟩) G4.out (by show w.heap.size ≤ w2.heap.size; omega) _)
  have RR : Hid (Bk W5 w.heap.size 54 #[.string ⟨#[]⟩, .bool false, .string ⟨#[]⟩]) := Lib.hid (by rw [hW5]; exact (Below.heap_setCell w4 ⟨w2.heap.size, 1, none⟩ _ _ (by show w.heap.size ≠ w2.heap.size; omega)).trans RR4.out)
  clear hW5 K4 HR4 G4 RR4 c1 f1
  have k0 := K5.out.cell 0
  have k1 := K5.out.cell 1
  have k2 := K5.out.cell 2
  simp only [List.getElem?_toArray, List.getElem?_cons_zero, List.getElem?_cons_succ] at k0 k1 k2
  cases f with
  | false =>
    have E : Hid (pCl (l, e) = (⟨k, ⟨false, ByteArray.empty⟩⟩, (l2, e2))) := Lib.hid (by
      unfold pCl pVl
      rw [HT.out]
      simp only
      rw [HF.out]
      rfl)
    clear k0 k1 k2
    have FB : Hid (Bk (((W5.setCell ⟨w.heap.size, 0, none⟩ (.string k)).setCell ⟨w.heap.size, 1, none⟩ (.bool false)).setCell ⟨w.heap.size, 2, none⟩ (.string ⟨#[]⟩)) w.heap.size 54 #[.string k, .bool false, .string ⟨#[]⟩]) := Lib.hid (by simpa using ((RR.out.setc 0 (.string k)).setc 1 (.bool false)).setc 2 (.string ⟨#[]⟩))
    have hbr : b ≠ w.heap.size := by omega
    have hgr : g ≠ w.heap.size := by omega
    have RP : Hid (RdPost 87 b g (pCl (l, e)).2.1 (pCl (l, e)).2.2 (.agg (pCl (l, e)).1.cells.toArray) w (.returned (.agg #[.string k, .bool false, .string ⟨#[]⟩])) (((W5.setCell ⟨w.heap.size, 0, none⟩ (.string k)).setCell ⟨w.heap.size, 1, none⟩ (.bool false)).setCell ⟨w.heap.size, 2, none⟩ (.string ⟨#[]⟩))) := Lib.hid (by
      rw [E.out]
      exact ⟨rfl, ((HR5.out.setNew hbr hgr _).setNew hbr hgr _).setNew hbr hgr _, grown_setNew (p := ⟨w.heap.size, 2, none⟩) (grown_setNew (p := ⟨w.heap.size, 1, none⟩) (grown_setNew (p := ⟨w.heap.size, 0, none⟩) G5.out (Nat.le_refl _) _) (Nat.le_refl _) _) (Nat.le_refl _) _⟩)
    have c0 := K5.out.cell 0
    have c1 := K5.out.cell 1
    have c2 := K5.out.cell 2
    have r0 := RR.out.frz 0
    have r1 := RR.out.frz 1
    have r2 := RR.out.frz 2
    have z0 := RR.out.cell 0
    have z1 := RR.out.cell 1
    have z2 := RR.out.cell 2
    simp only [List.getElem?_toArray, List.getElem?_cons_zero, List.getElem?_cons_succ] at c0 c1 c2 z0 z1 z2
    go_wp2_with fail
    (try simp only [Exit.inBlock, Exit.then])
    refine bodyPost_ret (results_cell_row (p := 2) (ty := 54) rfl _ _ w.heap.size 54 _ (0, 0) _ rfl FB.out Try.underlying54 rfl cl_inf) rfl ?_
    exact RP.out
  | true =>
    obtain ⟨⟨dd, l3, e3⟩, hD⟩ : ∃ x, pText 32 (l2, e2) = x := ⟨_, rfl⟩
    have E : Hid (pCl (l, e) = (⟨k, ⟨true, dd⟩⟩, (l3, e3))) := Lib.hid (by
      unfold pCl pVl
      rw [HT.out]
      simp only
      rw [HF.out]
      simp only [if_true]
      rw [hD])
    have C3 := sText 32 (by omega) HR5.out
    rw [hD] at C3
    have C3 := Lib.hid C3
    clear hD
    go_wp2_with fail
    refine C3.out.mono ?_
    rintro e' w6 ⟨rfl, hr6, g6⟩
    have K6 := Lib.hid (K5.out.grow g6 (fun q => by injection q with q; omega))
    have RR6 := Lib.hid (RR.out.grow g6 (fun q => by injection q with q; omega))
    have G6 := Lib.hid (grown_trans G5.out g6)
    have HR6 := Lib.hid hr6
    have c2 := K6.out.cell 2
    have f2 := K6.out.frz 2
    simp only [List.getElem?_toArray, List.getElem?_cons_zero, List.getElem?_cons_succ] at c2
    clear hr6 g6 C3 K5 RR G5 HR5 k0 k1 k2
    go_upto_region 5 with fail
    obtain ⟨W7, hW7⟩ : ∃ W, W = w6.setCell ⟨w2.heap.size, 2, none⟩ (.string dd) := ⟨_, rfl⟩
    (try rw [← hW7])
    have K7 : Hid (Bk W7 w2.heap.size 54 #[.string k, .bool true, .string dd]) := Lib.hid (by rw [hW7]; simpa using K6.out.setc 2 (.string dd))
    have HR7 : Hid (Rd W7 87 b g l3 e3) := Lib.hid (by rw [hW7]; exact HR6.out.setNew hbC hgC _)
    have G7 : Hid (w.grownBy W7 (some b)) := Lib.hid (by rw [hW7]; exact grown_setNew (p := ⟨w2.heap.size, 2, none⟩) G6.out (by show w.heap.size ≤ w2.heap.size; omega) _)
    have RR : Hid (Bk W7 w.heap.size 54 #[.string ⟨#[]⟩, .bool false, .string ⟨#[]⟩]) := Lib.hid (by rw [hW7]; exact (Below.heap_setCell w6 ⟨w2.heap.size, 2, none⟩ _ _ (by show w.heap.size ≠ w2.heap.size; omega)).trans RR6.out)
    clear hW7 K6 HR6 G6 RR6 c2 f2
    have FB : Hid (Bk (((W7.setCell ⟨w.heap.size, 0, none⟩ (.string k)).setCell ⟨w.heap.size, 1, none⟩ (.bool true)).setCell ⟨w.heap.size, 2, none⟩ (.string dd)) w.heap.size 54 #[.string k, .bool true, .string dd]) := Lib.hid (by simpa using ((RR.out.setc 0 (.string k)).setc 1 (.bool true)).setc 2 (.string dd))
    have hbr : b ≠ w.heap.size := by omega
    have hgr : g ≠ w.heap.size := by omega
    have RP : Hid (RdPost 87 b g (pCl (l, e)).2.1 (pCl (l, e)).2.2 (.agg (pCl (l, e)).1.cells.toArray) w (.returned (.agg #[.string k, .bool true, .string dd])) (((W7.setCell ⟨w.heap.size, 0, none⟩ (.string k)).setCell ⟨w.heap.size, 1, none⟩ (.bool true)).setCell ⟨w.heap.size, 2, none⟩ (.string dd))) := Lib.hid (by
      rw [E.out]
      exact ⟨rfl, ((HR7.out.setNew hbr hgr _).setNew hbr hgr _).setNew hbr hgr _, grown_setNew (p := ⟨w.heap.size, 2, none⟩) (grown_setNew (p := ⟨w.heap.size, 1, none⟩) (grown_setNew (p := ⟨w.heap.size, 0, none⟩) G7.out (Nat.le_refl _) _) (Nat.le_refl _) _) (Nat.le_refl _) _⟩)
    have c0 := K7.out.cell 0
    have c1 := K7.out.cell 1
    have c2 := K7.out.cell 2
    have r0 := RR.out.frz 0
    have r1 := RR.out.frz 1
    have r2 := RR.out.frz 2
    have z0 := RR.out.cell 0
    have z1 := RR.out.cell 1
    have z2 := RR.out.cell 2
    simp only [List.getElem?_toArray, List.getElem?_cons_zero, List.getElem?_cons_succ] at c0 c1 c2 z0 z1 z2
    go_wp2_with fail
    (try simp only [Exit.inBlock, Exit.then])
    refine bodyPost_ret (results_cell_row (p := 2) (ty := 54) rfl _ _ w.heap.size 54 _ (0, 0) _ rfl FB.out Try.underlying54 rfl cl_inf) rfl ?_
    exact RP.out
end Go.Proofs.Ytfmfmdiegabobaa

/- strings.Compare, the comparison that page.Set passes on, slices.BinarySearchFunc with it: where a key's cell stands, or would. -/
namespace Go.Proofs.Ytfmfmdiegabobaa
open Go.RowKit

theorem cmp_lists : ∀ (x y : List UInt8), (Lib.compareBytes x y < 0 ↔ x < y) ∧ (Lib.compareBytes x y = 0 ↔ x = y)
  | [], [] => by simp [Lib.compareBytes]
  | [], _ :: _ => by simp [Lib.compareBytes]
  | _ :: _, [] => by simp [Lib.compareBytes]
  | a :: x, b :: y => by
    obtain ⟨h1, h2⟩ := cmp_lists x y
    unfold Lib.compareBytes
    rw [List.cons_lt_cons_iff]
    by_cases hab : a < b
    · have hne : a ≠ b := fun e => UInt8.lt_irrefl b (e ▸ hab)
      simp [hab, hne]
    · by_cases hba : b < a
      · have hne : a ≠ b := fun e => UInt8.lt_irrefl a (by rw [e] at hba ⊢; exact hba)
        simp [hab, hba, hne]
      · have he : a = b := by
          have := UInt8.not_lt.1 hab
          have := UInt8.not_lt.1 hba
          exact UInt8.le_antisymm ‹_› ‹_›
        subst he
        simp [hab, h1, h2]
/-- How two keys compare. -/
def cmpB (a b : ByteArray) : Int := Lib.compareBytes a.data.toList b.data.toList
theorem cmpB_lt (a b : ByteArray) : cmpB a b < 0 ↔ kLt a b := by rw [kLt_iff, Lib.toList_data, Lib.toList_data]; exact (cmp_lists _ _).1
theorem cmpB_eq (a b : ByteArray) : cmpB a b = 0 ↔ a = b := by
  rw [show (cmpB a b = 0 ↔ _) from (cmp_lists _ _).2]
  constructor
  · intro h; exact ByteArray.ext (Array.ext' h)
  · intro h; rw [h]

set_option maxHeartbeats 1000000 in
theorem compareString_any (a b : ByteArray) (w : World) : Calls Try.prog 64 #[.string a, .string b] w (Ret (.int .i64 (cmpB a b)) w) := by
  go_enter Try.func64, Try.ntmps64
  go_wp2_with fail
  rw [run_callFunc_extern Try.func79 (by kernel_rfl) (by kernel_rfl) (by kernel_rfl) (e := Extern.BytealgCompare.compare) (by kernel_rfl), Lib.run_compareString]
  simp only [Result.andThen]
  rw [Oper.upon_value]
  go_wp2_with fail
  go_ret
  exact ⟨rfl, Below.refl _ _⟩

set_option maxHeartbeats 1000000 in
theorem compare_any (a b : ByteArray) (w : World) : Calls Try.prog 44 #[.string a, .string b] w (Ret (.int .i64 (cmpB a b)) w) := by
  go_enter Try.func44, Try.ntmps44
  go_wp2_with fail
  refine (compareString_any a b w).mono ?_
  rintro e w1 ⟨rfl, b1⟩
  have B1 := Lib.hid b1
  clear b1
  go_wp2_with fail
  go_ret
  exact ⟨rfl, B1.out⟩

set_option maxHeartbeats 1000000 in
theorem setCmp_any (x : Cl) (k : ByteArray) (w : World) : Calls Try.prog 43 #[.agg x.cells.toArray, .string k] w (Ret (.int .i64 (cmpB x.key k)) w) := by
  obtain ⟨key, ⟨hs, d⟩⟩ := x
  show Calls _ _ #[.agg #[.string key, .bool hs, .string d], .string k] w _
  have HB : Hid (Below w.heap.size w (w.alloc (.cells #[.string key, .bool hs, .string d] 54))) := Lib.hid ((Below.refl _ _).alloc (Nat.le_refl _) _)
  go_enter Try.func43, Try.ntmps43
  go_wp2_with fail
  refine (compare_any key k _).mono ?_
  rintro e w1 ⟨rfl, b1⟩
  have B1 := Lib.hid (Below.then HB.out b1)
  clear b1
  go_wp2_with fail
  go_ret
  exact ⟨rfl, B1.out⟩

/-- Where the search stands. -/
structure Bis (l : List Cl) (k : ByteArray) (i j : Nat) : Prop where
  le : i ≤ j
  top : j ≤ l.length
  lo : ∀ m, m < i → kLt (l.getD m default).key k
  hi : ∀ m, j ≤ m → m < l.length → ¬ kLt (l.getD m default).key k
theorem Bis.start (l : List Cl) (k : ByteArray) : Bis l k 0 l.length := ⟨Nat.zero_le _, Nat.le_refl _, fun m h => absurd h (by omega), fun m h1 h2 => absurd h1 (by omega)⟩
theorem Bis.up {l : List Cl} {k : ByteArray} {i j h : Nat} (b : Bis l k i j) (hp : l.Pairwise qCl) (h2 : h < j) (hk : kLt (l.getD h default).key k) : Bis l k (h + 1) j :=
  ⟨h2, b.top, fun m hm => by
    rcases Nat.lt_or_ge m h with q | q
    · exact kLt_trans (pw_get hp q (by have := b.top; omega)) hk
    · obtain rfl : m = h := by omega
      exact hk, b.hi⟩
theorem Bis.down {l : List Cl} {k : ByteArray} {i j h : Nat} (b : Bis l k i j) (hp : l.Pairwise qCl) (h1 : i ≤ h) (h2 : h < j) (hk : ¬ kLt (l.getD h default).key k) : Bis l k i h :=
  ⟨h1, by have := b.top; omega, b.lo, fun m hm hl => by
    rcases Nat.lt_or_ge h m with q | q
    · exact fun z => hk (kLt_trans (pw_get hp q hl) z)
    · obtain rfl : m = h := by omega
      exact hk⟩
theorem Bis.fin {l : List Cl} {k : ByteArray} {i : Nat} (b : Bis l k i i) : atC l k = i := atC_uniq b.top b.lo b.hi

/-- Where, and whether it is there. -/
def RetAt (l : List Cl) (k : ByteArray) (w : World) (e : Ending) (w' : World) : Prop := e = .returned (.tuple #[.int .i64 (atC l k), .bool (isAt l k)]) ∧ Below w.heap.size w w'

set_option maxRecDepth 100000 in
set_option maxHeartbeats 4000000 in
theorem bsearch_any (A : Option Addr) (n c : Nat) (l : List Cl) (k : ByteArray) (w : World) (h : Pcs w A n c l) (hp : l.Pairwise qCl) (hn : n ≤ 1000) :
    Calls Try.prog 42 #[.slice A n c, .string k, .func (.func 43) #[] #[]] w (RetAt l k w) := by
  have hcap := h.flt.cap
  have hmax := h.flt.max
  unfold maxLen at hmax
  have HP := Lib.hid h
  have hlen := Lib.hid h.len
  have HW := Lib.hid hp
  clear h hp
  go_enter Try.func42, Try.ntmps42
  go_wp2_with fail
  go_loopw [9, 10] (fun y z wr => ∃ i j : Nat, y = .int .i64 i ∧ z = .int .i64 j ∧ Bis l k i j ∧ Below w.heap.size w wr) (fun y z _ => (intOf z).toNat - (intOf y).toNat)
  case atStart => exact ⟨0, n, rfl, rfl, by rw [← hlen.out]; exact Bis.start l k, Below.refl _ _⟩
  case round =>
    obtain ⟨i, j, rfl, rfl, hbis, hb⟩ := hrel
    have HB := Lib.hid hb
    have HI := Lib.hid hbis
    have hij := hbis.le
    have hjn : j ≤ n := by have := hbis.top; rw [hlen.out] at this; exact this
    by_cases hlt : i < j
    · obtain ⟨m, hm⟩ : ∃ m, (i + j) / 2 = m := ⟨_, rfl⟩
      obtain ⟨g, off, rfl, _, hc⟩ := (HP.out.below hb).get (by omega)
      obtain ⟨a0, a1, a2⟩ := hc m (by omega)
      obtain ⟨x, hx⟩ : ∃ x, l.getD m default = x := ⟨_, rfl⟩
      rw [hx] at a0 a1 a2
      obtain ⟨key, ⟨hs, d⟩⟩ := x
      simp only at a0 a1 a2
      have HX := Lib.hid hx
      clear hc hbis hx hb
      have C := setCmp_any ⟨key, ⟨hs, d⟩⟩ k wr
      have HCL : Hid (cmpB key k < 0 ↔ kLt key k) := Lib.hid (cmpB_lt key k)
      obtain ⟨z, hz⟩ : ∃ z, cmpB key k = z := ⟨_, rfl⟩
      simp only [hz] at C
      rw [hz] at HCL
      have C := Lib.hid C
      clear hz
      go_wp2_with fail
      refine C.out.mono ?_
      rintro e w1 ⟨rfl, b1⟩
      have B1 := Lib.hid (Below.then HB.out b1)
      clear b1 C a0 a1 a2
      by_cases hzl : z < 0
      · have HN : Hid (Bis l k (m + 1) j) := Lib.hid (HI.out.up HW.out (by omega) (by rw [HX.out]; exact HCL.out.1 hzl))
        have e : ((i : Int) + j) / 2 + 1 = ((m + 1 : Nat) : Int) := by omega
        clear HI HX HCL
        go_wp2_with fail
        go_roundw
        case rel => exact ⟨m + 1, j, by congr 1, rfl, HN.out, B1.out⟩
        case measure => simp [intOf]; omega
      · have HN : Hid (Bis l k i m) := Lib.hid (HI.out.down HW.out (by omega) (by omega) (by rw [HX.out]; exact fun q => hzl (HCL.out.2 q)))
        have e : ((i : Int) + j) / 2 = ((m : Nat) : Int) := by omega
        clear HI HX HCL
        go_wp2_with fail
        go_roundw
        case rel => exact ⟨i, m, rfl, by congr 1, HN.out, B1.out⟩
        case measure => simp [intOf]; omega
    · obtain rfl : i = j := by omega
      have hat := hbis.fin
      by_cases hin : i < n
      · obtain ⟨g, off, rfl, _, hc⟩ := (HP.out.below hb).get (by omega)
        obtain ⟨a0, a1, a2⟩ := hc i hin
        obtain ⟨x, hx⟩ : ∃ x, l.getD i default = x := ⟨_, rfl⟩
        rw [hx] at a0 a1 a2
        obtain ⟨key, ⟨hs, d⟩⟩ := x
        simp only at a0 a1 a2
        have C := setCmp_any ⟨key, ⟨hs, d⟩⟩ k wr
        have HCL : Hid (isAt l k = (cmpB key k == 0)) := Lib.hid (by
          unfold isAt
          rw [hat, hx]
          by_cases hz : cmpB key k = 0
          · rw [show (cmpB key k == 0) = true from beq_iff_eq.2 hz]; exact decide_eq_true ⟨by rw [hlen.out]; exact hin, (cmpB_eq key k).1 hz⟩
          · rw [show (cmpB key k == 0) = false from beq_eq_false_iff_ne.2 hz]; exact decide_eq_false (fun q => hz ((cmpB_eq key k).2 q.2)))
        obtain ⟨z, hz⟩ : ∃ z, cmpB key k = z := ⟨_, rfl⟩
        simp only [hz] at C
        rw [hz] at HCL
        have C := Lib.hid C
        have HAT := Lib.hid hat
        clear hz hc hbis hx hb hat hlt HI
        go_wp2_with fail
        refine C.out.mono ?_
        rintro e w1 ⟨rfl, b1⟩
        have R : Hid (RetAt l k w (.returned (.tuple #[.int .i64 i, .bool (z == 0)])) w1) := Lib.hid ⟨by rw [HAT.out, HCL.out], Below.then HB.out b1⟩
        clear b1 C a0 a1 a2 HB HCL
        go_wp2_with fail
        go_ret2
        exact R.out
      · obtain rfl : i = n := by omega
        have R : Hid (RetAt l k w (.returned (.tuple #[.int .i64 i, .bool false])) wr) := Lib.hid ⟨by rw [hat, show isAt l k = false from decide_eq_false (fun q => by have := q.1; rw [hat, hlen.out] at this; omega)], HB.out⟩
        clear hbis hb hat hlt HI HB
        go_wp2_with fail
        go_ret2
        exact R.out
end Go.Proofs.Ytfmfmdiegabobaa
