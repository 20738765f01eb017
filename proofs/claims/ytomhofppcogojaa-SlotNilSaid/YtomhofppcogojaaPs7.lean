/- What it says: contracts and plain mathematics that the laws' walks use, 7 of 10: each part's own remark says what; no condition. -/
import Derived.Test.YtomhofppcogojaaPs1
import Derived.Test.YtomhofppcogojaaPs2
import Derived.Test.YtomhofppcogojaaPs4
import Derived.Test.YtomhofppcogojaaPs0
import Derived.Test.YtomhofppcogojaaPs6
import Derived.Handy
import Derived.Great.BuildSlice
import Derived.WalkMore
import Derived.Lib.Bytealg
import Derived.Lib.AppendZerosOnto
import Derived.BigRegion
import Derived.Laws.ResultCell
import Derived.Laws.CopyOwn
import Derived.Lib.MinMax
import Derived.Deep.RegionHeld3
import Derived.Great.FillDense
import Derived.Laws.Tables
import Derived.LoopTactic
import Derived.RegionTactic
import Derived.Deep.QuietTactic
import Derived.BigQuiet
import Derived.Test.YtomhofppcogojaaRows
import Derived.ProofKit
import Derived.OpenShut
import Derived.ShutString
import Derived.ChangeOld
import Derived.SizedLaws
import Derived.Deep.Slices
import Derived.ChangeArms
import Derived.Deep.MidRow

set_option linter.unusedSimpArgs false
set_option linter.unusedVariables false
set_option linter.deprecated false
set_option linter.unusedSectionVars false
set_option linter.all false

/- trothref10.May answers whether a page may be. -/
namespace Go.Proofs.Ytomhofppcogojaa
open Go.RowKit

set_option maxRecDepth 100000 in
set_option maxHeartbeats 4000000 in
theorem may10_any (lsn : Int) (A : Option Addr) (n c : Nat) (l : List Cl) (w : World) (h : Pcs w A n c l) : Calls Try.prog 13 #[.agg #[.int .i64 lsn, .slice A n c]] w (Ret (.bool (decide ((⟨lsn, l⟩ : Pg).ok))) w) := by
  have hcap := h.flt.cap
  have hmax := h.flt.max
  unfold maxLen at hmax
  have hlen := h.len
  obtain ⟨W0, hW0⟩ : ∃ W, W = w.alloc (.cells #[.int .i64 lsn, .slice A n c] 24) := ⟨_, rfl⟩
  have HB : Hid (Below w.heap.size w W0) := Lib.hid (by rw [hW0]; exact (Below.refl _ _).alloc (Nat.le_refl _) _)
  have BK : Hid (Bk W0 w.heap.size 24 #[.int .i64 lsn, .slice A n c]) := Lib.hid (by rw [hW0]; exact Bk.new w _ _)
  have OKI := Lib.hid (pgOk_iff lsn l)
  by_cases h0 : 0 ≤ lsn
  rotate_left
  · have R := Lib.hid (ret_no (P := (⟨lsn, l⟩ : Pg).ok) (fun q => h0 q.1.1) HB.out)
    have hW := Lib.hid hW0
    clear HB BK OKI hW0 h
    go_enter Try.func13, Try.ntmps13
    go_wp2_with fail
    go_ret
    rw [hW.out] at R
    exact R.out
  by_cases h1 : lsn ≤ 1099511627776
  rotate_left
  · have R := Lib.hid (ret_no (P := (⟨lsn, l⟩ : Pg).ok) (fun q => h1 q.1.2) HB.out)
    have hW := Lib.hid hW0
    clear HB BK OKI hW0 h
    go_enter Try.func13, Try.ntmps13
    go_wp2_with fail
    go_ret
    rw [hW.out] at R
    exact R.out
  by_cases h2 : n ≤ 4
  rotate_left
  · have R := Lib.hid (ret_no (P := (⟨lsn, l⟩ : Pg).ok) (fun q => h2 (by rw [← hlen]; exact q.2.1)) HB.out)
    have hW := Lib.hid hW0
    have h2' : ¬ (n : Int) ≤ 4 := by omega
    clear HB BK OKI hW0 h
    go_enter Try.func13, Try.ntmps13
    go_wp2_with fail
    go_ret
    rw [hW.out] at R
    exact R.out
  have h2' : (n : Int) ≤ 4 := by omega
  have YES : Hid (clsOk l → ∀ w', Below W0.heap.size W0 w' → Ret (.bool (decide ((⟨lsn, l⟩ : Pg).ok))) w (.returned (.bool true)) w') := Lib.hid (fun q w' hb => ret_yes (OKI.out.2 ⟨⟨h0, h1⟩, by omega, q⟩) (Below.then HB.out hb))
  have NO : Hid (¬ clsOk l → ∀ w', Below W0.heap.size W0 w' → Ret (.bool (decide ((⟨lsn, l⟩ : Pg).ok))) w (.returned (.bool false)) w') := Lib.hid (fun q w' hb => ret_no (fun z => q (OKI.out.1 z).2.2) (Below.then HB.out hb))
  have hW := Lib.hid hW0
  have HP := Lib.hid (h.below HB.out)
  have hc1 : W0.cell? ⟨w.heap.size, 1, none⟩ = some (.slice A n c) := BK.out.cell 1
  clear OKI hW0 h
  go_enter Try.func13, Try.ntmps13
  go_upto_region 3 with fail
  rw [← hW.out]
  go_wp2_with fail
  go_loopw [3] (fun y wr => ∃ k : Nat, k ≤ n ∧ y = .int .i64 k ∧ Below W0.heap.size W0 wr ∧ upTo l k) (fun y _ => n - (intOf y).toNat)
  case atStart => exact ⟨0, Nat.zero_le _, rfl, Below.refl _ _, fun i hi => absurd hi (by omega)⟩
  case round =>
    obtain ⟨k, hk, rfl, hb, hu⟩ := hrel
    have hcp : wr.cell? ⟨w.heap.size, 1, none⟩ = some (.slice A n c) := (BK.out.bel hb BK.out.lt).cell 1
    by_cases hlt : k < n
    · obtain ⟨g, off, rfl, _, hc⟩ := (HP.out.below hb).get (by omega)
      obtain ⟨a0, a1, a2⟩ := hc k hlt
      have HPR := Lib.hid hc
      obtain ⟨x, hx⟩ : ∃ x, l.getD k default = x := ⟨_, rfl⟩
      rw [hx] at a0 a1 a2
      obtain ⟨key, ⟨hs, d⟩⟩ := x
      simp only at a0 a1 a2
      have HX := Lib.hid hx
      have HU := Lib.hid hu
      have HBB := Lib.hid hb
      clear hc hb hu hx
      go_wp2_with fail
      obtain ⟨W1, hW1⟩ : ∃ W, W = wr.alloc (.cells #[.string key, .bool hs, .string d] 63) := ⟨_, rfl⟩
      have bW1 : Below wr.heap.size wr W1 := by rw [hW1]; exact (Below.refl _ _).alloc (Nat.le_refl _) _
      have bk1 : Bk W1 wr.heap.size 63 #[.string key, .bool hs, .string d] := by rw [hW1]; exact Bk.new wr _ _
      rw [← hW1]
      have f0 : ∀ d' os, (Go.Sort.grow (redrawn W1 d') os).cell? ⟨wr.heap.size, 0, none⟩ = some (.string key) := cell_regrown (bk1.cell 0)
      have f1 : ∀ d' os, (Go.Sort.grow (redrawn W1 d') os).cell? ⟨wr.heap.size, 1, none⟩ = some (.bool hs) := cell_regrown (bk1.cell 1)
      have f2 : ∀ d' os, (Go.Sort.grow (redrawn W1 d') os).cell? ⟨wr.heap.size, 2, none⟩ = some (.string d) := cell_regrown (bk1.cell 2)
      have fp : ∀ d' os, (Go.Sort.grow (redrawn W1 d') os).cell? ⟨w.heap.size, 1, none⟩ = some (.slice (some ⟨g, off, none⟩) n c) := cell_regrown ((bW1.cell (World.block_lt_of_cell? wr _ hcp)).trans hcp)
      have BW := Lib.hid (Below.then HBB.out bW1)
      have BW1 := Lib.hid bW1
      have CK := Lib.hid (fun W => rKey_any key W)
      have CV := Lib.hid (fun W => refValue_any ⟨hs, d⟩ W)
      clear hW1 bW1 bk1 a0 a1 a2 hcp
      by_cases hok : clOk ⟨key, ⟨hs, d⟩⟩
      · rw [decide_eq_true hok.1] at CK
        rw [decide_eq_true hok.2] at CV
        rcases Nat.eq_zero_or_pos k with hk0 | hk0
        · subst hk0
          have HN : Hid (upTo l (0 + 1)) := Lib.hid (upTo_next HU.out (by rw [HX.out]; exact hok) (fun q => absurd q (by omega)))
          clear hok
          refine wp_region_quiet_below (by kernel_rfl) (by kernel_rfl) ?_
          repeat (any_goals (first | go_big_quiet_step ((first | (go_at_call 33; exact Calls.regrown_of (CK.out _)) | (go_at_call 34; exact Calls.regrown_of (CV.out _)))) | quiet_step ((first | (go_at_call 33; exact Calls.regrown_of (CK.out _)) | (go_at_call 34; exact Calls.regrown_of (CV.out _))))))
          refine wpQuiet_nil ?_
          intro _ hw'
          obtain ⟨⟨dq, osq⟩, hw''⟩ := hw'
          subst hw''
          have L11 := Lib.hid (Below.then BW.out (below_regrown W1 dq osq))
          clear BW f0 f1 f2 fp CK CV
          go_wp2_with fail
          go_roundw
          case rel => exact ⟨0 + 1, by omega, by go_num, L11.out, HN.out⟩
          case measure => simp [intOf]; omega
        · obtain ⟨m, rfl⟩ : ∃ m, k = m + 1 := ⟨k - 1, by omega⟩
          obtain ⟨b0, _, _⟩ := HPR.out m (by omega)
          obtain ⟨pk, hpk⟩ : ∃ x, (l.getD m default).key = x := ⟨_, rfl⟩
          rw [hpk] at b0
          have fq : ∀ d' os, (Go.Sort.grow (redrawn W1 d') os).cell? ⟨g, off + m * 3, none⟩ = some (.string pk) := cell_regrown ((BW1.out.cell (World.block_lt_of_cell? wr _ b0)).trans b0)
          clear b0
          by_cases hlt2 : kLt pk key
          · have hA : Op.bytesLess pk.toList key.toList = true := hlt2
            have HN : Hid (upTo l (m + 1 + 1)) := Lib.hid (upTo_next HU.out (by rw [HX.out]; exact hok) (fun _ => by rw [Nat.add_sub_cancel, hpk, HX.out]; exact hlt2))
            clear hok hlt2 hpk
            refine wp_region_quiet_below (by kernel_rfl) (by kernel_rfl) ?_
            repeat (any_goals (first | go_big_quiet_step ((first | (go_at_call 33; exact Calls.regrown_of (CK.out _)) | (go_at_call 34; exact Calls.regrown_of (CV.out _)))) | quiet_step ((first | (go_at_call 33; exact Calls.regrown_of (CK.out _)) | (go_at_call 34; exact Calls.regrown_of (CV.out _))))))
            refine wpQuiet_nil ?_
            intro _ hw'
            obtain ⟨⟨dq, osq⟩, hw''⟩ := hw'
            subst hw''
            have L11 := Lib.hid (Below.then BW.out (below_regrown W1 dq osq))
            clear BW f0 f1 f2 fp CK CV fq
            go_wp2_with fail
            go_roundw
            case rel => exact ⟨m + 1 + 1, by omega, by go_num, L11.out, HN.out⟩
            case measure => simp [intOf]; omega
          · have HNO : Hid (¬ clsOk l) := Lib.hid (rises_no (k := m + 1) (by omega) (fun q => hlt2 (by have := q.2 (by omega); rw [Nat.add_sub_cancel, hpk, HX.out] at this; exact this)))
            have hA : Op.bytesLess pk.toList key.toList = false := by
              unfold kLt at hlt2
              simpa using hlt2
            clear hok hlt2 hpk
            refine wp_region_quiet_below (by kernel_rfl) (by kernel_rfl) ?_
            repeat (any_goals (first | go_big_quiet_step ((first | (go_at_call 33; exact Calls.regrown_of (CK.out _)) | (go_at_call 34; exact Calls.regrown_of (CV.out _)))) | quiet_step ((first | (go_at_call 33; exact Calls.regrown_of (CK.out _)) | (go_at_call 34; exact Calls.regrown_of (CV.out _))))))
            refine wpQuiet_nil ?_
            intro _ hw'
            obtain ⟨⟨dq, osq⟩, hw''⟩ := hw'
            subst hw''
            have L11 := Lib.hid (Below.then BW.out (below_regrown W1 dq osq))
            have R := Lib.hid (NO.out HNO.out _ L11.out)
            clear BW f0 f1 f2 fp CK CV L11
            go_wp2_with fail
            go_ret
            exact R.out
      · have HNO : Hid (¬ clsOk l) := Lib.hid (rises_no (k := k) (by omega) (fun q => hok (by have := q.1; rw [HX.out] at this; exact this)))
        by_cases hk1 : keyOk key
        · have hv : ¬ vlOk ⟨hs, d⟩ := fun q => hok ⟨hk1, q⟩
          rw [decide_eq_true hk1] at CK
          rw [decide_eq_false hv] at CV
          clear hok hk1 hv
          refine wp_region_quiet_below (by kernel_rfl) (by kernel_rfl) ?_
          repeat (any_goals (first | go_big_quiet_step ((first | (go_at_call 33; exact Calls.regrown_of (CK.out _)) | (go_at_call 34; exact Calls.regrown_of (CV.out _)))) | quiet_step ((first | (go_at_call 33; exact Calls.regrown_of (CK.out _)) | (go_at_call 34; exact Calls.regrown_of (CV.out _))))))
          refine wpQuiet_nil ?_
          intro _ hw'
          obtain ⟨⟨dq, osq⟩, hw''⟩ := hw'
          subst hw''
          have L11 := Lib.hid (Below.then BW.out (below_regrown W1 dq osq))
          have R := Lib.hid (NO.out HNO.out _ L11.out)
          clear BW f0 f1 f2 fp CK CV L11
          go_wp2_with fail
          go_ret
          exact R.out
        · rw [decide_eq_false hk1] at CK
          clear hok hk1
          refine wp_region_quiet_below (by kernel_rfl) (by kernel_rfl) ?_
          repeat (any_goals (first | go_big_quiet_step ((first | (go_at_call 33; exact Calls.regrown_of (CK.out _)) | (go_at_call 34; exact Calls.regrown_of (CV.out _)))) | quiet_step ((first | (go_at_call 33; exact Calls.regrown_of (CK.out _)) | (go_at_call 34; exact Calls.regrown_of (CV.out _))))))
          refine wpQuiet_nil ?_
          intro _ hw'
          obtain ⟨⟨dq, osq⟩, hw''⟩ := hw'
          subst hw''
          have L11 := Lib.hid (Below.then BW.out (below_regrown W1 dq osq))
          have R := Lib.hid (NO.out HNO.out _ L11.out)
          clear BW f0 f1 f2 fp CK CV L11
          go_wp2_with fail
          go_ret
          exact R.out
    · obtain rfl : k = n := by omega
      have R := Lib.hid (YES.out (fun i hi => hu i (by omega)) _ hb)
      clear hb hu hlt
      go_wp2_with fail
      go_ret
      exact R.out
end Go.Proofs.Ytomhofppcogojaa

/- page.indexOf, Get, Room and trothref10.Get, has, Room: the first cell of a key. -/
namespace Go.Proofs.Ytomhofppcogojaa
open Go.RowKit

/-- No cell ahead of number j has the key. -/
def noneTo (l : List Cl) (k : ByteArray) (j : Nat) : Prop := ∀ i, i < j → (l.getD i default).key ≠ k
theorem noneTo_next {l : List Cl} {k : ByteArray} {j : Nat} (h : noneTo l k j) (h1 : (l.getD j default).key ≠ k) : noneTo l k (j + 1) := fun i hi => by
  rcases Nat.lt_or_ge i j with q | q
  · exact h i q
  · obtain rfl : i = j := by omega
    exact h1
theorem first_at {k : ByteArray} : ∀ {l : List Cl} {j : Nat}, j < l.length → noneTo l k j → (l.getD j default).key = k → getC l k = some (l.getD j default) ∧ hasC l k = true
  | [], _, h, _, _ => absurd h (by simp)
  | c :: r, 0, _, _, e => by
    have e' : c.key = k := by simpa using e
    unfold getC hasC
    simp [e']
  | c :: r, j + 1, h, hn, e => by
    have h0 : c.key ≠ k := by simpa using hn 0 (by omega)
    obtain ⟨h1, h2⟩ := first_at (l := r) (j := j) (by simpa using h) (fun i hi => by simpa using hn (i + 1) (by omega)) (by simpa using e)
    unfold getC hasC at *
    constructor
    · rw [List.find?_cons_of_neg (by simpa using h0), h1]
      simp
    · rw [List.any_cons, h2]
      simp
theorem first_none {k : ByteArray} {l : List Cl} (h : noneTo l k l.length) : getC l k = none ∧ hasC l k = false := by
  have h' : ∀ x ∈ l, x.key ≠ k := fun x hx => by
    obtain ⟨i, hi, rfl⟩ := List.getElem_of_mem hx
    have := h i hi
    rwa [List.getD_eq_getElem?_getD, List.getElem?_eq_getElem hi] at this
  refine ⟨find_none h', ?_⟩
  cases q : hasC l k with
  | false => rfl
  | true =>
    obtain ⟨x, hx, e⟩ := (has_iff l k).1 q
    exact absurd e (h' x hx)

/-- Where the first cell of a key stands. -/
def Idx (l : List Cl) (k : ByteArray) (j : Int) : Prop := (∃ m : Nat, j = m ∧ m < l.length ∧ getC l k = some (l.getD m default) ∧ hasC l k = true) ∨ (j = -1 ∧ getC l k = none ∧ hasC l k = false)
def RetIdx (l : List Cl) (k : ByteArray) (w : World) (e : Ending) (w' : World) : Prop := ∃ j : Int, e = .returned (.int .i64 j) ∧ Idx l k j ∧ Below w.heap.size w w'

theorem beq_key {a b : ByteArray} : (a.toList == b.toList) = decide (a = b) := by
  by_cases h : a = b
  · subst h; simp
  · rw [decide_eq_false h, beq_eq_false_iff_ne]
    exact fun q => h (ba_inj q)

theorem vl_inf : (Try.prog.info? 61).map (·.size) = some 2 := by kernel_rfl
theorem cl_inf : (Try.prog.info? 63).map (·.size) = some 3 := by kernel_rfl
theorem pg_inf : (Try.prog.info? 24).map (·.size) = some 2 := by kernel_rfl
/-- A page's value. -/
abbrev pgV (lsn : Int) (A : Option Addr) (n c : Nat) : Value := .agg #[.int .i64 lsn, .slice A n c]
abbrev vlV (v : Vl) : Value := .agg #[.bool v.has, .string v.data]

end Go.Proofs.Ytomhofppcogojaa

/- operations behind a guard, in a region that draws its order: taken where the guard says go, left out where it says no. No program is named; no condition. -/
namespace Go.Proofs.Ytomhofppcogojaa
open Go.RowKit
section
variable {P : Program} {Q : Exit → Act → World → Prop} {S : World → Prop} {n : Nat}
/-- An operation whose guard says go is taken now. -/
theorem Upto.takeG {i : Nat} {oi : Oper} {v : Value} {fuel : Nat} {listed : Array Bool} {a : Act} {w : World} {l rest : List Oper} (hi : l.drop i = oi :: rest) (hc : (tailB l.toArray n && decide (i < n) && headB l.toArray n listed && Region.free .any l.toArray listed i && (Region.ready .any l.toArray listed).contains i) = true)
    (hQ : ∀ c a w, Q (.panic c) (a.put oi.dst v) w → Q (.panic c) a w) (hg : Region.wanted oi (yielded l.toArray a.tmps) = true) (hy : ∀ w, S w → (execOp a.eval oi).run P w = .ok (.value v) w) (hS : S w)
    (h : Upto P l.toArray Q S n fuel (listed.setIfInBounds i true) (a.put oi.dst v) w) : Upto P l.toArray Q S n (fuel + 1) listed a w := by
  have hi := drop_at hi
  simp only [Bool.and_eq_true, decide_eq_true_eq] at hc
  obtain ⟨⟨⟨⟨h1, h2⟩, h3⟩, h4⟩, h5⟩ := hc
  exact upto_first h1 h2 hi hQ fuel listed a w (headB_spec h3) (Region.free_spec hi h4) (by simpa using h5) (.inl ⟨hg, hy⟩) hS h
/-- An operation whose guard says no is left out now. -/
theorem Upto.skip {i : Nat} {oi : Oper} {fuel : Nat} {listed : Array Bool} {a : Act} {w : World} {l rest : List Oper} (hi : l.drop i = oi :: rest) (hc : (tailB l.toArray n && decide (i < n) && headB l.toArray n listed && Region.free .any l.toArray listed i && (Region.ready .any l.toArray listed).contains i) = true)
    (hQ : ∀ c a w, Q (.panic c) (a.put oi.dst undef) w → Q (.panic c) a w) (hg : Region.wanted oi (yielded l.toArray a.tmps) = false) (hS : S w)
    (h : Upto P l.toArray Q S n fuel (listed.setIfInBounds i true) (a.put oi.dst undef) w) : Upto P l.toArray Q S n (fuel + 1) listed a w := by
  have hi := drop_at hi
  simp only [Bool.and_eq_true, decide_eq_true_eq] at hc
  obtain ⟨⟨⟨⟨h1, h2⟩, h3⟩, h4⟩, h5⟩ := hc
  exact upto_first h1 h2 hi hQ fuel listed a w (headB_spec h3) (Region.free_spec hi h4) (by simpa using h5) (.inr ⟨hg, rfl⟩) hS h
/-- The one that may come up now, whose guard says go, by a law of its own. -/
theorem Upto.lawG {i : Nat} {oi : Oper} {fuel : Nat} {listed : Array Bool} {a : Act} {w : World} {l rest : List Oper} (hi : l.drop i = oi :: rest) (hc : Region.ready .any l.toArray listed = [i]) (hg : Region.wanted oi (yielded l.toArray a.tmps) = true)
    (h : ∀ K : Act → World → Prop, (∀ a' w', S w' → Upto P l.toArray Q S n fuel (listed.setIfInBounds i true) a' w' → K a' w') → oi.wp P a w K Q) : Upto P l.toArray Q S n (fuel + 1) listed a w := by
  have hi := drop_at hi
  refine ⟨fun h0 => (by rw [h0] at hc; cases hc), fun j hj => ?_⟩
  rw [hc] at hj
  have hji : j = i := by simpa using hj
  subst hji
  unfold wpOp
  simp only [hi, hg, if_true]
  exact .inl (h _ fun a' w' hS hU => ⟨fun _ => hS, hU⟩)
/-- A chunk of cells, at the end of the chain of worlds. -/
theorem rangeAt_heap {w w' : World} {g o : Nat} {cs : List Value} (h : w.rangeAt g o cs) (hk : w'.heap[g]? = w.heap[g]?) : w'.rangeAt g o cs := fun j v hv => (World.cell?_of_block (w := w) (w' := w') (a := ⟨g, o + j, none⟩) hk).trans (h j v hv)
end
end Go.Proofs.Ytomhofppcogojaa

/- cells that are appended onto a row of one's own; trothref10.Copy, Same, Great. -/
namespace Go.Proofs.Ytomhofppcogojaa
open Go.RowKit

theorem cl_one (c : Cl) : ∀ u ∈ c.cells, u.oneCell' = true := by
  intro u hu
  simp [Cl.cells] at hu
  rcases hu with rfl | rfl | rfl <;> rfl
theorem cls_one (l : List Cl) : ∀ u ∈ l.flatMap Cl.cells, u.oneCell' = true := by
  intro u hu
  obtain ⟨x, _, hx⟩ := List.mem_flatMap.1 hu
  exact cl_one x u hx
/-- Cells in a row of one's own. -/
structure OwnP (base : Nat) (w : World) (A : Option Addr) (n c : Nat) (l : List Cl) : Prop where
  own : w.ownsRow base 63 3 (.slice A n c) n (l.flatMap Cl.cells)
  len : l.length = n
theorem OwnP.pcs {base : Nat} {w : World} {A : Option Addr} {n c : Nat} {l : List Cl} (h : OwnP base w A n c l) : Pcs w A n c l := ⟨Flt.of_own h.own, h.len⟩
theorem OwnP.nil (base : Nat) (w : World) : OwnP base w none 0 0 [] := ⟨⟨by simp, .inl ⟨rfl, rfl⟩⟩, rfl⟩
theorem OwnP.below {base : Nat} {w w' : World} {A : Option Addr} {n c : Nat} {l : List Cl} (h : OwnP base w A n c l) (hb : Below w.heap.size w w') : OwnP base w' A n c l :=
  ⟨own_stay h.own (fun q hq => hb.block q (h.own.lt q hq).2), h.len⟩
theorem OwnP.lo {base base' : Nat} {w : World} {A : Option Addr} {n c : Nat} {l : List Cl} (h : OwnP base w A n c l) (hb : base' ≤ base) : OwnP base' w A n c l := by
  refine ⟨⟨h.own.1, ?_⟩, h.len⟩
  rcases h.own.2 with q | ⟨g, cap, cur, q1, q2, q3⟩
  · exact .inl q
  · exact .inr ⟨g, cap, cur, q1, Nat.le_trans hb q2, q3⟩
theorem info_cl : (Try.prog.info? 63).map (fun i => (i.zero, i.size, i.bytes)) = some (some (.agg #[.string ByteArray.empty, .bool false, .string ByteArray.empty]), 3, 40) := by kernel_rfl

section
variable {w : World} {o : Oper} {a : Act} {K : Act → World → Prop} {Q : Exit → Act → World → Prop}
theorem wp_app_cells (s x : Operand) (ho : o.op = .call { callee := .builtin .append, args := #[s, x], argTypes := #[22, 22] }) (base : Nat)
    {v : Value} {A0 : Option Addr} {n c0 : Nat} {xs : List Cl} (hv : v = .slice A0 n c0) (hs : a.eval s = v) (hown : OwnP base w A0 n c0 xs) {A : Option Addr} {m c : Nat} {vs : List Cl} (hx : a.eval x = .slice A m c) (hl : Pcs w A m c vs) (hn : n + m ≤ 1000000) (hbase : base ≤ w.heap.size)
    (h : ∀ A' c' w', OwnP base w' A' (n + m) c' (xs ++ vs) → w.grownBy w' v.ownBlock → K (a.put o.dst (.slice A' (n + m) c')) w') : o.wp Try.prog a w K Q := by
  obtain ⟨i0, hi, hz0, hz1, hz2⟩ := info_parts info_cl
  have hlen : (xs ++ vs).length = n + m := by rw [List.length_append, hown.len, hl.len]
  have ho1 := hown.own
  rw [← hv] at ho1
  cases A with
  | none =>
    obtain ⟨rfl, rfl⟩ := hl.flt.nil_ rfl
    have hv0 : vs = [] := List.eq_nil_of_length_eq_zero hl.len
    subst hv0
    have hrun := run_append_owned_none (P := Try.prog) (w := w) base 22 o.type 63 i0 3 Try.underlying22 hi v n _ ho1
    have h' := h A0 c0 w (by simpa using hown) (World.grownBy.refl w _)
    simp only [Nat.add_zero] at h'
    unfold Oper.wp
    simp only [execOp, ho, resolve, invoke, builtin, List.map_toArray, List.map_cons, List.map_nil, hs, hx, Sem.run_bind, Sem.run_pure, Result.andThen_ok, hrun]
    rw [hv]
    exact h'
  | some ad =>
    refine wp_append_own w s x 22 ho base 63 i0 _ 3 40 Try.underlying22 hi hz0 hz1 hz2 (by rfl) (by omega) v n (xs.flatMap Cl.cells) hs ho1 ad m c (vs.flatMap Cl.cells) hx (by rw [hl.flt.len]) (hl.flt.news ad rfl) (cls_one vs) (by unfold maxLen; omega) (by omega) hbase ?_
    intro v' w' k1 k2 _
    obtain ⟨A', c', rfl⟩ := own_form k1
    exact h A' c' w' ⟨by rw [List.flatMap_append]; exact k1, hlen⟩ k2
end
theorem wpList_app_cells {w : World} {ops : Array Oper} {rest : List Oper} {o : Oper} {a : Act} {Q : Exit → Act → World → Prop} (hgd : o.guard = none) (s x : Operand) (ho : o.op = .call { callee := .builtin .append, args := #[s, x], argTypes := #[22, 22] }) (base : Nat)
    {v : Value} {A0 : Option Addr} {n c0 : Nat} {xs : List Cl} (hv : v = .slice A0 n c0) (hs : a.eval s = v) (hown : OwnP base w A0 n c0 xs) {A : Option Addr} {m c : Nat} {vs : List Cl} (hx : a.eval x = .slice A m c) (hl : Pcs w A m c vs) (hn : n + m ≤ 1000000) (hbase : base ≤ w.heap.size)
    (h : ∀ A' c' w', OwnP base w' A' (n + m) c' (xs ++ vs) → w.grownBy w' v.ownBlock → wpList Try.prog ops Q rest (a.put o.dst (.slice A' (n + m) c')) w') : wpList Try.prog ops Q (o :: rest) a w :=
  wpList_plain hgd fun _ hK => wp_app_cells s x ho base hv hs hown hx hl hn hbase fun A' c' w' k1 k2 => hK _ _ (h A' c' w' k1 k2)

theorem bslice_0 (w : World) : (Instr.buildSlice 22 0 #[]).run Try.prog w = .ok (.slice (some ⟨w.heap.size, 0, none⟩) 0 0) (w.alloc (.cells #[] 63)) := by
  obtain ⟨i0, hi, hz0, hz1, hz2⟩ := info_parts info_cl
  simp [Instr.buildSlice, run_underlying (P := Try.prog) Try.underlying22, sizeOf, typeInfo, hi, Instr.fill, newRow, Result.andThen, show Array.range 0 = #[] from rfl]
theorem bslice_1 (k : ByteArray) (hs : Bool) (d : ByteArray) (w : World) : (Instr.buildSlice 22 1 #[(0, .agg #[.string k, .bool hs, .string d])]).run Try.prog w = .ok (.slice (some ⟨w.heap.size, 0, none⟩) 1 1) (w.alloc (.cells #[.string k, .bool hs, .string d] 63)) := by
  obtain ⟨i0, hi, hz0, hz1, hz2⟩ := info_parts info_cl
  refine Go.run_buildSlice w 22 63 1 _ _ i0 _ Try.underlying22 hi hz0 (by rw [hz1]; omega) (by rw [hz1]; omega) ?_
  rw [hz1]
  kernel_rfl

/-- A page in new memory. -/
def RetPg1 (lsn : Int) (l : List Cl) (w : World) (e : Ending) (w' : World) : Prop := ∃ A n c, e = .returned (pgV lsn A n c) ∧ OwnP w.heap.size w' A n c l ∧ Below w.heap.size w w'

set_option maxRecDepth 100000 in
set_option maxHeartbeats 4000000 in
theorem copy_any (lsn : Int) (A : Option Addr) (n c : Nat) (l : List Cl) (w : World) (h : Pcs w A n c l) (hn : n ≤ 1000) :
    Calls Try.prog 11 #[pgV lsn A n c] w (RetPg1 lsn l w) := by
  obtain ⟨W0, hW0⟩ : ∃ W, W = (w.alloc (.cells #[.int .i64 lsn, .slice A n c] 24)).alloc (.cells #[.int .i64 0, .slice none 0 0] 24) := ⟨_, rfl⟩
  have HB : Hid (Below w.heap.size w W0) := Lib.hid (by rw [hW0]; exact ((Below.refl _ _).alloc (Nat.le_refl _) _).alloc (by simp) _)
  have BP : Hid (Bk W0 w.heap.size 24 #[.int .i64 lsn, .slice A n c]) := Lib.hid (by rw [hW0]; exact (Bk.new w _ _).bel ((Below.refl _ _).alloc (Nat.le_refl _) _) (by simp))
  have BV : Hid (Bk W0 (w.heap.size + 1) 24 #[.int .i64 0, .slice none 0 0]) := Lib.hid (by
    rw [hW0]
    have := Bk.new (w.alloc (.cells #[.int .i64 lsn, .slice A n c] 24)) 24 #[.int .i64 0, .slice none 0 0]
    rwa [World.size_alloc] at this)
  have HP := Lib.hid (h.below HB.out)
  have KS : Hid (∀ W, Below W0.heap.size W0 W → W.cell? ⟨w.heap.size, 0, none⟩ = some (.int .i64 lsn) ∧ W.cell? ⟨w.heap.size, 1, none⟩ = some (.slice A n c)) := Lib.hid (fun W hb => ⟨(BP.out.bel hb BP.out.lt).cell 0, (BP.out.bel hb BP.out.lt).cell 1⟩)
  have HW := Lib.hid hW0
  clear h hW0
  go_enter Try.func11, Try.ntmps11
  go_upto_region 1 with fail
  rw [← HW.out]
  have hS0 := KS.out W0.drew (Below.refl _ _).drew
  refine wp_region_noPanic ?_
  refine upto_start (fun w' => w'.cell? ⟨w.heap.size, 0, none⟩ = some (.int .i64 lsn) ∧ w'.cell? ⟨w.heap.size, 1, none⟩ = some (.slice A n c)) 6 (by kernel_rfl) ?_
  change Upto _ _ _ _ _ 8 _ _ _
  refine Upto.take (i := 0) (v := ?_) rfl (by kernel_rfl) (fun _ _ _ h => h) rfl (fun w' hS => ?_) hS0 ?_
  rotate_left
  · (try dsimp only at hS)
    go_split_ands
    go_simp
    (try with_reducible rfl)
  simp only [Act.put, List.setIfInBounds_toArray, List.set_cons_zero, List.set_cons_succ]
  refine Upto.take (i := 1) (v := ?_) rfl (by kernel_rfl) (fun _ _ _ h => h) rfl (fun w' hS => ?_) hS0 ?_
  rotate_left
  · (try dsimp only at hS)
    go_split_ands
    go_simp
    (try with_reducible rfl)
  simp only [Act.put, List.setIfInBounds_toArray, List.set_cons_zero, List.set_cons_succ]
  refine Upto.take (i := 3) (v := ?_) rfl (by kernel_rfl) (fun _ _ _ h => h) rfl (fun w' hS => ?_) hS0 ?_
  rotate_left
  · (try dsimp only at hS)
    go_split_ands
    go_simp
    (try with_reducible rfl)
  simp only [Act.put, List.setIfInBounds_toArray, List.set_cons_zero, List.set_cons_succ]
  refine Upto.take (i := 4) (v := ?_) rfl (by kernel_rfl) (fun _ _ _ h => h) rfl (fun w' hS => ?_) hS0 ?_
  rotate_left
  · (try dsimp only at hS)
    go_split_ands
    go_simp
    (try with_reducible rfl)
  simp only [Act.put, List.setIfInBounds_toArray, List.set_cons_zero, List.set_cons_succ]
  refine Upto.only (i := 2) rfl (by kernel_rfl) rfl (exec_buildSlice rfl [] (by rfl) (bslice_0 _)) ?_ ?_
  · exact KS.out _ ((Below.refl _ W0).drew.alloc (Nat.le_refl _) _)
  simp only [Act.put, List.setIfInBounds_toArray, List.set_cons_zero, List.set_cons_succ]
  have hbA : Below W0.heap.size W0 (W0.drew.alloc (.cells #[] 63)) := (Below.refl _ W0).drew.alloc (Nat.le_refl _) _
  have hown0 : OwnP W0.heap.size (W0.drew.alloc (.cells #[] 63)) (some ⟨W0.drew.heap.size, 0, none⟩) 0 0 [] := ⟨World.ownsRow_made (base := W0.heap.size) (e := 63) (size := 3) W0.drew #[] 0 (Nat.le_refl _) (Nat.zero_le _) rfl, rfl⟩
  refine Upto.law (i := 5) rfl (by kernel_rfl) rfl (fun K hK => ?_)
  refine wp_app_cells _ _ (by rfl) W0.heap.size rfl (by rfl) hown0 (by rfl) (HP.out.below hbA) (by omega) hbA.size ?_
  intro A' c' W3 hv3 hg3
  have hbB : Below W0.heap.size W0 W3 := hbA.grown hg3 hbA.size (fun k hk => by simp [Value.ownBlock] at hk; omega)
  refine hK _ _ (KS.out _ hbB) ?_
  clear hK hown0 hg3
  rw [Nat.zero_add, List.nil_append] at hv3
  have HV := Lib.hid hv3
  have HB3 := Lib.hid hbB
  have hz3 := BV.out.bel HB3.out BV.out.lt
  have HZ3 := Lib.hid hz3
  have y0 : W3.cell? ⟨w.heap.size + 1, 0, none⟩ = some (.int .i64 0) := hz3.cell 0
  have y1 : W3.cell? ⟨w.heap.size + 1, 1, none⟩ = some (.slice none 0 0) := hz3.cell 1
  have yf := hz3.frz 0
  have yf1 := hz3.frz 1
  clear hv3 hbA hbB hz3 KS hS0
  simp only [Act.put, List.setIfInBounds_toArray, List.set_cons_zero, List.set_cons_succ, Nat.zero_add]
  refine Upto.tail rfl (by kernel_rfl) ?_
  simp only [List.drop_succ_cons, List.drop_zero]
  go_wp2_with fail
  have FB : Hid (Bk ((W3.setCell ⟨w.heap.size + 1, 0, none⟩ (.int .i64 lsn)).setCell ⟨w.heap.size + 1, 1, none⟩ (.slice A' n c')) (w.heap.size + 1) 24 #[.int .i64 lsn, .slice A' n c']) := Lib.hid (by simpa using (HZ3.out.setc 0 (.int .i64 lsn)).setc 1 (.slice A' n c'))
  have RB : Hid (Below w.heap.size w ((W3.setCell ⟨w.heap.size + 1, 0, none⟩ (.int .i64 lsn)).setCell ⟨w.heap.size + 1, 1, none⟩ (.slice A' n c'))) := Lib.hid (((Below.then HB.out HB3.out).setCell (p := ⟨w.heap.size + 1, 0, none⟩) (by simp) _).setCell (p := ⟨w.heap.size + 1, 1, none⟩) (by simp) _)
  have OW : Hid (OwnP w.heap.size ((W3.setCell ⟨w.heap.size + 1, 0, none⟩ (.int .i64 lsn)).setCell ⟨w.heap.size + 1, 1, none⟩ (.slice A' n c')) A' n c' l) := Lib.hid (OwnP.lo ⟨own_set (own_set HV.out.own HZ3.out (by decide)) (HZ3.out.setc 0 _) (by decide), HV.out.len⟩ HB.out.size)
  clear HV HB3 HZ3 y0 y1 yf yf1 HP BV BP HW
  refine NoPanic.normal ?_
  go_wp2_with fail
  (try simp only [Exit.inBlock, Exit.then])
  refine bodyPost_ret (results_cell_row (p := 2) (ty := 24) rfl _ _ (w.heap.size + 1) 24 _ (0, 0) _ rfl FB.out Try.underlying24 rfl pg_inf) rfl ?_
  exact ⟨A', n, c', rfl, OW.out, RB.out⟩

set_option maxRecDepth 100000 in
set_option maxHeartbeats 4000000 in
theorem samePg_yes (lsn : Int) (A : Option Addr) (n c : Nat) (A' : Option Addr) (n' c' : Nat) (l : List Cl) (w : World) (h : Pcs w A n c l) (h' : Pcs w A' n' c' l) :
    Calls Try.prog 18 #[pgV lsn A n c, pgV lsn A' n' c'] w (Ret (.bool true) w) := by
  obtain rfl : n' = n := by rw [← h.len, ← h'.len]
  have hcap := h.flt.cap
  have hmax := h.flt.max
  have hcap' := h'.flt.cap
  have hmax' := h'.flt.max
  unfold maxLen at hmax hmax'
  obtain ⟨W0, hW0⟩ : ∃ W, W = (w.alloc (.cells #[.int .i64 lsn, .slice A n' c] 24)).alloc (.cells #[.int .i64 lsn, .slice A' n' c'] 24) := ⟨_, rfl⟩
  have HB : Hid (Below w.heap.size w W0) := Lib.hid (by rw [hW0]; exact ((Below.refl _ _).alloc (Nat.le_refl _) _).alloc (by simp) _)
  have BP : Hid (Bk W0 w.heap.size 24 #[.int .i64 lsn, .slice A n' c]) := Lib.hid (by rw [hW0]; exact (Bk.new w _ _).bel ((Below.refl _ _).alloc (Nat.le_refl _) _) (by simp))
  have BV : Hid (Bk W0 (w.heap.size + 1) 24 #[.int .i64 lsn, .slice A' n' c']) := Lib.hid (by
    rw [hW0]
    have := Bk.new (w.alloc (.cells #[.int .i64 lsn, .slice A n' c] 24)) 24 #[.int .i64 lsn, .slice A' n' c']
    rwa [World.size_alloc] at this)
  have HP := Lib.hid (h.below HB.out)
  have HP' := Lib.hid (h'.below HB.out)
  have p0 : W0.cell? ⟨w.heap.size, 0, none⟩ = some (.int .i64 lsn) := BP.out.cell 0
  have p1 : W0.cell? ⟨w.heap.size, 1, none⟩ = some (.slice A n' c) := BP.out.cell 1
  have q0 : W0.cell? ⟨w.heap.size + 1, 0, none⟩ = some (.int .i64 lsn) := BV.out.cell 0
  have q1 : W0.cell? ⟨w.heap.size + 1, 1, none⟩ = some (.slice A' n' c') := BV.out.cell 1
  have HW := Lib.hid hW0
  clear h h' hW0
  go_enter Try.func18, Try.ntmps18
  go_upto_region 1 with fail
  rw [← HW.out]
  go_wp2_with fail
  go_loopw [5] (fun i wr => ∃ k : Nat, k ≤ n' ∧ i = .int .i64 k ∧ ∃ m, wr = W0.drewN m) (fun i _ => n' - (intOf i).toNat)
  case atStart => exact ⟨0, Nat.zero_le _, rfl, 0, rfl⟩
  case round =>
    obtain ⟨k, hk, rfl, m, rfl⟩ := hrel
    by_cases hlt : k < n'
    · obtain ⟨g, off, rfl, _, hc⟩ := HP.out.get (by omega)
      obtain ⟨g', off', rfl, _, hc'⟩ := HP'.out.get (by omega)
      obtain ⟨a0, a1, a2⟩ := hc k hlt
      obtain ⟨b0, b1, b2⟩ := hc' k hlt
      obtain ⟨x, hx⟩ : ∃ x, l.getD k default = x := ⟨_, rfl⟩
      rw [hx] at a0 a1 a2 b0 b1 b2
      obtain ⟨key, ⟨hs, d⟩⟩ := x
      simp only at a0 a1 a2 b0 b1 b2
      clear hc hc' hx
      go_wp2
      go_quiet (fail)
      go_wp2
      go_roundw
      case rel => exact ⟨k + 1, by omega, by go_num, _, rfl⟩
      case measure => simp [intOf]; omega
    · obtain rfl : k = n' := by omega
      have RB := Lib.hid (below_drewN HB.out m)
      go_wp2
      go_ret
      exact ⟨rfl, RB.out⟩

/-- A page of which as much is asked. -/
def Few (l : List Cl) : Prop := l.length ≤ 20 ∧ ∀ x ∈ l, x.key.size ≤ 100 ∧ x.val.data.size ≤ 100

def RetGr (l : List Cl) (w : World) (e : Ending) (w' : World) : Prop := ∃ b, e = .returned (.bool b) ∧ (b = false → Few l) ∧ Below w.heap.size w w'

set_option maxRecDepth 100000 in
set_option maxHeartbeats 4000000 in
theorem greatPg_any (lsn : Int) (A : Option Addr) (n c : Nat) (l : List Cl) (w : World) (h : Pcs w A n c l) :
    Calls Try.prog 7 #[pgV lsn A n c] w (RetGr l w) := by
  have hcap := h.flt.cap
  have hmax := h.flt.max
  unfold maxLen at hmax
  have hlen := Lib.hid h.len
  obtain ⟨W0, hW0⟩ : ∃ W, W = w.alloc (.cells #[.int .i64 lsn, .slice A n c] 24) := ⟨_, rfl⟩
  have HB : Hid (Below w.heap.size w W0) := Lib.hid (by rw [hW0]; exact (Below.refl _ _).alloc (Nat.le_refl _) _)
  have BP : Hid (Bk W0 w.heap.size 24 #[.int .i64 lsn, .slice A n c]) := Lib.hid (by rw [hW0]; exact Bk.new w _ _)
  have YES : Hid (RetGr l w (.returned (.bool true)) W0) := Lib.hid ⟨true, rfl, (fun q => nomatch q), HB.out⟩
  have HP := Lib.hid (h.below HB.out)
  have p1 : W0.cell? ⟨w.heap.size, 1, none⟩ = some (.slice A n c) := BP.out.cell 1
  have HW := Lib.hid hW0
  clear h hW0
  by_cases h20 : (20 : Int) < (n : Int)
  · go_enter Try.func7, Try.ntmps7
    go_upto_region 1 with fail
    rw [← HW.out]
    go_wp2_with fail
    go_ret
    exact YES.out
  · go_enter Try.func7, Try.ntmps7
    go_upto_region 1 with fail
    rw [← HW.out]
    go_wp2_with fail
    go_loopw [3] (fun i wr => ∃ k : Nat, k ≤ n ∧ i = .int .i64 k ∧ wr = W0 ∧ ∀ i, i < k → (l.getD i default).key.size ≤ 100 ∧ (l.getD i default).val.data.size ≤ 100) (fun i _ => n - (intOf i).toNat)
    case atStart => exact ⟨0, Nat.zero_le _, rfl, rfl, fun i hi => absurd hi (by omega)⟩
    case round =>
      obtain ⟨k, hk, rfl, rfl, hu⟩ := hrel
      have HU := Lib.hid hu
      by_cases hlt : k < n
      · obtain ⟨g, off, rfl, _, hc⟩ := HP.out.get (by omega)
        obtain ⟨a0, a1, a2⟩ := hc k hlt
        obtain ⟨x, hx⟩ : ∃ x, l.getD k default = x := ⟨_, rfl⟩
        rw [hx] at a0 a1 a2
        obtain ⟨key, ⟨hs, d⟩⟩ := x
        simp only at a0 a1 a2
        have HX := Lib.hid hx
        clear hc hu hx
        by_cases h1 : (100 : Int) < (key.size : Int)
        · go_wp2_with fail
          (try rw [Exit.noGoto_ret])
          go_ret
          exact YES.out
        · by_cases h2 : (100 : Int) < (d.size : Int)
          · go_wp2_with fail
            (try rw [Exit.noGoto_ret])
            go_ret
            exact YES.out
          · have HN : Hid (∀ i, i < k + 1 → (l.getD i default).key.size ≤ 100 ∧ (l.getD i default).val.data.size ≤ 100) := Lib.hid (fun i hi => by
              rcases Nat.lt_or_ge i k with q | q
              · exact HU.out i q
              · obtain rfl : i = k := by omega
                rw [HX.out]
                exact ⟨by simp only; omega, by simp only; omega⟩)
            clear HU HX
            go_wp2_with fail
            go_roundw
            case rel => exact ⟨k + 1, by omega, by go_num, trivial, HN.out⟩
            case measure => simp [intOf]; omega
      · obtain rfl : k = n := by omega
        have R : Hid (RetGr l w (.returned (.bool false)) wr) := Lib.hid ⟨false, rfl, fun _ => ⟨by rw [hlen.out]; omega, fun x hx => by
          obtain ⟨i, hi, rfl⟩ := List.getElem_of_mem hx
          have := HU.out i (by rw [← hlen.out]; exact hi)
          rwa [List.getD_eq_getElem?_getD, List.getElem?_eq_getElem hi] at this⟩, HB.out⟩
        clear hu hlt HU
        go_wp2_with fail
        go_ret
        exact R.out
end Go.Proofs.Ytomhofppcogojaa

/- what both readers answer, as a codec says it; page.takeCell. -/
namespace Go.Proofs.Ytomhofppcogojaa
open Go.RowKit

theorem prim_v {α : Type} (F : List Int → α × Nat × Nat) (z : α) (l : List Int) (e : Nat) (f : α → Value) : stepV (f z) (f (F l).1) e (F l).2.2 = f (pPrim F z (l, e)).1 := by
  unfold stepV pPrim
  simp only
  split
  · rfl
  · split <;> rfl
theorem sNum {b g : Nat} {l : List Int} {e : Nat} {w : World} (most : Int) (hm : -9223372036854775808 ≤ most ∧ most ≤ 9223372036854775807) (h : Rd w 120 b g l e) :
    Calls Try.prog 52 #[.pointer (some ⟨b, 0, none⟩), .int .i64 most] w (RdPost 120 b g (pNum most (l, e)).2.1 (pNum most (l, e)).2.2 (.int .i64 (pNum most (l, e)).1) w) := by
  have := rNum_any b g l e most w h hm (numF l most).1 (numF l most).2.1 (numF l most).2.2 rfl
  have e2 : stepV (.int .i64 0) (.int .i64 ((numF l most).1 : Int)) e (numF l most).2.2 = _ := prim_v (numI most) (0 : Int) l e (Value.int .i64)
  rw [e2] at this
  exact this
theorem sText {b g : Nat} {l : List Int} {e : Nat} {w : World} (most : Int) (hm : -9223372036854775808 ≤ most ∧ most ≤ 9223372036854775807) (h : Rd w 120 b g l e) :
    Calls Try.prog 78 #[.pointer (some ⟨b, 0, none⟩), .int .i64 most] w (RdPost 120 b g (pText most (l, e)).2.1 (pText most (l, e)).2.2 (.string (pText most (l, e)).1) w) := by
  have := rText_any b g l e most w h hm (textF l most).1 (textF l most).2.1 (textF l most).2.2 rfl
  have e2 : stepV (.string ByteArray.empty) (.string (strOfNums (textF l most).1)) e (textF l most).2.2 = _ := prim_v (textS most) ByteArray.empty l e Value.string
  rw [e2] at this
  exact this
theorem sFlag {b g : Nat} {l : List Int} {e : Nat} {w : World} (h : Rd w 120 b g l e) :
    Calls Try.prog 79 #[.pointer (some ⟨b, 0, none⟩)] w (RdPost 120 b g (pFlag (l, e)).2.1 (pFlag (l, e)).2.2 (.bool (pFlag (l, e)).1) w) := by
  have := rFlag_any b g l e w h
  rw [prim_v flagF false l e Value.bool] at this
  exact this
theorem dNum {b g : Nat} {l : List Int} {e : Nat} {w : World} (most : Int) (hm : -9223372036854775808 ≤ most ∧ most ≤ 9223372036854775807) (h : Rd w 110 b g l e) :
    Calls Try.prog 58 #[.pointer (some ⟨b, 0, none⟩), .int .i64 most] w (RdPost 110 b g (pNum most (l, e)).2.1 (pNum most (l, e)).2.2 (.int .i64 (pNum most (l, e)).1) w) := by
  have := mNum_any b g l e most w h hm (numF l most).1 (numF l most).2.1 (numF l most).2.2 rfl
  have e2 : stepV (.int .i64 0) (.int .i64 ((numF l most).1 : Int)) e (numF l most).2.2 = _ := prim_v (numI most) (0 : Int) l e (Value.int .i64)
  rw [e2] at this
  exact this
theorem dText {b g : Nat} {l : List Int} {e : Nat} {w : World} (most : Int) (hm : -9223372036854775808 ≤ most ∧ most ≤ 9223372036854775807) (h : Rd w 110 b g l e) :
    Calls Try.prog 74 #[.pointer (some ⟨b, 0, none⟩), .int .i64 most] w (RdPost 110 b g (pText most (l, e)).2.1 (pText most (l, e)).2.2 (.string (pText most (l, e)).1) w) := by
  have := mText_any b g l e most w h hm (textF l most).1 (textF l most).2.1 (textF l most).2.2 rfl
  have e2 : stepV (.string ByteArray.empty) (.string (strOfNums (textF l most).1)) e (textF l most).2.2 = _ := prim_v (textS most) ByteArray.empty l e Value.string
  rw [e2] at this
  exact this
theorem dFlag {b g : Nat} {l : List Int} {e : Nat} {w : World} (h : Rd w 110 b g l e) :
    Calls Try.prog 75 #[.pointer (some ⟨b, 0, none⟩)] w (RdPost 110 b g (pFlag (l, e)).2.1 (pFlag (l, e)).2.2 (.bool (pFlag (l, e)).1) w) := by
  have := mFlag_any b g l e w h
  rw [prim_v flagF false l e Value.bool] at this
  exact this

/-- A reading that leaves all else. -/
structure Rdg (t : TypeId) (b g : Nat) (w w' : World) (σ : Sg) : Prop where
  rd : Rd w' t b g σ.1 σ.2
  gr : w.grownBy w' (some b)
theorem RdPost.rdg {t : TypeId} {b g : Nat} {l : List Int} {e0 : Nat} {v : Value} {w : World} {e : Ending} {w' : World} (h : RdPost t b g l e0 v w e w') : e = .returned v ∧ Rdg t b g w w' (l, e0) := ⟨h.1, h.2.1, h.2.2⟩
theorem Bk.grow {w w' : World} {g : Nat} {t : TypeId} {cs : Array Value} {row : Option Nat} (h : Bk w g t cs) (hg : w.grownBy w' row) (hne : row ≠ some g) : Bk w' g t cs := (hg.block g h.lt (fun q => hne q.symm)).trans h

theorem grown_setNew {w w1 : World} {row : Option Nat} (h : w.grownBy w1 row) {p : Addr} (hp : w.heap.size ≤ p.block) (u : Value) : w.grownBy (w1.setCell p u) row :=
  ⟨h.os, h.tape, h.output, by simpa using h.size, fun k hk hne => (Below.heap_setCell w1 p u k (fun q => by omega)).trans (h.block k hk hne)⟩
theorem Rd.setNew {w : World} {t : TypeId} {b g : Nat} {l : List Int} {e : Nat} (h : Rd w t b g l e) {p i : Nat} (hb : b ≠ p) (hg : g ≠ p) (u : Value) : Rd (w.setCell ⟨p, i, none⟩ u) t b g l e :=
  h.grown (grown_set w p i u) (fun q => hb (by injection q)) (fun q => hg (by injection q))

set_option maxRecDepth 100000 in
set_option maxHeartbeats 4000000 in
theorem takeCell_any (b g : Nat) (l : List Int) (e : Nat) (w : World) (h : Rd w 120 b g l e) (hg : g < b) :
    Calls Try.prog 71 #[.pointer (some ⟨b, 0, none⟩)] w (RdPost 120 b g (pCl (l, e)).2.1 (pCl (l, e)).2.2 (.agg (pCl (l, e)).1.cells.toArray) w) := by
  have hbw := h.lt
  obtain ⟨W1, hW1⟩ : ∃ W, W = w.alloc (.cells #[.string ⟨#[]⟩, .bool false, .string ⟨#[]⟩] 63) := ⟨_, rfl⟩
  have g1 : w.grownBy W1 (some b) := by rw [hW1]; exact World.grownBy_alloc w _ _
  have R1 : Hid (Bk W1 w.heap.size 63 #[.string ⟨#[]⟩, .bool false, .string ⟨#[]⟩]) := Lib.hid (by rw [hW1]; exact Bk.new w _ _)
  have HR1 := Lib.hid (show Rd W1 120 b g l e by rw [hW1]; exact h.alloc _)
  have G1 := Lib.hid g1
  have HW := Lib.hid hW1
  have hs1 : W1.heap.size = w.heap.size + 1 := by rw [hW1, World.size_alloc]
  obtain ⟨⟨k, l1, e1⟩, hT⟩ : ∃ x, pText 16 (l, e) = x := ⟨_, rfl⟩
  obtain ⟨⟨f, l2, e2⟩, hF⟩ : ∃ x, pFlag (l1, e1) = x := ⟨_, rfl⟩
  have C1 := sText 16 (by omega) HR1.out
  rw [hT] at C1
  have C1 := Lib.hid C1
  have HT := Lib.hid hT
  have HF := Lib.hid hF
  clear h g1 hW1 hT hF
  go_enter Try.func71, Try.ntmps71
  go_upto_region 1 with fail
  rw [← HW.out]
  go_wp2_with fail
  refine C1.out.mono ?_
  rintro e' w2 ⟨rfl, hr2, g2⟩
  have HR2 := Lib.hid hr2
  have R2 := Lib.hid (R1.out.grow g2 (fun q => by injection q with q; omega))
  have G2 := Lib.hid (grown_trans G1.out g2)
  have hs2 : W1.heap.size ≤ w2.heap.size := g2.size
  clear hr2 g2 C1
  go_upto_region 2 with fail
  obtain ⟨W3, hW3⟩ : ∃ W, W = w2.alloc (.cells #[.string k, .bool false, .string ⟨#[]⟩] 63) := ⟨_, rfl⟩
  rw [← hW3]
  have HR3 := Lib.hid (show Rd W3 120 b g l1 e1 by rw [hW3]; exact HR2.out.alloc _)
  have K3 : Hid (Bk W3 w2.heap.size 63 #[.string k, .bool false, .string ⟨#[]⟩]) := Lib.hid (by rw [hW3]; exact Bk.new w2 _ _)
  have G3 : Hid (w.grownBy W3 (some b)) := Lib.hid (by rw [hW3]; exact grown_trans G2.out (World.grownBy_alloc w2 _ _))
  have R3 : Hid (Bk W3 w.heap.size 63 #[.string ⟨#[]⟩, .bool false, .string ⟨#[]⟩]) := Lib.hid (by rw [hW3]; exact R2.out.bel ((Below.refl _ _).alloc (Nat.le_refl _) _) R2.out.lt)
  clear hW3 R2 G2 HR2
  have C2 := sFlag HR3.out
  rw [HF.out] at C2
  have C2 := Lib.hid C2
  go_wp2_with fail
  refine C2.out.mono ?_
  rintro e' w4 ⟨rfl, hr4, g4⟩
  have hbC : b ≠ w2.heap.size := by omega
  have hgC : g ≠ w2.heap.size := by omega
  have K4 := Lib.hid (K3.out.grow g4 (fun q => by injection q with q; omega))
  have RR4 := Lib.hid (R3.out.grow g4 (fun q => by injection q with q; omega))
  have G4 := Lib.hid (grown_trans G3.out g4)
  have HR4 := Lib.hid hr4
  have c1 := K4.out.cell 1
  have f1 := K4.out.frz 1
  simp only [List.getElem?_toArray, List.getElem?_cons_zero, List.getElem?_cons_succ] at c1
  clear hr4 g4 C2 K3 R3 G3 HR3
  go_upto_if 13 with fail
  obtain ⟨W5, hW5⟩ : ∃ W, W = w4.setCell ⟨w2.heap.size, 1, none⟩ (.bool f) := ⟨_, rfl⟩
  (try rw [← hW5])
  have K5 : Hid (Bk W5 w2.heap.size 63 #[.string k, .bool f, .string ⟨#[]⟩]) := Lib.hid (by rw [hW5]; simpa using K4.out.setc 1 (.bool f))
  have HR5 : Hid (Rd W5 120 b g l2 e2) := Lib.hid (by rw [hW5]; exact HR4.out.setNew hbC hgC _)
  have G5 : Hid (w.grownBy W5 (some b)) := Lib.hid (by rw [hW5]; exact grown_setNew (p := ⟨w2.heap.size, 1, none⟩) G4.out (by show w.heap.size ≤ w2.heap.size; omega) _)
  have RR : Hid (Bk W5 w.heap.size 63 #[.string ⟨#[]⟩, .bool false, .string ⟨#[]⟩]) := Lib.hid (by rw [hW5]; exact (Below.heap_setCell w4 ⟨w2.heap.size, 1, none⟩ _ _ (by show w.heap.size ≠ w2.heap.size; omega)).trans RR4.out)
  clear hW5 K4 HR4 G4 RR4 c1 f1
  have k0 := K5.out.cell 0
  have k1 := K5.out.cell 1
  have k2 := K5.out.cell 2
  simp only [List.getElem?_toArray, List.getElem?_cons_zero, List.getElem?_cons_succ] at k0 k1 k2
  cases f with
  | false =>
    have E : Hid (pCl (l, e) = (⟨k, ⟨false, ByteArray.empty⟩⟩, (l2, e2))) := Lib.hid (by
      unfold pCl pVl
      rw [HT.out]
      simp only
      rw [HF.out]
      rfl)
    clear k0 k1 k2
    have FB : Hid (Bk (((W5.setCell ⟨w.heap.size, 0, none⟩ (.string k)).setCell ⟨w.heap.size, 1, none⟩ (.bool false)).setCell ⟨w.heap.size, 2, none⟩ (.string ⟨#[]⟩)) w.heap.size 63 #[.string k, .bool false, .string ⟨#[]⟩]) := Lib.hid (by simpa using ((RR.out.setc 0 (.string k)).setc 1 (.bool false)).setc 2 (.string ⟨#[]⟩))
    have hbr : b ≠ w.heap.size := by omega
    have hgr : g ≠ w.heap.size := by omega
    have RP : Hid (RdPost 120 b g (pCl (l, e)).2.1 (pCl (l, e)).2.2 (.agg (pCl (l, e)).1.cells.toArray) w (.returned (.agg #[.string k, .bool false, .string ⟨#[]⟩])) (((W5.setCell ⟨w.heap.size, 0, none⟩ (.string k)).setCell ⟨w.heap.size, 1, none⟩ (.bool false)).setCell ⟨w.heap.size, 2, none⟩ (.string ⟨#[]⟩))) := Lib.hid (by
      rw [E.out]
      exact ⟨rfl, ((HR5.out.setNew hbr hgr _).setNew hbr hgr _).setNew hbr hgr _, grown_setNew (p := ⟨w.heap.size, 2, none⟩) (grown_setNew (p := ⟨w.heap.size, 1, none⟩) (grown_setNew (p := ⟨w.heap.size, 0, none⟩) G5.out (Nat.le_refl _) _) (Nat.le_refl _) _) (Nat.le_refl _) _⟩)
    have c0 := K5.out.cell 0
    have c1 := K5.out.cell 1
    have c2 := K5.out.cell 2
    have r0 := RR.out.frz 0
    have r1 := RR.out.frz 1
    have r2 := RR.out.frz 2
    have z0 := RR.out.cell 0
    have z1 := RR.out.cell 1
    have z2 := RR.out.cell 2
    simp only [List.getElem?_toArray, List.getElem?_cons_zero, List.getElem?_cons_succ] at c0 c1 c2 z0 z1 z2
    go_wp2_with fail
    (try simp only [Exit.inBlock, Exit.then])
    refine bodyPost_ret (results_cell_row (p := 2) (ty := 63) rfl _ _ w.heap.size 63 _ (0, 0) _ rfl FB.out Try.underlying63 rfl cl_inf) rfl ?_
    exact RP.out
  | true =>
    obtain ⟨⟨dd, l3, e3⟩, hD⟩ : ∃ x, pText 32 (l2, e2) = x := ⟨_, rfl⟩
    have E : Hid (pCl (l, e) = (⟨k, ⟨true, dd⟩⟩, (l3, e3))) := Lib.hid (by
      unfold pCl pVl
      rw [HT.out]
      simp only
      rw [HF.out]
      simp only [if_true]
      rw [hD])
    have C3 := sText 32 (by omega) HR5.out
    rw [hD] at C3
    have C3 := Lib.hid C3
    clear hD
    go_wp2_with fail
    refine C3.out.mono ?_
    rintro e' w6 ⟨rfl, hr6, g6⟩
    have K6 := Lib.hid (K5.out.grow g6 (fun q => by injection q with q; omega))
    have RR6 := Lib.hid (RR.out.grow g6 (fun q => by injection q with q; omega))
    have G6 := Lib.hid (grown_trans G5.out g6)
    have HR6 := Lib.hid hr6
    have c2 := K6.out.cell 2
    have f2 := K6.out.frz 2
    simp only [List.getElem?_toArray, List.getElem?_cons_zero, List.getElem?_cons_succ] at c2
    clear hr6 g6 C3 K5 RR G5 HR5 k0 k1 k2
    go_upto_region 5 with fail
    obtain ⟨W7, hW7⟩ : ∃ W, W = w6.setCell ⟨w2.heap.size, 2, none⟩ (.string dd) := ⟨_, rfl⟩
    (try rw [← hW7])
    have K7 : Hid (Bk W7 w2.heap.size 63 #[.string k, .bool true, .string dd]) := Lib.hid (by rw [hW7]; simpa using K6.out.setc 2 (.string dd))
    have HR7 : Hid (Rd W7 120 b g l3 e3) := Lib.hid (by rw [hW7]; exact HR6.out.setNew hbC hgC _)
    have G7 : Hid (w.grownBy W7 (some b)) := Lib.hid (by rw [hW7]; exact grown_setNew (p := ⟨w2.heap.size, 2, none⟩) G6.out (by show w.heap.size ≤ w2.heap.size; omega) _)
    have RR : Hid (Bk W7 w.heap.size 63 #[.string ⟨#[]⟩, .bool false, .string ⟨#[]⟩]) := Lib.hid (by rw [hW7]; exact (Below.heap_setCell w6 ⟨w2.heap.size, 2, none⟩ _ _ (by show w.heap.size ≠ w2.heap.size; omega)).trans RR6.out)
    clear hW7 K6 HR6 G6 RR6 c2 f2
    have FB : Hid (Bk (((W7.setCell ⟨w.heap.size, 0, none⟩ (.string k)).setCell ⟨w.heap.size, 1, none⟩ (.bool true)).setCell ⟨w.heap.size, 2, none⟩ (.string dd)) w.heap.size 63 #[.string k, .bool true, .string dd]) := Lib.hid (by simpa using ((RR.out.setc 0 (.string k)).setc 1 (.bool true)).setc 2 (.string dd))
    have hbr : b ≠ w.heap.size := by omega
    have hgr : g ≠ w.heap.size := by omega
    have RP : Hid (RdPost 120 b g (pCl (l, e)).2.1 (pCl (l, e)).2.2 (.agg (pCl (l, e)).1.cells.toArray) w (.returned (.agg #[.string k, .bool true, .string dd])) (((W7.setCell ⟨w.heap.size, 0, none⟩ (.string k)).setCell ⟨w.heap.size, 1, none⟩ (.bool true)).setCell ⟨w.heap.size, 2, none⟩ (.string dd))) := Lib.hid (by
      rw [E.out]
      exact ⟨rfl, ((HR7.out.setNew hbr hgr _).setNew hbr hgr _).setNew hbr hgr _, grown_setNew (p := ⟨w.heap.size, 2, none⟩) (grown_setNew (p := ⟨w.heap.size, 1, none⟩) (grown_setNew (p := ⟨w.heap.size, 0, none⟩) G7.out (Nat.le_refl _) _) (Nat.le_refl _) _) (Nat.le_refl _) _⟩)
    have c0 := K7.out.cell 0
    have c1 := K7.out.cell 1
    have c2 := K7.out.cell 2
    have r0 := RR.out.frz 0
    have r1 := RR.out.frz 1
    have r2 := RR.out.frz 2
    have z0 := RR.out.cell 0
    have z1 := RR.out.cell 1
    have z2 := RR.out.cell 2
    simp only [List.getElem?_toArray, List.getElem?_cons_zero, List.getElem?_cons_succ] at c0 c1 c2 z0 z1 z2
    go_wp2_with fail
    (try simp only [Exit.inBlock, Exit.then])
    refine bodyPost_ret (results_cell_row (p := 2) (ty := 63) rfl _ _ w.heap.size 63 _ (0, 0) _ rfl FB.out Try.underlying63 rfl cl_inf) rfl ?_
    exact RP.out
end Go.Proofs.Ytomhofppcogojaa

/- strings.Compare, the comparison that page.Set passes on, slices.BinarySearchFunc with it: where a key's cell stands, or would. -/
namespace Go.Proofs.Ytomhofppcogojaa
open Go.RowKit

theorem cmp_lists : ∀ (x y : List UInt8), (Lib.compareBytes x y < 0 ↔ x < y) ∧ (Lib.compareBytes x y = 0 ↔ x = y)
  | [], [] => by simp [Lib.compareBytes]
  | [], _ :: _ => by simp [Lib.compareBytes]
  | _ :: _, [] => by simp [Lib.compareBytes]
  | a :: x, b :: y => by
    obtain ⟨h1, h2⟩ := cmp_lists x y
    unfold Lib.compareBytes
    rw [List.cons_lt_cons_iff]
    by_cases hab : a < b
    · have hne : a ≠ b := fun e => UInt8.lt_irrefl b (e ▸ hab)
      simp [hab, hne]
    · by_cases hba : b < a
      · have hne : a ≠ b := fun e => UInt8.lt_irrefl a (by rw [e] at hba ⊢; exact hba)
        simp [hab, hba, hne]
      · have he : a = b := by
          have := UInt8.not_lt.1 hab
          have := UInt8.not_lt.1 hba
          exact UInt8.le_antisymm ‹_› ‹_›
        subst he
        simp [hab, h1, h2]
/-- How two keys compare. -/
def cmpB (a b : ByteArray) : Int := Lib.compareBytes a.data.toList b.data.toList
theorem cmpB_lt (a b : ByteArray) : cmpB a b < 0 ↔ kLt a b := by rw [kLt_iff, Lib.toList_data, Lib.toList_data]; exact (cmp_lists _ _).1
theorem cmpB_eq (a b : ByteArray) : cmpB a b = 0 ↔ a = b := by
  rw [show (cmpB a b = 0 ↔ _) from (cmp_lists _ _).2]
  constructor
  · intro h; exact ByteArray.ext (Array.ext' h)
  · intro h; rw [h]

/-- Where the search stands. -/
structure Bis (l : List Cl) (k : ByteArray) (i j : Nat) : Prop where
  le : i ≤ j
  top : j ≤ l.length
  lo : ∀ m, m < i → kLt (l.getD m default).key k
  hi : ∀ m, j ≤ m → m < l.length → ¬ kLt (l.getD m default).key k
theorem Bis.start (l : List Cl) (k : ByteArray) : Bis l k 0 l.length := ⟨Nat.zero_le _, Nat.le_refl _, fun m h => absurd h (by omega), fun m h1 h2 => absurd h1 (by omega)⟩
theorem Bis.up {l : List Cl} {k : ByteArray} {i j h : Nat} (b : Bis l k i j) (hp : l.Pairwise qCl) (h2 : h < j) (hk : kLt (l.getD h default).key k) : Bis l k (h + 1) j :=
  ⟨h2, b.top, fun m hm => by
    rcases Nat.lt_or_ge m h with q | q
    · exact kLt_trans (pw_get hp q (by have := b.top; omega)) hk
    · obtain rfl : m = h := by omega
      exact hk, b.hi⟩
theorem Bis.down {l : List Cl} {k : ByteArray} {i j h : Nat} (b : Bis l k i j) (hp : l.Pairwise qCl) (h1 : i ≤ h) (h2 : h < j) (hk : ¬ kLt (l.getD h default).key k) : Bis l k i h :=
  ⟨h1, by have := b.top; omega, b.lo, fun m hm hl => by
    rcases Nat.lt_or_ge h m with q | q
    · exact fun z => hk (kLt_trans (pw_get hp q hl) z)
    · obtain rfl : m = h := by omega
      exact hk⟩
theorem Bis.fin {l : List Cl} {k : ByteArray} {i : Nat} (b : Bis l k i i) : atC l k = i := atC_uniq b.top b.lo b.hi

/-- Where, and whether it is there. -/
def RetAt (l : List Cl) (k : ByteArray) (w : World) (e : Ending) (w' : World) : Prop := e = .returned (.tuple #[.int .i64 (atC l k), .bool (isAt l k)]) ∧ Below w.heap.size w w'

end Go.Proofs.Ytomhofppcogojaa

/- slices.Grow of nil, slices.Concat of three slices of cells. -/
namespace Go.Proofs.Ytomhofppcogojaa
open Go.RowKit

theorem flatC_drop {α : Type} (f : α → List Value) (k : Nat) (hf : ∀ x, (f x).length = k) (l : List α) (m : Nat) : (l.flatMap f).drop (m * k) = (l.drop m).flatMap f := by
  induction l generalizing m with
  | nil => simp
  | cons x r ih =>
    cases m with
    | zero => simp
    | succ m =>
      rw [List.flatMap_cons, List.drop_succ_cons, List.drop_append, List.drop_of_length_le (by rw [hf, Nat.add_mul]; omega), hf, List.nil_append]
      rw [show (m + 1) * k - k = m * k by rw [Nat.add_mul]; omega, ih]
/-- Three slices in a block. -/
structure Cat3 (w : World) (g : Nat) (v : Nat → Option Addr × Nat × Nat) (ls : Nat → List Cl) : Prop where
  lt : g < w.heap.size
  at_ : ∀ i, i < 3 → w.cell? ⟨g, i, none⟩ = some (.slice (v i).1 (v i).2.1 (v i).2.2) ∧ Pcs w (v i).1 (v i).2.1 (v i).2.2 (ls i)
theorem Cat3.below {w w' : World} {g : Nat} {v : Nat → Option Addr × Nat × Nat} {ls : Nat → List Cl} (h : Cat3 w g v ls) (hb : Below w.heap.size w w') : Cat3 w' g v ls :=
  ⟨Nat.lt_of_lt_of_le h.lt hb.size, fun i hi => ⟨(hb.cell (p := ⟨g, i, none⟩) h.lt).trans (h.at_ i hi).1, (h.at_ i hi).2.below hb⟩⟩
def accC (ls : Nat → List Cl) : Nat → List Cl
  | 0 => []
  | k + 1 => accC ls k ++ ls k

theorem info_cs : (Try.prog.info? 22).map (fun i => (i.zero, i.size, i.bytes)) = some (some (.slice none 0 0), 1, 24) := by kernel_rfl
theorem one_pcs {w : World} {g : Nat} {x : Cl} (h : Bk w g 63 #[.string x.key, .bool x.val.has, .string x.val.data]) : Pcs w (some ⟨g, 0, none⟩) 1 1 [x] := by
  refine ⟨⟨rfl, Nat.le_refl _, by unfold maxLen; omega, (fun q => nomatch q), fun _ => ⟨g, 0, rfl, fun j v hv => ?_⟩⟩, rfl⟩
  rw [Nat.zero_add, h.cell]
  match j with
  | 0 => simpa [Cl.cells] using hv
  | 1 => simpa [Cl.cells] using hv
  | 2 => simpa [Cl.cells] using hv
  | j + 3 => simp [Cl.cells] at hv
/-- Cells in new memory. -/
def RetCells (l : List Cl) (w : World) (e : Ending) (w' : World) : Prop := ∃ A n c, e = .returned (.slice A n c) ∧ OwnP w.heap.size w' A n c l ∧ Below w.heap.size w w'

end Go.Proofs.Ytomhofppcogojaa

/- master.numbers answers the five places of a record. -/
namespace Go.Proofs.Ytomhofppcogojaa
open Go.RowKit

/-- The five places of the record at block b. -/
def ptrs5 (b : Nat) : Value := .agg #[.pointer (some ⟨b, 0, none⟩), .pointer (some ⟨b, 1, none⟩), .pointer (some ⟨b, 2, none⟩), .pointer (some ⟨b, 3, none⟩), .pointer (some ⟨b, 4, none⟩)]

/-- 'a[i]' of an array of pointers by value. -/
theorem run_index_ptrs {P : Program} (w : World) (t e te : TypeId) (n : Nat) (cs : Array Value) (i : Nat) (v : Value) (hi : i < n) (hu : P.underlying t = some (.array n e)) (hue : P.underlying e = some (.pointer te)) (hs : (P.info? e).map (·.size) = some 1) (ha : cs[i]? = some v) :
    (Instr.index t (.agg cs) (.int .i64 (i : Int))).run P w = .ok v w := by
  cases hq : P.info? e with
  | none => simp [hq] at hs
  | some ie =>
    have h1 : ie.size = 1 := by simpa [hq] using hs
    have hsz : ∀ w, (sizeOf e).run P w = .ok 1 w := fun w => by simp [sizeOf, typeInfo, hq, h1]
    have hagg : ∀ w, (isAgg e).run P w = .ok false w := fun w => by simp [isAgg, Sem.run_bind, run_underlying hue w]
    have hc : (0 ≤ (i : Int) ∧ (i : Int) < ((n : Nat) : Int)) := by omega
    unfold Instr.index
    simp only [Sem.run_bind, asIntOf, Sem.run_pure, Result.andThen, run_underlying hu w]
    rw [if_pos hc]
    simp only [Sem.run_bind, hsz, Result.andThen, part, hagg, Int.toNat_natCast, Nat.mul_one, ha]
    simp
end Go.Proofs.Ytomhofppcogojaa

/- master.encode answers a record's bytes. -/
namespace Go.Proofs.Ytomhofppcogojaa
open Go.RowKit

/-- A record's cells. -/
def msC (m : Ms) : Array Value := #[.int .i64 m.gen, .int .i64 m.inc, .int .i64 m.first, .int .i64 m.lsn, .int .i64 m.chk]

end Go.Proofs.Ytomhofppcogojaa

/- master.decode answers the five numbers at the beginning of bytes, or the error. -/
namespace Go.Proofs.Ytomhofppcogojaa
open Go.RowKit

/-- A struct's cells and one number beside it. -/
theorem results_cellT {P : Program} {fn : Func} {p u : Tmp} {ty : TypeId} (h : fn.results = #[.cell p ty, .tmp u]) (tmps : Array Value) (w : World) (g : Nat) (t : TypeId) (cs : Array Value) (d : TypeDesc)
    (hp : tmps.getD p undef = .pointer (some ⟨g, 0, none⟩)) (hg : Bk w g t cs)
    (hu : P.underlying ty = some d) (hd : (match d with | .struct _ | .array _ _ => true | _ => false) = true) (hi : (P.info? ty).map (·.size) = some cs.size) :
    (results fn tmps).run P w = .ok (.tuple #[.agg cs, tmps.getD u undef]) w := by
  rw [results_cell_tmp h, hp]
  simp [asAddr, run_loadVar_row w g t ty cs (0, 0) d hg hu hd hi, Result.andThen]

theorem ms_one (x0 x1 x2 x3 x4 : Int) : (#[Value.int .i64 x0, .int .i64 x1, .int .i64 x2, .int .i64 x3, .int .i64 x4] : Array Value).all (·.oneCell') = true := by simp [Value.oneCell']
theorem Bk.later {w w' : World} {g : Nat} {t : TypeId} {cs : Array Value} (h : Bk w g t cs) (hb : Below w.heap.size w w') : Bk w' g t cs := h.bel hb h.lt
theorem Bk.row {w : World} {g : Nat} {t : TypeId} {old : Array Value} (h : Bk w g t old) (cs : Array Value) : Bk (w.setRow g cs) g t cs := setRow_heap w g old cs _ _ h

theorem rdNum_any (b g : Nat) (l : List Int) (e : Nat) (w : World) (h : Rd w 120 b g l e) :
    Calls Try.prog 52 #[.pointer (some ⟨b, 0, none⟩), .int .i64 1099511627776] w (RdPost 120 b g (rdL l e) (rdE l e) (.int .i64 (rdV l e)) w) := by
  have := rNum_any b g l e 1099511627776 w h (by omega) (numF l 1099511627776).1 (numF l 1099511627776).2.1 (numF l 1099511627776).2.2 rfl
  rw [rdV_step] at this
  exact this

end Go.Proofs.Ytomhofppcogojaa

/- sheet.isSeq, hasFirst, part answer as they should; what is there stands. -/
namespace Go.Proofs.Ytomhofppcogojaa
open Go.RowKit

/-- A sheet's cells. -/
structure Sh where
  inc : Int
  pos : Int
  first : Int
  data : ByteArray
def sh0 : Sh := ⟨0, 0, 0, ByteArray.empty⟩
def Sh.cells (x : Sh) : List Value := [.int .i64 x.inc, .int .i64 x.pos, .int .i64 x.first, .string x.data]
def i64R (x : Int) : Prop := -9223372036854775808 ≤ x ∧ x ≤ 9223372036854775807
structure Sh.In (x : Sh) : Prop where
  inc : i64R x.inc
  pos : i64R x.pos
  first : i64R x.first
  data : x.data.size ≤ maxLen

/-- The same world. -/
def Qs (v : Value) (w : World) (e : Ending) (w' : World) : Prop := e = .returned v ∧ w = w'

def isSeqB (n : Int) : Bool := decide (0 ≤ n ∧ n ≤ 1099511627775)
def hasF (first : Int) (k : Nat) : Bool := decide (0 ≤ first ∧ first ≤ (k : Int))

/-- A part of bytes, of no room. -/
def RetPart (m : Nat) (l : List Int) (w : World) (e : Ending) (w' : World) : Prop := ∃ B, e = .returned (.slice B m m) ∧ Bty w B m m l ∧ w = w'

end Go.Proofs.Ytomhofppcogojaa

/- 'append' onto a row of the call's own lays it where it was, or in a new block: so two such rows stay apart. No program is named; no condition. -/
namespace Go.Proofs.Ytomhofppcogojaa
open Go.RowKit

/-- Where the answer lies. -/
theorem append_where {P : Program} {w : World} {base : Nat} {t ty e : TypeId} {i : TypeInfo} (ht : P.underlying t = some (.slice e)) (hi : P.info? e = some i) (hz : i.zero = some (.int .u8 0)) (hsize : i.size = 1) (hby : i.bytes = 1)
    {v : Value} {k : Nat} {xs : List Value} (hown : w.ownsRow base e 1 v k xs) {ad : Addr} {n c : Nat} {l : List Value} (hl : l.length = n) (hc : ∀ j u, l[j]? = some u → w.cell? (ad.add j) = some u) (h1 : ∀ u ∈ l, u.oneCell' = true) (hbytes : k + n ≤ 140737488355328)
    {v' : Value} {w' : World} (hr : (Builtin.append_ #[t, t] ty #[v, .slice (some ad) n c]).run P w = .ok v' w') : ∀ q, v'.ownBlock = some q → v.ownBlock = some q ∨ w.heap.size ≤ q := by
  have hl' : l.length = n * i.size := by rw [hsize]; omega
  have done : ∀ {x : Value} {w1 : World}, (Builtin.append_ #[t, t] ty #[v, .slice (some ad) n c]).run P w = .ok x w1 → (∀ q, x.ownBlock = some q → v.ownBlock = some q ∨ w.heap.size ≤ q) → ∀ q, v'.ownBlock = some q → v.ownBlock = some q ∨ w.heap.size ≤ q := by
    intro x w1 h h2
    rw [hr] at h
    injection h with h _
    rw [h]
    exact h2
  rcases hown.2 with ⟨rfl, rfl⟩ | ⟨g, cap, cur, rfl, _, hg, hkc, _, hcs, _⟩
  · by_cases hn : n = 0
    · subst hn
      obtain rfl : l = [] := List.eq_nil_of_length_eq_zero hl
      refine done (x := .slice none 0 0) (w1 := w) ?_ (fun q hq => by simp [Value.ownBlock] at hq)
      simp [Builtin.append_, run_underlying ht, sizeOf, typeInfo, hi, Builtin.lenOf, Builtin.firstCells, loadCells, loadCellsFrom]
    · exact done (run_append_nil (P := P) w t ty e i _ ht hi hz ad n c l hl' hc (by omega) (by omega) (by rw [hby]; omega)) (fun q hq => .inr (by simp [Value.ownBlock] at hq; omega))
  · by_cases hroom : k + n ≤ cap
    · exact done (run_append_room (P := P) w t ty e i ht hi g k cap cur hg ad n c l hl' hc h1 hroom (by rw [hl', hcs, hsize]; omega)) (fun q hq => .inl (by simpa [Value.ownBlock] using hq))
    · refine done (run_append_grow (P := P) w t ty e i _ ht hi hz ⟨g, 0, none⟩ k cap xs (by rw [hown.1, hsize]) (hown.cells (g := g) rfl) ad n c l hl' hc (by omega) (by omega) (growslice_fits (by omega) (by rw [hby]; omega))) (fun q hq => .inr (by simp [Value.ownBlock] at hq; omega))

/-- 'out = append(out, xs...)', and where it lies. -/
theorem wpList_append_at {P : Program} {w : World} {ops : Array Oper} {rest : List Oper} {o : Oper} {a : Act} {Q : Exit → Act → World → Prop} (hgd : o.guard = none) (s x : Operand) (t : TypeId)
    (ho : o.op = .call { callee := .builtin .append, args := #[s, x], argTypes := #[t, t] })
    (base : Nat) (e : TypeId) (i : TypeInfo) (ht : P.underlying t = some (.slice e)) (hi : P.info? e = some i) (hz : i.zero = some (.int .u8 0)) (hsize : i.size = 1) (hby : i.bytes = 1)
    (v : Value) (k : Nat) (xs : List Int) (hs : a.eval s = v) (hown : w.ownsRow base e 1 v k (xs.map (Value.int .u8)))
    (A : Option Addr) (n c : Nat) (l : List Int) (hx : a.eval x = .slice A n c) (hl : Byt w A n c l)
    (hbytes : k + n ≤ 140737488355328) (hbase : base ≤ w.heap.size)
    (h : ∀ A' c' w', w'.ownsRow base e 1 (.slice A' (k + n) c') (k + n) ((xs ++ l).map (Value.int .u8)) → w.grownBy w' v.ownBlock → (∀ q, (Value.slice A' (k + n) c').ownBlock = some q → v.ownBlock = some q ∨ w.heap.size ≤ q) → wpList P ops Q rest (a.put o.dst (.slice A' (k + n) c')) w') :
    wpList P ops Q (o :: rest) a w := by
  refine wpList_plain hgd fun K hK => ?_
  have form : ∀ (v' : Value) (w' : World) (m : Nat) (ys : List Value), w'.ownsRow base e 1 v' m ys → ∃ A' c', v' = .slice A' m c' := by
    intro v' w' m ys ho'
    rcases ho'.2 with ⟨h1, h2⟩ | ⟨g, cap, _, h1, _⟩
    · subst h2; exact ⟨none, 0, h1⟩
    · exact ⟨_, _, h1⟩
  cases A with
  | none =>
    obtain ⟨rfl, rfl⟩ := hl.nil_ rfl
    have hl0 : l = [] := List.eq_nil_of_length_eq_zero hl.len
    subst hl0
    have hrun := run_append_owned_none (P := P) (w := w) base t o.type e i 1 ht hi v k _ hown
    obtain ⟨A', c', rfl⟩ := form _ _ _ _ hown
    have h' := h A' c' w
    simp only [Nat.add_zero, List.append_nil] at h'
    unfold Oper.wp
    simp [execOp, ho, resolve, invoke, builtin, hs, hx, hrun, Result.andThen]
    exact hK _ _ (h' hown (World.grownBy.refl w _) (fun q hq => .inl hq))
  | some ad =>
    have hll : (l.map (Value.int .u8)).length = n := by simp [hl.len]
    obtain ⟨v', w', hrun, h1, h2, _⟩ := run_append_own (P := P) w base t o.type e i (.int .u8 0) 1 1 ht hi hz hsize hby rfl (by decide) v k _ hown ad n c (l.map (Value.int .u8)) (by simp [hl.len]) (hl.cells ad rfl) (u8_one l) (by unfold maxLen; omega) (by omega) hbase
    have hw := append_where ht hi hz hsize hby hown hll (hl.cells ad rfl) (u8_one l) hbytes hrun
    obtain ⟨A', c', rfl⟩ := form _ _ _ _ h1
    unfold Oper.wp
    simp [execOp, ho, resolve, invoke, builtin, hs, hx, hrun, Result.andThen]
    exact hK _ _ (h A' c' w' (by simpa using h1) h2 hw)
end Go.Proofs.Ytomhofppcogojaa

/- bodies in memory; sheet.join, sheet.cut. -/
namespace Go.Proofs.Ytomhofppcogojaa
open Go.RowKit

/-- A slice of slices of bytes. -/
def slV (v : Option Addr × Nat × Nat) : List Value := [.slice v.1 v.2.1 v.2.2]
theorem slV_len (v : Option Addr × Nat × Nat) : (slV v).length = 1 := rfl
def sl0 : Option Addr × Nat × Nat := (none, 0, 0)
structure Bods (w : World) (A : Option Addr) (n c : Nat) (ls : List (List Int)) (vs : List (Option Addr × Nat × Nat)) : Prop where
  flt : Flt w A n c 1 (vs.flatMap slV)
  vl : vs.length = n
  len : ls.length = n
  each : ∀ i, i < n → Byt w (vs.getD i sl0).1 (vs.getD i sl0).2.1 (vs.getD i sl0).2.2 (ls.getD i [])
theorem Bods.below {w w' : World} {A : Option Addr} {n c : Nat} {ls : List (List Int)} {vs : List (Option Addr × Nat × Nat)} (h : Bods w A n c ls vs) (hb : Below w.heap.size w w') : Bods w' A n c ls vs :=
  ⟨h.flt.below hb, h.vl, h.len, fun i hi => (h.each i hi).below hb⟩
/-- Number i. -/
theorem Bods.at_ {w : World} {A : Option Addr} {n c : Nat} {ls : List (List Int)} {vs : List (Option Addr × Nat × Nat)} (h : Bods w A n c ls vs) (hn : 0 < n) :
    ∃ g off, A = some ⟨g, off, none⟩ ∧ ∀ i, i < n → w.cell? ⟨g, off + i, none⟩ = some (.slice (vs.getD i sl0).1 (vs.getD i sl0).2.1 (vs.getD i sl0).2.2) ∧ Byt w (vs.getD i sl0).1 (vs.getD i sl0).2.1 (vs.getD i sl0).2.2 (ls.getD i []) := by
  obtain ⟨g, off, e, hc⟩ := h.flt.at_get sl0 slV slV_len h.vl hn
  refine ⟨g, off, e, fun i hi => ⟨?_, h.each i hi⟩⟩
  have := hc i hi 0 _ rfl
  simpa using this
theorem Bods.nil (w : World) : Bods w none 0 0 [] [] := ⟨Flt.nil w 1, rfl, rfl, fun i hi => absurd hi (by omega)⟩
theorem Bods.isB {w : World} {A : Option Addr} {n c : Nat} {ls : List (List Int)} {vs : List (Option Addr × Nat × Nat)} (h : Bods w A n c ls vs) : ∀ b ∈ ls, isB b := by
  intro b hb
  obtain ⟨i, hi, rfl⟩ := List.getElem_of_mem hb
  have := (h.each i (by rw [← h.len]; exact hi)).rng
  have e : ls.getD i [] = ls[i] := by simp [List.getD, List.getElem?_eq_getElem hi]
  rw [e] at this
  exact this

/-- Numbers, as cells. -/
def intV (x : Nat) : List Value := [.int .i64 (x : Int)]
theorem intV_len (x : Nat) : (intV x).length = 1 := rfl
theorem info_intJ : (Try.prog.info? 3).map (fun i => (i.zero, i.size, i.bytes)) = some (some (.int .i64 0), 1, 8) := by kernel_rfl
theorem info_slJ : (Try.prog.info? 35).map (fun i => (i.zero, i.size, i.bytes)) = some (some (.slice none 0 0), 1, 24) := by kernel_rfl

/-- What join answers: the bytes, where the bodies begin, or the error. -/
def RetJoin (ls : List (List Int)) (w : World) (e : Ending) (w' : World) : Prop :=
  (∃ b ∈ ls, 4096 < b.length) ∧ e = .returned (.tuple #[.slice none 0 0, .slice none 0 0, .int .i64 12]) ∧ Below w.heap.size w w' ∨
  (∀ b ∈ ls, b.length ≤ 4096) ∧ ∃ A n c A2 n2 c2, e = .returned (.tuple #[.slice A n c, .slice A2 n2 c2, .int .i64 0]) ∧ w'.ownsRow w.heap.size 5 1 (.slice A n c) n ((allL ls).map (Value.int .u8)) ∧ Flt w' A2 n2 c2 1 ((bgns ls).flatMap intV) ∧ n2 = ls.length ∧ Below w.heap.size w w'

/-- Where the joining stands. -/
structure JoinRel (w : World) (ls : List (List Int)) (i : Nat) (wr : World) (A : Option Addr) (n c : Nat) (A2 : Option Addr) (c2 : Nat) : Prop where
  all : wr.ownsRow w.heap.size 5 1 (.slice A n c) n ((allL (ls.take i)).map (Value.int .u8))
  bgs : wr.ownsRow w.heap.size 3 1 (.slice A2 i c2) i (((List.range i).map (bgn ls)).flatMap intV)
  bel : Below w.heap.size w wr
  ok : ∀ b ∈ ls.take i, b.length ≤ 4096

theorem sealL_le (b : List Int) (h : b.length ≤ 4096) : (sealL b).length ≤ 4110 := by
  rw [sealL_len]
  have := textL_len b (by omega)
  omega
theorem allL_le : ∀ (ls : List (List Int)), (∀ b ∈ ls, b.length ≤ 4096) → (allL ls).length ≤ 4110 * ls.length
  | [], _ => by simp [allL]
  | b :: r, h => by
    rw [allL_cons, List.length_append, List.length_cons]
    have := sealL_le b (h b (by simp))
    have := allL_le r (fun x hx => h x (by simp [hx]))
    omega

/-- One body more. -/
theorem JoinRel.step1 {w wr w2 w3 : World} {ls : List (List Int)} {i n c c2 : Nat} {A A2 A2' : Option Addr} {c2' : Nat} (h : JoinRel w ls i wr A n c A2 c2) (hi : i < ls.length) (hb : Below wr.heap.size wr w2)
    (k1 : w3.ownsRow w.heap.size 3 1 (.slice A2' (i + 1) c2') (i + 1) (((List.range i).map (bgn ls)).flatMap intV ++ (#[Value.int .i64 (n : Int)] : Array Value).toList)) (k2 : w2.grownBy w3 (Value.slice A2 i c2).ownBlock) :
    w3.ownsRow w.heap.size 5 1 (.slice A n c) n ((allL (ls.take i)).map (Value.int .u8)) ∧ w3.ownsRow w.heap.size 3 1 (.slice A2' (i + 1) c2') (i + 1) (((List.range (i + 1)).map (bgn ls)).flatMap intV) ∧ Below w.heap.size w w3 ∧ Below w.heap.size wr w3 := by
  have a2 := own_stay (w' := w2) h.all (fun q hq => hb.block q (h.all.lt q hq).2)
  have b2 := own_stay (w' := w2) h.bgs (fun q hq => hb.block q (h.bgs.lt q hq).2)
  have hn : bgn ls i = n := by unfold bgn; have := h.all.1; simpa using this
  have hbel : Below w.heap.size wr w3 := (hb.mono h.bel.size).grown k2 (Nat.le_trans h.bel.size hb.size) (fun q hq => (b2.lt q hq).1)
  refine ⟨own_apart b2 a2 (by decide) k2, ?_, h.bel.trans hbel, hbel⟩
  rw [List.range_succ, List.map_append, List.flatMap_append]
  simpa [intV, hn] using k1

theorem JoinRel.step2 {w wr w4 : World} {ls : List (List Int)} {i n c n' c' c2 : Nat} {A A' A2 : Option Addr} {b : List Int} (h1 : wr.ownsRow w.heap.size 5 1 (.slice A n c) n ((allL (ls.take i)).map (Value.int .u8)))
    (h2 : wr.ownsRow w.heap.size 3 1 (.slice A2 (i + 1) c2) (i + 1) (((List.range (i + 1)).map (bgn ls)).flatMap intV)) (h3 : Below w.heap.size w wr) (hok : ∀ b ∈ ls.take i, b.length ≤ 4096) (hi : i < ls.length) (hb : ls.getD i [] = b) (hbl : b.length ≤ 4096)
    (k1 : w4.ownsRow w.heap.size 5 1 (.slice A' n' c') n' ((allL (ls.take i) ++ sealL b).map (Value.int .u8))) (k2 : wr.grownBy w4 (Value.slice A n c).ownBlock) : JoinRel w ls (i + 1) w4 A' n' c' A2 c2 := by
  have e : ls.take (i + 1) = ls.take i ++ [b] := by rw [take_succ_getD ls [] i hi, hb]
  refine ⟨?_, own_apart h1 h2 (by decide) k2, h3.grown k2 h3.size (fun q hq => (h1.lt q hq).1), ?_⟩
  · rw [e, allL_app]
    simpa [allL] using k1
  · rw [e]
    intro x hx
    rcases List.mem_append.1 hx with q | q
    · exact hok x q
    · simp at q; subst q; exact hbl

end Go.Proofs.Ytomhofppcogojaa

/- sheet.cut; the statements' own, great, ended. -/
namespace Go.Proofs.Ytomhofppcogojaa
open Go.RowKit

def partL (l : List Int) (i : Nat) : List Int := (l.drop (242 * i)).take 242
def partsL (l : List Int) : List (List Int) := (List.range (shN l.length)).map (partL l)

/-- Bodies in new memory. -/
def RetBods (ls : List (List Int)) (w : World) (e : Ending) (w' : World) : Prop := ∃ A n c vs, e = .returned (.slice A n c) ∧ Bods w' A n c ls vs ∧ Below w.heap.size w w'

/-- A row of slices that is gathered. -/
structure GatS (w : World) (f : Nat → List Int) (i : Nat) (wr : World) (A : Option Addr) (c : Nat) (vs : List (Option Addr × Nat × Nat)) : Prop where
  own : wr.ownsRow w.heap.size 35 1 (.slice A i c) i (vs.flatMap slV)
  len : vs.length = i
  each : ∀ j, j < i → Bty wr (vs.getD j sl0).1 (vs.getD j sl0).2.1 (vs.getD j sl0).2.2 (f j)
  bel : Below w.heap.size w wr
theorem GatS.start (w : World) (f : Nat → List Int) : GatS w f 0 w none 0 [] := ⟨World.ownsRow_nil _ _ _ _, rfl, fun j hj => absurd hj (by omega), Below.refl _ _⟩
theorem GatS.next {w wr w2 w3 : World} {f : Nat → List Int} {i c c' : Nat} {A A' : Option Addr} {vs : List (Option Addr × Nat × Nat)} {B : Option Addr} {m d : Nat} (h : GatS w f i wr A c vs) (hb : Below wr.heap.size wr w2) (hB : Bty w2 B m d (f i))
    (k1 : w3.ownsRow w.heap.size 35 1 (.slice A' (i + 1) c') (i + 1) (vs.flatMap slV ++ (#[Value.slice B m d] : Array Value).toList)) (k2 : w2.grownBy w3 (Value.slice A i c).ownBlock) : GatS w f (i + 1) w3 A' c' (vs ++ [(B, m, d)]) := by
  have o2 := own_stay (w' := w2) h.own (fun q hq => hb.block q (h.own.lt q hq).2)
  refine ⟨by rw [List.flatMap_append]; simpa [slV] using k1, by simp [h.len], fun j hj => ?_, h.bel.trans ((hb.mono h.bel.size).grown k2 (Nat.le_trans h.bel.size hb.size) (fun q hq => (o2.lt q hq).1))⟩
  by_cases hji : j < i
  · have e : (vs ++ [(B, m, d)]).getD j sl0 = vs.getD j sl0 := by simp [List.getD, List.getElem?_append_left (show j < vs.length by rw [h.len]; exact hji)]
    rw [e]
    exact ((h.each j hji).below hb).apart o2 (by decide) k2
  · obtain rfl : j = i := by omega
    have e : (vs ++ [(B, m, d)]).getD j sl0 = (B, m, d) := by
      have : (vs ++ [(B, m, d)]).getD vs.length sl0 = (B, m, d) := by simp
      rw [h.len] at this
      exact this
    rw [e]
    exact hB.apart o2 (by decide) k2
theorem GatS.bods {w wr : World} {f : Nat → List Int} {i c : Nat} {A : Option Addr} {vs : List (Option Addr × Nat × Nat)} (h : GatS w f i wr A c vs) (ls : List (List Int)) (hl : ls.length = i) (hf : ∀ j, j < i → ls.getD j [] = f j) : Bods wr A i c ls vs :=
  ⟨Flt.of_own h.own, h.len, hl, fun j hj => by rw [hf j hj]; exact (h.each j hj).byt⟩

theorem parts_get (l : List Int) (j : Nat) (h : j < shN l.length) : (partsL l).getD j [] = partL l j := by
  unfold partsL
  simp [List.getD, h]

/-- More than is played? -/
def greatB (ls : List (List Int)) : Bool := decide (40 < ls.length) || ls.any fun b => decide (1500 < b.length)
theorem greatB_no {ls : List (List Int)} (h : greatB ls = false) : ls.length ≤ 40 ∧ ∀ b ∈ ls, b.length ≤ 1500 := by
  unfold greatB at h
  simp only [Bool.or_eq_false_iff, decide_eq_false_iff_not, List.any_eq_false, decide_eq_true_eq, Nat.not_lt] at h
  exact h

end Go.Proofs.Ytomhofppcogojaa

/- bytes that are gathered onto a slice that has no room, or onto a row of one's own. -/
namespace Go.Proofs.Ytomhofppcogojaa
open Go.RowKit

/-- Bytes that have no room behind them, or a row of one's own. -/
structure Beg (base : Nat) (w : World) (B : Option Addr) (m d : Nat) (l : List Int) : Prop where
  bty : Bty w B m d l
  own : m = d ∨ w.ownsRow base 5 1 (.slice B m d) m (l.map (Value.int .u8))

/-- What an append onto them leaves. -/
structure AppB (base : Nat) (w w' : World) (B : Option Addr) (m d : Nat) (B' : Option Addr) (m' d' : Nat) (l : List Int) : Prop where
  beg : Beg base w' B' m' d' l
  grown : ∃ row, w.grownBy w' row ∧ ∀ k, row = some k → base ≤ k ∧ (Value.slice B m d).ownBlock = some k
  at_ : ∀ q, (Value.slice B' m' d').ownBlock = some q → (Value.slice B m d).ownBlock = some q ∨ w.heap.size ≤ q

theorem info_u8z : (Try.prog.info? 5).map (fun i => (i.zero, i.size, i.bytes)) = some (some (.int .u8 0), 1, 1) := by kernel_rfl

theorem run_append_none {P : Program} (w : World) (t ty e : TypeId) (i : TypeInfo) (ht : P.underlying t = some (.slice e)) (hi : P.info? e = some i) (hs : i.size = 1)
    (ad : Addr) (m d q : Nat) (hmd : m ≤ d) (C : Option Addr) : (Builtin.append_ #[t, t] ty #[.slice (some ad) m d, .slice C 0 q]).run P w = .ok (.slice (some ad) m d) w := by
  cases C <;> simp [Builtin.append_, run_underlying ht, sizeOf, typeInfo, hi, hs, Builtin.lenOf, Builtin.firstCells, loadCells, loadCellsFrom, storeCells, hmd]

theorem wpList_app_beg {w : World} {ops : Array Oper} {rest : List Oper} {o : Oper} {a : Act} {Q : Exit → Act → World → Prop} (hgd : o.guard = none) (s x : Operand)
    (ho : o.op = .call { callee := .builtin .append, args := #[s, x], argTypes := #[35, 35] }) (base : Nat)
    {B : Option Addr} {m d : Nat} {l : List Int} (hs : a.eval s = .slice B m d) (hB : Beg base w B m d l) (hm : 0 < m) {C : Option Addr} {p q : Nat} {h : List Int} (hx : a.eval x = .slice C p q) (hC : Byt w C p q h)
    (hlim : m + p ≤ 100000000) (hbase : base ≤ w.heap.size)
    (H : ∀ B' d' w', Hid (AppB base w w' B m d B' (m + p) d' (l ++ h)) → wpList Try.prog ops Q rest (a.put o.dst (.slice B' (m + p) d')) w') : wpList Try.prog ops Q (o :: rest) a w := by
  obtain ⟨i0, hi, hz0, hz1, hz2⟩ := info_parts info_u8
  have ht := Try.underlying35
  rcases hB.own with hfull | hown
  · obtain ⟨g, off, rfl, hc⟩ := hB.bty.byt.at_ hm
    by_cases hp : p = 0
    · subst hp
      have hh : h = [] := List.eq_nil_of_length_eq_zero hC.len
      subst hh
      have hrun := run_append_none (P := Try.prog) w 35 o.type 5 i0 ht hi hz1 ⟨g, off, none⟩ m d q hB.bty.byt.cap C
      refine wpList_run hgd (v := .slice (some ⟨g, off, none⟩) m d) (w' := w) ?_ ?_
      · simp [execOp, ho, resolve, invoke, builtin, hs, hx, hrun, Result.andThen]
      · have := H (some ⟨g, off, none⟩) d w (Lib.hid ⟨⟨by simpa using hB.bty, .inl (by simpa using hfull)⟩, ⟨none, World.grownBy.refl w _, fun _ e => nomatch e⟩, fun q hq => .inl (by simpa [Value.ownBlock] using hq)⟩)
        simpa using this
    · obtain ⟨g2, off2, rfl, hc2⟩ := hC.at_ (by omega)
      have hl1 : (l.map (Value.int .u8)).length = m * i0.size := by simp [hB.bty.byt.len, hz1]
      have hl2 : (h.map (Value.int .u8)).length = p * i0.size := by simp [hC.len, hz1]
      have hge := grownCap_ge w (m + p) d 5
      have hcm : grownCap w (m + p) d 5 ≤ maxLen := grownCap_le_maxLen w (m + p) d 5 (by unfold maxLen; omega)
      have hrun := run_append_grow (P := Try.prog) w 35 o.type 5 i0 (.int .u8 0) ht hi hz0 ⟨g, off, none⟩ m d (l.map (Value.int .u8)) hl1 (hB.bty.byt.cells ⟨g, off, none⟩ rfl) ⟨g2, off2, none⟩ p q (h.map (Value.int .u8)) hl2 (hC.cells ⟨g2, off2, none⟩ rfl) (by omega) (by omega) (growslice_fits (by omega) (by rw [hz2]; omega))
      have hex : (execOp a.eval o).run Try.prog w = .ok (.value (.slice (some ⟨w.heap.size, 0, none⟩) (m + p) (grownCap w (m + p) d 5))) (w.drew.alloc (.cells ((l.map (Value.int .u8)).toArray ++ (h.map (Value.int .u8)).toArray ++ Builtin.zeroCells (Value.int .u8 0).cells (grownCap w (m + p) d 5 - (m + p))) 5)) := by
        simp only [execOp, ho, resolve, invoke, builtin, List.map_toArray, List.map_cons, List.map_nil, hs, hx, Sem.run_bind, Sem.run_pure, Result.andThen_ok, hrun]
      refine wpList_run hgd hex ?_
      · have hO : (w.drew.alloc (.cells ((l.map (Value.int .u8)).toArray ++ (h.map (Value.int .u8)).toArray ++ Builtin.zeroCells (Value.int .u8 0).cells (grownCap w (m + p) d 5 - (m + p))) 5)).ownsRow base 5 1
            (.slice (some ⟨w.heap.size, 0, none⟩) (m + p) (grownCap w (m + p) d 5)) (m + p) ((l ++ h).map (Value.int .u8)) := by
          refine ⟨by simp [hB.bty.byt.len, hC.len], .inr ⟨w.heap.size, _, _, rfl, hbase, heap_alloc_new w.drew _, hge, hcm, ?_, ?_⟩⟩
          · simp only [Array.size_append, List.size_toArray, size_zeroCells, List.length_map, hB.bty.byt.len, hC.len, Value.cells]
            simp
            omega
          · simp only [Array.toList_append, List.append_assoc]
            rw [← List.append_assoc, ← List.map_append]
            have : (m + p) * 1 = ((l ++ h).map (Value.int .u8)).length := by simp [hB.bty.byt.len, hC.len]
            rw [this]
            exact List.take_left
        refine H _ _ _ (Lib.hid ⟨⟨Bty.of_own hO (fun x hx => ?_), .inr hO⟩, ⟨none, ⟨rfl, rfl, rfl, by simp, fun k hk _ => heap_alloc_old w.drew _ hk⟩, fun _ e => nomatch e⟩, fun q hq => .inr ?_⟩)
        · rcases List.mem_append.1 hx with k | k
          · exact hB.bty.byt.rng x k
          · exact hC.rng x k
        · simp [Value.ownBlock] at hq
          omega
  · refine wpList_append_at hgd s x 35 ho base 5 i0 ht hi hz0 hz1 hz2 (.slice B m d) m l hs hown C p q h hx hC (by omega) hbase ?_
    intro B' d' w' h1 h2 h3
    refine H B' d' w' (Lib.hid ⟨⟨Bty.of_own h1 (fun x hx => ?_), .inr h1⟩, ⟨_, h2, fun k hk => ⟨(hown.lt k hk).1, hk⟩⟩, h3⟩)
    rcases List.mem_append.1 hx with k | k
    · exact hB.bty.byt.rng x k
    · exact hC.rng x k

/-- What was found, as cells. -/
def fndC (x : List Int × Int) : List Value := [.string (strOfNums x.1), .int .i64 x.2]
theorem fndC_len (x : List Int × Int) : (fndC x).length = 2 := rfl

/-- Blocks from base on, below H. -/
def Mid (base H : Nat) : Nat → Prop := fun k => base ≤ k ∧ k < H
theorem Beg.stay {base : Nat} {w w' : World} {B : Option Addr} {m d : Nat} {l : List Int} (h : Beg base w B m d l) (hk : ∀ q, (Value.slice B m d).ownBlock = some q → w'.heap[q]? = w.heap[q]?) : Beg base w' B m d l :=
  ⟨h.bty.stay (fun a ha => hk a.block (by rw [ha]; rfl)), h.own.imp id (fun o => own_stay o hk)⟩
end Go.Proofs.Ytomhofppcogojaa

/- one body more is found, in memory; (*sheet.search).head steps as the plain search does. -/
namespace Go.Proofs.Ytomhofppcogojaa
open Go.RowKit

theorem exec_conv {P : Program} {w w' : World} {o : Oper} {a : Act} {s d : TypeId} {x : Operand} (ho : o.op = .convert s d x) {v : Value} (hb : (convert s d (a.eval x)).run P w = .ok v w') : (execOp a.eval o).run P w = .ok (.value v) w' := by
  unfold execOp
  simp only [ho, Sem.run_bind]
  rw [hb]
  rfl
theorem fnd_one (s : ByteArray) (i : Int) : ∀ u ∈ (#[Value.string s, .int .i64 i] : Array Value).toList, u.oneCell' = true := by
  intro u hu
  simp at hu
  rcases hu with rfl | rfl <;> rfl

end Go.Proofs.Ytomhofppcogojaa

/- (*sheet.search).bodies steps as the plain search does. -/
namespace Go.Proofs.Ytomhofppcogojaa
open Go.RowKit

def lenV : Value → Nat
  | .slice _ n _ => n
  | _ => 0

end Go.Proofs.Ytomhofppcogojaa

/- sheet.Find finds what the plain search finds, in new memory. -/
namespace Go.Proofs.Ytomhofppcogojaa
open Go.RowKit

theorem Sh.cells_len (x : Sh) : x.cells.length = 4 := rfl
/-- A slice of sheets. -/
structure Shs (w : World) (A : Option Addr) (n c : Nat) (l : List Sh) : Prop where
  flt : Flt w A n c 4 (l.flatMap Sh.cells)
  len : l.length = n
  inn : ∀ x ∈ l, x.In
theorem Shs.below {w w' : World} {A : Option Addr} {n c : Nat} {l : List Sh} (h : Shs w A n c l) (hb : Below w.heap.size w w') : Shs w' A n c l := ⟨h.flt.below hb, h.len, h.inn⟩
def Sh.fd (x : Sh) : Int × List Int := (x.first, nums x.data)
/-- What was found, in new memory. -/
def RetFnd (out : List (List Int × Int)) (w : World) (e : Ending) (w' : World) : Prop :=
  ∃ A n c, e = .returned (.slice A n c) ∧ Flt w' A n c 2 (out.flatMap fndC) ∧ out.length = n ∧ (∀ x ∈ out, isB x.1 ∧ x.1.length ≤ 4096) ∧ Below w.heap.size w w'

theorem fr_below {base H : Nat} {w w1 w2 : World} (hb : Below base w w1) (hB : base ≤ w1.heap.size) (f : Fr (Mid base H) w1 w2) : Below base w w2 := hb.trans (f.below hB (fun k m => m.1))
end Go.Proofs.Ytomhofppcogojaa

/- trothref08.Same, SameFound and the statements' bodies say yes of what reads as the same. -/
namespace Go.Proofs.Ytomhofppcogojaa
open Go.RowKit

theorem Flt.none_ {w : World} {A : Option Addr} {c k : Nat} {vs : List Value} (h : Flt w A 0 c k vs) : vs = [] := List.eq_nil_of_length_eq_zero (by rw [h.len]; simp)

/-- What was found, in memory. -/
structure Fnds (w : World) (A : Option Addr) (n c : Nat) (out : List (List Int × Int)) : Prop where
  flt : Flt w A n c 2 (out.flatMap fndC)
  len : out.length = n
def fd0 : List Int × Int := ([], 0)
theorem Fnds.below {w w' : World} {A : Option Addr} {n c : Nat} {out : List (List Int × Int)} (h : Fnds w A n c out) (hb : Below w.heap.size w w') : Fnds w' A n c out := ⟨h.flt.below hb, h.len⟩

end Go.Proofs.Ytomhofppcogojaa

/- what a row's step wants of arguments that are numbers or slices of bytes: how they read, and how long they are. No condition. -/
namespace Go.Proofs.Ytomhofppcogojaa
open Go.ChangeShapes Go.WideShapes Go.ChangeAt Go.RowKit

theorem own_knob : ownKnob Try.prog.godebug = none := by kernel_rfl
theorem laidOut : laidOutB Try.prog = true := by kernel_rfl

theorem u64_nat {x : Int} (h : (Lit.int .u64 x).wf = true) : ∃ m : Nat, x = m ∧ m < 18446744073709551616 := by
  simp [Lit.wf, IntKind.min, IntKind.max, IntKind.signed, IntKind.bits] at h
  exact ⟨x.toNat, by omega, by omega⟩

theorem u32_nat {x : Int} (h : (Lit.int .u32 x).wf = true) : ∃ m : Nat, x = m ∧ m < 4294967296 := by
  simp [Lit.wf, IntKind.min, IntKind.max, IntKind.signed, IntKind.bits] at h
  exact ⟨x.toNat, by omega, by omega⟩

theorem i64_bd {x : Int} (h : (Lit.int .i64 x).wf = true) : -9223372036854775808 ≤ x ∧ x ≤ 9223372036854775807 := by
  simp [Lit.wf, IntKind.min, IntKind.max, IntKind.signed, IntKind.bits] at h
  exact ⟨by omega, by omega⟩

theorem u8_bd {x : Int} (h : (Lit.int .u8 x).wf = true) : 0 ≤ x ∧ x < 256 := by
  simp [Lit.wf, IntKind.min, IntKind.max, IntKind.signed, IntKind.bits] at h
  exact ⟨by omega, by omega⟩

theorem bytes8 : Try.prog.bytesOf 5 = 1 := by kernel_rfl
theorem cells8 : Try.prog.cellsOf 5 = 1 := by kernel_rfl

section
variable {H : Type} {enc : TypeId × Value → H} {W : World}

theorem open_bytes {a : Option Addr} {n c : Nat} {d : DataW H} {p : List MemPlace} (h : DataW.Trod enc Try.prog W 0 (fun _ => true) true 35 (.slice a n c) d p) :
    ∃ l, Byt W a n c l ∧ (n = 0 ∨ ∃ el sp, d = .slice el sp ∧ el.length = n) := by
  obtain ⟨fuel, hf⟩ := h
  rcases open_ints Try.underlying35 Try.underlying5 cells8 hf with ⟨hcs, _⟩ | ⟨x, len, cap, zs, hcs, _, hl, hm, hz, hx, hcell, hwz⟩
  · simp [Value.cells] at hcs
    obtain ⟨rfl, rfl, rfl⟩ := hcs
    exact ⟨[], Byt.nil W, .inl rfl⟩
  · simp [Value.cells] at hcs
    obtain ⟨rfl, rfl, rfl⟩ := hcs
    simp only [Prod.mk.injEq] at hx
    have hzl : zs.length = c := by simpa using hz
    refine ⟨zs.take n, ⟨by simp; omega, hl, hm, fun y hy => u8_bd (hwz y (List.mem_of_mem_take hy)), (fun h => nomatch h), fun hn => ?_⟩, .inr ⟨_, _, hx.1, by simp [lits]; omega⟩⟩
    obtain ⟨g, off, spot⟩ := x
    have hspot : spot = none := by simpa [Addr.add] using World.cell?_spot (hcell 0 (by omega))
    subst hspot
    refine ⟨g, off, rfl, fun i hi => ?_⟩
    have h1 := hcell i (by omega)
    have hadd : (⟨g, off, none⟩ : Addr).add i = ⟨g, off + i, none⟩ := by unfold Addr.add; split <;> simp_all
    rw [hadd] at h1
    rw [h1]
    congr 2
    simp [List.getD, hi]

theorem bytes_reach {ts : List TypeId} {ds : List (DataW H)} (h : (DataW.weightsEach Try.prog ts ds).all (· ≤ reachBytes) = true) {j : Nat} {d : DataW H} {n : Nat} (ht : ts[j]? = some 35) (hd : ds[j]? = some d)
    (e : n = 0 ∨ ∃ el sp, d = .slice el sp ∧ el.length = n) : n ≤ 140737488351232 := by
  rcases e with rfl | ⟨el, sp, rfl, hn⟩
  · omega
  · have := sized_slice h ht hd Try.underlying35
    rw [bytes8] at this
    simp only [reachBytes] at this
    omega
end
end Go.Proofs.Ytomhofppcogojaa

/- bodies and sheets as they come in: what they read as. -/
namespace Go.Proofs.Ytomhofppcogojaa
open Go.RowKit Go.ChangeShapes Go.WideShapes Go.ChangeAt

structure BodsE (w : World) (A : Option Addr) (n c : Nat) (ls : List (List Int)) : Prop where
  ex : ∃ vs, Bods w A n c ls vs

theorem lstO {α : Type} (d : α) (P : Nat → α → Prop) : ∀ n : Nat, (∀ i, i < n → ∃ x, P i x) → ∃ l : List α, l.length = n ∧ ∀ i, i < n → P i (l.getD i d)
  | 0, _ => ⟨[], rfl, fun i hi => absurd hi (by omega)⟩
  | n + 1, h => by
    obtain ⟨l, hl, hp⟩ := lstO d P n (fun i hi => h i (by omega))
    obtain ⟨x, hx⟩ := h n (by omega)
    refine ⟨l ++ [x], by simp [hl], fun i hi => ?_⟩
    by_cases he : i < n
    · have := hp i he
      have e : (l ++ [x]).getD i d = l.getD i d := by simp [List.getD, List.getElem?_append_left (show i < l.length by omega)]
      rwa [e]
    · obtain rfl : i = n := by omega
      have : (l ++ [x]).getD l.length d = x := by simp
      rw [hl] at this
      rw [this]
      exact hx

section
variable {H : Type} {enc : TypeId × Value → H} {W : World}
theorem coO_int : Try.prog.cellsOf 3 = 1 := by kernel_rfl
theorem coO_str : Try.prog.cellsOf 9 = 1 := by kernel_rfl
theorem coO_bytes : Try.prog.cellsOf 35 = 1 := by kernel_rfl
theorem addrO {g off : Nat} (i j : Nat) : ((⟨g, off, none⟩ : Addr).add i).add j = ⟨g, off + i + j, none⟩ := by
  by_cases hi : i = 0 <;> by_cases hj : j = 0 <;> simp [Addr.add, hi, hj]

end
end Go.Proofs.Ytomhofppcogojaa

/- sheet.Lay lays bodies into sheets, or answers the error. -/
namespace Go.Proofs.Ytomhofppcogojaa
open Go.RowKit

/-- What is laid. -/
def layShs (inc pos : Int) (ls : List (List Int)) : List Sh := (List.range (shN (allL ls).length)).map (fun (i : Nat) => ⟨inc, pos + (i : Int), fstIn (bgns ls) i, strOfNums (partL (allL ls) i)⟩)
def layErr (inc pos : Int) (ls : List (List Int)) : Int :=
  if isSeqB inc = false ∨ isSeqB pos = false then 1 else if ∃ b ∈ ls, 4096 < b.length then 12 else if 1099511627776 < pos + (shN (allL ls).length : Int) then 162 else 0
def layRes (inc pos : Int) (ls : List (List Int)) : List Sh := if layErr inc pos ls = 0 then layShs inc pos ls else []
theorem layShs_fd (inc pos : Int) {ls : List (List Int)} (h : ∀ b ∈ ls, isB b) : (layShs inc pos ls).map Sh.fd = laidL ls := by
  unfold layShs laidL
  rw [List.map_map]
  refine List.map_congr_left (fun i _ => ?_)
  simp only [Function.comp, Sh.fd, laidAt]
  rw [nums_str]
  · rfl
  · exact ((allL_isB h).drop _).take _
theorem layShs_len (inc pos : Int) (ls : List (List Int)) : (layShs inc pos ls).length = shN (allL ls).length := by simp [layShs]
/-- Sheets, and an error beside them. -/
def RetLay (x : Int) (l : List Sh) (w : World) (e : Ending) (w' : World) : Prop := ∃ A n c, e = .returned (.tuple #[.slice A n c, .int .i64 x]) ∧ Shs w' A n c l ∧ Below w.heap.size w w'
theorem Shs.nil (w : World) : Shs w none 0 0 [] := ⟨Flt.nil w 4, rfl, fun x hx => (by cases hx)⟩

theorem cells4 (x : Sh) (j : Nat) (v : Value) (h : x.cells[j]? = some v) : j < 4 := (List.getElem?_eq_some_iff.1 h).1
end Go.Proofs.Ytomhofppcogojaa

/- sheet.Lay answers the sheets, or the error, in new memory. -/
namespace Go.Proofs.Ytomhofppcogojaa
open Go.RowKit

theorem fstIn_snoc (l : List Nat) (b j : Nat) : fstIn (l ++ [b]) j = if fstIn l j = 255 ∧ b / 242 = j then ((b % 242 : Nat) : Int) else fstIn l j := by
  unfold fstIn
  rw [List.find?_append]
  cases hf : l.find? (fun b => b / 242 == j) with
  | some x =>
    have : ((x % 242 : Nat) : Int) ≠ 255 := by have := Nat.mod_lt x (show 242 > 0 by omega); omega
    simp only [Option.some_or]
    rw [if_neg (fun q => this q.1)]
  | none =>
    simp only [Option.none_or, true_and]
    by_cases q : b / 242 = j
    · simp [List.find?, q]
    · have : (b / 242 == j) = false := by simpa using q
      simp [List.find?, this, q]
theorem bgns_len (ls : List (List Int)) : (bgns ls).length = ls.length := by simp [bgns]
theorem bgns_getD (ls : List (List Int)) (i : Nat) (h : i < ls.length) : (bgns ls).getD i 0 = bgn ls i := by simp [List.getD, bgns_get i h]
theorem fstIn_rng (l : List Nat) (j : Nat) : 0 ≤ fstIn l j ∧ fstIn l j ≤ 255 := by
  unfold fstIn
  split
  · rename_i b _
    have := Nat.mod_lt b (show 242 > 0 by omega)
    omega
  · omega
theorem partL_len (l : List Int) (i : Nat) : (partL l i).length ≤ 242 := by unfold partL; rw [List.length_take]; omega

/-- The sheets while they are laid: firsts stand for the first k begins. -/
def shAt (inc pos : Int) (ls : List (List Int)) (k : Nat) (j : Nat) : Sh := ⟨inc, pos + (j : Int), fstIn ((bgns ls).take k) j, strOfNums (partL (allL ls) j)⟩
theorem shAt_all (inc pos : Int) (ls : List (List Int)) (k j : Nat) (hk : ls.length ≤ k) (hj : j < shN (allL ls).length) : (layShs inc pos ls).getD j sh0 = shAt inc pos ls k j := by
  unfold layShs shAt
  rw [List.take_of_length_le (by rw [bgns_len]; exact hk)]
  simp [List.getD, hj]
theorem layShs_in {inc pos : Int} {ls : List (List Int)} (hi : 0 ≤ inc ∧ inc ≤ 1099511627776) (hp : 0 ≤ pos) (hN : pos + (shN (allL ls).length : Int) ≤ 1099511627776) : ∀ x ∈ layShs inc pos ls, x.In := by
  intro x hx
  unfold layShs at hx
  obtain ⟨j, hj, rfl⟩ := List.mem_map.1 hx
  have hj := List.mem_range.1 hj
  have hf := fstIn_rng (bgns ls) j
  have hl := partL_len (allL ls) j
  exact ⟨⟨by simp only; omega, by simp only; omega⟩, ⟨by simp only; omega, by simp only; omega⟩, ⟨by simp only; omega, by simp only; omega⟩, by simp only; rw [str_size]; unfold maxLen; omega⟩

theorem shAt_next (inc pos : Int) (ls : List (List Int)) (k j : Nat) (hk : k < ls.length) : shAt inc pos ls (k + 1) j = if fstIn ((bgns ls).take k) j = 255 ∧ bgn ls k / 242 = j then ⟨(shAt inc pos ls k j).inc, (shAt inc pos ls k j).pos, ((bgn ls k % 242 : Nat) : Int), (shAt inc pos ls k j).data⟩ else shAt inc pos ls k j := by
  unfold shAt
  rw [take_succ_getD (bgns ls) 0 k (by rw [bgns_len]; exact hk), bgns_getD ls k hk, fstIn_snoc]
  split <;> rfl

theorem sh_one4 (x0 x1 x2 : Int) (x3 : ByteArray) : (#[Value.int .i64 x0, .int .i64 x1, .int .i64 x2, .string x3] : Array Value).all (·.oneCell') = true := by simp [Value.oneCell']

/-- Sheets, and an error beside them; the sheets lie in new memory. -/
def RetLayN (x : Int) (l : List Sh) (w : World) (e : Ending) (w' : World) : Prop := ∃ A n c, e = .returned (.tuple #[.slice A n c, .int .i64 x]) ∧ Shs w' A n c l ∧ Below w.heap.size w w' ∧ ∀ a, A = some a → w.heap.size ≤ a.block
end Go.Proofs.Ytomhofppcogojaa

/- the statements' ended tells how many bodies end in the first sheets. -/
namespace Go.Proofs.Ytomhofppcogojaa
open Go.RowKit

theorem sealL_size (b : List Int) (h : b.length ≤ 1500) : (sealL b).length = b.length + 5 + if 127 < b.length then 1 else 0 := by
  have e : (shortL b.length).length = 1 + if 127 < b.length then 1 else 0 := by
    unfold shortL
    by_cases q : 127 < b.length
    · rw [if_pos q]
      obtain ⟨k, hk⟩ : ∃ k, b.length / 128 = k + 1 := ⟨b.length / 128 - 1, by omega⟩
      have h0 : (k + 1) / 128 = 0 := by omega
      rw [hk, hiD]
      simp [hiD, h0]
    · rw [if_neg q]
      have h0 : b.length / 128 = 0 := by omega
      rw [h0, hiD]
      simp
  rw [sealL_len]
  unfold textL
  rw [List.length_append, e]
  split <;> omega

end Go.Proofs.Ytomhofppcogojaa

/- trothlaw08.awake answers true. -/
namespace Go.Proofs.Ytomhofppcogojaa
open Go.RowKit

/-- So many noughts, as a body. -/
def zb (n : Nat) : List Int := List.replicate n 0
theorem zb_len (n : Nat) : (zb n).length = n := by simp [zb]
theorem zb_isB (n : Nat) : isB (zb n) := fun x hx => by
  have := (List.mem_replicate.1 hx).2
  omega
theorem noughts_byt (n : Nat) (W : World) (t : TypeId) (hn : n ≤ 1000000) : Byt (W.alloc (.cells (noughts n) t)) (some ⟨W.heap.size, 0, none⟩) n n (zb n) :=
  Byt.of_bk (Bk.new W t _) 0 n n (zb n) (zb_len n) (Nat.le_refl _) (by unfold maxLen; omega) (zb_isB n) (fun i hi => by
    rw [Nat.zero_add]
    unfold noughts madeCells
    simp [zb, hi, Nat.mod_one])
/-- One body of noughts, in a slice of its own. -/
theorem zbods (n : Nat) (W : World) (hn : n ≤ 1000000) : Bods ((W.alloc (.cells (noughts n) 5)).alloc (.cells #[.slice (some ⟨W.heap.size, 0, none⟩) n n] 35)) (some ⟨W.heap.size + 1, 0, none⟩) 1 1 [zb n] [(some ⟨W.heap.size, 0, none⟩, n, n)] := by
  refine ⟨⟨rfl, Nat.le_refl _, by unfold maxLen; omega, (fun e => nomatch e), fun _ => ⟨W.heap.size + 1, 0, rfl, fun j v hv => ?_⟩⟩, rfl, rfl, fun i hi => ?_⟩
  · have h := Bk.new (W.alloc (.cells (noughts n) 5)) 35 #[.slice (some ⟨W.heap.size, 0, none⟩) n n]
    rw [World.size_alloc] at h
    rw [h.cell, Nat.zero_add]
    simpa [slV] using hv
  · obtain rfl : i = 0 := by omega
    exact (noughts_byt n W _ hn).alloc _
theorem zbods_below (n : Nat) (W : World) : Below W.heap.size W ((W.alloc (.cells (noughts n) 5)).alloc (.cells #[.slice (some ⟨W.heap.size, 0, none⟩) n n] 35)) :=
  ((Below.refl _ _).alloc (Nat.le_refl _) _).alloc (by simp) _

theorem zb_all : (allL [zb 300]).length = 306 := by
  have : allL [zb 300] = sealL (zb 300) := by simp [allL]
  rw [this, sealL_size _ (by rw [zb_len]; omega), zb_len]
  rfl
theorem zb_err : layErr 1 7 [zb 300] = 0 := by
  unfold layErr
  rw [zb_all, if_neg (by rintro (h | h) <;> cases h), if_neg (by rintro ⟨b, hb, h⟩; simp at hb; subst hb; rw [zb_len] at h; omega), if_neg (by unfold shN; omega)]
theorem zb_two : shN (allL [zb 300]).length = 2 := by rw [zb_all]; rfl
theorem zb_f0 : fstIn (bgns [zb 300]) 0 = 0 := by rw [fst_is (bs := [zb 300]) (j := 0) (by simp) (by rw [bgn_zero]) (fun m hm => absurd hm (by omega)), bgn_zero]; rfl
theorem zb_f1 : fstIn (bgns [zb 300]) 1 = 255 := fst_none (fun k hk => by
  have : k = 0 := by simpa using hk
  subst this
  rw [bgn_zero]
  omega)

end Go.Proofs.Ytomhofppcogojaa

/- slices of sheets, of what was found, and of bodies: appended onto a row of one's own, and cut. -/
namespace Go.Proofs.Ytomhofppcogojaa
open Go.RowKit

theorem wpList_append_flt {P : Program} {w : World} {ops : Array Oper} {rest : List Oper} {o : Oper} {a : Act} {Q : Exit → Act → World → Prop} (hgd : o.guard = none) (s x : Operand) (t : TypeId)
    (ho : o.op = .call { callee := .builtin .append, args := #[s, x], argTypes := #[t, t] }) (base : Nat) (e : TypeId) (i : TypeInfo) (z : Value) (size bytes : Nat) (ht : P.underlying t = some (.slice e)) (hi : P.info? e = some i) (hz : i.zero = some z)
    (hsize : i.size = size) (hby : i.bytes = bytes) (hzs : z.cells.size = size) (hpos : 0 < size) {v : Value} {n : Nat} {xs : List Value} (hs : a.eval s = v) (hown : w.ownsRow base e size v n xs)
    {A : Option Addr} {m c : Nat} {vs : List Value} (hx : a.eval x = .slice A m c) (hl : Flt w A m c size vs) (h1 : ∀ u ∈ vs, u.oneCell' = true) (hn : n + m ≤ 1000000) (hbb : bytes ≤ 1000) (hbase : base ≤ w.heap.size)
    (h : ∀ A' c' w', w'.ownsRow base e size (.slice A' (n + m) c') (n + m) (xs ++ vs) → w.grownBy w' v.ownBlock → wpList P ops Q rest (a.put o.dst (.slice A' (n + m) c')) w') : wpList P ops Q (o :: rest) a w := by
  refine wpList_plain hgd fun K hK => ?_
  cases A with
  | none =>
    obtain ⟨rfl, rfl⟩ := hl.nil_ rfl
    have hv0 : vs = [] := List.eq_nil_of_length_eq_zero (by rw [hl.len]; simp)
    subst hv0
    obtain ⟨A', c', rfl⟩ := own_form hown
    have hrun := run_append_owned_none (P := P) (w := w) base t o.type e i size ht hi (.slice A' n c') n _ hown
    have h' := h A' c' w (by simpa using hown) (World.grownBy.refl w _)
    simp only [Nat.add_zero] at h'
    unfold Oper.wp
    simp only [execOp, ho, resolve, invoke, builtin, List.map_toArray, List.map_cons, List.map_nil, hs, hx, Sem.run_bind, Sem.run_pure, Result.andThen_ok, hrun]
    exact hK _ _ h'
  | some ad =>
    have hbt : (n + m) * bytes ≤ 140737488355328 := Nat.le_trans (Nat.mul_le_mul hn hbb) (by omega)
    refine wp_append_own w s x t ho base e i z size bytes ht hi hz hsize hby hzs hpos v n xs hs hown ad m c vs hx (by rw [hl.len]) (hl.news ad rfl) h1 (by unfold maxLen; omega) hbt hbase ?_
    intro v' w' k1 k2 _
    obtain ⟨A', c', rfl⟩ := own_form k1
    exact hK _ _ (h A' c' w' k1 k2)

theorem sh_ones (l : List Sh) : ∀ u ∈ l.flatMap Sh.cells, u.oneCell' = true := by
  intro u hu
  obtain ⟨x, _, hx⟩ := List.mem_flatMap.1 hu
  simp [Sh.cells] at hx
  rcases hx with rfl | rfl | rfl | rfl <;> rfl

theorem addr0 (A : Option Addr) (s : Nat) : A.map (·.add (0 * s)) = A := by
  cases A with
  | none => rfl
  | some a => simp [Addr.add]

/-- 's[:k]' of whatever elements. -/
theorem cutF_h {w : World} {A : Option Addr} {n c size : Nat} {vs : List Value} {t e : TypeId} {i : TypeInfo} (ht : Try.prog.underlying t = some (.slice e)) (hi : Try.prog.info? e = some i) (h : Flt w A n c size vs) (k : Nat) (hk : k ≤ n) (zk : Int) (ek : zk = k) :
    (∀ v, (Instr.slice t (.slice A n c) none (some (.int .i64 zk)) none).run Try.prog v = .ok (.slice A k c) v) ∧ Flt w A k c size (vs.take (k * size)) := by
  have hcap := h.cap
  subst ek
  have hel : Try.prog.elem t = e := by simp [Program.elem, ht]
  refine ⟨fun v => ?_, h.take k hk⟩
  rw [run_slice_h (P := Try.prog) (w := v) t A n c (by rw [hel]; exact ht) .i64 k (by omega) (by omega), hel]
  have : (sizeOf e).run Try.prog v = .ok i.size v := by simp [sizeOf, typeInfo, hi]
  rw [this]
  simp only [Result.andThen, sliced, Int.toNat_natCast, Nat.sub_zero, addr0, ite_self]

/-- 's[k:]' of whatever elements. -/
theorem cutF_l {w : World} {A : Option Addr} {n c size : Nat} {vs : List Value} {t e : TypeId} {i : TypeInfo} (ht : Try.prog.underlying t = some (.slice e)) (hi : Try.prog.info? e = some i) (hsz : i.size = size) (h : Flt w A n c size vs) (k : Nat) (hk : k ≤ n) (zk : Int) (ek : zk = k) :
    ∃ B d, (∀ v, (Instr.slice t (.slice A n c) (some (.int .i64 zk)) none none).run Try.prog v = .ok (.slice B (n - k) d) v) ∧ Flt w B (n - k) d size (vs.drop (k * size)) := by
  have hcap := h.cap
  have hmax := h.max
  subst ek
  have hel : Try.prog.elem t = e := by simp [Program.elem, ht]
  refine ⟨if c = k then A else A.map (·.add (k * size)), c - k, fun v => ?_, ⟨?_, by omega, by omega, fun eq => ?_, fun hn => ?_⟩⟩
  · rw [run_slice_l (P := Try.prog) (w := v) t A n c (by rw [hel]; exact ht) .i64 k (by omega) (by omega), hel]
    have : (sizeOf e).run Try.prog v = .ok i.size v := by simp [sizeOf, typeInfo, hi]
    rw [this, hsz]
    simp only [Result.andThen, sliced, Int.toNat_natCast]
  · rw [List.length_drop, h.len, Nat.sub_mul]
  · by_cases q : c = k
    · omega
    · rw [if_neg q] at eq
      cases A with
      | none => have := h.nil_ rfl; omega
      | some a => simp at eq
  · obtain ⟨g, off, rfl, hc⟩ := h.at_ (by omega)
    refine ⟨g, off + k * size, ?_, fun j v hv => ?_⟩
    · rw [if_neg (by omega)]
      simp [Addr.add]
    · rw [List.getElem?_drop] at hv
      rw [Nat.add_assoc]
      exact hc _ v hv
end Go.Proofs.Ytomhofppcogojaa

/- page.Set answers the page with another value of a key, or the error. -/
namespace Go.Proofs.Ytomhofppcogojaa
open Go.RowKit

/-- A page in new memory, and an error. -/
def RetPg (r : Pg × Nat) (w : World) (e : Ending) (w' : World) : Prop := ∃ A n c, e = .returned (.tuple #[pgV r.1.lsn A n c, .int .i64 r.2]) ∧ OwnP w.heap.size w' A n c r.1.cells ∧ Below w.heap.size w w'

/-- What Set has in memory: the page, the value, what it answers, the new cell. -/
structure SetW (w : World) (r : Nat) (lsn0 : Int) (A : Option Addr) (n c : Nat) (x : Cl) : Prop where
  pg : Bk w r 24 #[.int .i64 lsn0, .slice A n c]
  vl : Bk w (r + 1) 61 #[.bool x.val.has, .string x.val.data]
  out : Bk w (r + 2) 24 #[.int .i64 0, .slice none 0 0]
  cl : Bk w (r + 3) 63 #[.string x.key, .bool x.val.has, .string x.val.data]
theorem SetW.below {w w' : World} {r : Nat} {lsn0 : Int} {A : Option Addr} {n c : Nat} {x : Cl} (h : SetW w r lsn0 A n c x) (hb : Below w.heap.size w w') : SetW w' r lsn0 A n c x :=
  ⟨h.pg.bel hb h.pg.lt, h.vl.bel hb h.vl.lt, h.out.bel hb h.out.lt, h.cl.bel hb h.cl.lt⟩
theorem SetW.new (w : World) (lsn0 : Int) (A : Option Addr) (n c : Nat) (x : Cl) : SetW ((((w.alloc (.cells #[.int .i64 lsn0, .slice A n c] 24)).alloc (.cells #[.bool x.val.has, .string x.val.data] 61)).alloc (.cells #[.int .i64 0, .slice none 0 0] 24)).alloc (.cells #[.string x.key, .bool x.val.has, .string x.val.data] 63)) w.heap.size lsn0 A n c x := by
  obtain ⟨w1, h1⟩ : ∃ x, x = w.alloc (.cells #[.int .i64 lsn0, .slice A n c] 24) := ⟨_, rfl⟩
  obtain ⟨w2, h2⟩ : ∃ v, v = w1.alloc (.cells #[.bool x.val.has, .string x.val.data] 61) := ⟨_, rfl⟩
  obtain ⟨w3, h3⟩ : ∃ v, v = w2.alloc (.cells #[.int .i64 0, .slice none 0 0] 24) := ⟨_, rfl⟩
  obtain ⟨w4, h4⟩ : ∃ v, v = w3.alloc (.cells #[.string x.key, .bool x.val.has, .string x.val.data] 63) := ⟨_, rfl⟩
  rw [← h1, ← h2, ← h3, ← h4]
  have s1 : w1.heap.size = w.heap.size + 1 := by rw [h1, World.size_alloc]
  have s2 : w2.heap.size = w.heap.size + 2 := by rw [h2, World.size_alloc, s1]
  have s3 : w3.heap.size = w.heap.size + 3 := by rw [h3, World.size_alloc, s2]
  have b2 : Below w1.heap.size w1 w2 := by rw [h2]; exact (Below.refl _ _).alloc (Nat.le_refl _) _
  have b3 : Below w2.heap.size w2 w3 := by rw [h3]; exact (Below.refl _ _).alloc (Nat.le_refl _) _
  have b4 : Below w3.heap.size w3 w4 := by rw [h4]; exact (Below.refl _ _).alloc (Nat.le_refl _) _
  have k1 : Bk w1 w.heap.size 24 #[.int .i64 lsn0, .slice A n c] := by rw [h1]; exact Bk.new w _ _
  have k2 : Bk w2 (w.heap.size + 1) 61 #[.bool x.val.has, .string x.val.data] := by rw [h2, ← s1]; exact Bk.new w1 _ _
  have k3 : Bk w3 (w.heap.size + 2) 24 #[.int .i64 0, .slice none 0 0] := by rw [h3, ← s2]; exact Bk.new w2 _ _
  have k4 : Bk w4 (w.heap.size + 3) 63 #[.string x.key, .bool x.val.has, .string x.val.data] := by rw [h4, ← s3]; exact Bk.new w3 _ _
  exact ⟨((k1.bel b2 (by omega)).bel b3 (by omega)).bel b4 (by omega), (k2.bel b3 (by omega)).bel b4 (by omega), k3.bel b4 (by omega), k4⟩
theorem setW_below (w : World) (lsn0 : Int) (A : Option Addr) (n c : Nat) (x : Cl) : Below w.heap.size w ((((w.alloc (.cells #[.int .i64 lsn0, .slice A n c] 24)).alloc (.cells #[.bool x.val.has, .string x.val.data] 61)).alloc (.cells #[.int .i64 0, .slice none 0 0] 24)).alloc (.cells #[.string x.key, .bool x.val.has, .string x.val.data] 63)) :=
  ((((Below.refl _ _).alloc (Nat.le_refl _) _).alloc (by simp) _).alloc (by simp; omega) _).alloc (by simp; omega) _

/-- The answer beside an error. -/
theorem SetW.zero {w w' : World} {lsn0 : Int} {A : Option Addr} {n c : Nat} {x : Cl} (h : SetW w' w.heap.size lsn0 A n c x) (hb : Below w.heap.size w w') (er : Nat) :
    Bk ((w'.setCell ⟨w.heap.size + 2, 0, none⟩ (.int .i64 0)).setCell ⟨w.heap.size + 2, 1, none⟩ (.slice none 0 0)) (w.heap.size + 2) 24 #[.int .i64 0, .slice none 0 0] ∧
    RetPg (pg0, er) w (.returned (.tuple #[pgV 0 none 0 0, .int .i64 er])) ((w'.setCell ⟨w.heap.size + 2, 0, none⟩ (.int .i64 0)).setCell ⟨w.heap.size + 2, 1, none⟩ (.slice none 0 0)) := by
  refine ⟨by simpa using (h.out.setc 0 (.int .i64 0)).setc 1 (.slice none 0 0), none, 0, 0, rfl, OwnP.nil _ _, ?_⟩
  exact (hb.setCell (p := ⟨w.heap.size + 2, 0, none⟩) (by simp) _).setCell (p := ⟨w.heap.size + 2, 1, none⟩) (by simp) _

end Go.Proofs.Ytomhofppcogojaa
