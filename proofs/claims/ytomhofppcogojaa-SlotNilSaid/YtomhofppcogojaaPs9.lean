/- What it says: contracts and plain mathematics that the laws' walks use, 9 of 10: each part's own remark says what; no condition. -/
import Derived.Test.YtomhofppcogojaaPs1
import Derived.Test.YtomhofppcogojaaPs2
import Derived.Test.YtomhofppcogojaaPs3
import Derived.Test.YtomhofppcogojaaPs5
import Derived.Test.YtomhofppcogojaaPs0
import Derived.Test.YtomhofppcogojaaPs7
import Derived.Test.YtomhofppcogojaaPs8

set_option linter.unusedSimpArgs false
set_option linter.unusedVariables false
set_option linter.deprecated false
set_option linter.unusedSectionVars false
set_option linter.all false

/- page.Encode answers a page's payload, or the error. -/
namespace Go.Proofs.Ytomhofppcogojaa
open Go.RowKit

/-- What Encode answers. -/
noncomputable def encPg (p : Pg) : List Int × Nat := if p.ok then (pgL p, 0) else ([], 1)
theorem encPg_ok {p : Pg} (h : p.ok) : encPg p = (pgL p, 0) := if_pos h
theorem encPg_no {p : Pg} (h : ¬ p.ok) : encPg p = ([], 1) := if_neg h
def RetEncP (r : List Int × Nat) (w : World) (e : Ending) (w' : World) : Prop :=
  ∃ A n c, e = .returned (.tuple #[.slice A n c, .int .i64 r.2]) ∧ w'.ownsRow w.heap.size 5 1 (.slice A n c) n (r.1.map (Value.int .u8)) ∧ (∀ x ∈ r.1, 0 ≤ x ∧ x < 256) ∧ Below w.heap.size w w'
theorem RetEncP.nil {w w' : World} (er : Nat) (hb : Below w.heap.size w w') : RetEncP ([], er) w (.returned (.tuple #[.slice none 0 0, .int .i64 er])) w' :=
  ⟨none, 0, 0, rfl, ⟨by simp, .inl ⟨rfl, rfl⟩⟩, by simp, hb⟩

theorem cl_small {c : Cl} (h : clOk c) : c.key.size ≤ 16 ∧ c.val.data.size ≤ 32 := by
  refine ⟨h.1.2, ?_⟩
  have := h.2
  unfold vlOk at this
  split at this
  · omega
  · rw [this]; simp
theorem own_lo {base base' k n : Nat} {e : TypeId} {w : World} {v : Value} {xs : List Value} (h : w.ownsRow base e k v n xs) (hb : base' ≤ base) : w.ownsRow base' e k v n xs := by
  refine ⟨h.1, ?_⟩
  rcases h.2 with q | ⟨g, cap, cur, q1, q2, q3⟩
  · exact .inl q
  · exact .inr ⟨g, cap, cur, q1, Nat.le_trans hb q2, q3⟩
/-- What is written of the first k cells. -/
def cellsL (l : List Cl) (k : Nat) : List Int := (l.take k).flatMap clL
theorem cellsL_next {l : List Cl} {k : Nat} (h : k < l.length) : cellsL l (k + 1) = cellsL l k ++ clL (l.getD k default) := by
  unfold cellsL
  rw [takeC_succ l k h, List.flatMap_append, List.flatMap_singleton]
theorem cellsL_len {l : List Cl} (h : ∀ c ∈ l, clOk c) (k : Nat) (hl : l.length ≤ 4) : (cellsL l k).length ≤ 204 := by
  have := cells_len (l := l.take k) (fun c hc => h c (List.mem_of_mem_take hc))
  rw [List.length_take] at this
  show ((l.take k).flatMap clL).length ≤ 204
  omega

set_option maxRecDepth 100000 in
set_option maxHeartbeats 4000000 in
theorem putCell_any (base b : Nat) (l : List Int) (c : Cl) (w : World) (h : Wrt w base b l) (hc : clOk c) (hl : l.length ≤ 1000000) :
    Calls Try.prog 45 #[.pointer (some ⟨b, 0, none⟩), .agg c.cells.toArray] w (RetT base b (l ++ clL c) w) := by
  obtain ⟨hk, hd⟩ := cl_small hc
  obtain ⟨k, ⟨f, d⟩⟩ := c
  simp only at hk hd
  show Calls _ _ #[.pointer (some ⟨b, 0, none⟩), .agg #[.string k, .bool f, .string d]] w _
  obtain ⟨W1, hW1⟩ : ∃ W, W = w.alloc (.cells #[.string k, .bool f, .string d] 63) := ⟨_, rfl⟩
  have b1 : Below w.heap.size w W1 := by rw [hW1]; exact (Below.refl _ _).alloc (Nat.le_refl _) _
  have hbase : base ≤ w.heap.size := h.base_le
  have hne : w.heap.size ≠ b := by have := h.lt; omega
  have H1 := Lib.hid (h.ret b1)
  have K1 : Hid (Bk W1 w.heap.size 63 #[.string k, .bool f, .string d]) := Lib.hid (by rw [hW1]; exact Bk.new w _ _)
  have B1 := Lib.hid b1
  have HW := Lib.hid hW1
  have k0 : W1.cell? ⟨w.heap.size, 0, none⟩ = some (.string k) := K1.out.cell 0
  have C1 := Lib.hid (textT base b l k W1 H1.out (by omega))
  have hlk : (textL (nums k)).length ≤ k.size + 10 := by have := textL_len (nums k) (by rw [nums_len]; omega); rw [nums_len] at this; exact this
  clear h b1 hW1
  go_enter Try.func45, Try.ntmps45
  go_upto_region 1 with fail
  rw [← HW.out]
  go_wp2_with fail
  refine C1.out.mono ?_
  rintro e w2 ⟨⟨rfl, hw2, hb2⟩, s2⟩
  have K2 := Lib.hid (s2 _ _ _ hne (by decide) K1.out)
  have S2 := Lib.hid s2
  have H2 := Lib.hid hw2
  have B2 := Lib.hid ((B1.out.mono hbase).trans hb2)
  have k1 : w2.cell? ⟨w.heap.size, 1, none⟩ = some (.bool f) := K2.out.cell 1
  have C2 := Lib.hid (flagT base b (l ++ textL (nums k)) f w2 H2.out (by rw [List.length_append]; omega))
  clear s2 hw2 hb2 C1 k0 H1
  go_wp2_with fail
  refine C2.out.mono ?_
  rintro e w3 ⟨⟨rfl, hw3, hb3⟩, s3⟩
  have K3 := Lib.hid (s3 _ _ _ hne (by decide) K2.out)
  have S3 : Hid (Stn b w w3) := Lib.hid ((Stn.of_below B1.out).then (S2.out.then s3))
  have H3 := Lib.hid hw3
  have B3 := Lib.hid (B2.out.trans hb3)
  have y1 : w3.cell? ⟨w.heap.size, 1, none⟩ = some (.bool f) := K3.out.cell 1
  have y2 : w3.cell? ⟨w.heap.size, 2, none⟩ = some (.string d) := K3.out.cell 2
  clear s3 hw3 hb3 C2 k1 H2 S2 B2 K2
  cases f with
  | false =>
    have R : Hid (RetT base b (l ++ clL ⟨k, ⟨false, d⟩⟩) w (.returned (.tuple #[])) w3) := Lib.hid ⟨⟨rfl, by
      have := H3.out
      rw [List.append_assoc] at this
      unfold clL valL
      simpa using this, B3.out⟩, S3.out⟩
    go_wp2_with fail
    go_end0
    exact R.out
  | true =>
    have C3 := Lib.hid (textT base b ((l ++ textL (nums k)) ++ flagL true) d w3 H3.out (by simp only [List.length_append]; have : (flagL true).length = 1 := rfl; omega))
    go_wp2_with fail
    refine C3.out.mono ?_
    rintro e w4 ⟨⟨rfl, hw4, hb4⟩, s4⟩
    have R : Hid (RetT base b (l ++ clL ⟨k, ⟨true, d⟩⟩) w (.returned (.tuple #[])) w4) := Lib.hid ⟨⟨rfl, by
      have := hw4
      unfold clL valL
      simp only [List.append_assoc, if_true] at this ⊢
      exact this, B3.out.trans hb4⟩, S3.out.then s4⟩
    clear hw4 hb4 s4 C3
    go_wp2_with fail
    go_end0
    exact R.out

set_option maxRecDepth 100000 in
set_option maxHeartbeats 8000000 in
theorem pgEnc_any (lsn : Int) (A : Option Addr) (n c : Nat) (l : List Cl) (w : World) (h : Pcs w A n c l) :
    Calls Try.prog 28 #[pgV lsn A n c] w (RetEncP (encPg ⟨lsn, l⟩) w) := by
  have hcap := h.flt.cap
  have hmax := h.flt.max
  unfold maxLen at hmax
  have hlen := Lib.hid h.len
  obtain ⟨W0, hW0⟩ : ∃ W, W = w.alloc (.cells #[.int .i64 lsn, .slice A n c] 24) := ⟨_, rfl⟩
  have HB : Hid (Below w.heap.size w W0) := Lib.hid (by rw [hW0]; exact (Below.refl _ _).alloc (Nat.le_refl _) _)
  have BP : Hid (Bk W0 w.heap.size 24 #[.int .i64 lsn, .slice A n c]) := Lib.hid (by rw [hW0]; exact Bk.new w _ _)
  have HP := Lib.hid (h.below HB.out)
  have p0 : W0.cell? ⟨w.heap.size, 0, none⟩ = some (.int .i64 lsn) := BP.out.cell 0
  have p1 : W0.cell? ⟨w.heap.size, 1, none⟩ = some (.slice A n c) := BP.out.cell 1
  have C := isPage_any lsn A n c l W0 HP.out
  have HW := Lib.hid hW0
  have HP0 := Lib.hid h
  clear h hW0
  by_cases hok : (⟨lsn, l⟩ : Pg).ok
  rotate_left
  · rw [decide_eq_false hok] at C
    have C := Lib.hid C
    rw [encPg_no hok]
    clear hok
    go_enter Try.func28, Try.ntmps28
    go_upto_region 1 with fail
    rw [← HW.out]
    go_wp2_with fail
    refine C.out.mono ?_
    rintro e w1 ⟨rfl, b1⟩
    have R := Lib.hid (RetEncP.nil (w := w) 1 (Below.then HB.out b1))
    clear b1 C
    go_wp2_with fail
    go_ret2
    exact R.out
  rw [decide_eq_true hok] at C
  have C := Lib.hid C
  rw [encPg_ok hok]
  obtain ⟨⟨hl0, hl1⟩, hl4, hcl⟩ := hok
  simp only at hl0 hl1 hl4 hcl
  have hall := ((clsOk_pw l).1 hcl).1
  have HALL := Lib.hid hall
  obtain ⟨z, rfl⟩ := Int.eq_ofNat_of_zero_le hl0
  have hzl : (numL (z : Int)).length ≤ 10 := numL_len _ (by omega)
  have hnl : (numL (n : Int)).length ≤ 10 := numL_len _ (by have := hlen.out; omega)
  have hn4 : n ≤ 4 := by rw [← hlen.out]; exact hl4
  have HCL : Hid (∀ k, (cellsL l k).length ≤ 204) := Lib.hid (fun k => cellsL_len hall k hl4)
  clear hcl hall hl4
  go_enter Try.func28, Try.ntmps28
  go_upto_region 1 with fail
  rw [← HW.out]
  go_wp2_with fail
  refine C.out.mono ?_
  rintro e w1 ⟨rfl, b1⟩
  have B1 := Lib.hid (Below.then HB.out b1)
  have P1 := Lib.hid (BP.out.bel b1 BP.out.lt)
  clear b1 C p0 p1
  go_upto_region 4 with fail
  obtain ⟨W2, hW2⟩ : ∃ W, W = w1.alloc (.cells #[.slice none 0 0] 91) := ⟨_, rfl⟩
  rw [← hW2]
  have b2 : Below w1.heap.size w1 W2 := by rw [hW2]; exact (Below.refl _ _).alloc (Nat.le_refl _) _
  have H2 : Hid (Wrt W2 w1.heap.size w1.heap.size []) := Lib.hid (by rw [hW2]; exact Wrt.new w1)
  have P2 := Lib.hid (P1.out.bel b2 P1.out.lt)
  have B2 := Lib.hid (Below.then B1.out b2)
  have hwb : w.heap.size < w1.heap.size := P1.out.lt
  have hne : w.heap.size ≠ w1.heap.size := by omega
  clear hW2 b2 P1
  have p0 : W2.cell? ⟨w.heap.size, 0, none⟩ = some (.int .i64 (z : Int)) := P2.out.cell 0
  have p1 : W2.cell? ⟨w.heap.size, 1, none⟩ = some (.slice A n c) := P2.out.cell 1
  obtain ⟨wb, hwbe⟩ : ∃ x, w1.heap.size = x := ⟨_, rfl⟩
  rw [hwbe] at H2 hwb hne
  (try rw [hwbe])
  have C3 := Lib.hid (numT wb wb [] z W2 H2.out (by omega) (by simp))
  go_wp2_with fail
  refine C3.out.mono ?_
  rintro e w3 ⟨⟨rfl, hw3, hb3⟩, s3⟩
  have P3 := Lib.hid (s3 _ _ _ hne (by decide) P2.out)
  have H3 := Lib.hid hw3
  have B3 := Lib.hid (B2.out.trans (hb3.mono (Nat.le_of_lt hwb)))
  clear hw3 hb3 s3 C3 p0 p1 P2 H2 B2
  have p1 : w3.cell? ⟨w.heap.size, 1, none⟩ = some (.slice A n c) := P3.out.cell 1
  have C4 := Lib.hid (numT wb wb ([] ++ numL (z : Int)) n w3 H3.out (by omega) (by simp; omega))
  go_wp2_with fail
  refine C4.out.mono ?_
  rintro e w4 ⟨⟨rfl, hw4, hb4⟩, s4⟩
  have P4 := Lib.hid (s4 _ _ _ hne (by decide) P3.out)
  obtain ⟨pre, hpre⟩ : ∃ x, ([] ++ numL (z : Int)) ++ numL (n : Int) = x := ⟨_, rfl⟩
  have hprel : pre.length ≤ 20 := by rw [← hpre]; simp only [List.length_append, List.length_nil]; omega
  rw [hpre] at hw4
  have H4 := Lib.hid hw4
  have B4 := Lib.hid (B3.out.trans (hb4.mono (Nat.le_of_lt hwb)))
  have HPRE := Lib.hid hpre
  clear hw4 hb4 s4 C4 p1 P3 H3 B3 hpre
  have p1 : w4.cell? ⟨w.heap.size, 1, none⟩ = some (.slice A n c) := P4.out.cell 1
  go_wp2_with fail
  go_loopw [20] (fun y wr => ∃ k : Nat, k ≤ n ∧ y = .int .i64 k ∧ Wrt wr wb wb (pre ++ cellsL l k) ∧ Bk wr w.heap.size 24 #[.int .i64 (z : Int), .slice A n c] ∧ Below w.heap.size w wr) (fun y _ => n - (intOf y).toNat)
  case atStart => exact ⟨0, Nat.zero_le _, rfl, by simpa [cellsL] using H4.out, P4.out, B4.out⟩
  case round =>
    obtain ⟨k, hk, rfl, hw, hp, hb⟩ := hrel
    have H := Lib.hid hw
    have PB := Lib.hid hp
    have B := Lib.hid hb
    clear hw hp H4 P4 B4 p1
    by_cases hlt : k < n
    · have hlt' : (k : Int) < (n : Int) := by omega
      obtain ⟨g, off, rfl, _, hc⟩ := (HP0.out.below hb).get (by omega)
      obtain ⟨a0, a1, a2⟩ := hc k hlt
      obtain ⟨x, hx⟩ : ∃ x, l.getD k default = x := ⟨_, rfl⟩
      have hxok : clOk x := by
        rw [← hx, List.getD_eq_getElem?_getD, List.getElem?_eq_getElem (by rw [hlen.out]; exact hlt)]
        exact HALL.out _ (List.getElem_mem _)
      rw [hx] at a0 a1 a2
      have HN : Hid ((pre ++ cellsL l k) ++ clL x = pre ++ cellsL l (k + 1)) := Lib.hid (by rw [cellsL_next (by rw [hlen.out]; exact hlt), hx, List.append_assoc])
      obtain ⟨key, ⟨f, d⟩⟩ := x
      simp only at a0 a1 a2
      have b5 : Below wr.heap.size wr (wr.alloc (.cells #[.string key, .bool f, .string d] 63)) := (Below.refl _ _).alloc (Nat.le_refl _) _
      have CP : Calls Try.prog 45 #[.pointer (some ⟨wb, 0, none⟩), .agg #[.string key, .bool f, .string d]] (wr.alloc (.cells #[.string key, .bool f, .string d] 63)) _ := putCell_any wb wb (pre ++ cellsL l k) ⟨key, ⟨f, d⟩⟩ _ (H.out.ret b5) hxok (by rw [List.length_append]; have := HCL.out k; omega)
      have CP := Lib.hid CP
      have P5 := Lib.hid (PB.out.bel b5 PB.out.lt)
      have B5 := Lib.hid (Below.then B.out b5)
      clear hb hc hx hxok b5
      go_wp2_with fail
      refine CP.out.mono ?_
      rintro e w6 ⟨⟨rfl, hw6, hb6⟩, s6⟩
      rw [HN.out] at hw6
      have H6 := Lib.hid hw6
      have P6 := Lib.hid (s6 _ _ _ hne (by decide) P5.out)
      have B6 := Lib.hid (B5.out.trans (hb6.mono (Nat.le_of_lt hwb)))
      clear hw6 hb6 s6 CP a0 a1 a2 H PB B P5 B5
      go_wp2_with fail
      go_roundw
      case rel => exact ⟨k + 1, by omega, by go_num, H6.out, P6.out, B6.out⟩
      case measure => simp [intOf]; omega
    · obtain rfl : k = n := by omega
      have CB := Lib.hid (wBytes_own wb wb (pre ++ cellsL l k) wr H.out (by rw [List.length_append]; have := HCL.out k; omega))
      have E : Hid (pre ++ cellsL l k = pgL ⟨(z : Int), l⟩) := Lib.hid (by
        rw [← HPRE.out]
        unfold cellsL pgL encList
        rw [List.take_of_length_le (by rw [hlen.out]; omega)]
        simp only [List.nil_append, List.append_assoc, hlen.out])
      clear hb hlt
      go_wp2_with fail
      refine CB.out.mono ?_
      rintro e w7 ⟨A7, n7, c7, rfl, ho7, hr7, b7⟩
      have R : Hid (RetEncP (pgL ⟨(z : Int), l⟩, 0) w (.returned (.tuple #[.slice A7 n7 c7, .int .i64 0])) w7) := Lib.hid (by
        rw [E.out] at ho7 hr7
        exact ⟨A7, n7, c7, rfl, own_lo ho7 B.out.size, hr7, Below.then B.out b7⟩)
      clear ho7 hr7 b7 CB
      go_wp2_with fail
      go_ret2
      exact R.out
end Go.Proofs.Ytomhofppcogojaa

/- slot.Save at a disk among other things: what it answers, what becomes of the disk. -/
namespace Go.Proofs.Ytomhofppcogojaa
open Go.RowKit

theorem slOk_iff {base n turn : Int} {p : Pg} : slOk base n turn p ↔ (1 ≤ turn ∧ turn ≤ 1099511627776) ∧ plOk base n ∧ p.ok := Iff.rfl
theorem sl_no {s : St} {base n turn : Int} {p : Pg} (h : ¬ slOk base n turn p) : slE s base n turn p = 1 ∧ slS s base n turn p = s := ⟨if_neg h, if_neg h⟩
theorem sl_yes {s : St} {base n turn : Int} {p : Pg} (h : slOk base n turn p) : slE s base n turn p = svE s (slSec base n turn) (bodyV turn p) ∧ slS s base n turn p = svS s (slSec base n turn) (bodyV turn p) := ⟨if_pos h, if_pos h⟩

set_option maxRecDepth 100000 in
set_option maxHeartbeats 8000000 in
theorem slSave_any {B : Nat} {R : Res} {w : World} {b : Nat} {s : St} (h : Has B ((dsk b s).star R) w) (hB : B ≤ w.heap.size) (base n turn lsn : Int) (A : Option Addr) (m c : Nat) (l : List Cl) (hp : Pcs w A m c l) (hlim : s.pend.length < 999999) (hlim2 : s.syncs < 999999) :
    Calls Try.prog 10 #[.pointer (some ⟨b, 0, none⟩), .int .i64 base, .int .i64 n, .int .i64 turn, pgV lsn A m c] w (RetHas (.int .i64 (slE s base n turn ⟨lsn, l⟩)) B ((dsk b (slS s base n turn ⟨lsn, l⟩)).star R) w) := by
  obtain ⟨W0, hW0⟩ : ∃ W0, W0 = w.alloc (.cells #[.int .i64 lsn, .slice A m c] 24) := ⟨_, rfl⟩
  have hbel0 : Below w.heap.size w W0 := by rw [hW0]; exact (Below.refl _ _).alloc (Nat.le_refl _) _
  have BP : Hid (Bk W0 w.heap.size 24 #[.int .i64 lsn, .slice A m c]) := Lib.hid (by rw [hW0]; exact Bk.new w _ _)
  have B0 : Hid (Below B w W0) := Lib.hid (hbel0.mono hB)
  have D0 := Lib.hid (h.below hbel0)
  have P0 := Lib.hid (hp.below hbel0)
  have HBW := Lib.hid (Nat.le_trans hB hbel0.size)
  obtain ⟨r, hr⟩ : ∃ r, w.heap.size = r := ⟨_, rfl⟩
  rw [hr] at BP
  have HR := Lib.hid hr
  have HW := Lib.hid hW0
  have CT := isTurn_any turn W0
  clear h hp hW0 hbel0 hr
  by_cases h1 : 1 ≤ turn ∧ turn ≤ 1099511627776
  rotate_left
  · have EQ := Lib.hid (sl_no (s := s) (base := base) (n := n) (p := ⟨lsn, l⟩) (fun q => h1 (slOk_iff.1 q).1))
    rw [decide_eq_false h1] at CT
    have CT := Lib.hid CT
    clear h1
    go_enter Try.func10, Try.ntmps10
    go_wp2_with fail
    rw [← HW.out]
    refine CT.out.mono ?_
    rintro e W1 ⟨rfl, b1⟩
    have F := Lib.hid (And.intro (D0.out.below b1) (B0.out.trans (b1.mono HBW.out)))
    clear b1 CT
    go_wp2_with fail
    go_ret
    rw [EQ.out.1, EQ.out.2]
    exact ⟨rfl, F.out.1, F.out.2⟩
  rw [decide_eq_true h1] at CT
  have CT := Lib.hid CT
  have CP := fun W => isPlace_any base n W
  by_cases h2 : plOk base n
  rotate_left
  · have EQ := Lib.hid (sl_no (s := s) (turn := turn) (p := ⟨lsn, l⟩) (fun q => h2 (slOk_iff.1 q).2.1))
    rw [decide_eq_false h2] at CP
    have CP := Lib.hid CP
    clear h1 h2
    go_enter Try.func10, Try.ntmps10
    go_wp2_with fail
    rw [← HW.out]
    refine CT.out.mono ?_
    rintro e W1 ⟨rfl, b1⟩
    have D1 := Lib.hid (D0.out.below b1)
    have B1 := Lib.hid (B0.out.trans (b1.mono HBW.out))
    have HB1 := Lib.hid (Nat.le_trans HBW.out b1.size)
    clear b1 CT
    go_wp2_with fail
    refine (CP.out _).mono ?_
    rintro e W2 ⟨rfl, b2⟩
    have F := Lib.hid (And.intro (D1.out.below b2) (B1.out.trans (b2.mono HB1.out)))
    clear b2 CP
    go_wp2_with fail
    go_ret
    rw [EQ.out.1, EQ.out.2]
    exact ⟨rfl, F.out.1, F.out.2⟩
  rw [decide_eq_true h2] at CP
  have CP := Lib.hid CP
  have HT := Lib.hid h1
  have HPL := Lib.hid h2
  go_enter Try.func10, Try.ntmps10
  go_wp2_with fail
  rw [← HW.out]
  (try rw [HR.out])
  refine CT.out.mono ?_
  rintro e W1 ⟨rfl, b1⟩
  have D1 := Lib.hid (D0.out.below b1)
  have B1 := Lib.hid (B0.out.trans (b1.mono HBW.out))
  have HB1 := Lib.hid (Nat.le_trans HBW.out b1.size)
  have P1 := Lib.hid (P0.out.below b1)
  have K1 := Lib.hid (BP.out.bel b1 BP.out.lt)
  clear b1 CT D0 B0 HBW P0 BP HW
  go_wp2_with fail
  refine (CP.out _).mono ?_
  rintro e W2 ⟨rfl, b2⟩
  have D2 := Lib.hid (D1.out.below b2)
  have B2 := Lib.hid (B1.out.trans (b2.mono HB1.out))
  have HB2 := Lib.hid (Nat.le_trans HB1.out b2.size)
  have P2 := Lib.hid (P1.out.below b2)
  have K2 := Lib.hid (K1.out.bel b2 K1.out.lt)
  clear b2 CP D1 B1 HB1 P1 K1 h1 h2
  have p0 : W2.cell? ⟨r, 0, none⟩ = some (.int .i64 lsn) := K2.out.cell 0
  have p1 : W2.cell? ⟨r, 1, none⟩ = some (.slice A m c) := K2.out.cell 1
  have CE := pgEnc_any lsn A m c l W2 P2.out
  by_cases h3 : (⟨lsn, l⟩ : Pg).ok
  rotate_left
  · have EQ := Lib.hid (sl_no (s := s) (base := base) (n := n) (turn := turn) (p := ⟨lsn, l⟩) (fun q => h3 (slOk_iff.1 q).2.2))
    rw [encPg_no h3] at CE
    have CE := Lib.hid CE
    clear h3
    go_wp2_with fail
    refine CE.out.mono ?_
    rintro e W3 ⟨A3, n3, c3, rfl, ho3, hr3, b3⟩
    have F := Lib.hid (And.intro (D2.out.below b3) (B2.out.trans (b3.mono HB2.out)))
    clear b3 CE ho3 hr3 p0 p1
    go_wp2_with fail
    go_ret
    rw [EQ.out.1, EQ.out.2]
    exact ⟨rfl, F.out.1, F.out.2⟩
  have EQ := Lib.hid (sl_yes (s := s) (base := base) (n := n) (turn := turn) (p := ⟨lsn, l⟩) (slOk_iff.2 ⟨HT.out, HPL.out, h3⟩))
  rw [encPg_ok h3] at CE
  have CE := Lib.hid CE
  have HLP := Lib.hid (pgL_len h3)
  clear h3
  go_wp2_with fail
  refine CE.out.mono ?_
  rintro e W3 ⟨A3, n3, c3, rfl, ho3, hr3, b3⟩
  have hn3 : n3 ≤ 254 := by
    have := ho3.1
    have h2 := HLP.out
    simp at this h2
    omega
  have Y3 := Lib.hid (Byt.of_own ho3 hr3)
  have D3 := Lib.hid (D2.out.below b3)
  have B3 := Lib.hid (B2.out.trans (b3.mono HB2.out))
  have HB3 := Lib.hid (Nat.le_trans HB2.out b3.size)
  clear b3 CE ho3 hr3 D2 B2 HB2 P2 K2 p0 p1 HLP
  have CS := Lib.hid (slSec_any base n turn HPL.out (by have := HT.out; omega) W3)
  have hzb : 0 ≤ slSec base n turn ∧ slSec base n turn ≤ 1000000 := by
    have q1 := HPL.out
    have q2 := HT.out
    unfold plOk at q1
    unfold slSec
    omega
  obtain ⟨z, hz⟩ : ∃ z, slSec base n turn = z := ⟨_, rfl⟩
  obtain ⟨bd, hbd⟩ : ∃ z, bodyV turn ⟨lsn, l⟩ = z := ⟨_, rfl⟩
  rw [hz] at CS hzb
  have EQ : Hid (slE s base n turn ⟨lsn, l⟩ = svE s z bd ∧ slS s base n turn ⟨lsn, l⟩ = svS s z bd) := Lib.hid (by
    have := EQ.out
    rwa [hz, hbd] at this)
  have HBD : Hid (numL turn ++ pgL ⟨lsn, l⟩ = bd) := Lib.hid hbd
  clear hz hbd
  go_wp2_with fail
  refine CS.out.mono ?_
  rintro e W4 ⟨rfl, b4⟩
  have Y4 := Lib.hid (Y3.out.below b4)
  have D4 := Lib.hid (D3.out.below b4)
  have B4 := Lib.hid (B3.out.trans (b4.mono HB3.out))
  have HB4 := Lib.hid (Nat.le_trans HB3.out b4.size)
  clear b4 CS Y3 D3 B3 HB3
  have CE := slEnc_any turn (by have := HT.out; omega) A3 n3 c3 _ W4 Y4.out (by omega)
  have HBD' : numL turn ++ (pgL ⟨lsn, l⟩, 0).1 = bd := HBD.out
  rw [HBD'] at CE
  have CE := Lib.hid CE
  clear HBD'
  go_wp2_with fail
  refine CE.out.mono ?_
  rintro e W5 ⟨A5, n5, c5, rfl, ho5, hr5, b5⟩
  have Y5 := Lib.hid (Byt.of_own ho5 hr5)
  have D5 := Lib.hid (D4.out.below b5)
  have B5 := Lib.hid (B4.out.trans (b5.mono HB4.out))
  have HB5 := Lib.hid (Nat.le_trans HB4.out b5.size)
  clear b5 CE ho5 hr5 Y4 D4 B4 HB4
  have CW := stPut_any D5.out HB5.out A5 n5 c5 bd Y5.out z (by omega) hlim
  obtain ⟨pe, hpe⟩ : ∃ x, putE s z bd = x := ⟨_, rfl⟩
  obtain ⟨ps, hps⟩ : ∃ x, putS s z bd = x := ⟨_, rfl⟩
  have hsy : ps.syncs < 999999 := by rw [← hps, sl_putS_syncs]; exact hlim2
  rw [hpe, hps] at CW
  have CW := Lib.hid CW
  have HPE := Lib.hid hpe
  have HPS := Lib.hid hps
  clear hpe hps hlim hlim2 hzb
  go_wp2_with fail
  refine CW.out.mono ?_
  rintro e W6 ⟨rfl, h6, b6⟩
  have D6 := Lib.hid h6
  have B6 := Lib.hid (B5.out.trans b6)
  have HB6 := Lib.hid (Nat.le_trans HB5.out b6.size)
  clear h6 b6 CW Y5 D5 B5 HB5
  by_cases hp : pe = 0
  rotate_left
  · have EQ2 : Hid (svE s z bd = pe ∧ svS s z bd = ps) := Lib.hid ⟨by unfold svE; rw [if_pos (by rw [HPE.out]; exact hp), HPE.out], by unfold svS; rw [if_pos (by rw [HPE.out]; exact hp), HPS.out]⟩
    have hd : (pe != 0) = true := by simpa using hp
    clear hp
    go_wp2_with fail
    go_ret
    rw [EQ.out.1, EQ.out.2, EQ2.out.1, EQ2.out.2]
    exact ⟨rfl, D6.out, B6.out⟩
  subst hp
  have EQ2 : Hid (svE s z bd = ps.sErr ∧ svS s z bd = ps.sync) := Lib.hid ⟨by unfold svE; rw [if_neg (by rw [HPE.out]; simp), HPS.out], by unfold svS; rw [if_neg (by rw [HPE.out]; simp), HPS.out]⟩
  have CY := Lib.hid (hasD_sync D6.out HB6.out hsy)
  clear hsy
  go_wp2_with fail
  refine CY.out.mono ?_
  rintro e W7 ⟨rfl, h7, b7⟩
  have D7 := Lib.hid h7
  have B7 := Lib.hid (B6.out.trans b7)
  clear h7 b7 CY
  go_wp2_with fail
  go_ret
  rw [EQ.out.1, EQ.out.2, EQ2.out.1, EQ2.out.2]
  exact ⟨rfl, D7.out, B7.out⟩
end Go.Proofs.Ytomhofppcogojaa

/- what is loaded of a plain disk behind saves, crashes and torn writes. No program is named. -/
namespace Go.Proofs.Ytomhofppcogojaa
open Go.RowKit

theorem verP_side {z : Int} {l : List Int} (h : 0 < (verP z l).turn) : (verP z l).turn % 2 = z := by
  by_cases hv : isV z l
  · rw [verP_yes hv]; exact hv.2.2.1
  · rw [verP_no hv] at h
    have h0 : (0 : Int) < 0 := h
    omega
/-- What counts, told by its parity. -/
theorem loadV_even {a b : List Int} (h : (loadV a b).turn % 2 = 0) : loadV a b = verP 0 a ∧ (verP 1 b).turn ≤ (loadV a b).turn := by
  unfold loadV at h ⊢
  split at h
  · rename_i q
    have := verP_side (show 0 < (verP 1 b).turn by have := (verP_turn 0 a).1; omega)
    omega
  · rename_i q
    rw [if_neg q]
    exact ⟨rfl, by omega⟩
theorem loadV_odd {a b : List Int} (h : (loadV a b).turn % 2 = 1) : loadV a b = verP 1 b ∧ (verP 0 a).turn < (loadV a b).turn := by
  unfold loadV at h ⊢
  split at h
  · rename_i q
    rw [if_pos q]
    exact ⟨rfl, q⟩
  · rename_i q
    have := (verP_turn 0 a).1
    by_cases h0 : 0 < (verP 0 a).turn
    · have := verP_side h0; omega
    · omega

/-- One of both sectors of a page is another one. -/
noncomputable def pairV (f : Nat → List Int) (b : Nat) : Vr := loadV (f b) (f (b + 1))
noncomputable def verAt (t : Int) (l : List Int) : Vr := verP (t % 2) l
theorem pair_next {f : Nat → List Int} {b : Nat} {t : Int} {X : List Int} {p : Pg} (ht : t = (pairV f b).turn + 1) (hX : verAt t X = ⟨t, p⟩) : pairV (upd f (b + (t % 2).toNat) X) b = ⟨t, p⟩ := by
  unfold pairV at *
  unfold verAt at hX
  rcases (show t % 2 = 0 ∨ t % 2 = 1 by omega) with e | e
  · rw [e] at hX ⊢
    have h1 := loadV_odd (a := f b) (b := f (b + 1)) (by omega)
    rw [show b + (0 : Int).toNat = b from rfl, upd_here, upd_ne _ _ (by omega)]
    unfold loadV
    rw [hX, if_neg]
    rw [← h1.1]
    show ¬ t < _
    omega
  · rw [e] at hX ⊢
    have h1 := loadV_even (a := f b) (b := f (b + 1)) (by omega)
    rw [show b + (1 : Int).toNat = b + 1 from rfl, upd_here, upd_ne _ _ (by omega)]
    unfold loadV
    rw [hX, if_pos]
    rw [← h1.1]
    show _ < t
    omega
theorem pair_stay {f : Nat → List Int} {b : Nat} {t : Int} {X : List Int} (ht : t = (pairV f b).turn + 1) (hX : verAt t X = vr0) : pairV (upd f (b + (t % 2).toNat) X) b = pairV f b := by
  unfold pairV at *
  unfold verAt at hX
  rcases (show t % 2 = 0 ∨ t % 2 = 1 by omega) with e | e
  · rw [e] at hX ⊢
    have h1 := loadV_odd (a := f b) (b := f (b + 1)) (by omega)
    have h0 := (loadV_turn (f b) (f (b + 1))).1
    rw [show b + (0 : Int).toNat = b from rfl, upd_here, upd_ne _ _ (by omega)]
    conv => lhs; unfold loadV
    rw [hX, if_pos, h1.1]
    rw [← h1.1]
    show (0 : Int) < _
    omega
  · rw [e] at hX ⊢
    have h1 := loadV_even (a := f b) (b := f (b + 1)) (by omega)
    have h0 := (verP_turn 0 (f b)).1
    rw [show b + (1 : Int).toNat = b + 1 from rfl, upd_here, upd_ne _ _ (by omega)]
    conv => lhs; unfold loadV
    rw [hX, if_neg, h1.1]
    show ¬ (_ : Int) < 0
    omega
theorem pair_other {f : Nat → List Int} {b m : Nat} {X : List Int} (h1 : m ≠ b) (h2 : m ≠ b + 1) : pairV (upd f m X) b = pairV f b := by
  unfold pairV
  rw [upd_ne _ _ (fun e => h1 e.symm), upd_ne _ _ (fun e => h2 e.symm)]
theorem pair_same {f : Nat → List Int} {b m : Nat} {X : List Int} (h : X = f m) : pairV (upd f m X) b = pairV f b := by
  have : upd f m X = f := by
    funext i
    unfold upd
    split
    · rename_i e; rw [h, e]
    · rfl
  rw [this]
theorem pairV_turn (f : Nat → List Int) (b : Nat) : 0 ≤ (pairV f b).turn ∧ (pairV f b).turn ≤ 1099511627776 := loadV_turn _ _

/-- What is put for a version is one. -/
theorem verAt_put {s : St} {n : Nat} {t : Int} {p : Pg} (ht : 1 ≤ t ∧ t ≤ 1099511627776) (h : p.ok) : verAt t (putL s n (bodyV t p)) = ⟨t, p⟩ := verP_wrap ht h (nextOf_rng _)
theorem verAt_torn {t : Int} {l : List Int} (h : openE l = 50) : verAt t l = vr0 := verP_torn h
/-- A version that is put, and torn, or not. -/
theorem pair_torn {s : St} {b : Nat} {t : Int} {p : Pg} (ok : s.Ok) (ht : t = (pairV s.syn b).turn + 1) (ht2 : t ≤ 1099511627776) (h : p.ok) (j : Nat) (hj : j ≤ 256) :
    pairV (upd s.syn (b + (t % 2).toNat) (over (putL s (b + (t % 2).toNat) (bodyV t p)) (s.syn (b + (t % 2).toNat)) j)) b = ⟨t, p⟩ ∨
    pairV (upd s.syn (b + (t % 2).toNat) (over (putL s (b + (t % 2).toNat) (bodyV t p)) (s.syn (b + (t % 2).toNat)) j)) b = pairV s.syn b := by
  have h0 := (pairV_turn s.syn b).1
  have ht1 : 1 ≤ t ∧ t ≤ 1099511627776 := ⟨by omega, ht2⟩
  rcases torn_over (s := s) (n := b + (t % 2).toNat) (bodyV_len ht2 h) (bodyV_rng t p) (ok.syn _) j hj with q | q | q
  · rw [q]
    exact .inr (pair_same rfl)
  · rw [q]
    exact .inl (pair_next ht (verAt_put ht1 h))
  · exact .inr (pair_stay ht (verAt_torn q))

/-- Load of a disk of which all is synchronized. -/
theorem Sld.load {N : Nat} {s : St} {k : Nat} (h : Sld N s k) {base n : Nat} (hb : base + 2 * n + 1 < N) (hN : N ≤ 4096) : ldE s.rErr base n = 0 ∧ ldV s.rErr s.rBytes base n = pairV s.syn (base + 2 * n) := by
  obtain ⟨h0, h1⟩ := h.rd (n := base + 2 * n) (by omega)
  obtain ⟨h2, h3⟩ := h.rd (n := base + 2 * n + 1) hb
  have e0 : ((base + 2 * n : Nat) : Int) = (base : Int) + 2 * n := by omega
  have e1 : ((base + 2 * n + 1 : Nat) : Int) = (base : Int) + 2 * n + 1 := by omega
  rw [e0] at h0 h1
  rw [e1] at h2 h3
  have e : ldE s.rErr base n = 0 := by
    unfold ldE
    rw [if_pos (by omega), h0, if_neg (by simp), h2]
  refine ⟨e, ?_⟩
  unfold ldV
  rw [e, if_neg (by simp), h1, h3]
  rfl
end Go.Proofs.Ytomhofppcogojaa

/- slot.Load at a disk, at none; slot.Save at none; the statements' awake() answers true. -/
namespace Go.Proofs.Ytomhofppcogojaa
open Go.RowKit

theorem slLoad_any {B : Nat} {R : Res} {w : World} {b : Nat} {s : St} (h : Has B ((dsk b s).star R) w) (base n : Int) :
    Calls Try.prog 12 #[.pointer (some ⟨b, 0, none⟩), .int .i64 base, .int .i64 n] w (RetLd (ldV s.rErr s.rBytes base n) (ldE s.rErr base n) w) :=
  slLoad_gen (some ⟨b, 0, none⟩) s.rBytes s.rErr base n w (fun z _ hb => hasD_read (h.below hb) z)
theorem slLoad_nil (w : World) (base n : Int) : Calls Try.prog 12 #[.pointer none, .int .i64 base, .int .i64 n] w (RetLd (ldV (fun _ => 2) (fun _ => []) base n) (ldE (fun _ => 2) base n) w) :=
  slLoad_gen none (fun _ => []) (fun _ => 2) base n w (fun z w' _ => (read_nil w' z).mono fun e w'' ⟨he, hw⟩ => ⟨none, 0, 0, he, Byt.nil _, (fun _ _ q => nomatch q), by rw [← hw]; exact Below.refl _ _⟩)

/-- Put at no disk, of a payload that is short enough. -/
theorem slPut_none (w : World) (n : Int) (A : Option Addr) (m c : Nat) (hm : m ≤ 254) : Calls Try.prog 29 #[.pointer none, .int .i64 n, .slice A m c] w (Ret (.int .i64 2) w) := by
  have CR := Lib.hid (read_nil w n)
  go_enter Try.func29, Try.ntmps29
  go_wp2_with fail
  refine CR.out.mono ?_
  rintro e w1 ⟨rfl, rfl⟩
  go_wp2_with fail
  go_ret
  exact ⟨rfl, Below.refl _ _⟩

set_option maxRecDepth 100000 in
set_option maxHeartbeats 4000000 in
/-- Save at no disk. -/
theorem slSave_nil (w : World) (n : Int) (hn : 0 ≤ n ∧ n ≤ 4096) (lsn : Int) (A : Option Addr) (m c : Nat) (l : List Cl) (hp : Pcs w A m c l) :
    Calls Try.prog 10 #[.pointer none, .int .i64 0, .int .i64 n, .int .i64 1, pgV lsn A m c] w (Ret (.int .i64 (if (⟨lsn, l⟩ : Pg).ok then 2 else 1)) w) := by
  obtain ⟨W0, hW0⟩ : ∃ W0, W0 = w.alloc (.cells #[.int .i64 lsn, .slice A m c] 24) := ⟨_, rfl⟩
  have B0 : Hid (Below w.heap.size w W0) := Lib.hid (by rw [hW0]; exact (Below.refl _ _).alloc (Nat.le_refl _) _)
  have BP : Hid (Bk W0 w.heap.size 24 #[.int .i64 lsn, .slice A m c]) := Lib.hid (by rw [hW0]; exact Bk.new w _ _)
  have P0 := Lib.hid (hp.below B0.out)
  have HW := Lib.hid hW0
  have CT := isTurn_any 1 W0
  rw [decide_eq_true ⟨by omega, by omega⟩] at CT
  have CT := Lib.hid CT
  have h2 : plOk 0 n := ⟨⟨by omega, by omega⟩, hn⟩
  have CP := fun W => isPlace_any 0 n W
  rw [decide_eq_true h2] at CP
  have CP := Lib.hid CP
  have HPL := Lib.hid h2
  obtain ⟨er, her⟩ : ∃ er, (if (⟨lsn, l⟩ : Pg).ok then (2 : Int) else 1) = er := ⟨_, rfl⟩
  rw [her]
  have HER := Lib.hid her
  clear hp hW0 h2 her
  go_enter Try.func10, Try.ntmps10
  go_wp2_with fail
  rw [← HW.out]
  refine CT.out.mono ?_
  rintro e W1 ⟨rfl, b1⟩
  have B1 := Lib.hid (Below.then B0.out b1)
  have P1 := Lib.hid (P0.out.below b1)
  have K1 := Lib.hid (BP.out.bel b1 BP.out.lt)
  clear b1 CT B0 P0 BP HW
  go_wp2_with fail
  refine (CP.out _).mono ?_
  rintro e W2 ⟨rfl, b2⟩
  have B2 := Lib.hid (Below.then B1.out b2)
  have P2 := Lib.hid (P1.out.below b2)
  have K2 := Lib.hid (K1.out.bel b2 K1.out.lt)
  clear b2 CP B1 P1 K1
  have p0 : W2.cell? ⟨w.heap.size, 0, none⟩ = some (.int .i64 lsn) := K2.out.cell 0
  have p1 : W2.cell? ⟨w.heap.size, 1, none⟩ = some (.slice A m c) := K2.out.cell 1
  have CE := pgEnc_any lsn A m c l W2 P2.out
  by_cases h3 : (⟨lsn, l⟩ : Pg).ok
  rotate_left
  · have E : Hid (er = 1) := Lib.hid (HER.out.symm.trans (if_neg h3))
    rw [encPg_no h3] at CE
    have CE := Lib.hid CE
    clear h3
    go_wp2_with fail
    refine CE.out.mono ?_
    rintro e W3 ⟨A3, n3, c3, rfl, ho3, hr3, b3⟩
    have F := Lib.hid (Below.then B2.out b3)
    clear b3 CE ho3 hr3 p0 p1
    go_wp2_with fail
    go_ret
    rw [E.out]
    exact ⟨rfl, F.out⟩
  have E : Hid (er = 2) := Lib.hid (HER.out.symm.trans (if_pos h3))
  rw [encPg_ok h3] at CE
  have CE := Lib.hid CE
  have HLP := Lib.hid (pgL_len h3)
  have HLB : Hid ((bodyV 1 ⟨lsn, l⟩).length ≤ 254) := Lib.hid (bodyV_len (by omega) h3)
  clear h3
  go_wp2_with fail
  refine CE.out.mono ?_
  rintro e W3 ⟨A3, n3, c3, rfl, ho3, hr3, b3⟩
  have hn3 : n3 ≤ 254 := by
    have := ho3.1
    have h2 := HLP.out
    simp at this h2
    omega
  have Y3 := Lib.hid (Byt.of_own ho3 hr3)
  have B3 := Lib.hid (Below.then B2.out b3)
  clear b3 CE ho3 hr3 B2 P2 K2 p0 p1 HLP
  have CS := Lib.hid (slSec_any 0 n 1 HPL.out (by omega) W3)
  obtain ⟨z, hz⟩ : ∃ z, slSec 0 n 1 = z := ⟨_, rfl⟩
  rw [hz] at CS
  clear hz
  go_wp2_with fail
  refine CS.out.mono ?_
  rintro e W4 ⟨rfl, b4⟩
  have Y4 := Lib.hid (Y3.out.below b4)
  have B4 := Lib.hid (Below.then B3.out b4)
  clear b4 CS Y3 B3
  have CE := Lib.hid (slEnc_any 1 (by omega) A3 n3 c3 _ W4 Y4.out (by omega))
  go_wp2_with fail
  refine CE.out.mono ?_
  rintro e W5 ⟨A5, n5, c5, rfl, ho5, hr5, b5⟩
  have B5 := Lib.hid (Below.then B4.out b5)
  have hn5 : n5 ≤ 254 := by
    have h1 := ho5.1
    have h2 := HLB.out
    unfold bodyV at h2
    simp only [List.length_map, List.length_append] at h1 h2
    omega
  clear b5 CE ho5 hr5 Y4 B4 hn3
  have CW := Lib.hid (slPut_none W5 z A5 n5 c5 hn5)
  go_wp2_with fail
  refine CW.out.mono ?_
  rintro e W6 ⟨rfl, b6⟩
  have B6 := Lib.hid (Below.then B5.out b6)
  clear b6 CW B5
  go_wp2_with fail
  go_ret
  rw [E.out]
  exact ⟨rfl, B6.out⟩
end Go.Proofs.Ytomhofppcogojaa

/- the statements' awake() answers true: a page is saved where the document says, and loaded. -/
namespace Go.Proofs.Ytomhofppcogojaa
open Go.RowKit

def cl11 : Cl := ⟨⟨#[97]⟩, ⟨false, ByteArray.empty⟩⟩
def pg11 : Pg := ⟨4, [cl11]⟩
theorem cl11_ok : clOk cl11 := ⟨⟨by decide, by decide⟩, by unfold vlOk cl11; rfl⟩
theorem pg11_ok : pg11.ok := ⟨⟨by show (0 : Int) ≤ 4; omega, by show (4 : Int) ≤ 1099511627776; omega⟩, by show 1 ≤ 4; omega, fun i hi => by
  have : i = 0 := by have : i < 1 := hi; omega
  subst this
  exact ⟨cl11_ok, fun h => absurd h (by omega)⟩⟩
theorem new20 : Sld 20 (St.new 20) 0 := Sld.start 20
theorem save20 : slE (St.new 20) 10 3 1 pg11 = 0 ∧ Sld 20 (slS (St.new 20) 10 3 1 pg11) 1 ∧ (slS (St.new 20) 10 3 1 pg11).syn = upd (St.new 20).syn 17 (putL (St.new 20) 17 (bodyV 1 pg11)) := by
  have hok : slOk 10 3 1 pg11 := ⟨⟨by omega, by omega⟩, ⟨⟨by omega, by omega⟩, ⟨by omega, by omega⟩⟩, pg11_ok⟩
  obtain ⟨e1, e2⟩ := sl_yes (s := St.new 20) hok
  have ez : slSec 10 3 1 = ((17 : Nat) : Int) := rfl
  rw [ez] at e1 e2
  obtain ⟨a, b, c, _⟩ := new20.save (n := 17) (p := bodyV 1 pg11) (by omega) (bodyV_len (by omega) pg11_ok) (bodyV_rng _ _)
  rw [e1, e2]
  exact ⟨a, c, b⟩
theorem load20 : ldE (slS (St.new 20) 10 3 1 pg11).rErr 10 3 = 0 ∧ ldV (slS (St.new 20) 10 3 1 pg11).rErr (slS (St.new 20) 10 3 1 pg11).rBytes 10 3 = ⟨1, pg11⟩ := by
  obtain ⟨_, h2, h3⟩ := save20
  obtain ⟨a, b⟩ := h2.load (base := 10) (n := 3) (by omega) (by omega)
  refine ⟨a, b.trans ?_⟩
  rw [h3]
  have hz : pairV (St.new 20).syn (10 + 2 * 3) = vr0 := by
    show loadV zeros zeros = vr0
    unfold loadV
    rw [verP_zeros, verP_zeros, if_neg (by omega)]
  have := pair_next (f := (St.new 20).syn) (b := 10 + 2 * 3) (t := 1) (X := putL (St.new 20) 17 (bodyV 1 pg11)) (p := pg11) (by rw [hz]; rfl) (verAt_put ⟨by omega, by omega⟩ pg11_ok)
  exact this
theorem read20 : (slS (St.new 20) 10 3 1 pg11).rErr 17 = 0 ∧ ∃ r : List Int, r.length = 255 ∧ (slS (St.new 20) 10 3 1 pg11).rBytes 17 = 1 :: r := by
  obtain ⟨_, h2, h3⟩ := save20
  obtain ⟨a, b⟩ := h2.rd (n := 17) (by omega)
  refine ⟨a, ?_⟩
  have hb : (slS (St.new 20) 10 3 1 pg11).rBytes 17 = putL (St.new 20) 17 (bodyV 1 pg11) := by
    have := b
    rw [h3, upd_here] at this
    exact this
  rw [hb]
  have hl := (putL_sec (s := St.new 20) (n := 17) (p := bodyV 1 pg11) (bodyV_len (by omega) pg11_ok) (bodyV_rng _ _)).1
  have e : putL (St.new 20) 17 (bodyV 1 pg11) = 1 :: (padL (bodyV 1 pg11) ++ [(1 : Int)]) := rfl
  rw [e] at hl
  refine ⟨padL (bodyV 1 pg11) ++ [(1 : Int)], ?_, e⟩
  rw [List.length_cons] at hl
  omega

set_option maxRecDepth 100000 in
set_option maxHeartbeats 4000000 in
theorem awake11_any (w : World) : Calls Try.prog 8 #[] w (Ret (.bool true) w) := by
  have CN := Lib.hid (hasD_new (Has.emp w.heap.size w) (Nat.le_refl w.heap.size) 20 (by omega))
  go_enter Try.func8, Try.ntmps8
  go_wp2_with fail
  refine CN.out.mono ?_
  rintro e w1 ⟨b, rfl, h1, b1⟩
  have H1 := Lib.hid h1
  have B1 := Lib.hid b1
  clear h1 b1 CN
  go_upto_region 3 with fail
  obtain ⟨C, hC⟩ : ∃ C, w1.heap.size = C := ⟨_, rfl⟩
  obtain ⟨W2, hW2⟩ : ∃ W, W = (w1.alloc (.cells #[.string ⟨#[97]⟩, .bool false, .string ⟨#[]⟩] 63)).alloc (.cells #[.int .i64 4, .slice (some ⟨C, 0, none⟩) 1 1] 24) := ⟨_, rfl⟩
  have H2 : Hid (Has w.heap.size ((dsk b (St.new 20)).star ((emp.star (blkR C 63 #[.string ⟨#[97]⟩, .bool false, .string ⟨#[]⟩])).star (blkR (C + 1) 24 #[.int .i64 4, .slice (some ⟨C, 0, none⟩) 1 1]))) W2) := Lib.hid (by
    have q1 := (blkR_new 63 #[.string ⟨#[97]⟩, .bool false, .string ⟨#[]⟩] H1.out B1.out.size).sw
    have q2 := (blkR_new 24 #[.int .i64 4, .slice (some ⟨C, 0, none⟩) 1 1] q1 (by simp; have := B1.out.size; omega)).sw
    rw [World.size_alloc, hC] at q2
    rw [hW2]
    exact q2)
  have B2 : Hid (Below w.heap.size w W2) := Lib.hid (by rw [hW2]; exact (B1.out.alloc B1.out.size _).alloc (by simp; have := B1.out.size; omega) _)
  rw [hC, ← hW2]
  clear hW2 H1 B1 hC
  have KP : Hid (∀ w' s', Has w.heap.size ((dsk b s').star ((emp.star (blkR C 63 #[.string ⟨#[97]⟩, .bool false, .string ⟨#[]⟩])).star (blkR (C + 1) 24 #[.int .i64 4, .slice (some ⟨C, 0, none⟩) 1 1]))) w' → Pcs w' (some ⟨C, 0, none⟩) 1 1 [cl11] ∧ w'.cell? ⟨C + 1, 0, none⟩ = some (.int .i64 4) ∧ w'.cell? ⟨C + 1, 1, none⟩ = some (.slice (some ⟨C, 0, none⟩) 1 1)) := Lib.hid (fun w' s' h => by
    have k1 := bk_of h.snd.snd
    have k2 := bk_of h.snd.fst.snd
    exact ⟨one_pcs (x := cl11) k2, k1.cell 0, k1.cell 1⟩)
  obtain ⟨P2, p0, p1⟩ := KP.out _ _ H2.out
  obtain ⟨a1, _, _⟩ := save20
  have CS := slSave_any H2.out B2.out.size 10 3 1 4 _ 1 1 [cl11] P2 (by show 0 < 999999; omega) (by show 0 < 999999; omega)
  rw [show (⟨4, [cl11]⟩ : Pg) = pg11 from rfl, a1] at CS
  have CS := Lib.hid CS
  clear a1 P2
  go_wp2_with fail
  refine CS.out.mono ?_
  rintro e w3 ⟨rfl, h3, b3⟩
  have H3 := Lib.hid h3
  have B3 := Lib.hid (B2.out.trans b3)
  obtain ⟨l1, l2⟩ := load20
  have CL := slLoad_any h3 10 3
  rw [l1, l2] at CL
  have CL := Lib.hid CL
  clear h3 b3 CS H2 B2 p0 p1 l1 l2
  go_wp2_with fail
  refine CL.out.mono ?_
  rintro e w4 ⟨A4, n4, c4, rfl, ho, b4⟩
  have H4 := Lib.hid (H3.out.below b4)
  have B4 := Lib.hid (B3.out.trans (b4.mono B3.out.size))
  have P4 := Lib.hid ho.pcs
  clear ho b4 CL H3 B3
  go_upto_region 5 with fail
  obtain ⟨X, hX⟩ : ∃ X, w4.heap.size = X := ⟨_, rfl⟩
  obtain ⟨W5, hW5⟩ : ∃ W, W = w4.alloc (.cells #[.int .i64 pg11.lsn, .slice A4 n4 c4] 24) := ⟨_, rfl⟩
  have hal : Below w4.heap.size w4 W5 := by rw [hW5]; exact (Below.refl _ _).alloc (Nat.le_refl _) _
  have HQ : Hid (Bk W5 X 24 #[.int .i64 4, .slice A4 n4 c4]) := Lib.hid (by rw [hW5, ← hX]; exact Bk.new w4 _ _)
  have H5 := Lib.hid (H4.out.below hal)
  have B5 := Lib.hid (B4.out.trans (hal.mono B4.out.size))
  have P5 := Lib.hid (P4.out.below hal)
  rw [← hW5]
  (try rw [hX])
  clear hW5 hal H4 B4 P4 hX
  obtain ⟨r1, r, hrl, r2⟩ := read20
  have CR := hasD_read H5.out 17
  rw [r1, r2] at CR
  have CR := Lib.hid CR
  clear r1 r2
  go_wp2_with fail
  refine CR.out.mono ?_
  rintro e w6 ⟨A6, n6, c6, rfl, hy, _, b6⟩
  obtain rfl : n6 = 256 := by rw [← hy.len, List.length_cons, hrl]
  obtain ⟨g, off, rfl, hc⟩ := hy.at_ (by omega)
  have hc0 : w6.cell? ⟨g, off, none⟩ = some (.int .u8 1) := hc 0 (by omega)
  have Q6 := Lib.hid (HQ.out.bel b6 HQ.out.lt)
  have H6 := Lib.hid (H5.out.below b6)
  have B6 := Lib.hid (B5.out.trans (b6.mono B5.out.size))
  have P6 : Hid (Pcs w6 A4 n4 c4 [cl11]) := Lib.hid (P5.out.below b6)
  have hcap := hy.cap
  have hmax := hy.max
  unfold maxLen at hmax
  obtain ⟨P2, p0, p1⟩ := KP.out _ _ H6.out
  have q0 : w6.cell? ⟨X, 0, none⟩ = some (.int .i64 4) := Q6.out.cell 0
  have q1 : w6.cell? ⟨X, 1, none⟩ = some (.slice A4 n4 c4) := Q6.out.cell 1
  have CS := Lib.hid (samePg_yes 4 (some ⟨C, 0, none⟩) 1 1 A4 n4 c4 [cl11] w6 P2 P6.out)
  clear hy hc b6 CR HQ H5 B5 P5 hrl P2
  go_wp2_with fail
  refine CS.out.mono ?_
  rintro e w7 ⟨rfl, b7⟩
  have hc1 : w7.cell? ⟨g, off, none⟩ = some (.int .u8 1) := (b7.cell (World.block_lt_of_cell? w6 _ hc0)).trans hc0
  have B7 := Lib.hid (B6.out.trans (b7.mono B6.out.size))
  clear b7 CS hc0 p0 p1 q0 q1 B6
  go_wp2_with fail
  go_ret
  exact ⟨rfl, B7.out⟩
end Go.Proofs.Ytomhofppcogojaa

/- trothref10.Encode answers a page's payload, or the error. -/
namespace Go.Proofs.Ytomhofppcogojaa
open Go.RowKit

/-- Bytes that are gathered: a row of one's own; nothing below has turned. -/
structure Gat (B : Nat) (W0 w : World) (A : Option Addr) (n c : Nat) (L : List Int) : Prop where
  own : w.ownsRow B 5 1 (.slice A n c) n (L.map (Value.int .u8))
  rng : ∀ x ∈ L, 0 ≤ x ∧ x < 256
  below : Below B W0 w
  hb : B ≤ w.heap.size
theorem Gat.new {B : Nat} {W0 w w' : World} {A : Option Addr} {n c : Nat} {L : List Int} (h : Gat B W0 w A n c L) (hb : Below w.heap.size w w') : Gat B W0 w' A n c L :=
  ⟨own_stay h.own (fun q hq => hb.block q (h.own.lt q hq).2), h.rng, h.below.trans (hb.mono h.hb), Nat.le_trans h.hb hb.size⟩
theorem Gat.app {B : Nat} {W0 w w' : World} {A A' : Option Addr} {n c m c' : Nat} {L L' : List Int} (h : Gat B W0 w A n c L) (ho : w'.ownsRow B 5 1 (.slice A' (n + m) c') (n + m) ((L ++ L').map (Value.int .u8))) (hr : ∀ x ∈ L', 0 ≤ x ∧ x < 256) (hg : w.grownBy w' (Value.slice A n c).ownBlock) : Gat B W0 w' A' (n + m) c' (L ++ L') :=
  ⟨ho, fun x hx => by
    rcases List.mem_append.1 hx with q | q
    · exact h.rng x q
    · exact hr x q, h.below.grown hg h.hb (fun k hk => (h.own.lt k hk).1), Nat.le_trans h.hb hg.size⟩
theorem Gat.len {B : Nat} {W0 w : World} {A : Option Addr} {n c : Nat} {L : List Int} (h : Gat B W0 w A n c L) : n = L.length := by have := h.own.1; simpa using this.symm
theorem shortL_of {z : Nat} : numL (z : Int) = shortL z := numL_nat z

set_option maxRecDepth 100000 in
set_option maxHeartbeats 8000000 in
theorem rpEnc_any (lsn : Int) (A : Option Addr) (n c : Nat) (l : List Cl) (w : World) (h : Pcs w A n c l) :
    Calls Try.prog 38 #[pgV lsn A n c] w (RetEncP (encPg ⟨lsn, l⟩) w) := by
  obtain ⟨i0, hi, hz0, hz1, hz2⟩ := info_parts info_u8
  have hcap := h.flt.cap
  have hmax := h.flt.max
  unfold maxLen at hmax
  have hlen := Lib.hid h.len
  obtain ⟨W0, hW0⟩ : ∃ W, W = w.alloc (.cells #[.int .i64 lsn, .slice A n c] 24) := ⟨_, rfl⟩
  have HB : Hid (Below w.heap.size w W0) := Lib.hid (by rw [hW0]; exact (Below.refl _ _).alloc (Nat.le_refl _) _)
  have BP : Hid (Bk W0 w.heap.size 24 #[.int .i64 lsn, .slice A n c]) := Lib.hid (by rw [hW0]; exact Bk.new w _ _)
  have HP := Lib.hid (h.below HB.out)
  have p0 : W0.cell? ⟨w.heap.size, 0, none⟩ = some (.int .i64 lsn) := BP.out.cell 0
  have p1 : W0.cell? ⟨w.heap.size, 1, none⟩ = some (.slice A n c) := BP.out.cell 1
  have C := may10_any lsn A n c l W0 HP.out
  have HW := Lib.hid hW0
  have HP0 := Lib.hid h
  clear h hW0
  by_cases hok : (⟨lsn, l⟩ : Pg).ok
  rotate_left
  · rw [decide_eq_false hok] at C
    have C := Lib.hid C
    rw [encPg_no hok]
    clear hok
    go_enter Try.func38, Try.ntmps38
    go_upto_region 1 with fail
    rw [← HW.out]
    go_wp2_with fail
    refine C.out.mono ?_
    rintro e w1 ⟨rfl, b1⟩
    have R := Lib.hid (RetEncP.nil (w := w) 1 (Below.then HB.out b1))
    clear b1 C
    go_wp2_with fail
    go_ret2
    exact R.out
  rw [decide_eq_true hok] at C
  have C := Lib.hid C
  rw [encPg_ok hok]
  obtain ⟨⟨hl0, hl1⟩, hl4, hcl⟩ := hok
  simp only at hl0 hl1 hl4 hcl
  have hall := ((clsOk_pw l).1 hcl).1
  have HALL := Lib.hid hall
  have hzl : (numL lsn).length ≤ 10 := numL_len _ (by omega)
  have hnl : (numL (n : Int)).length ≤ 10 := numL_len _ (by have := hlen.out; omega)
  have hn4 : n ≤ 4 := by rw [← hlen.out]; exact hl4
  have HCL : Hid (∀ k, (cellsL l k).length ≤ 204) := Lib.hid (fun k => cellsL_len hall k hl4)
  clear hcl hall hl4
  go_enter Try.func38, Try.ntmps38
  go_upto_region 1 with fail
  rw [← HW.out]
  go_wp2_with fail
  refine C.out.mono ?_
  rintro e w1 ⟨rfl, b1⟩
  have B1 := Lib.hid (Below.then HB.out b1)
  have P1 := Lib.hid (BP.out.bel b1 BP.out.lt)
  clear b1 C p0 p1
  have p0 : w1.cell? ⟨w.heap.size, 0, none⟩ = some (.int .i64 lsn) := P1.out.cell 0
  have p1 : w1.cell? ⟨w.heap.size, 1, none⟩ = some (.slice A n c) := P1.out.cell 1
  have CN := Lib.hid (refNum_own lsn w1 (by omega))
  have hP1 : w.heap.size < w1.heap.size := P1.out.lt
  go_wp2_with fail
  refine CN.out.mono ?_
  rintro e w2 ⟨A2, n2, c2, rfl, ho2, hr2, b2⟩
  have G2 : Hid (Gat w1.heap.size w1 w2 A2 n2 c2 (numL lsn)) := Lib.hid ⟨ho2, hr2, b2, b2.size⟩
  have PC : Hid (∀ w', Below w1.heap.size w1 w' → w'.cell? ⟨w.heap.size, 1, none⟩ = some (.slice A n c)) := Lib.hid (fun w' hb => (P1.out.bel hb P1.out.lt).cell 1)
  clear ho2 hr2 b2 CN p0 p1
  have p1 := PC.out _ G2.out.below
  have CN := Lib.hid (refNum_own (n : Int) w2 (by omega))
  go_wp2_with fail
  refine CN.out.mono ?_
  rintro e w3 ⟨A3, n3, c3, rfl, ho3, hr3, b3⟩
  have G3 := Lib.hid (G2.out.new b3)
  have Y3 := Lib.hid (Byt.of_own ho3 hr3)
  have hn2 : n2 ≤ 10 := by rw [G2.out.len]; exact hzl
  have hn3 : n3 ≤ 10 := by rw [← Y3.out.len]; exact hnl
  clear ho3 hr3 b3 CN p1
  go_wp2_with (at_builtin; refine wpList_append_byt rfl _ _ 35 rfl w1.heap.size 5 i0 Try.underlying35 hi hz0 hz1 hz2 _ n2 (numL lsn) rfl (by exact G3.out.own) A3 n3 c3 (numL (n : Int)) rfl Y3.out (by omega) G3.out.hb ?_)
  intro A4 c4 w4 k1 k2
  obtain ⟨pre, hpre⟩ : ∃ x, numL lsn ++ numL (n : Int) = x := ⟨_, rfl⟩
  have hprel : pre.length ≤ 20 := by rw [← hpre, List.length_append]; omega
  have g4 := G3.out.app (by simpa using k1) Y3.out.rng k2
  rw [hpre] at g4
  have G4 := Lib.hid g4
  have HPRE := Lib.hid hpre
  clear k1 k2 g4 hpre Y3 G3 G2
  go_wp2_with fail
  go_loopw [4, 5] (fun y z wr => ∃ (k : Nat) (A5 : Option Addr) (n5 c5 : Nat), k ≤ n ∧ y = .slice A5 n5 c5 ∧ z = .int .i64 k ∧ Gat w1.heap.size w1 wr A5 n5 c5 (pre ++ cellsL l k)) (fun _ z _ => n - (intOf z).toNat)
  case atStart => exact ⟨0, A4, n2 + n3, c4, Nat.zero_le _, rfl, rfl, by simpa [cellsL] using G4.out⟩
  case round =>
    obtain ⟨k, A5, n5, c5, hk, rfl, rfl, hg⟩ := hrel
    have G := Lib.hid hg
    have hn5 : n5 ≤ 300 := by rw [hg.len, List.length_append]; have := HCL.out k; omega
    have p1 := PC.out _ hg.below
    clear hg G4
    by_cases hlt : k < n
    · have hlt' : (k : Int) < (n : Int) := by omega
      obtain ⟨g, off, rfl, _, hc⟩ := (HP0.out.below (B1.out.trans (G.out.below.mono (Nat.le_of_lt hP1)))).get (by omega)
      obtain ⟨a0, a1, a2⟩ := hc k hlt
      obtain ⟨x, hx⟩ : ∃ x, l.getD k default = x := ⟨_, rfl⟩
      have hxok : clOk x := by
        rw [← hx, List.getD_eq_getElem?_getD, List.getElem?_eq_getElem (by rw [hlen.out]; exact hlt)]
        exact HALL.out _ (List.getElem_mem _)
      obtain ⟨hks, hds⟩ := cl_small hxok
      rw [hx] at a0 a1 a2
      have HN : Hid (pre ++ cellsL l (k + 1) = (pre ++ cellsL l k) ++ clL x) := Lib.hid (by rw [cellsL_next (by rw [hlen.out]; exact hlt), hx, List.append_assoc])
      obtain ⟨key, ⟨f, d⟩⟩ := x
      simp only at a0 a1 a2 hks hds
      have b6 : Below wr.heap.size wr (wr.alloc (.cells #[.string key, .bool f, .string d] 63)) := (Below.refl _ _).alloc (Nat.le_refl _) _
      have G6 := Lib.hid (G.out.new b6)
      have K6 : Hid (Bk (wr.alloc (.cells #[.string key, .bool f, .string d] 63)) wr.heap.size 63 #[.string key, .bool f, .string d]) := Lib.hid (Bk.new wr _ _)
      have CT := Lib.hid (refText_own key (wr.alloc (.cells #[.string key, .bool f, .string d] 63)) (by omega))
      have htk : (textL (nums key)).length ≤ 26 := by have := textL_len (nums key) (by rw [nums_len]; omega); rw [nums_len] at this; omega
      clear hc hx hxok b6
      go_wp2_with fail
      refine CT.out.mono ?_
      rintro e w7 ⟨A7, n7, c7, rfl, ho7, hr7, b7⟩
      have G7 := Lib.hid (G6.out.new b7)
      have K7 := Lib.hid (K6.out.bel b7 K6.out.lt)
      have Y7 := Lib.hid (Byt.of_own ho7 hr7)
      have hn7 : n7 ≤ 26 := by rw [← Y7.out.len]; exact htk
      clear ho7 hr7 b7 CT G6 K6 a0 a1 a2 p1
      go_wp2_with (at_builtin; refine wpList_append_byt rfl _ _ 35 rfl w1.heap.size 5 i0 Try.underlying35 hi hz0 hz1 hz2 _ n5 (pre ++ cellsL l k) rfl (by exact G7.out.own) A7 n7 c7 (textL (nums key)) rfl Y7.out (by omega) G7.out.hb ?_)
      intro A8 c8 w8 k1 k2
      have G8 := Lib.hid (G7.out.app (by simpa using k1) Y7.out.rng k2)
      have K8 := Lib.hid (bk_apart G7.out.own K7.out (by decide) k2)
      clear k1 k2 G7 K7 Y7
      have y1 : w8.cell? ⟨wr.heap.size, 1, none⟩ = some (.bool f) := K8.out.cell 1
      cases f with
      | false =>
        have b9 : Below w8.heap.size w8 (w8.alloc (.cells #[.int .u8 0] 5)) := (Below.refl _ _).alloc (Nat.le_refl _) _
        have G9 := Lib.hid (G8.out.new b9)
        have Y9 := Lib.hid (one_byt w8 0 (by omega))
        clear b9
        go_wp2_with (at_builtin; refine wpList_append_byt rfl _ _ 35 rfl w1.heap.size 5 i0 Try.underlying35 hi hz0 hz1 hz2 _ (n5 + n7) ((pre ++ cellsL l k) ++ textL (nums key)) rfl (by exact G9.out.own) (some ⟨w8.heap.size, 0, none⟩) 1 1 [0] rfl Y9.out (by omega) G9.out.hb ?_)
        intro A10 c10 w10 k1 k2
        have g10 := G9.out.app (by simpa using k1) Y9.out.rng k2
        have GN : Hid (Gat w1.heap.size w1 w10 A10 (n5 + n7 + 1) c10 (pre ++ cellsL l (k + 1))) := Lib.hid (by
          rw [HN.out]
          unfold clL valL
          simpa [flagL] using g10)
        clear k1 k2 g10 G9 Y9 G8 K8 y1
        go_wp2_with fail
        go_roundw
        case rel => exact ⟨k + 1, A10, n5 + n7 + 1, c10, by omega, rfl, by go_num, GN.out⟩
        case measure => simp [intOf]; omega
      | true =>
        have b9 : Below w8.heap.size w8 (w8.alloc (.cells #[.int .u8 1] 5)) := (Below.refl _ _).alloc (Nat.le_refl _) _
        have G9 := Lib.hid (G8.out.new b9)
        have K9 := Lib.hid (K8.out.bel b9 K8.out.lt)
        have Y9 := Lib.hid (one_byt w8 1 (by omega))
        clear b9
        go_wp2_with (at_builtin; refine wpList_append_byt rfl _ _ 35 rfl w1.heap.size 5 i0 Try.underlying35 hi hz0 hz1 hz2 _ (n5 + n7) ((pre ++ cellsL l k) ++ textL (nums key)) rfl (by exact G9.out.own) (some ⟨w8.heap.size, 0, none⟩) 1 1 [1] rfl Y9.out (by omega) G9.out.hb ?_)
        intro A10 c10 w10 k1 k2
        have G10 := Lib.hid (G9.out.app (by simpa using k1) Y9.out.rng k2)
        have K10 := Lib.hid (bk_apart G9.out.own K9.out (by decide) k2)
        clear k1 k2 G9 Y9 G8 K8 y1 K9
        have y2 : w10.cell? ⟨wr.heap.size, 2, none⟩ = some (.string d) := K10.out.cell 2
        have CT := Lib.hid (refText_own d w10 (by omega))
        have htd : (textL (nums d)).length ≤ 42 := by have := textL_len (nums d) (by rw [nums_len]; omega); rw [nums_len] at this; omega
        go_wp2_with fail
        refine CT.out.mono ?_
        rintro e w11 ⟨A11, n11, c11, rfl, ho11, hr11, b11⟩
        have G11 := Lib.hid (G10.out.new b11)
        have Y11 := Lib.hid (Byt.of_own ho11 hr11)
        have hn11 : n11 ≤ 42 := by rw [← Y11.out.len]; exact htd
        clear ho11 hr11 b11 CT G10 K10 y2
        go_wp2_with (at_builtin; refine wpList_append_byt rfl _ _ 35 rfl w1.heap.size 5 i0 Try.underlying35 hi hz0 hz1 hz2 _ (n5 + n7 + 1) (((pre ++ cellsL l k) ++ textL (nums key)) ++ [1]) rfl (by exact G11.out.own) A11 n11 c11 (textL (nums d)) rfl Y11.out (by omega) G11.out.hb ?_)
        intro A12 c12 w12 k1 k2
        have g12 := G11.out.app (by simpa using k1) Y11.out.rng k2
        have GN : Hid (Gat w1.heap.size w1 w12 A12 (n5 + n7 + 1 + n11) c12 (pre ++ cellsL l (k + 1))) := Lib.hid (by
          rw [HN.out]
          unfold clL valL
          simpa [flagL] using g12)
        clear k1 k2 g12 G11 Y11
        go_wp2_with fail
        go_roundw
        case rel => exact ⟨k + 1, A12, n5 + n7 + 1 + n11, c12, by omega, rfl, by go_num, GN.out⟩
        case measure => simp [intOf]; omega
    · obtain rfl : k = n := by omega
      have E : Hid (pre ++ cellsL l k = pgL ⟨lsn, l⟩) := Lib.hid (by
        rw [← HPRE.out]
        unfold cellsL pgL encList
        rw [List.take_of_length_le (by rw [hlen.out]; omega)]
        simp only [List.append_assoc, hlen.out])
      have R : Hid (RetEncP (pgL ⟨lsn, l⟩, 0) w (.returned (.tuple #[.slice A5 n5 c5, .int .i64 0])) wr) := Lib.hid (by
        have G := G.out
        rw [E.out] at G
        exact ⟨A5, n5, c5, rfl, own_lo G.own (Nat.le_of_lt hP1), G.rng, B1.out.trans (G.below.mono (Nat.le_of_lt hP1))⟩)
      clear hlt
      go_wp2_with fail
      go_ret2
      exact R.out
end Go.Proofs.Ytomhofppcogojaa

/- the document's Next, Wrap and Open (trothref05) answer what the plain mathematics says. -/
namespace Go.Proofs.Ytomhofppcogojaa
open Go.RowKit

set_option maxHeartbeats 4000000 in
theorem ropen_any (A : Option Addr) (n c : Nat) (l : List Int) (w : World) (h : Byt w A n c l) :
    Calls Try.prog 57 #[.slice A n c] w (RetByt2 (openB l) .i64 (openE l) w) := by
  have hl := h.len
  have hcap := h.cap
  have hmax := h.max
  unfold maxLen at hmax
  by_cases hn : n = 256
  · subst hn
    obtain ⟨g, off, rfl, h0, h1⟩ := h.ends
    have ra := h.lt_ 0 (by omega)
    have rb := h.lt_ 255 (by omega)
    have HB := Lib.hid h
    have HR : Hid (rightL l ↔ l.getD 0 0 = l.getD 255 0 ∧ 1 ≤ l.getD 0 0 ∧ l.getD 0 0 ≤ 3) := Lib.hid Iff.rfl
    have HL := Lib.hid hl
    obtain ⟨a, ha⟩ : ∃ a, l.getD 0 0 = a := ⟨_, rfl⟩
    obtain ⟨b, hb⟩ : ∃ b, l.getD 255 0 = b := ⟨_, rfl⟩
    rw [ha, hb] at HR
    rw [ha] at h0 ra
    rw [hb] at h1 rb
    clear ha hb h hl
    by_cases hab : a = b
    · subst hab
      have d1 : (a != a) = false := by simp
      by_cases hs : 1 ≤ a ∧ a ≤ 3
      · have E : Hid (openE l = 0 ∧ openB l = bodyL l) := Lib.hid ⟨openE_right HL.out (HR.out.2 ⟨rfl, hs⟩), openB_right HL.out (HR.out.2 ⟨rfl, hs⟩)⟩
        rw [E.out.1, E.out.2]
        obtain ⟨i0, hi, hz0, hz1, hz2⟩ := info_parts info_u8
        have d2 : decide (a < 1) = false := by simp; omega
        have d3 : decide (3 < a) = false := by simp; omega
        have HBD : Hid (∀ k, Byt (w.drewN k) (some ⟨g, off + 1, none⟩) 254 (c - 1) (bodyL l)) := Lib.hid (fun k => HB.out.body.drewN k)
        have HOW : Hid (∀ k, ((w.drewN k).alloc (.cells #[] 5)).ownsRow w.heap.size 5 1 (.slice (some ⟨w.heap.size, 0, none⟩) 0 0) 0 ([].map (Value.int .u8))) := Lib.hid (fun k => World.ownsRow_made (base := w.heap.size) (e := 5) (size := 1) (w.drewN k) #[] 0 (Nat.le_refl _) (Nat.zero_le _) rfl)
        clear hs E HR HL
        go_enter Try.func57, Try.ntmps57
        go_wp2_with fail
        go_quiet (fail)
        go_wp2_with (at_builtin; refine wpList_append_byt rfl _ _ 35 rfl w.heap.size 5 i0 Try.underlying35 hi hz0 hz1 hz2 _ 0 [] rfl (by exact HOW.out _) (some ⟨g, off + 1, none⟩) 254 (c - 1) (bodyL l) rfl ((HBD.out _).alloc _) (by omega) (by simp) ?_)
        intro A' c' w' h1' h2'
        have R : Hid (Byt w' A' (0 + 254) c' ([] ++ bodyL l) ∧ Below w.heap.size w w') := Lib.hid ⟨Byt.of_own h1' (bodyL_rng HB.out.rng), ((below_drewN (Below.refl w.heap.size w) _).alloc (Nat.le_refl _) _).grown h2' (by simp) (by intro k hk; simp [Value.ownBlock] at hk; omega)⟩
        clear h1' h2' HBD HOW
        go_wp2_with fail
        go_ret2
        exact ⟨_, _, _, rfl, R.out.1, R.out.2⟩
      · have E : Hid (openE l = 50 ∧ openB l = []) := Lib.hid ⟨openE_torn HL.out (fun q => hs (HR.out.1 q).2), openB_bad (by rw [openE_torn HL.out (fun q => hs (HR.out.1 q).2)]; omega)⟩
        rw [E.out.1, E.out.2]
        by_cases h1' : a < 1
        · have d2 : decide (a < 1) = true := by simpa using h1'
          clear hs E HR HL h1'
          go_enter Try.func57, Try.ntmps57
          go_wp2_with fail
          go_quiet (fail)
          go_wp2_with fail
          go_ret2
          exact ⟨none, 0, 0, rfl, Byt.nil _, below_drewN (Below.refl _ _) _⟩
        · have d2 : decide (a < 1) = false := by simp; omega
          have d3 : decide (3 < a) = true := by simp; omega
          clear hs E HR HL h1'
          go_enter Try.func57, Try.ntmps57
          go_wp2_with fail
          go_quiet (fail)
          go_wp2_with fail
          go_ret2
          exact ⟨none, 0, 0, rfl, Byt.nil _, below_drewN (Below.refl _ _) _⟩
    · have d1 : (a != b) = true := by simpa using hab
      have E : Hid (openE l = 50 ∧ openB l = []) := Lib.hid ⟨openE_torn HL.out (fun q => hab (HR.out.1 q).1), openB_bad (by rw [openE_torn HL.out (fun q => hab (HR.out.1 q).1)]; omega)⟩
      rw [E.out.1, E.out.2]
      clear E HR HL
      go_enter Try.func57, Try.ntmps57
      go_wp2_with fail
      go_quiet (fail)
      go_wp2_with fail
      go_ret2
      exact ⟨none, 0, 0, rfl, Byt.nil _, below_drewN (Below.refl _ _) _⟩
  · have E : Hid (openE l = 12 ∧ openB l = []) := Lib.hid ⟨openE_len (by omega), openB_bad (by rw [openE_len (by omega)]; omega)⟩
    have hd : ((n : Int) != 256) = true := by simp; omega
    rw [E.out.1, E.out.2]
    clear h hl E
    go_enter Try.func57, Try.ntmps57
    go_wp2_with fail
    go_ret2
    exact ⟨none, 0, 0, rfl, Byt.nil _, Below.refl _ _⟩

/-- What refWrap gathers: k bytes. -/
def gathL (m : Int) (p : List Int) (k : Nat) : List Int := m :: (p ++ List.replicate (k - 1 - p.length) 0)
theorem gathL_rng {m : Int} {p : List Int} (hm : 0 ≤ m ∧ m < 256) (hp : ∀ x ∈ p, 0 ≤ x ∧ x < 256) (k : Nat) : ∀ x ∈ gathL m p k, 0 ≤ x ∧ x < 256 := by
  intro x hx
  rcases List.mem_cons.1 hx with q | q
  · rw [q]; exact hm
  · rcases List.mem_append.1 q with q | q
    · exact hp x q
    · obtain ⟨_, rfl⟩ := List.mem_replicate.1 q
      omega
theorem gathL_next {m : Int} {p : List Int} {k : Nat} (h : 1 + p.length ≤ k) : gathL m p k ++ [0] = gathL m p (k + 1) := by
  unfold gathL
  rw [show k + 1 - 1 - p.length = (k - 1 - p.length) + 1 from by omega, List.replicate_succ']
  simp
theorem gathL_full {m : Int} {p : List Int} (h : p.length ≤ 254) : gathL m p 255 ++ [m] = wrapL m p := by
  unfold gathL wrapL padL
  simp

theorem byt_one (W : World) (x : Int) (hx : 0 ≤ x ∧ x < 256) : Byt (W.alloc (.cells #[.int .u8 x] 5)) (some ⟨W.heap.size, 0, none⟩) 1 1 [x] :=
  Byt.lit W 5 [x] 1 rfl (by unfold maxLen; omega) (fun y hy => by simp at hy; rw [hy]; exact hx)

set_option maxRecDepth 100000 in
set_option maxHeartbeats 4000000 in
theorem rwrap_any (m : Int) (hm : 0 ≤ m ∧ m < 256) (A : Option Addr) (n c : Nat) (p : List Int) (w : World) (h : Byt w A n c p) :
    Calls Try.prog 15 #[.int .u8 m, .slice A n c] w (RetByt2 (wrapB m p) .i64 (wrapE m p) w) := by
  have hcap := h.cap
  have hmax := h.max
  unfold maxLen at hmax
  have hpl := h.len
  by_cases h1 : m < 1
  · have E : Hid (wrapE m p = 1 ∧ wrapB m p = []) := Lib.hid ⟨wrapE_arg (.inl h1), wrapB_bad (by rw [wrapE_arg (.inl h1)]; omega)⟩
    rw [E.out.1, E.out.2]
    clear h E
    go_enter Try.func15, Try.ntmps15
    go_wp2_with fail
    go_ret2
    exact ⟨none, 0, 0, rfl, Byt.nil _, Below.refl _ _⟩
  · by_cases h3 : 3 < m
    · have E : Hid (wrapE m p = 1 ∧ wrapB m p = []) := Lib.hid ⟨wrapE_arg (.inr h3), wrapB_bad (by rw [wrapE_arg (.inr h3)]; omega)⟩
      rw [E.out.1, E.out.2]
      clear h E
      go_enter Try.func15, Try.ntmps15
      go_wp2_with fail
      go_ret2
      exact ⟨none, 0, 0, rfl, Byt.nil _, Below.refl _ _⟩
    · have hc1 : ¬ (m < 1 ∨ 3 < m) := by omega
      by_cases h2 : 254 < n
      · have E : Hid (wrapE m p = 12 ∧ wrapB m p = []) := Lib.hid ⟨wrapE_long hc1 (by omega), wrapB_bad (by rw [wrapE_long hc1 (by omega)]; omega)⟩
        rw [E.out.1, E.out.2]
        clear h E hc1
        go_enter Try.func15, Try.ntmps15
        go_wp2_with fail
        go_ret2
        exact ⟨none, 0, 0, rfl, Byt.nil _, Below.refl _ _⟩
      · have E : Hid (wrapE m p = 0 ∧ wrapB m p = wrapL m p) := Lib.hid ⟨wrapE_ok hc1 (by omega), wrapB_ok hc1 (by omega)⟩
        rw [E.out.1, E.out.2]
        obtain ⟨i0, hi, hz0, hz1, hz2⟩ := info_parts info_u8
        have hown0 := own_one w w.heap.size 5 m (Nat.le_refl _)
        have hB0 : Below w.heap.size w (w.alloc (.cells #[.int .u8 m] 5)) := (Below.refl _ _).alloc (Nat.le_refl _) _
        have HP := Lib.hid h
        have HPL := Lib.hid hpl
        clear h E hc1 hpl
        go_enter Try.func15, Try.ntmps15
        go_wp2_with (at_builtin; refine wpList_append_byt rfl _ _ 35 rfl w.heap.size 5 i0 Try.underlying35 hi hz0 hz1 hz2 _ 1 [m] rfl (by exact hown0) A n c p rfl (HP.out.below hB0) (by omega) (by simp) ?_)
        intro A' c' w' h1' h2'
        have R0 : Hid (w'.ownsRow w.heap.size 5 1 (.slice A' (1 + n) c') (1 + n) ((gathL m p (1 + n)).map (Value.int .u8)) ∧ Below w.heap.size w w') := Lib.hid ⟨by
          have e : gathL m p (1 + n) = [m] ++ p := by unfold gathL; rw [HPL.out, show 1 + n - 1 - n = 0 from by omega]; simp
          rw [e]; exact h1', hB0.grown h2' (by simp) (by intro k hk; simp [Value.ownBlock] at hk; omega)⟩
        clear h1' h2' hown0 hB0
        go_wp2_with fail
        go_loopw [6] (fun v wr => ∃ (B : Option Addr) (k d : Nat), 1 + n ≤ k ∧ k ≤ 255 ∧ v = .slice B k d ∧ wr.ownsRow w.heap.size 5 1 (.slice B k d) k ((gathL m p k).map (Value.int .u8)) ∧ Below w.heap.size w wr) (fun v _ => 255 - (match v with | .slice _ k _ => k | _ => 0))
        case atStart => exact ⟨A', 1 + n, c', Nat.le_refl _, by omega, rfl, R0.out⟩
        case round =>
          obtain ⟨B, k, d, hk1, hk2, rfl, ho, hb⟩ := hrel
          have HO := Lib.hid ho
          have HB := Lib.hid hb
          have HK1 := Lib.hid hk1
          clear ho hb hk1
          by_cases hlt : k < 255
          · have ho2 := HO.out.alloc (.cells #[.int .u8 0] 5)
            have hb2 := byt_one wr 0 (by omega)
            go_wp2_with (at_builtin; refine wpList_append_byt rfl _ _ 35 rfl w.heap.size 5 i0 Try.underlying35 hi hz0 hz1 hz2 _ k (gathL m p k) rfl (by exact ho2) _ 1 1 [0] rfl (by exact hb2) (by omega) (by have := HB.out.size; simp; omega) ?_)
            intro A2 c2 w2 h1' h2'
            have R : Hid (w2.ownsRow w.heap.size 5 1 (.slice A2 (k + 1) c2) (k + 1) ((gathL m p (k + 1)).map (Value.int .u8)) ∧ Below w.heap.size w w2) := Lib.hid ⟨by
              rw [← gathL_next (by have := HK1.out; rw [HPL.out]; omega), List.map_append]; exact h1', (HB.out.alloc HB.out.size _).grown h2' (by have := HB.out.size; simp; omega) (fun q hq => (HO.out.lt q hq).1)⟩
            clear h1' h2' ho2 hb2
            go_wp2_with fail
            go_roundw
            case rel => exact ⟨A2, k + 1, c2, by have := HK1.out; omega, by omega, rfl, R.out⟩
            case measure => simp; omega
          · obtain rfl : k = 255 := by omega
            have ho2 := HO.out.alloc (.cells #[.int .u8 m] 5)
            have hb2 := byt_one wr m hm
            go_wp2_with (at_builtin; refine wpList_append_byt rfl _ _ 35 rfl w.heap.size 5 i0 Try.underlying35 hi hz0 hz1 hz2 _ 255 (gathL m p 255) rfl (by exact ho2) _ 1 1 [m] rfl (by exact hb2) (by omega) (by have := HB.out.size; simp; omega) ?_)
            intro A2 c2 w2 h1' h2'
            have R : Hid (Byt w2 A2 (255 + 1) c2 (wrapL m p) ∧ Below w.heap.size w w2) := Lib.hid ⟨by
              rw [← gathL_full (by rw [HPL.out]; omega)]; exact app_byt h1' (gathL_rng hm HP.out.rng 255) (fun y hy => by simp at hy; rw [hy]; exact hm), (HB.out.alloc HB.out.size _).grown h2' (by have := HB.out.size; simp; omega) (fun q hq => (HO.out.lt q hq).1)⟩
            clear h1' h2' ho2 hb2
            go_wp2_with fail
            go_ret2
            exact ⟨_, _, _, rfl, R.out.1, R.out.2⟩
end Go.Proofs.Ytomhofppcogojaa

/- trothref11.One, Load and Body. -/
namespace Go.Proofs.Ytomhofppcogojaa
open Go.RowKit

/-- A version in new memory. -/
def RetV1 (v : Vr) (w : World) (e : Ending) (w' : World) : Prop := ∃ A n c, e = .returned (.tuple #[pgV v.pg.lsn A n c, .int .i64 v.turn]) ∧ OwnP w.heap.size w' A n c v.pg.cells ∧ Below w.heap.size w w'

set_option maxRecDepth 100000 in
set_option maxHeartbeats 8000000 in
theorem refOne_any (z : Int) (A : Option Addr) (n c : Nat) (l : List Int) (w : World) (h : Byt w A n c l) :
    Calls Try.prog 40 #[.slice A n c, .int .i64 z] w (RetV1 (verP z l) w) := by
  obtain ⟨W0, hW0⟩ : ∃ W, W = w.alloc (.cells #[.int .i64 0, .slice none 0 0] 24) := ⟨_, rfl⟩
  have B0 : Hid (Below w.heap.size w W0) := Lib.hid (by rw [hW0]; exact (Below.refl _ _).alloc (Nat.le_refl _) _)
  have R0 : Hid (Bk W0 w.heap.size 24 #[.int .i64 0, .slice none 0 0]) := Lib.hid (by rw [hW0]; exact Bk.new w _ _)
  obtain ⟨r, hr⟩ : ∃ r, w.heap.size = r := ⟨_, rfl⟩
  have CO := Lib.hid (ropen_any A n c l W0 (h.below B0.out))
  have HRG := Lib.hid h.rng
  have HW := Lib.hid hW0
  have HR := Lib.hid hr
  have NO : Hid (∀ w', Below r w w' → RetV1 vr0 w (.returned (.tuple #[pgV 0 none 0 0, .int .i64 0])) w') := Lib.hid (fun w' hb => ⟨none, 0, 0, rfl, OwnP.nil _ _, by rw [hr]; exact hb⟩)
  rw [hr] at R0
  rw [hr] at B0
  have HLB : Hid (openE l = 0 → (openB l).length = 254) := Lib.hid (fun e => by
    by_cases hl : l.length = 256
    · unfold openB; rw [if_pos e]; exact bodyL_len hl
    · rw [openE_len hl] at e; omega)
  clear h hW0 hr
  by_cases h1 : openE l = 0
  rotate_left
  · have E : Hid (verP z l = vr0) := Lib.hid (verP_no (fun q => h1 q.1))
    obtain ⟨x, hx⟩ : ∃ x, openE l = x := ⟨_, rfl⟩
    rw [hx] at CO h1
    have hz : ((x : Int) != 0) = true := by simp; omega
    clear hx h1
    go_enter Try.func40, Try.ntmps40
    go_wp2_with fail
    rw [← HW.out, HR.out]
    refine CO.out.mono ?_
    rintro e W1 ⟨A1, n1, c1, rfl, hb, hbel⟩
    have R1 : Hid (Bk W1 r 24 #[.int .i64 0, .slice none 0 0]) := Lib.hid (R0.out.bel hbel R0.out.lt)
    have B1 : Hid (Below r w W1) := Lib.hid (B0.out.trans (hbel.mono (Nat.le_of_lt R0.out.lt)))
    clear hb hbel CO B0 R0
    have Z0 : W1.frozen? ⟨r, 0, none⟩ = false := R1.out.frz 0
    have Z1 : W1.frozen? ⟨r, 1, none⟩ = false := R1.out.frz 1
    have z0 : W1.cell? ⟨r, 0, none⟩ = some (.int .i64 0) := R1.out.cell 0
    have z1 : W1.cell? ⟨r, 1, none⟩ = some (.slice none 0 0) := R1.out.cell 1
    have RZ := Lib.hid ((R1.out.setc 0 (.int .i64 0)).setc 1 (.slice none 0 0))
    have BZ := Lib.hid ((B1.out.setCell (p := ⟨r, 0, none⟩) (Nat.le_refl _) (.int .i64 0)).setCell (p := ⟨r, 1, none⟩) (Nat.le_refl _) (.slice none 0 0))
    go_wp2_with fail
    (try simp only [Exit.inBlock, Exit.then])
    refine bodyPost_ret (results_cellT rfl _ _ r 24 _ _ rfl RZ.out Try.underlying24 rfl pg_inf) rfl ?_
    rw [E.out]
    exact NO.out _ BZ.out
  have HL := Lib.hid (HLB.out h1)
  rw [h1] at CO
  have HOE := Lib.hid h1
  clear h1 HLB
  have hvt := verT_rng l
  have HVE := Lib.hid (fun (q : verX l ≠ 0) => verT_err q)
  go_enter Try.func40, Try.ntmps40
  go_wp2_with fail
  rw [← HW.out, HR.out]
  refine CO.out.mono ?_
  rintro e W1 ⟨A1, n1, c1, rfl, hb, hbel⟩
  have R1 : Hid (Bk W1 r 24 #[.int .i64 0, .slice none 0 0]) := Lib.hid (R0.out.bel hbel R0.out.lt)
  have B1 : Hid (Below r w W1) := Lib.hid (B0.out.trans (hbel.mono (Nat.le_of_lt R0.out.lt)))
  have hs1 := R1.out.lt
  obtain ⟨g, hg, hrd0⟩ := Rd.new 110 hb (by omega)
  obtain ⟨rb, hrb⟩ : ∃ x, W1.heap.size = x := ⟨_, rfl⟩
  obtain ⟨W2, hW2⟩ : ∃ W, W = W1.alloc (.cells #[.slice A1 n1 c1, .int .i64 0] 110) := ⟨_, rfl⟩
  have b2 : Below W1.heap.size W1 W2 := by rw [hW2]; exact (Below.refl _ _).alloc (Nat.le_refl _) _
  rw [← hW2, hrb] at hrd0
  have R2 := Lib.hid (R1.out.bel b2 R1.out.lt)
  have B2 := Lib.hid (B1.out.trans (b2.mono (Nat.le_of_lt R1.out.lt)))
  have HG : Hid (g < rb ∧ r < rb) := Lib.hid (by omega)
  have C2 := dNum 1099511627776 (by omega) hrd0
  have HW2 := Lib.hid hW2
  have HRB := Lib.hid hrb
  have e2 : (pNum 1099511627776 (openB l, 0)).1 = verT l := rfl
  rw [e2] at C2
  obtain ⟨t, ht⟩ : ∃ t, verT l = t := ⟨_, rfl⟩
  obtain ⟨x, hx⟩ : ∃ x, verX l = x := ⟨_, rfl⟩
  have HT := Lib.hid ht
  have HX := Lib.hid hx
  rw [ht] at C2 hvt
  rw [hx, ht] at HVE
  have C2 := Lib.hid C2
  clear hb hbel CO B0 R0 HW hs1 hrb hW2 b2 hrd0 hg e2 ht hx R1 B1
  go_wp2_with fail
  rw [← HW2.out, HRB.out]
  refine C2.out.mono ?_
  rintro e W3 ⟨rfl, hr3, g3⟩
  have hr3 : Rd W3 110 rb g (verR l) x := by rw [← HX.out]; exact hr3
  have R3 : Hid (Bk W3 r 24 #[.int .i64 0, .slice none 0 0]) := Lib.hid (R2.out.grow g3 (fun q => by injection q with q; have := HG.out; omega))
  have B3 : Hid (Below r w W3) := Lib.hid (B2.out.grown g3 (Nat.le_of_lt R2.out.lt) (fun k hk => by injection hk with hk; have := HG.out; omega))
  obtain ⟨A3, n3, c3, hy3, k0, k1, hn3⟩ := hr3.byt
  have HY3 := Lib.hid hy3
  have HN3 := Lib.hid hn3
  clear hr3 g3 C2 R2 B2 HW2 HRB hy3 hn3
  by_cases hx : x = 0
  rotate_left
  · have E : Hid (verP z l = vr0) := Lib.hid (verP_no (fun q => by have h1 := HVE.out hx; have h2 := q.2.1; rw [HT.out] at h2; omega))
    have hd : ((x : Int) != 0) = true := by simp; omega
    clear hx HVE
    have Z0 : W3.frozen? ⟨r, 0, none⟩ = false := R3.out.frz 0
    have Z1 : W3.frozen? ⟨r, 1, none⟩ = false := R3.out.frz 1
    have z0 : W3.cell? ⟨r, 0, none⟩ = some (.int .i64 0) := R3.out.cell 0
    have z1 : W3.cell? ⟨r, 1, none⟩ = some (.slice none 0 0) := R3.out.cell 1
    have RZ := Lib.hid ((R3.out.setc 0 (.int .i64 0)).setc 1 (.slice none 0 0))
    have BZ := Lib.hid ((B3.out.setCell (p := ⟨r, 0, none⟩) (Nat.le_refl _) (.int .i64 0)).setCell (p := ⟨r, 1, none⟩) (Nat.le_refl _) (.slice none 0 0))
    go_wp2_with fail
    (try simp only [Exit.inBlock, Exit.then])
    refine bodyPost_ret (results_cellT rfl _ _ r 24 _ _ rfl RZ.out Try.underlying24 rfl pg_inf) rfl ?_
    rw [E.out]
    exact NO.out _ BZ.out
  subst hx
  have HX0 : Hid (verX l = 0) := Lib.hid HX.out
  clear HVE HX
  by_cases h1 : 1 ≤ t
  rotate_left
  · have E : Hid (verP z l = vr0) := Lib.hid (verP_no (fun q => h1 (by have := q.2.1; rw [HT.out] at this; exact this)))
    have h1' : t < 1 := by omega
    clear h1
    have Z0 : W3.frozen? ⟨r, 0, none⟩ = false := R3.out.frz 0
    have Z1 : W3.frozen? ⟨r, 1, none⟩ = false := R3.out.frz 1
    have z0 : W3.cell? ⟨r, 0, none⟩ = some (.int .i64 0) := R3.out.cell 0
    have z1 : W3.cell? ⟨r, 1, none⟩ = some (.slice none 0 0) := R3.out.cell 1
    have RZ := Lib.hid ((R3.out.setc 0 (.int .i64 0)).setc 1 (.slice none 0 0))
    have BZ := Lib.hid ((B3.out.setCell (p := ⟨r, 0, none⟩) (Nat.le_refl _) (.int .i64 0)).setCell (p := ⟨r, 1, none⟩) (Nat.le_refl _) (.slice none 0 0))
    go_wp2_with fail
    (try simp only [Exit.inBlock, Exit.then])
    refine bodyPost_ret (results_cellT rfl _ _ r 24 _ _ rfl RZ.out Try.underlying24 rfl pg_inf) rfl ?_
    rw [E.out]
    exact NO.out _ BZ.out
  have h1' : ¬ t < 1 := by omega
  by_cases h2 : t % 2 = z
  rotate_left
  · have E : Hid (verP z l = vr0) := Lib.hid (verP_no (fun q => h2 (by have := q.2.2.1; rw [HT.out] at this; exact this)))
    have hd : (t % 2 != z) = true := by simpa using h2
    clear h2
    have Z0 : W3.frozen? ⟨r, 0, none⟩ = false := R3.out.frz 0
    have Z1 : W3.frozen? ⟨r, 1, none⟩ = false := R3.out.frz 1
    have z0 : W3.cell? ⟨r, 0, none⟩ = some (.int .i64 0) := R3.out.cell 0
    have z1 : W3.cell? ⟨r, 1, none⟩ = some (.slice none 0 0) := R3.out.cell 1
    have RZ := Lib.hid ((R3.out.setc 0 (.int .i64 0)).setc 1 (.slice none 0 0))
    have BZ := Lib.hid ((B3.out.setCell (p := ⟨r, 0, none⟩) (Nat.le_refl _) (.int .i64 0)).setCell (p := ⟨r, 1, none⟩) (Nat.le_refl _) (.slice none 0 0))
    go_wp2_with fail
    (try simp only [Exit.inBlock, Exit.then])
    refine bodyPost_ret (results_cellT rfl _ _ r 24 _ _ rfl RZ.out Try.underlying24 rfl pg_inf) rfl ?_
    rw [E.out]
    exact NO.out _ BZ.out
  have hd : (t % 2 != z) = false := by simpa using h2
  obtain ⟨⟨d1, d2⟩, hdd⟩ : ∃ d, decPg (verR l) = d := ⟨_, rfl⟩
  have HDD := Lib.hid hdd
  have CD := rpDec_any A3 n3 c3 (verR l) W3 HY3.out (by
    have := (verR_drop HRG.out HX0.out).1
    have := HL.out
    have := HN3.out
    omega)
  rw [hdd] at CD
  have CD := Lib.hid CD
  have HTZ := Lib.hid h2
  clear hdd h2 HY3
  go_wp2_with fail
  refine CD.out.mono ?_
  rintro e w6 ⟨A5, n5, c5, rfl, hown, hbel⟩
  have R6 := Lib.hid (R3.out.bel hbel R3.out.lt)
  have B6 := Lib.hid (B3.out.trans (hbel.mono (Nat.le_of_lt R3.out.lt)))
  have HO6 := Lib.hid hown
  have hs5 := R3.out.lt
  have hs6 := R6.out.lt
  clear hown hbel R3 B3 CD k0 k1
  go_upto_region 9 with fail
  obtain ⟨X, hX⟩ : ∃ X, w6.heap.size = X := ⟨_, rfl⟩
  obtain ⟨w7, hw7⟩ : ∃ W, W = w6.alloc (.cells #[.int .i64 d1.lsn, .slice A5 n5 c5] 24) := ⟨_, rfl⟩
  have hal : Below w6.heap.size w6 w7 := by rw [hw7]; exact (Below.refl _ _).alloc (Nat.le_refl _) _
  have R7 : Hid (Bk w7 r 24 #[.int .i64 0, .slice none 0 0]) := Lib.hid (R6.out.bel hal R6.out.lt)
  have B7 := Lib.hid (B6.out.trans (hal.mono (Nat.le_of_lt R6.out.lt)))
  have HBK : Hid (Bk w7 X 24 #[.int .i64 d1.lsn, .slice A5 n5 c5]) := Lib.hid (by rw [hw7, ← hX]; exact Bk.new w6 _ _)
  have HO7 := Lib.hid (HO6.out.below hal)
  rw [← hw7]
  (try rw [hX])
  rw [hX] at hs6
  clear hw7 hal R6 B6 HO6 hX
  by_cases hre : d2 = 0
  rotate_left
  · have E : Hid (verP z l = vr0) := Lib.hid (verP_no (fun q => hre (by have := q.2.2.2; rw [HDD.out] at this; exact this)))
    have hz : ((d2 : Int) != 0) = true := by simp; omega
    clear hre
    have Z0 : w7.frozen? ⟨r, 0, none⟩ = false := R7.out.frz 0
    have Z1 : w7.frozen? ⟨r, 1, none⟩ = false := R7.out.frz 1
    have z0 : w7.cell? ⟨r, 0, none⟩ = some (.int .i64 0) := R7.out.cell 0
    have z1 : w7.cell? ⟨r, 1, none⟩ = some (.slice none 0 0) := R7.out.cell 1
    have RZ := Lib.hid ((R7.out.setc 0 (.int .i64 0)).setc 1 (.slice none 0 0))
    have BZ := Lib.hid ((B7.out.setCell (p := ⟨r, 0, none⟩) (Nat.le_refl _) (.int .i64 0)).setCell (p := ⟨r, 1, none⟩) (Nat.le_refl _) (.slice none 0 0))
    go_wp2_with fail
    (try simp only [Exit.inBlock, Exit.then])
    refine bodyPost_ret (results_cellT rfl _ _ r 24 _ _ rfl RZ.out Try.underlying24 rfl pg_inf) rfl ?_
    rw [E.out]
    exact NO.out _ BZ.out
  subst hre
  have E : Hid (verP z l = ⟨t, d1⟩) := Lib.hid (by
    have hv : isV z l := ⟨HOE.out, by rw [HT.out]; exact h1, by rw [HT.out]; exact HTZ.out, by rw [HDD.out]⟩
    rw [verP_yes hv, HT.out, HDD.out])
  have q0 : w7.cell? ⟨X, 0, none⟩ = some (.int .i64 d1.lsn) := HBK.out.cell 0
  have q1 : w7.cell? ⟨X, 1, none⟩ = some (.slice A5 n5 c5) := HBK.out.cell 1
  have Z0 : w7.frozen? ⟨r, 0, none⟩ = false := R7.out.frz 0
  have Z1 : w7.frozen? ⟨r, 1, none⟩ = false := R7.out.frz 1
  have z0 : w7.cell? ⟨r, 0, none⟩ = some (.int .i64 0) := R7.out.cell 0
  have z1 : w7.cell? ⟨r, 1, none⟩ = some (.slice none 0 0) := R7.out.cell 1
  have RZ := Lib.hid ((R7.out.setc 0 (.int .i64 d1.lsn)).setc 1 (.slice A5 n5 c5))
  have BZ := Lib.hid ((B7.out.setCell (p := ⟨r, 0, none⟩) (Nat.le_refl _) (.int .i64 d1.lsn)).setCell (p := ⟨r, 1, none⟩) (Nat.le_refl _) (.slice A5 n5 c5))
  have HRES : Hid (RetV1 ⟨t, d1⟩ w (.returned (.tuple #[pgV d1.lsn A5 n5 c5, .int .i64 t])) ((w7.setCell ⟨r, 0, none⟩ (.int .i64 d1.lsn)).setCell ⟨r, 1, none⟩ (.slice A5 n5 c5))) := Lib.hid ⟨A5, n5, c5, rfl, OwnP.lo ⟨own_set (own_set HO7.out.own R7.out (by decide)) (R7.out.setc 0 _) (by decide), HO7.out.len⟩ (by rw [HR.out]; have := R7.out.lt; omega), by rw [HR.out]; exact BZ.out⟩
  clear h1 h1' hd
  go_wp2_with fail
  (try simp only [Exit.inBlock, Exit.then])
  refine bodyPost_ret (results_cellT rfl _ _ r 24 _ _ rfl RZ.out Try.underlying24 rfl pg_inf) rfl ?_
  rw [E.out]
  exact HRES.out

set_option maxRecDepth 100000 in
set_option maxHeartbeats 8000000 in
theorem refLoad11_any (A1 : Option Addr) (n1 c1 : Nat) (a : List Int) (A2 : Option Addr) (n2 c2 : Nat) (b : List Int) (w : World) (h1 : Byt w A1 n1 c1 a) (h2 : Byt w A2 n2 c2 b) :
    Calls Try.prog 20 #[.slice A1 n1 c1, .slice A2 n2 c2] w (RetV1 (loadV a b) w) := by
  obtain ⟨W0, hW0⟩ : ∃ W, W = w.alloc (.cells #[.int .i64 0, .slice none 0 0] 24) := ⟨_, rfl⟩
  have b0 : Below w.heap.size w W0 := by rw [hW0]; exact (Below.refl _ _).alloc (Nat.le_refl _) _
  have r0 : Bk W0 w.heap.size 24 #[.int .i64 0, .slice none 0 0] := by rw [hW0]; exact Bk.new w _ _
  obtain ⟨r, hr⟩ : ∃ r, w.heap.size = r := ⟨_, rfl⟩
  have C1 := Lib.hid (refOne_any 0 A1 n1 c1 a W0 (h1.below b0))
  have Y2 := Lib.hid (h2.below b0)
  have B0 : Hid (Below r w W0) := Lib.hid (by rw [← hr]; exact b0)
  have R0 : Hid (Bk W0 r 24 #[.int .i64 0, .slice none 0 0]) := Lib.hid (by rw [← hr]; exact r0)
  have HW := Lib.hid hW0
  have HR := Lib.hid hr
  have EL : Hid (loadV a b = if (verP 0 a).turn < (verP 1 b).turn then verP 1 b else verP 0 a) := Lib.hid rfl
  obtain ⟨va, hva⟩ : ∃ v, verP 0 a = v := ⟨_, rfl⟩
  obtain ⟨vb, hvb⟩ : ∃ v, verP 1 b = v := ⟨_, rfl⟩
  rw [hva] at C1 EL
  rw [hvb] at EL
  have HVB := Lib.hid hvb
  clear h1 h2 b0 r0 hW0 hr hva hvb
  go_enter Try.func20, Try.ntmps20
  go_wp2_with fail
  rw [← HW.out, HR.out]
  refine C1.out.mono ?_
  rintro e W1 ⟨A3, n3, c3, rfl, ho, b1⟩
  have R1 := Lib.hid (R0.out.bel b1 R0.out.lt)
  have B1 := Lib.hid (B0.out.trans (b1.mono (Nat.le_of_lt R0.out.lt)))
  have O1 : Hid (OwnP r W1 A3 n3 c3 va.pg.cells) := Lib.hid (ho.lo (Nat.le_of_lt R0.out.lt))
  have Y3 := Lib.hid (Y2.out.below b1)
  clear ho b1 C1 R0 B0 Y2 HW
  go_upto_region 2 with fail
  obtain ⟨P, hP⟩ : ∃ X, W1.heap.size = X := ⟨_, rfl⟩
  obtain ⟨W2, hW2⟩ : ∃ W, W = W1.alloc (.cells #[.int .i64 va.pg.lsn, .slice A3 n3 c3] 24) := ⟨_, rfl⟩
  have hal : Below W1.heap.size W1 W2 := by rw [hW2]; exact (Below.refl _ _).alloc (Nat.le_refl _) _
  have KP : Hid (Bk W2 P 24 #[.int .i64 va.pg.lsn, .slice A3 n3 c3]) := Lib.hid (by rw [hW2, ← hP]; exact Bk.new W1 _ _)
  have R2 := Lib.hid (R1.out.bel hal R1.out.lt)
  have B2 := Lib.hid (B1.out.trans (hal.mono (Nat.le_of_lt R1.out.lt)))
  have O2 := Lib.hid (O1.out.below hal)
  have Y4 := Lib.hid (Y3.out.below hal)
  have hrP : r < P := by have := R1.out.lt; omega
  rw [← hW2]
  (try rw [hP])
  clear hW2 hal R1 B1 O1 Y3 hP
  have C2 := refOne_any 1 A2 n2 c2 b W2 Y4.out
  rw [HVB.out] at C2
  have C2 := Lib.hid C2
  go_wp2_with fail
  refine C2.out.mono ?_
  rintro e W3 ⟨A5, n5, c5, rfl, ho, b3⟩
  have R3 := Lib.hid (R2.out.bel b3 R2.out.lt)
  have B3 := Lib.hid (B2.out.trans (b3.mono (Nat.le_of_lt R2.out.lt)))
  have O3 := Lib.hid (O2.out.below b3)
  have P3 := Lib.hid (KP.out.bel b3 KP.out.lt)
  have N3 : Hid (OwnP r W3 A5 n5 c5 vb.pg.cells) := Lib.hid (ho.lo (Nat.le_of_lt R2.out.lt))
  have hPQ : P < W3.heap.size := Nat.lt_of_lt_of_le KP.out.lt b3.size
  clear ho b3 C2 R2 B2 O2 KP Y4
  go_upto_region 3 with fail
  obtain ⟨Q, hQ⟩ : ∃ X, W3.heap.size = X := ⟨_, rfl⟩
  obtain ⟨W4, hW4⟩ : ∃ W, W = W3.alloc (.cells #[.int .i64 vb.pg.lsn, .slice A5 n5 c5] 24) := ⟨_, rfl⟩
  have hal : Below W3.heap.size W3 W4 := by rw [hW4]; exact (Below.refl _ _).alloc (Nat.le_refl _) _
  have KQ : Hid (Bk W4 Q 24 #[.int .i64 vb.pg.lsn, .slice A5 n5 c5]) := Lib.hid (by rw [hW4, ← hQ]; exact Bk.new W3 _ _)
  have R4 := Lib.hid (R3.out.bel hal R3.out.lt)
  have B4 := Lib.hid (B3.out.trans (hal.mono (Nat.le_of_lt R3.out.lt)))
  have O4 := Lib.hid (O3.out.below hal)
  have N4 := Lib.hid (N3.out.below hal)
  have P4 := Lib.hid (P3.out.bel hal P3.out.lt)
  rw [← hW4]
  (try rw [hQ])
  rw [hQ] at hPQ
  clear hW4 hal R3 B3 O3 N3 P3 hQ
  have Z0 : W4.frozen? ⟨r, 0, none⟩ = false := R4.out.frz 0
  have Z1 : W4.frozen? ⟨r, 1, none⟩ = false := R4.out.frz 1
  have z0 : W4.cell? ⟨r, 0, none⟩ = some (.int .i64 0) := R4.out.cell 0
  have z1 : W4.cell? ⟨r, 1, none⟩ = some (.slice none 0 0) := R4.out.cell 1
  by_cases hlt : va.turn < vb.turn
  · have E : Hid (loadV a b = vb) := Lib.hid (by rw [EL.out, if_pos hlt])
    have q0 : W4.cell? ⟨Q, 0, none⟩ = some (.int .i64 vb.pg.lsn) := KQ.out.cell 0
    have q1 : W4.cell? ⟨Q, 1, none⟩ = some (.slice A5 n5 c5) := KQ.out.cell 1
    have RZ := Lib.hid ((R4.out.setc 0 (.int .i64 vb.pg.lsn)).setc 1 (.slice A5 n5 c5))
    have BZ := Lib.hid ((B4.out.setCell (p := ⟨r, 0, none⟩) (Nat.le_refl _) (.int .i64 vb.pg.lsn)).setCell (p := ⟨r, 1, none⟩) (Nat.le_refl _) (.slice A5 n5 c5))
    have HRES : Hid (RetV1 vb w (.returned (.tuple #[pgV vb.pg.lsn A5 n5 c5, .int .i64 vb.turn])) ((W4.setCell ⟨r, 0, none⟩ (.int .i64 vb.pg.lsn)).setCell ⟨r, 1, none⟩ (.slice A5 n5 c5))) := Lib.hid ⟨A5, n5, c5, rfl, OwnP.lo ⟨own_set (own_set N4.out.own R4.out (by decide)) (R4.out.setc 0 _) (by decide), N4.out.len⟩ (by rw [HR.out]; exact Nat.le_refl _), by rw [HR.out]; exact BZ.out⟩
    clear EL
    go_wp2_with fail
    (try simp only [Exit.inBlock, Exit.then])
    refine bodyPost_ret (results_cellT rfl _ _ r 24 _ _ rfl RZ.out Try.underlying24 rfl pg_inf) rfl ?_
    rw [E.out]
    exact HRES.out
  · have E : Hid (loadV a b = va) := Lib.hid (by rw [EL.out, if_neg hlt])
    have q0 : W4.cell? ⟨P, 0, none⟩ = some (.int .i64 va.pg.lsn) := P4.out.cell 0
    have q1 : W4.cell? ⟨P, 1, none⟩ = some (.slice A3 n3 c3) := P4.out.cell 1
    have RZ := Lib.hid ((R4.out.setc 0 (.int .i64 va.pg.lsn)).setc 1 (.slice A3 n3 c3))
    have BZ := Lib.hid ((B4.out.setCell (p := ⟨r, 0, none⟩) (Nat.le_refl _) (.int .i64 va.pg.lsn)).setCell (p := ⟨r, 1, none⟩) (Nat.le_refl _) (.slice A3 n3 c3))
    have HRES : Hid (RetV1 va w (.returned (.tuple #[pgV va.pg.lsn A3 n3 c3, .int .i64 va.turn])) ((W4.setCell ⟨r, 0, none⟩ (.int .i64 va.pg.lsn)).setCell ⟨r, 1, none⟩ (.slice A3 n3 c3))) := Lib.hid ⟨A3, n3, c3, rfl, OwnP.lo ⟨own_set (own_set O4.out.own R4.out (by decide)) (R4.out.setc 0 _) (by decide), O4.out.len⟩ (by rw [HR.out]; exact Nat.le_refl _), by rw [HR.out]; exact BZ.out⟩
    clear EL
    go_wp2_with fail
    (try simp only [Exit.inBlock, Exit.then])
    refine bodyPost_ret (results_cellT rfl _ _ r 24 _ _ rfl RZ.out Try.underlying24 rfl pg_inf) rfl ?_
    rw [E.out]
    exact HRES.out

set_option maxRecDepth 100000 in
set_option maxHeartbeats 4000000 in
theorem refBody_any (t : Int) (ht : 0 ≤ t ∧ t ≤ 1099511627776) (lsn : Int) (A : Option Addr) (n c : Nat) (l : List Cl) (w : World) (h : Pcs w A n c l) (hok : (⟨lsn, l⟩ : Pg).ok) :
    Calls Try.prog 16 #[.int .i64 t, pgV lsn A n c] w (RetOwn (bodyV t ⟨lsn, l⟩) w) := by
  obtain ⟨i0, hi, hz0, hz1, hz2⟩ := info_parts info_u8
  obtain ⟨W0, hW0⟩ : ∃ W, W = w.alloc (.cells #[.int .i64 lsn, .slice A n c] 24) := ⟨_, rfl⟩
  have B0 : Hid (Below w.heap.size w W0) := Lib.hid (by rw [hW0]; exact (Below.refl _ _).alloc (Nat.le_refl _) _)
  have BP : Hid (Bk W0 w.heap.size 24 #[.int .i64 lsn, .slice A n c]) := Lib.hid (by rw [hW0]; exact Bk.new w _ _)
  have P0 := Lib.hid (h.below B0.out)
  have HW := Lib.hid hW0
  have C1 := Lib.hid (refNum_own t W0 (by omega))
  have HLN : Hid ((numL t).length ≤ 10) := Lib.hid (numL_len t (by omega))
  have HLP := Lib.hid (pgL_len hok)
  have HOK := Lib.hid hok
  have HS0 := Lib.hid B0.out.size
  clear h hW0 hok
  go_enter Try.func16, Try.ntmps16
  go_wp2_with fail
  rw [← HW.out]
  refine C1.out.mono ?_
  rintro e W1 ⟨A1, n1, c1, rfl, ho1, hr1, b1⟩
  have B1 := Lib.hid (B0.out.trans (b1.mono B0.out.size))
  have HB1 := Lib.hid b1.size
  have K1 := Lib.hid (BP.out.bel b1 BP.out.lt)
  have P1 := Lib.hid (P0.out.below b1)
  have O1 := Lib.hid ho1
  have HR1 := Lib.hid hr1
  have p0 : W1.cell? ⟨w.heap.size, 0, none⟩ = some (.int .i64 lsn) := K1.out.cell 0
  have p1 : W1.cell? ⟨w.heap.size, 1, none⟩ = some (.slice A n c) := K1.out.cell 1
  have C2 := rpEnc_any lsn A n c l W1 P1.out
  rw [encPg_ok HOK.out] at C2
  have C2 := Lib.hid C2
  clear ho1 hr1 b1 C1 B0 BP P0 HW
  go_wp2_with fail
  refine C2.out.mono ?_
  rintro e W2 ⟨A2, n2, c2, rfl, ho2, hr2, b2⟩
  have B2 := Lib.hid (B1.out.trans (b2.mono B1.out.size))
  have O2 : Hid (W2.ownsRow W0.heap.size 5 1 (.slice A1 n1 c1) n1 ((numL t).map (Value.int .u8))) := Lib.hid (owns_keep O1.out (fun q hq => b2.block q (O1.out.lt q hq).2))
  have Y2 := Lib.hid (Byt.of_own ho2 hr2)
  have HR2 := Lib.hid hr2
  have hn1 : n1 ≤ 10 := by
    have := O1.out.1
    have h2 := HLN.out
    simp at this
    omega
  have hn2 : n2 ≤ 254 := by
    have := ho2.1
    have h2 := HLP.out
    simp at this h2
    omega
  have HSZ : Hid (W0.heap.size ≤ W2.heap.size) := Lib.hid (by
    have h1 := b2.size
    have h2 := HB1.out
    omega)
  clear ho2 hr2 b2 C2 O1 p0 p1 P1 K1
  go_wp2_with (at_builtin; refine wpList_append_byt rfl _ _ 35 rfl W0.heap.size 5 i0 Try.underlying35 hi hz0 hz1 hz2 _ n1 (numL t) rfl (by exact O2.out) A2 n2 c2 _ rfl Y2.out (by omega) HSZ.out ?_)
  intro A3 c3 W3 q1 q2
  have R : Hid (RetOwn (bodyV t ⟨lsn, l⟩) w (.returned (.slice A3 (n1 + n2) c3)) W3) := Lib.hid ⟨A3, n1 + n2, c3, rfl, by
    have e : bodyV t ⟨lsn, l⟩ = numL t ++ pgL ⟨lsn, l⟩ := rfl
    rw [e, List.map_append]
    exact owns_low q1 HS0.out, bodyV_rng _ _, B2.out.grown q2 B2.out.size (fun k hk => Nat.le_trans HS0.out (O2.out.lt k hk).1)⟩
  clear q1 q2
  go_wp2_with fail
  go_ret
  exact R.out
end Go.Proofs.Ytomhofppcogojaa

/- what SlotSaves' disk of 40 sectors has, in plain mathematics. No program is named. -/
namespace Go.Proofs.Ytomhofppcogojaa
open Go.RowKit

theorem Sld.rErr_is {N : Nat} {s : St} {k : Nat} (h : Sld N s k) (z : Int) : s.rErr z = if z < 0 ∨ (N : Int) ≤ z then 1 else 0 := by
  unfold St.rErr
  rw [h.num, h.gone]
  split <;> rfl
theorem ldE_40 {s : St} {k : Nat} (h : Sld 40 s k) {base n : Int} (hp : plOk base n) : ldE s.rErr base n = if 39 < base + 2 * n + 1 then 1 else 0 := by
  obtain ⟨⟨h1, h2⟩, h3, h4⟩ := hp
  have r0 : (40 ≤ base + 2 * n → s.rErr (base + 2 * n) = 1) ∧ (base + 2 * n < 40 → s.rErr (base + 2 * n) = 0) := ⟨fun q => by rw [h.rErr_is, if_pos (by omega)], fun q => by rw [h.rErr_is, if_neg (by omega)]⟩
  have r1 : (40 ≤ base + 2 * n + 1 → s.rErr (base + 2 * n + 1) = 1) ∧ (base + 2 * n + 1 < 40 → s.rErr (base + 2 * n + 1) = 0) := ⟨fun q => by rw [h.rErr_is, if_pos (by omega)], fun q => by rw [h.rErr_is, if_neg (by omega)]⟩
  obtain ⟨x, hx⟩ : ∃ x, s.rErr (base + 2 * n) = x := ⟨_, rfl⟩
  obtain ⟨y, hy⟩ : ∃ x, s.rErr (base + 2 * n + 1) = x := ⟨_, rfl⟩
  rw [hx] at r0
  rw [hy] at r1
  unfold ldE
  rw [if_pos (by omega), hx, hy]
  split <;> split <;> omega
theorem ldE_bad {E : Int → Int} {base n : Int} (hp : ¬ plOk base n) : ldE E base n = 1 := if_neg hp
theorem zeros_pair : loadV zeros zeros = vr0 := by
  unfold loadV
  rw [verP_zeros, verP_zeros, if_neg (by omega)]
theorem new_bytes (N : Nat) (z : Int) : (St.new N).rBytes z = zeros ∨ (St.new N).rBytes z = [] := by
  unfold St.rBytes
  split
  · exact .inl rfl
  · exact .inr rfl
theorem verP_nil (z : Int) : verP z [] = vr0 := verP_no (fun q => by have := q.1; rw [openE_len (by simp)] at this; omega)
theorem ldV_new (N : Nat) (base n : Int) : ldV (St.new N).rErr (St.new N).rBytes base n = vr0 := by
  unfold ldV
  split
  · rfl
  · have hz : ∀ z i, verP i ((St.new N).rBytes z) = vr0 := fun z i => by
      rcases new_bytes N z with h | h
      · rw [h, verP_zeros]
      · rw [h, verP_nil]
    unfold loadV
    rw [hz, hz, if_neg (by omega)]

/-- A version that is put among none. -/
theorem pair_fresh {f : Nat → List Int} (hf : ∀ n, f n = zeros) {b : Nat} {t : Int} {X : List Int} {p : Pg} (ht : 1 ≤ t) (hX : verAt t X = ⟨t, p⟩) : pairV (upd f (b + (t % 2).toNat) X) b = ⟨t, p⟩ := by
  unfold pairV loadV
  unfold verAt at hX
  have h0 : vr0.turn = 0 := rfl
  rcases (show t % 2 = 0 ∨ t % 2 = 1 by omega) with e | e
  · rw [e] at hX ⊢
    rw [show b + (0 : Int).toNat = b from rfl, upd_here, upd_ne _ _ (by omega), hX, hf, verP_zeros, if_neg]
    show ¬ t < _
    omega
  · rw [e] at hX ⊢
    rw [show b + (1 : Int).toNat = b + 1 from rfl, upd_here, upd_ne _ _ (by omega), hX, hf, verP_zeros, if_pos]
    show _ < t
    omega

/-- What Save at a place of the disk leaves. -/
structure Sav40 (base n turn : Int) (p : Pg) : Prop where
  err : slE (St.new 40) base n turn p = 0
  rd : (slS (St.new 40) base n turn p).rErr (slSec base n turn) = 0
  byt : (slS (St.new 40) base n turn p).rBytes (slSec base n turn) = wrapL 1 (bodyV turn p)
  ld : ldE (slS (St.new 40) base n turn p).rErr base n = if 39 < base + 2 * n + 1 then 1 else 0
  lv : ¬ 39 < base + 2 * n + 1 → ldV (slS (St.new 40) base n turn p).rErr (slS (St.new 40) base n turn p).rBytes base n = ⟨turn, p⟩
theorem sav40 {base n turn : Int} {p : Pg} (h : slOk base n turn p) (hz : slSec base n turn ≤ 39) : Sav40 base n turn p := by
  obtain ⟨ht, ⟨⟨h1, h2⟩, h3, h4⟩, hp⟩ := h
  obtain ⟨e1, e2⟩ := sl_yes (s := St.new 40) (show slOk base n turn p from ⟨ht, ⟨⟨h1, h2⟩, h3, h4⟩, hp⟩)
  obtain ⟨b, rfl⟩ := Int.eq_ofNat_of_zero_le h1
  obtain ⟨m, rfl⟩ := Int.eq_ofNat_of_zero_le h3
  have ez : slSec (b : Nat) (m : Nat) turn = ((b + 2 * m + (turn % 2).toNat : Nat) : Int) := by unfold slSec; omega
  have hz' : b + 2 * m + (turn % 2).toNat < 40 := by rw [ez] at hz; omega
  obtain ⟨s1, s2, s3, _⟩ := (Sld.start 40).save (n := b + 2 * m + (turn % 2).toNat) (p := bodyV turn p) hz' (bodyV_len ht.2 hp) (bodyV_rng _ _)
  rw [ez] at e1 e2
  obtain ⟨r1, r2⟩ := s3.rd (n := b + 2 * m + (turn % 2).toNat) hz'
  refine ⟨e1.trans s1, by rw [e2, ez]; exact r1, ?_, by rw [e2]; exact ldE_40 s3 ⟨⟨h1, h2⟩, h3, h4⟩, fun hl => ?_⟩
  · rw [e2, ez, r2, s2, upd_here]
    rfl
  · rw [e2]
    have := (s3.load (base := b) (n := m) (by omega) (by omega)).2
    rw [this, s2]
    exact pair_fresh (fun _ => rfl) ht.1 (verAt_put ht hp)
/-- A sector that isn't there. -/
theorem out40 {base n turn : Int} {p : Pg} (h : slOk base n turn p) (hz : 39 < slSec base n turn) : slE (St.new 40) base n turn p = 1 ∧ slS (St.new 40) base n turn p = St.new 40 ∧ 39 < base + 2 * n + 1 := by
  obtain ⟨e1, e2⟩ := sl_yes (s := St.new 40) h
  obtain ⟨ht, ⟨⟨h1, h2⟩, h3, h4⟩, hp⟩ := h
  have hl := bodyV_len ht.2 hp
  have hr : (St.new 40).rErr (slSec base n turn) = 1 := by rw [(Sld.start 40).rErr_is, if_pos (by omega)]
  have hp1 : putE (St.new 40) (slSec base n turn) (bodyV turn p) = 1 := by
    unfold putE
    rw [if_neg (by omega), if_pos (by rw [hr]; simp), hr]
  have hp2 : putS (St.new 40) (slSec base n turn) (bodyV turn p) = St.new 40 := by
    unfold putS
    rw [if_neg (by omega), if_pos (by rw [hr]; simp)]
  refine ⟨?_, ?_, by unfold slSec at hz; omega⟩
  · rw [e1]; unfold svE; rw [if_pos (by rw [hp1]; simp), hp1]
  · rw [e2]; unfold svS; rw [if_pos (by rw [hp1]; simp), hp2]
end Go.Proofs.Ytomhofppcogojaa

/- rows of bytes that are filled up with noughts; two rows that lie apart. -/
namespace Go.Proofs.Ytomhofppcogojaa
open Go.RowKit

/-- Filled up to k bytes. -/
def filL (p : List Int) (k : Nat) : List Int := p ++ List.replicate (k - p.length) 0
theorem filL_next {p : List Int} {k : Nat} (h : p.length ≤ k) : filL p k ++ [0] = filL p (k + 1) := by
  unfold filL
  rw [show k + 1 - p.length = (k - p.length) + 1 from by omega, List.replicate_succ', List.append_assoc]
theorem filL_start (p : List Int) : filL p p.length = p := by simp [filL]
theorem filL_rng {p : List Int} (h : ∀ x ∈ p, 0 ≤ x ∧ x < 256) (k : Nat) : ∀ x ∈ filL p k, 0 ≤ x ∧ x < 256 := by
  intro x hx
  rcases List.mem_append.1 hx with q | q
  · exact h x q
  · obtain ⟨_, rfl⟩ := List.mem_replicate.1 q
    omega
theorem filL_sec {p : List Int} (h : ∀ x ∈ p, 0 ≤ x ∧ x < 256) (hl : p.length ≤ 256) : Sec (filL p 256) := ⟨by simp [filL]; omega, filL_rng h 256⟩

/-- Two rows of the call's own that lie apart. -/
structure Rws2 (w wr : World) (a : Value) (k : Nat) (l : List Int) (b : Value) (j : Nat) (m : List Int) : Prop where
  one : wr.ownsRow w.heap.size 5 1 a k (l.map (Value.int .u8))
  two : wr.ownsRow w.heap.size 5 1 b j (m.map (Value.int .u8))
  apart : ∀ q, a.ownBlock = some q → b.ownBlock ≠ some q
  bel : Below w.heap.size w wr

theorem kept_ap2 {w w' : World} {base : Nat} {a b : Value} {k : Nat} {xs : List Value} (h : w.ownsRow base 5 1 b k xs) (hg : w.grownBy w' a.ownBlock) (ha : ∀ q, a.ownBlock = some q → b.ownBlock ≠ some q) : w'.ownsRow base 5 1 b k xs :=
  owns_keep h (fun q hq => hg.block q (h.lt q hq).2 (fun e => ha q e.symm hq))

theorem Rws2.swap {w wr : World} {a b : Value} {k j : Nat} {l m : List Int} (h : Rws2 w wr a k l b j m) : Rws2 w wr b j m a k l := ⟨h.two, h.one, fun q e f => h.apart q f e, h.bel⟩
/-- Behind an append onto the first. -/
theorem Rws2.app {w wr w' : World} {a b a' : Value} {k j k' : Nat} {l m l' : List Int} (h : Rws2 w wr a k l b j m) (h1 : w'.ownsRow w.heap.size 5 1 a' k' (l'.map (Value.int .u8))) (h2 : wr.grownBy w' a.ownBlock) (h3 : ∀ q, a'.ownBlock = some q → a.ownBlock = some q ∨ wr.heap.size ≤ q) : Rws2 w w' a' k' l' b j m :=
  ⟨h1, kept_ap2 h.two h2 h.apart, fun q e f => by
    rcases h3 q e with g | g
    · exact h.apart q g f
    · have := (h.two.lt q f).2
      omega, h.bel.grown h2 h.bel.size (fun q hq => (h.one.lt q hq).1)⟩
/-- Behind a new block. -/
theorem Rws2.alloc {w wr : World} {a b : Value} {k j : Nat} {l m : List Int} (h : Rws2 w wr a k l b j m) (o : Obj) : Rws2 w (wr.alloc o) a k l b j m :=
  ⟨h.one.alloc o, h.two.alloc o, h.apart, h.bel.alloc h.bel.size o⟩

theorem byt1b (W : World) (x : Int) (hx : 0 ≤ x ∧ x < 256) : Byt (W.alloc (.cells #[.int .u8 x] 5)) (some ⟨W.heap.size, 0, none⟩) 1 1 [x] :=
  Byt.lit W 5 [x] 1 rfl (by unfold maxLen; omega) (fun y hy => by simp at hy; rw [hy]; exact hx)

end Go.Proofs.Ytomhofppcogojaa

/- what the statements remember of three pages, in memory beside a disk. -/
namespace Go.Proofs.Ytomhofppcogojaa
open Go.RowKit

theorem Pcs.same {w w' : World} {A : Option Addr} {n c : Nat} {l : List Cl} (h : Pcs w A n c l) (hk : ∀ a, A = some a → w'.heap[a.block]? = w.heap[a.block]?) : Pcs w' A n c l :=
  ⟨⟨h.flt.len, h.flt.cap, h.flt.max, h.flt.nil_, fun hn => by
    obtain ⟨g, off, e, hc⟩ := h.flt.at_ hn
    exact ⟨g, off, e, fun j v hv => (cell_heap (hk _ e)).trans (hc j v hv)⟩⟩, h.len⟩

/-- A slice that reads as these cells, its block one of F. -/
def PgF (w : World) (F : Nat → Prop) (v : Value) (l : List Cl) : Prop := ∃ A n c, v = .slice A n c ∧ Pcs w A n c l ∧ ∀ a, A = some a → F a.block
theorem PgF.keep {w w' : World} {F : Nat → Prop} {v : Value} {l : List Cl} (h : PgF w F v l) (hk : ∀ k, F k → w'.heap[k]? = w.heap[k]?) : PgF w' F v l := by
  obtain ⟨A, n, c, e, hb, hf⟩ := h
  exact ⟨A, n, c, e, hb.same (fun a ha => hk _ (hf a ha)), hf⟩
theorem PgF.mono {w : World} {F G : Nat → Prop} {v : Value} {l : List Cl} (h : PgF w F v l) (hk : ∀ k, F k → G k) : PgF w G v l := by
  obtain ⟨A, n, c, e, hb, hf⟩ := h
  exact ⟨A, n, c, e, hb, fun a ha => hk _ (hf a ha)⟩

/-- The three that are remembered. -/
structure HpB (w : World) (F : Nat → Prop) (q : Nat) (vs : Nat → Value) (H : Nat → Pg) : Prop where
  blk : Bk w q 48 #[.int .i64 (H 0).lsn, vs 0, .int .i64 (H 1).lsn, vs 1, .int .i64 (H 2).lsn, vs 2]
  each : ∀ n, n < 3 → PgF w F (vs n) (H n).cells
  fq : F q
  lt : ∀ k, F k → k < w.heap.size
theorem HpB.keep {w w' : World} {F : Nat → Prop} {q : Nat} {vs : Nat → Value} {H : Nat → Pg} (h : HpB w F q vs H) (hs : w.heap.size ≤ w'.heap.size) (hk : ∀ k, F k → w'.heap[k]? = w.heap[k]?) : HpB w' F q vs H :=
  ⟨h.blk.eq (hk q h.fq), fun n hn => (h.each n hn).keep hk, h.fq, fun k f => Nat.lt_of_lt_of_le (h.lt k f) hs⟩

/-- The same as a thing. -/
def pgs (q : Nat) (H : Nat → Pg) : Res where
  is w F := ∃ vs, HpB w F q vs H
  lt _ _ := fun ⟨_, h⟩ => h.lt
  keep _ _ _ := fun ⟨vs, h⟩ hs hk => ⟨vs, h.keep hs hk⟩

section
variable {w w' : World} {F : Nat → Prop} {q : Nat} {vs : Nat → Value} {H : Nat → Pg} {B : Nat} {S : Res}

theorem pgF_nils (w : World) : PgF w F (.slice none 0 0) [] := ⟨none, 0, 0, rfl, ⟨Flt.nil w 3, rfl⟩, fun _ h => nomatch h⟩
/-- New, nothing remembered. -/
theorem pgs_new (h : Has B S w) (hB : B ≤ w.heap.size) : Has B ((pgs w.heap.size (fun _ => pg0)).star S) (w.alloc (.cells #[.int .i64 0, .slice none 0 0, .int .i64 0, .slice none 0 0, .int .i64 0, .slice none 0 0] 48)) :=
  h.new hB ((Below.refl _ _).alloc (Nat.le_refl _) _) ⟨fun _ => .slice none 0 0, ⟨Bk.new w _ _, fun _ _ => pgF_nils _, ⟨Nat.le_refl _, (Bk.new w _ _).lt⟩, fun _ f => f.2⟩⟩

theorem three_set (H : Nat → Pg) (vs : Nat → Value) (j : Nat) (hj : j < 3) (p : Pg) (u : Value) :
    ((#[.int .i64 (H 0).lsn, vs 0, .int .i64 (H 1).lsn, vs 1, .int .i64 (H 2).lsn, vs 2] : Array Value).setIfInBounds (j * 2) (.int .i64 p.lsn)).setIfInBounds (j * 2 + 1) u =
      #[.int .i64 ((fun m => if m = j then p else H m) 0).lsn, (fun m => if m = j then u else vs m) 0, .int .i64 ((fun m => if m = j then p else H m) 1).lsn, (fun m => if m = j then u else vs m) 1, .int .i64 ((fun m => if m = j then p else H m) 2).lsn, (fun m => if m = j then u else vs m) 2] := by
  have : j = 0 ∨ j = 1 ∨ j = 2 := by omega
  rcases this with h | h | h <;> subst h <;> rfl

theorem setCells_two (w : World) (q o : Nat) (a b : Value) : w.setCells q o [a, b] = (w.setCell ⟨q, o, none⟩ a).setCell ⟨q, o + 1, none⟩ b := rfl

/-- A page in new memory is remembered as number j. -/
theorem pgs_set {w' : World} {A : Option Addr} {n c : Nat} {p : Pg} (h : Has B ((pgs q H).star S) w) (hB : B ≤ w.heap.size) (hb : Below w.heap.size w w') (ho : OwnP w.heap.size w' A n c p.cells) (j : Nat) (hj : j < 3) :
    Has B ((pgs q (fun m => if m = j then p else H m)).star S) (w'.setCells q (j * 2) [.int .i64 p.lsn, .slice A n c]) ∧ Below B w (w'.setCells q (j * 2) [.int .i64 p.lsn, .slice A n c]) := by
  obtain ⟨F, ⟨vs, h1⟩, hturn⟩ := h.turn1 hB
  rw [setCells_two]
  obtain ⟨W2, hW2⟩ : ∃ W2, (w'.setCell ⟨q, j * 2, none⟩ (.int .i64 p.lsn)).setCell ⟨q, j * 2 + 1, none⟩ (.slice A n c) = W2 := ⟨_, rfl⟩
  rw [hW2]
  have hother : ∀ k, k ≠ q → W2.heap[k]? = w'.heap[k]? := fun k hk => by
    rw [← hW2]
    exact (Below.heap_setCell _ ⟨q, j * 2 + 1, none⟩ _ k hk).trans (Below.heap_setCell _ ⟨q, j * 2, none⟩ _ k hk)
  have hsz : W2.heap.size = w'.heap.size := by rw [← hW2]; simp [World.setCell]
  have hqlt : q < w.heap.size := h1.lt q h1.fq
  have hbk : Bk w' q 48 #[.int .i64 (H 0).lsn, vs 0, .int .i64 (H 1).lsn, vs 1, .int .i64 (H 2).lsn, vs 2] := h1.blk.bel hb hqlt
  have hb2 : Bk W2 q 48 #[.int .i64 ((fun m => if m = j then p else H m) 0).lsn, (fun m => if m = j then (.slice A n c) else vs m) 0, .int .i64 ((fun m => if m = j then p else H m) 1).lsn, (fun m => if m = j then (.slice A n c) else vs m) 1, .int .i64 ((fun m => if m = j then p else H m) 2).lsn, (fun m => if m = j then (.slice A n c) else vs m) 2] := by
    have := (hbk.setc (j * 2) (.int .i64 p.lsn)).setc (j * 2 + 1) (.slice A n c)
    rw [three_set H vs j hj p (.slice A n c)] at this
    rw [← hW2]
    exact this
  have hFr : Fr F w W2 := by
    rw [← hW2]
    exact ((Fr.of_below hb).setCell (a := ⟨q, j * 2, none⟩) h1.fq _).setCell (a := ⟨q, j * 2 + 1, none⟩) h1.fq _
  refine hturn _ _ ⟨⟨fun m => if m = j then (.slice A n c) else vs m, ⟨hb2, fun m hm => ?_, .inl h1.fq, fun k f => ?_⟩⟩, hFr⟩
  · by_cases e : m = j
    · simp only [if_pos e]
      refine ⟨A, n, c, rfl, ho.pcs.same (fun a ha => hother _ ?_), fun a ha => .inr ?_⟩
      · have := ho.own.lt a.block (by rw [ha]; rfl)
        omega
      · have := ho.own.lt a.block (by rw [ha]; rfl)
        exact ⟨this.1, by rw [hsz]; exact this.2⟩
    · simp only [if_neg e]
      obtain ⟨A', n', c', e', hp, hf⟩ := h1.each m hm
      refine ⟨A', n', c', e', ⟨⟨hp.flt.len, hp.flt.cap, hp.flt.max, hp.flt.nil_, fun hn => ?_⟩, hp.len⟩, fun a ha => .inl (hf a ha)⟩
      obtain ⟨g, off, e1, hc⟩ := hp.flt.at_ hn
      have hgq : g ≠ q := by
        rintro rfl
        obtain ⟨x, r, hcl⟩ : ∃ x r, (H m).cells = x :: r := by
          cases hcl : (H m).cells with
          | nil => have hl := hp.len; rw [hcl] at hl; simp at hl; omega
          | cons x r => exact ⟨x, r, rfl⟩
        have h0 := hc 0 (.string x.key) (by rw [hcl]; rfl)
        rw [h1.blk.cell] at h0
        have hv : ∀ n, n < 3 → ∃ A' n' c', vs n = .slice A' n' c' := fun n hn => by
          obtain ⟨A', n', c', e', _⟩ := h1.each n hn
          exact ⟨A', n', c', e'⟩
        have hlt : off + 0 < 6 := by
          have := (Array.getElem?_eq_some_iff.1 h0).1
          simpa using this
        have : off + 0 = 0 ∨ off + 0 = 1 ∨ off + 0 = 2 ∨ off + 0 = 3 ∨ off + 0 = 4 ∨ off + 0 = 5 := by omega
        rcases this with q | q | q | q | q | q <;> rw [q] at h0
        · simp at h0
        · obtain ⟨A', n', c', e'⟩ := hv 0 (by omega); simp [e'] at h0
        · simp at h0
        · obtain ⟨A', n', c', e'⟩ := hv 1 (by omega); simp [e'] at h0
        · simp at h0
        · obtain ⟨A', n', c', e'⟩ := hv 2 (by omega); simp [e'] at h0
      refine ⟨g, off, e1, fun i v hv => (cell_heap ((hother g hgq).trans ?_)).trans (hc i v hv)⟩
      exact hb.block g (h1.lt g (hf _ e1))
  · rcases f with f | f
    · rw [hsz]; exact Nat.lt_of_lt_of_le (h1.lt k f) hb.size
    · exact f.2

/-- What the law reads of it. -/
theorem pgs_at (h : Has B ((pgs q H).star S) w) (j : Nat) (hj : j < 3) : ∃ A n c, w.cell? ⟨q, j * 2, none⟩ = some (.int .i64 (H j).lsn) ∧ w.cell? ⟨q, j * 2 + 1, none⟩ = some (.slice A n c) ∧ Pcs w A n c (H j).cells := by
  obtain ⟨F, ⟨vs, h1⟩⟩ := h.fst.ex
  obtain ⟨A, n, c, e, hb, _⟩ := h1.each j hj
  refine ⟨A, n, c, ?_, ?_, hb⟩
  · rw [h1.blk.cell]
    have : j = 0 ∨ j = 1 ∨ j = 2 := by omega
    rcases this with q | q | q <;> subst q <;> rfl
  · rw [h1.blk.cell, ← e]
    have : j = 0 ∨ j = 1 ∨ j = 2 := by omega
    rcases this with q | q | q <;> subst q <;> rfl
theorem pgs_there (h : Has B ((pgs q H).star S) w) (j : Nat) (hj : j < 3) : w.there q (j * 2) 2 := by
  obtain ⟨F, ⟨vs, h1⟩⟩ := h.fst.ex
  intro i hi
  refine ⟨?_, h1.blk.frz _⟩
  rw [h1.blk.cell]
  have : j * 2 + i < 6 := by omega
  simp [this]
end
end Go.Proofs.Ytomhofppcogojaa

/- what a save behind a fuse leaves of three pages, in plain mathematics; three turns in memory. -/
namespace Go.Proofs.Ytomhofppcogojaa
open Go.RowKit

/-- Of f' against f: the other pages are the same, page nn is the one that was saved, or the same where it needn't be. -/
structure NewV (f f' : Nat → List Int) (nn : Nat) (t : Int) (p : Pg) (must : Bool) : Prop where
  other : ∀ m : Nat, m < 3 → m ≠ nn → pairV f' (2 + 2 * m) = pairV f (2 + 2 * m)
  it : pairV f' (2 + 2 * nn) = ⟨t, p⟩ ∨ (must = false ∧ pairV f' (2 + 2 * nn) = pairV f (2 + 2 * nn))

/-- What comes of a save. -/
structure Outc (s s' : St) (k : Nat) (fu : Int) (nn : Nat) (t : Int) (p : Pg) (er : Int) : Prop where
  two : er = 0 ∨ er = 40
  gone : s'.gone = decide (er = 40)
  neg : fu < 0 → er = 0 ∧ Sld 8 s' (k + 1) ∧ NewV s.syn s'.syn nn t p true
  pos : 0 ≤ fu → ∀ c, Sld 8 (s'.crash c) (k + 1) ∧ NewV s.syn (s'.crash c).syn nn t p (decide (er = 0))

theorem new_put {s : St} {nn : Nat} {t : Int} {p : Pg} (ht : t = (pairV s.syn (2 + 2 * nn)).turn + 1) (ht2 : t ≤ 1099511627776) (hp : p.ok) (must : Bool) :
    NewV s.syn (upd s.syn (2 + 2 * nn + (t % 2).toNat) (putL s (2 + 2 * nn + (t % 2).toNat) (bodyV t p))) nn t p must :=
  ⟨fun m _ hne => pair_other (by omega) (by omega), .inl (pair_next ht (verAt_put ⟨by have := (pairV_turn s.syn (2 + 2 * nn)).1; omega, ht2⟩ hp))⟩

theorem outc {s : St} {k : Nat} (h : Sld 8 s k) (ok : s.Ok) {nn : Nat} (hn : nn < 3) {t : Int} {p : Pg} (ht : t = (pairV s.syn (2 + 2 * nn)).turn + 1) (ht2 : t ≤ 1099511627776) (hp : p.ok) (fu : Int) :
    Outc s (slS (s.fuse fu) 2 nn t p) k fu nn t p (slE (s.fuse fu) 2 nn t p) := by
  have h0 := (pairV_turn s.syn (2 + 2 * nn)).1
  have hok : slOk 2 nn t p := ⟨⟨by omega, ht2⟩, ⟨⟨by omega, by omega⟩, ⟨by omega, by omega⟩⟩, hp⟩
  obtain ⟨e1, e2⟩ := sl_yes (s := s.fuse fu) hok
  have ez : slSec 2 nn t = ((2 + 2 * nn + (t % 2).toNat : Nat) : Int) := by unfold slSec; omega
  rw [ez] at e1 e2
  rw [e1, e2]
  have hz : 2 + 2 * nn + (t % 2).toNat < 8 := by omega
  have hl := bodyV_len ht2 hp
  have hr := bodyV_rng t p
  by_cases f0 : fu = 0
  · subst f0
    obtain ⟨a, b, c⟩ := sv_zero h hz hl hr
    rw [a]
    refine ⟨.inr rfl, by rw [b]; rfl, fun q => absurd q (by omega), fun _ cr => ⟨(c cr).1.mono (by omega), ?_⟩⟩
    rw [(c cr).2]
    exact ⟨fun _ _ _ => rfl, .inr ⟨rfl, rfl⟩⟩
  by_cases f1 : fu = 1
  · subst f1
    obtain ⟨a, b, c⟩ := sv_one h hz hl hr
    rw [a]
    refine ⟨.inr rfl, by rw [b]; rfl, fun q => absurd q (by omega), fun _ cr => ⟨(c cr).1.mono (by omega), ?_⟩⟩
    rw [(c cr).2]
    refine ⟨fun m _ hne => pair_other (by omega) (by omega), ?_⟩
    rcases pair_torn ok ht ht2 hp (cr.of 1 0) (cr.of_le 1 0) with q | q
    · exact .inl q
    · exact .inr ⟨rfl, q⟩
  obtain ⟨a, b, c, d, _, e⟩ := sv_more h hz hl hr f0 f1
  rw [a]
  refine ⟨.inl rfl, by rw [b]; rfl, fun q => ⟨rfl, d q, ?_⟩, fun _ cr => ⟨(e cr).1.mono (by omega), ?_⟩⟩
  · rw [c]; exact new_put ht ht2 hp true
  · rw [(e cr).2]; exact new_put ht ht2 hp _

/-- Three turns in memory. -/
def trs (q : Nat) (T : Nat → Int) : Res := blkR q 49 #[.int .i64 (T 0), .int .i64 (T 1), .int .i64 (T 2)]
section
variable {w : World} {q B : Nat} {T : Nat → Int} {S : Res}
theorem trs_cell (h : Has B (trs q T) w) (j : Nat) (hj : j < 3) : w.cell? ⟨q, j, none⟩ = some (.int .i64 (T j)) := by
  rw [(bk_of h).cell]
  have : j = 0 ∨ j = 1 ∨ j = 2 := by omega
  rcases this with e | e | e <;> subst e <;> rfl
theorem trs_frz (h : Has B (trs q T) w) (j : Nat) : w.frozen? ⟨q, j, none⟩ = false := (bk_of h).frz j
theorem trs_set (h : Has B ((trs q T).star S) w) (hB : B ≤ w.heap.size) (j : Nat) (hj : j < 3) (t : Int) :
    Has B ((trs q (fun m => if m = j then t else T m)).star S) (w.setCell ⟨q, j, none⟩ (.int .i64 t)) ∧ Below B w (w.setCell ⟨q, j, none⟩ (.int .i64 t)) := by
  obtain ⟨F, ⟨hb, hg, hl⟩, ht⟩ := h.turn1 hB
  have hs : (w.setCell ⟨q, j, none⟩ (.int .i64 t)).heap.size = w.heap.size := by simp [World.setCell]
  refine ht (trs q (fun m => if m = j then t else T m)) _ ⟨⟨?_, .inl hg, fun k f => ?_⟩, Fr.setCell (a := ⟨q, j, none⟩) (Fr.refl _ _) hg _⟩
  · have := hb.setc j (.int .i64 t)
    have e : (#[.int .i64 (T 0), .int .i64 (T 1), .int .i64 (T 2)] : Array Value).setIfInBounds j (.int .i64 t) = #[.int .i64 ((fun m => if m = j then t else T m) 0), .int .i64 ((fun m => if m = j then t else T m) 1), .int .i64 ((fun m => if m = j then t else T m) 2)] := by
      have : j = 0 ∨ j = 1 ∨ j = 2 := by omega
      rcases this with e | e | e <;> subst e <;> rfl
    rwa [e] at this
  · rw [hs]
    rcases f with f | f
    · exact hl k f
    · have := f.2; rwa [hs] at this
/-- Last first, and back. -/
theorem toT {D P X : Res} {T : Res} (h : Has B (D.star (P.star (T.star X))) w) : Has B (T.star (X.star (D.star P))) w := h.sw.sw.assoc
theorem ofT {D P X : Res} {T : Res} (h : Has B (T.star (X.star (D.star P))) w) : Has B (D.star (P.star (T.star X))) w := h.assoc'.comm.assoc
theorem Res.star_mapR {R S S' : Res} {w : World} {F : Nat → Prop} (hm : ∀ F, S.is w F → S'.is w F) (h : (R.star S).is w F) : (R.star S').is w F := by
  obtain ⟨F1, F2, h1, h2, h3⟩ := h
  exact ⟨F1, F2, h1, hm F2 h2, h3⟩
theorem toK {K D P T X : Res} (h : Has B (K.star (D.star (P.star (T.star X)))) w) : Has B (D.star (P.star (T.star (X.star K)))) w :=
  (h.sw.map2 (fun _ q => Res.star_assoc q)).map2 (fun _ q => Res.star_mapR (fun _ q => Res.star_assoc q) q)
end
end Go.Proofs.Ytomhofppcogojaa
