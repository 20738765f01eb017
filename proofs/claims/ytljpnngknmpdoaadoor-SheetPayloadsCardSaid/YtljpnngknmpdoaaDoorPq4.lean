/- What it says: contracts and plain mathematics that the laws' walks use, 4 of 6: each part's own remark says what; no condition. -/
import Derived.Test.YtljpnngknmpdoaaDoorPq2
import Derived.Test.YtljpnngknmpdoaaDoorPq3
import Derived.LoopTactic
import Derived.Deep.CutBlock
import Derived.Deep.RegionHeld
import Derived.Deep.RegionHeld3
import Derived.RegionTactic
import Derived.BigRegion

set_option linter.unusedSimpArgs false
set_option linter.unusedVariables false
set_option linter.deprecated false
set_option linter.unusedSectionVars false
set_option linter.all false

/- sheet.isStorable and trothref08.May tell which sheets may be; the payload of a sheet, plainly, and back. -/
namespace Go.Proofs.YtljpnngknmpdoaaDoor
open Go.RowKit

/-- May it be stored? -/
def storP (x : Sh) : Prop := (0 ≤ x.inc ∧ x.inc ≤ 1099511627775) ∧ (0 ≤ x.pos ∧ x.pos ≤ 1099511627775) ∧ x.data.size ≤ 242 ∧ ((0 ≤ x.first ∧ x.first ≤ (x.data.size : Int)) ∨ x.first = 255)
def mayP (x : Sh) : Prop := (0 ≤ x.inc ∧ x.inc ≤ 1099511627776) ∧ (0 ≤ x.pos ∧ x.pos ≤ 1099511627776) ∧ x.data.size ≤ 242 ∧ ((0 ≤ x.first ∧ x.first ≤ (x.data.size : Int)) ∨ x.first = 255)
instance (x : Sh) : Decidable (storP x) := inferInstanceAs (Decidable (_ ∧ _))
instance (x : Sh) : Decidable (mayP x) := inferInstanceAs (Decidable (_ ∧ _))
theorem stor_may (x : Sh) : storP x ↔ mayP x ∧ x.inc ≠ 1099511627776 ∧ x.pos ≠ 1099511627776 := by unfold storP mayP; omega

theorem wideL_of : ∀ (k : Nat) (l : List Int), l.length = k → isB l → wideL k (ofWide l) = l
  | 0, l, h, _ => by rw [List.eq_nil_of_length_eq_zero h]; rfl
  | k + 1, l, h, hr => by
    have hne : l ≠ [] := by intro e; rw [e] at h; cases h
    obtain ⟨m, c, rfl⟩ : ∃ m c, l = m ++ [c] := ⟨l.dropLast, l.getLast hne, (List.dropLast_concat_getLast hne).symm⟩
    have hc := hr c (by simp)
    have hm : m.length = k := by simpa using h
    rw [ofWide_snoc, wideL]
    have e1 : (ofWide m * 256 + c.toNat) / 256 = ofWide m := by omega
    rw [e1, wideL_of k m hm (fun x hx => hr x (by simp [hx]))]
    congr 2
    omega

/-- The payload. -/
def encS (x : Sh) : List Int := wideL 5 x.inc.toNat ++ (wideL 5 x.pos.toNat ++ ([x.first, (x.data.size : Int)] ++ nums x.data))
theorem encS_len (x : Sh) : (encS x).length = 12 + x.data.size := by simp [encS, wideL_len, nums_len]; omega
theorem encS_rng {x : Sh} (h : storP x) : isB (encS x) := by
  obtain ⟨_, _, h3, h4⟩ := h
  refine isB.app (wideL_rng 5 _) (isB.app (wideL_rng 5 _) (isB.app (fun y hy => ?_) (nums_rng _)))
  simp at hy
  rcases hy with rfl | rfl <;> omega
/-- What is decoded. -/
def decSh (b : List Int) : Sh := ⟨(ofWide (b.take 5) : Int), (ofWide ((b.drop 5).take 5) : Int), b.getD 10 0, strOfNums ((b.drop 12).take (b.getD 11 0).toNat)⟩
def decErr (b : List Int) : Int := if b.length < 12 then 10 else if b.length < 12 + (b.getD 11 0).toNat then 10 else if storP (decSh b) then 0 else 11
def decRes (b : List Int) : Sh := if decErr b = 0 then decSh b else sh0

theorem dec_rng {b : List Int} (h : isB b) : 0 ≤ (decSh b).inc ∧ (decSh b).inc < 1099511627776 ∧ 0 ≤ (decSh b).pos ∧ (decSh b).pos < 1099511627776 := by
  have h1 := ofWide_lt (b.take 5) (h.take 5)
  have h2 := ofWide_lt ((b.drop 5).take 5) ((h.drop 5).take 5)
  have l1 : (b.take 5).length ≤ 5 := by rw [List.length_take]; omega
  have l2 : ((b.drop 5).take 5).length ≤ 5 := by rw [List.length_take]; omega
  have p : ∀ k, k ≤ 5 → 256 ^ k ≤ 1099511627776 := fun k hk => Nat.le_trans (Nat.pow_le_pow_right (by omega) hk) (by decide)
  have := p _ l1
  have := p _ l2
  unfold decSh
  simp only
  omega
theorem dec_stor_may {b : List Int} (h : isB b) : storP (decSh b) ↔ mayP (decSh b) := by
  obtain ⟨a1, a2, a3, a4⟩ := dec_rng h
  rw [stor_may]
  constructor
  · exact fun q => q.1
  · exact fun q => ⟨q, by omega, by omega⟩

theorem dec_enc {x : Sh} (h : storP x) : decErr (encS x) = 0 ∧ decSh (encS x) = x := by
  obtain ⟨h1, h2, h3, h4⟩ := h
  have e1 : (encS x).take 5 = wideL 5 x.inc.toNat := by
    unfold encS; rw [List.take_append_of_le_length (by rw [wideL_len]; omega), List.take_of_length_le (by rw [wideL_len]; omega)]
  have e2 : (encS x).drop 5 = wideL 5 x.pos.toNat ++ ([x.first, (x.data.size : Int)] ++ nums x.data) := by
    unfold encS; rw [List.drop_append_of_le_length (by rw [wideL_len]; omega), List.drop_of_length_le (by rw [wideL_len]; omega), List.nil_append]
  have e3 : ((encS x).drop 5).take 5 = wideL 5 x.pos.toNat := by
    rw [e2, List.take_append_of_le_length (by rw [wideL_len]; omega), List.take_of_length_le (by rw [wideL_len]; omega)]
  have e4 : (encS x).drop 10 = [x.first, (x.data.size : Int)] ++ nums x.data := by
    have : (encS x).drop 10 = ((encS x).drop 5).drop 5 := by rw [List.drop_drop]
    rw [this, e2, List.drop_append_of_le_length (by rw [wideL_len]; omega), List.drop_of_length_le (by rw [wideL_len]; omega), List.nil_append]
  have e5 : (encS x).getD 10 0 = x.first := by
    have : (encS x).getD 10 0 = ((encS x).drop 10).getD 0 0 := by simp [List.getD_eq_getElem?_getD, List.getElem?_drop]
    rw [this, e4]
    rfl
  have e6 : (encS x).getD 11 0 = (x.data.size : Int) := by
    have : (encS x).getD 11 0 = ((encS x).drop 10).getD 1 0 := by simp [List.getD_eq_getElem?_getD, List.getElem?_drop]
    rw [this, e4]
    rfl
  have e7 : (encS x).drop 12 = nums x.data := by
    have : (encS x).drop 12 = ((encS x).drop 10).drop 2 := by rw [List.drop_drop]
    rw [this, e4]
    rfl
  have e8 : decSh (encS x) = x := by
    unfold decSh
    rw [e3, e1, ofWide_wideL _ _ (by omega), ofWide_wideL _ _ (by omega), e5, e6, e7, Int.toNat_natCast, List.take_of_length_le (by rw [nums_len]; exact Nat.le_refl _), str_nums]
    cases x
    simp only [Sh.mk.injEq, and_true]
    simp only at h1 h2
    omega
  refine ⟨?_, e8⟩
  unfold decErr
  rw [encS_len, e6, e8, if_neg (by omega), if_neg (by omega), if_pos ⟨h1, h2, h3, h4⟩]
theorem enc_dec {b : List Int} (hb : isB b) (h : decErr b = 0) : encS (decSh b) = b.take (encS (decSh b)).length ∧ (encS (decSh b)).length ≤ b.length := by
  unfold decErr at h
  split at h
  · cases h
  · rename_i h12
    split at h
    · cases h
    · rename_i hl
      have hdl : (decSh b).data.size = (b.getD 11 0).toNat := by
        unfold decSh
        simp only
        rw [str_size, List.length_take, List.length_drop]
        omega
      have hlen := encS_len (decSh b)
      rw [hdl] at hlen
      refine ⟨?_, by omega⟩
      rw [hlen]
      have g : ∀ i, i < b.length → 0 ≤ b.getD i 0 := fun i hi => by
        have : b.getD i 0 = b[i] := by simp [List.getD, List.getElem?_eq_getElem hi]
        rw [this]
        exact (hb _ (List.getElem_mem hi)).1
      have g10 := g 11 (by omega)
      have c1 : wideL 5 (decSh b).inc.toNat = b.take 5 := by
        unfold decSh
        simp only [Int.toNat_natCast]
        exact wideL_of 5 _ (by rw [List.length_take]; omega) (hb.take 5)
      have c2 : wideL 5 (decSh b).pos.toNat = (b.drop 5).take 5 := by
        unfold decSh
        simp only [Int.toNat_natCast]
        exact wideL_of 5 _ (by rw [List.length_take, List.length_drop]; omega) ((hb.drop 5).take 5)
      have c3 : nums (decSh b).data = (b.drop 12).take (b.getD 11 0).toNat := by
        unfold decSh
        simp only
        exact nums_str _ ((hb.drop 12).take _)
      have c4 : [(decSh b).first, ((decSh b).data.size : Int)] = (b.drop 10).take 2 := by
        rw [hdl]
        unfold decSh
        simp only
        rw [drop_getD_cons b 0 10 (by omega), drop_getD_cons b 0 11 (by omega)]
        have g11 : (0 : Int) ≤ (b[11]?).getD (0 : Int) := by simpa [List.getD_eq_getElem?_getD] using g10
        simp
        omega
      unfold encS
      rw [c1, c2, c3, c4]
      have t1 : b.take (12 + (b.getD 11 0).toNat) = b.take 5 ++ (b.drop 5).take (7 + (b.getD 11 0).toNat) := by
        rw [show 12 + (b.getD 11 0).toNat = 5 + (7 + (b.getD 11 0).toNat) by omega, List.take_add]
      have t2 : (b.drop 5).take (7 + (b.getD 11 0).toNat) = (b.drop 5).take 5 ++ (b.drop 10).take (2 + (b.getD 11 0).toNat) := by
        rw [show 7 + (b.getD 11 0).toNat = 5 + (2 + (b.getD 11 0).toNat) by omega, List.take_add, List.drop_drop]
      have t3 : (b.drop 10).take (2 + (b.getD 11 0).toNat) = (b.drop 10).take 2 ++ (b.drop 12).take (b.getD 11 0).toNat := by
        rw [List.take_add, List.drop_drop]
      rw [t1, t2, t3]

theorem sh_below (x : Sh) (w : World) : Below w.heap.size w (w.alloc (.cells x.cells.toArray 23)) := (Below.refl _ _).alloc (Nat.le_refl _) _

set_option maxRecDepth 100000 in
set_option maxHeartbeats 4000000 in
theorem stor_any (x : Sh) (w : World) (hx : x.In) : Calls Tryd.prog 24 #[.agg x.cells.toArray] w (Ret (.bool (decide (storP x))) w) := by
  obtain ⟨inc, pos, first, data⟩ := x
  have HIN := Lib.hid hx
  obtain ⟨⟨i0, i1⟩, ⟨p0, p1⟩, ⟨f0, f1⟩, hd⟩ := hx
  unfold maxLen at hd
  simp only at i0 i1 p0 p1 f0 f1 hd
  show Calls _ _ #[.agg #[.int .i64 inc, .int .i64 pos, .int .i64 first, .string data]] w _
  obtain ⟨W1, hW1⟩ : ∃ W1, W1 = w.alloc (.cells #[.int .i64 inc, .int .i64 pos, .int .i64 first, .string data] 23) := ⟨_, rfl⟩
  obtain ⟨r, hr⟩ : ∃ r, w.heap.size = r := ⟨_, rfl⟩
  have b1 : Below w.heap.size w W1 := by rw [hW1]; exact (Below.refl _ _).alloc (Nat.le_refl _) _
  have v1 : Bk W1 r 23 #[.int .i64 inc, .int .i64 pos, .int .i64 first, .string data] := by rw [hW1, ← hr]; exact Bk.new _ _ _
  have a0 : W1.cell? ⟨r, 0, none⟩ = some (.int .i64 inc) := v1.cell 0
  have a1 : W1.cell? ⟨r, 1, none⟩ = some (.int .i64 pos) := v1.cell 1
  have a2 : W1.cell? ⟨r, 2, none⟩ = some (.int .i64 first) := v1.cell 2
  have a3 : W1.cell? ⟨r, 3, none⟩ = some (.string data) := v1.cell 3
  have CI := Lib.hid (isSeq_any inc W1 ⟨i0, i1⟩)
  have CP := Lib.hid (isSeq_any pos W1 ⟨p0, p1⟩)
  have CH := Lib.hid (hasFirst_any ⟨inc, pos, first, data⟩ W1 HIN.out)
  have HW := Lib.hid hW1
  have HV := Lib.hid v1
  have HB := Lib.hid b1
  have hr' := Lib.hid hr
  obtain ⟨st, hst⟩ : ∃ b, decide (storP ⟨inc, pos, first, data⟩) = b := ⟨_, rfl⟩
  have HST := Lib.hid hst
  rw [hst]
  clear hW1 v1 b1 hr hst
  cases h1 : isSeqB inc with
  | false =>
    have e : st = false := by
      rw [← HST.out]
      have := of_decide_eq_false h1
      exact decide_eq_false (fun q => this q.1)
    subst e
    rw [h1] at CI
    clear h1
    go_enter Tryd.func24, Tryd.ntmps24
    go_upto_region 1 with fail
    rw [hr'.out, ← HW.out]
    clear HW
    go_wp2_with fail
    refine CI.out.mono ?_
    rintro e w1 ⟨rfl, rfl⟩
    go_wp2_with fail
    go_ret
    exact ⟨rfl, HB.out⟩
  | true =>
    have g1 := of_decide_eq_true h1
    rw [h1] at CI
    cases h2 : isSeqB pos with
    | false =>
      have e : st = false := by
        rw [← HST.out]
        have := of_decide_eq_false h2
        exact decide_eq_false (fun q => this q.2.1)
      subst e
      rw [h2] at CP
      clear h1 h2 g1
      go_enter Tryd.func24, Tryd.ntmps24
      go_upto_region 1 with fail
      rw [hr'.out, ← HW.out]
      clear HW
      go_wp2_with fail
      refine CI.out.mono ?_
      rintro e w1 ⟨rfl, rfl⟩
      go_wp2_with fail
      refine CP.out.mono ?_
      rintro e w1 ⟨rfl, rfl⟩
      go_wp2_with fail
      go_ret
      exact ⟨rfl, HB.out⟩
    | true =>
      have g2 := of_decide_eq_true h2
      rw [h2] at CP
      by_cases h3 : (data.size : Int) ≤ 242
      · cases h4 : hasF first data.size with
        | true =>
          have g4 := of_decide_eq_true h4
          have e : st = true := by
            rw [← HST.out]
            exact decide_eq_true ⟨g1, g2, by simp only; omega, .inl g4⟩
          subst e
          simp only at CH
          rw [h4] at CH
          clear h1 h2 g1 g2 h4 g4
          go_enter Tryd.func24, Tryd.ntmps24
          go_upto_region 1 with fail
          rw [hr'.out, ← HW.out]
          clear HW
          go_wp2_with fail
          refine CI.out.mono ?_
          rintro e w1 ⟨rfl, rfl⟩
          go_wp2_with fail
          refine CP.out.mono ?_
          rintro e w1 ⟨rfl, rfl⟩
          go_wp2_with fail
          refine CH.out.mono ?_
          rintro e w2 ⟨rfl, b2⟩
          have B2 := Lib.hid (HB.out.trans (b2.mono HB.out.size))
          clear b2
          go_wp2_with fail
          go_ret
          exact ⟨rfl, B2.out⟩
        | false =>
          have g4 := of_decide_eq_false h4
          obtain ⟨q, hq⟩ : ∃ q, (first == 255) = q := ⟨_, rfl⟩
          have e : st = q := by
            rw [← HST.out, ← hq]
            by_cases z : first = 255
            · rw [decide_eq_true (show storP ⟨inc, pos, first, data⟩ from ⟨g1, g2, by simp only; omega, .inr z⟩)]
              simp [z]
            · rw [decide_eq_false (fun q : storP ⟨inc, pos, first, data⟩ => by
                rcases q.2.2.2 with q | q
                · exact g4 q
                · exact z q)]
              simp [z]
          subst e
          simp only at CH
          rw [h4] at CH
          clear h1 h2 g1 g2 h4 g4
          go_enter Tryd.func24, Tryd.ntmps24
          go_upto_region 1 with fail
          rw [hr'.out, ← HW.out]
          clear HW
          go_wp2_with fail
          refine CI.out.mono ?_
          rintro e w1 ⟨rfl, rfl⟩
          go_wp2_with fail
          refine CP.out.mono ?_
          rintro e w1 ⟨rfl, rfl⟩
          go_wp2_with fail
          refine CH.out.mono ?_
          rintro e w2 ⟨rfl, b2⟩
          have B2 := Lib.hid (HB.out.trans (b2.mono HB.out.size))
          have a2' : w2.cell? ⟨r, 2, none⟩ = some (.int .i64 first) := (HV.out.bel b2 HV.out.lt).cell 2
          clear b2 a2
          go_wp2_with fail
          go_ret
          exact ⟨rfl, B2.out⟩
      · have e : st = false := by
          rw [← HST.out]
          exact decide_eq_false (fun q => h3 (by have := q.2.2.1; simp only at this; omega))
        subst e
        clear h1 h2 g1 g2
        go_enter Tryd.func24, Tryd.ntmps24
        go_upto_region 1 with fail
        rw [hr'.out, ← HW.out]
        clear HW
        go_wp2_with fail
        refine CI.out.mono ?_
        rintro e w1 ⟨rfl, rfl⟩
        go_wp2_with fail
        refine CP.out.mono ?_
        rintro e w1 ⟨rfl, rfl⟩
        go_wp2_with fail
        go_ret
        exact ⟨rfl, HB.out⟩
end Go.Proofs.YtljpnngknmpdoaaDoor

/- sheet.Encode, trothref08.Encode: the payload of a sheet, or the error. -/
namespace Go.Proofs.YtljpnngknmpdoaaDoor
open Go.RowKit

/-- Bytes and an error. -/
def RetEnc (x : Sh) (w : World) (e : Ending) (w' : World) : Prop :=
  (storP x ∧ RetByt2 (encS x) .i64 0 w e w') ∨ (¬ storP x ∧ e = .returned (.tuple #[.slice none 0 0, .int .i64 1]) ∧ Below w.heap.size w w')

/-- Four slices of bytes, in a slice of their own. -/
theorem bods4 {w : World} {A1 A2 A3 A4 : Option Addr} {n1 c1 n2 c2 n3 c3 n4 c4 : Nat} {l1 l2 l3 l4 : List Int} (h1 : Byt w A1 n1 c1 l1) (h2 : Byt w A2 n2 c2 l2) (h3 : Byt w A3 n3 c3 l3) (h4 : Byt w A4 n4 c4 l4) :
    Bods (w.alloc (.cells #[.slice A1 n1 c1, .slice A2 n2 c2, .slice A3 n3 c3, .slice A4 n4 c4] 24)) (some ⟨w.heap.size, 0, none⟩) 4 4 [l1, l2, l3, l4] [(A1, n1, c1), (A2, n2, c2), (A3, n3, c3), (A4, n4, c4)] := by
  refine ⟨⟨rfl, Nat.le_refl _, by unfold maxLen; omega, (fun e => nomatch e), fun _ => ⟨w.heap.size, 0, rfl, fun j v hv => ?_⟩⟩, rfl, rfl, fun i hi => ?_⟩
  · have h := Bk.new w 24 #[.slice A1 n1 c1, .slice A2 n2 c2, .slice A3 n3 c3, .slice A4 n4 c4]
    rw [h.cell, Nat.zero_add]
    simpa [slV] using hv
  · have : i = 0 ∨ i = 1 ∨ i = 2 ∨ i = 3 := by omega
    rcases this with rfl | rfl | rfl | rfl
    · exact h1.alloc _
    · exact h2.alloc _
    · exact h3.alloc _
    · exact h4.alloc _

theorem pow5 : (256 : Nat) ^ 5 = 1099511627776 := by decide

set_option maxRecDepth 100000 in
set_option maxHeartbeats 4000000 in
theorem shEnc_any (x : Sh) (w : World) (hx : x.In) (hd : x.data.size ≤ 1000) : Calls Tryd.prog 9 #[.agg x.cells.toArray] w (RetEnc x w) := by
  have CS0 := fun W => stor_any x W hx
  obtain ⟨inc, pos, first, data⟩ := x
  have HIN := Lib.hid hx
  obtain ⟨⟨i0, i1⟩, ⟨p0, p1⟩, ⟨f0, f1⟩, _⟩ := hx
  simp only at i0 i1 p0 p1 f0 f1 hd
  show Calls _ _ #[.agg #[.int .i64 inc, .int .i64 pos, .int .i64 first, .string data]] w _
  obtain ⟨W1, hW1⟩ : ∃ W1, W1 = w.alloc (.cells #[.int .i64 inc, .int .i64 pos, .int .i64 first, .string data] 23) := ⟨_, rfl⟩
  obtain ⟨r, hr⟩ : ∃ r, w.heap.size = r := ⟨_, rfl⟩
  have b1 : Below w.heap.size w W1 := by rw [hW1]; exact (Below.refl _ _).alloc (Nat.le_refl _) _
  have v1 : Bk W1 r 23 #[.int .i64 inc, .int .i64 pos, .int .i64 first, .string data] := by rw [hW1, ← hr]; exact Bk.new _ _ _
  have CS := CS0 W1
  have HW := Lib.hid hW1
  have HV := Lib.hid v1
  have HB := Lib.hid b1
  have hr' := Lib.hid hr
  clear hW1 v1 b1 hr CS0
  by_cases hst : storP ⟨inc, pos, first, data⟩
  · rw [decide_eq_true hst] at CS
    have CS := Lib.hid CS
    have HST := Lib.hid hst
    obtain ⟨⟨g0, g1⟩, ⟨g2, g3⟩, g4, g5⟩ := hst
    simp only at g0 g1 g2 g3 g4 g5
    have g6 : 0 ≤ first ∧ first < 256 := by omega
    obtain ⟨I, rfl⟩ := Int.eq_ofNat_of_zero_le g0
    obtain ⟨P, rfl⟩ := Int.eq_ofNat_of_zero_le g2
    obtain ⟨F, rfl⟩ := Int.eq_ofNat_of_zero_le g6.1
    have hF : F < 256 := by omega
    clear g5 g6
    go_enter Tryd.func9, Tryd.ntmps9
    go_upto_region 1 with fail
    rw [hr'.out, ← HW.out]
    clear HW
    go_wp2_with (refine wpList_load_row rfl _ _ rfl _ rfl _ _ _ _ HV.out Tryd.underlying23 rfl (by kernel_rfl) ?_)
    refine CS.out.mono ?_
    rintro e w2 ⟨rfl, b2⟩
    have B2 := Lib.hid (HB.out.trans (b2.mono HB.out.size))
    have V2 := Lib.hid (HV.out.bel b2 HV.out.lt)
    have c0 : w2.cell? ⟨r, 0, none⟩ = some (.int .i64 (I : Int)) := V2.out.cell 0
    clear b2 CS
    go_wp2_with fail
    refine (numWide_yes I 5 (by omega) (by omega) (by omega) (by rw [pow5]; omega) w2).mono ?_
    rintro e w3 ⟨A3, n3, c3, rfl, hb3, b3⟩
    have B3 := Lib.hid (B2.out.trans (b3.mono B2.out.size))
    have V3 := Lib.hid (V2.out.bel b3 V2.out.lt)
    have H3 := Lib.hid hb3
    have c1 : w3.cell? ⟨r, 1, none⟩ = some (.int .i64 (P : Int)) := V3.out.cell 1
    clear b3 hb3 c0
    go_wp2_with fail
    refine (numWide_yes P 5 (by omega) (by omega) (by omega) (by rw [pow5]; omega) w3).mono ?_
    rintro e w4 ⟨A4, n4, c4, rfl, hb4, b4⟩
    have B4 := Lib.hid (B3.out.trans (b4.mono B3.out.size))
    have V4 := Lib.hid (V3.out.bel b4 V3.out.lt)
    have H4 := Lib.hid hb4
    have H3 := Lib.hid (H3.out.below b4)
    have c2 : w4.cell? ⟨r, 2, none⟩ = some (.int .i64 (F : Int)) := V4.out.cell 2
    have c3' : w4.cell? ⟨r, 3, none⟩ = some (.string data) := V4.out.cell 3
    have d3 : (w4.alloc (.cells #[.int .u8 (F : Int), .int .u8 (data.size : Int)] 5)).cell? ⟨r, 3, none⟩ = some (.string data) := by
      have : Below w4.heap.size w4 (w4.alloc (.cells #[.int .u8 (F : Int), .int .u8 (data.size : Int)] 5)) := (Below.refl _ _).alloc (Nat.le_refl _) _
      exact (this.cell (p := ⟨r, 3, none⟩) V4.out.lt).trans c3'
    clear b4 hb4 c1
    obtain ⟨W5, hW5⟩ : ∃ W5, W5 = Lib.bytesWorld (w4.alloc (.cells #[.int .u8 (F : Int), .int .u8 (data.size : Int)] 5)) 5 data := ⟨_, rfl⟩
    have hconv := conv_str (w4.alloc (.cells #[.int .u8 (F : Int), .int .u8 (data.size : Int)] 5)) data
    rw [← hW5] at hconv
    have bA : Below w4.heap.size w4 (w4.alloc (.cells #[.int .u8 (F : Int), .int .u8 (data.size : Int)] 5)) := (Below.refl _ _).alloc (Nat.le_refl _) _
    have bB : Below (w4.alloc (.cells #[.int .u8 (F : Int), .int .u8 (data.size : Int)] 5)).heap.size (w4.alloc (.cells #[.int .u8 (F : Int), .int .u8 (data.size : Int)] 5)) W5 := by rw [hW5]; exact bytesWorld_below _ 5 data
    have b45 : Below w4.heap.size w4 W5 := Below.then bA bB
    have Y4 : Byt W5 (some ⟨(w4.alloc (.cells #[.int .u8 (F : Int), .int .u8 (data.size : Int)] 5)).heap.size, 0, none⟩) data.size (grownCap (w4.alloc (.cells #[.int .u8 (F : Int), .int .u8 (data.size : Int)] 5)) data.size 0 5) (nums data) := by
      rw [hW5]; exact Byt.ofString _ 5 data (by unfold maxLen; omega)
    have Y3 : Byt W5 (some ⟨w4.heap.size, 0, none⟩) 2 2 [(F : Int), (data.size : Int)] := (Byt.lit w4 5 [(F : Int), (data.size : Int)] 2 rfl (by unfold maxLen; omega) (by intro y hy; simp at hy; rcases hy with rfl | rfl <;> omega)).below bB
    obtain ⟨g4, hg4⟩ : ∃ g, (w4.alloc (.cells #[.int .u8 (F : Int), .int .u8 (data.size : Int)] 5)).heap.size = g := ⟨_, rfl⟩
    obtain ⟨k4, hk4⟩ : ∃ k, grownCap (w4.alloc (.cells #[.int .u8 (F : Int), .int .u8 (data.size : Int)] 5)) data.size 0 5 = k := ⟨_, rfl⟩
    rw [hg4, hk4] at Y4 hconv
    have C6 := concat_any _ 4 4 _ _ _ (bods4 (H3.out.below b45) (H4.out.below b45) Y3 Y4) (by omega) (by
      intro b hb
      simp at hb
      rcases hb with rfl | rfl | rfl | rfl
      · rw [wideL_len]; omega
      · rw [wideL_len]; omega
      · simp
      · rw [nums_len]; exact hd) (by unfold sumLen; simp [wideL_len]; omega)
    have eC : [wideL 5 I, wideL 5 P, [(F : Int), (data.size : Int)], nums data].flatMap id = encS ⟨(I : Int), (P : Int), (F : Int), data⟩ := by
      show wideL 5 I ++ (wideL 5 P ++ ([(F : Int), (data.size : Int)] ++ (nums data ++ []))) = _
      rw [List.append_nil]
      rfl
    rw [eC] at C6
    have C6 := Lib.hid C6
    have B5 := Lib.hid (B4.out.trans ((b45.trans ((Below.refl W5.heap.size W5).alloc (Nat.le_refl _) (.cells #[.slice A3 n3 c3, .slice A4 n4 c4, .slice (some ⟨w4.heap.size, 0, none⟩) 2 2, .slice (some ⟨g4, 0, none⟩) data.size k4] 24) |>.mono b45.size)).mono B4.out.size))
    have m1 : (F : Int) % 256 = (F : Int) := by omega
    have m2 : (data.size : Int) % 256 = (data.size : Int) := by omega
    clear bA bB b45 Y4 Y3 hW5 hk4 eC H3 H4 V4 HIN
    go_wp2_with fail
    refine C6.out.mono ?_
    rintro e w6 ⟨A6, n6, c6, rfl, ho6, hr6, b6⟩
    have H6 := Lib.hid (Byt.of_own ho6 hr6)
    have B6 := Lib.hid (B5.out.trans (b6.mono B5.out.size))
    clear ho6 hr6 b6 C6
    go_wp2_with fail
    go_ret2
    exact .inl ⟨HST.out, A6, n6, c6, rfl, H6.out, B6.out⟩
  · rw [decide_eq_false hst] at CS
    have CS := Lib.hid CS
    have HST := Lib.hid hst
    clear hst
    go_enter Tryd.func9, Tryd.ntmps9
    go_upto_region 1 with fail
    rw [hr'.out, ← HW.out]
    clear HW
    go_wp2_with (refine wpList_load_row rfl _ _ rfl _ rfl _ _ _ _ HV.out Tryd.underlying23 rfl (by kernel_rfl) ?_)
    refine CS.out.mono ?_
    rintro e w2 ⟨rfl, b2⟩
    have B2 := Lib.hid (HB.out.trans (b2.mono HB.out.size))
    clear b2
    go_wp2_with fail
    go_ret2
    exact .inr ⟨HST.out, rfl, B2.out⟩
end Go.Proofs.YtljpnngknmpdoaaDoor

/- trothref01.Wide hands back a row of its own. -/
namespace Go.Proofs.YtljpnngknmpdoaaDoor
open Go.RowKit

theorem RWideRel.owned {n k : Nat} {w : World} {m : Nat} {A : Option Addr} {c : Nat} {acc : List Int} {wr : World} (h : RWideRel n k w k m A c acc wr) : wr.ownsRow w.heap.size 5 1 (.slice A k c) k ((wideL k n).map (Value.int .u8)) := by
  have e := h.all
  rw [Nat.sub_self, wideL, List.nil_append] at e
  rw [← e]
  exact h.own
/-- The bytes, or the error. -/
def WideEndO (n k : Nat) (w : World) (e : Ending) (w' : World) : Prop :=
  (n < 256 ^ k ∧ RetOwn2 (wideL k n) 0 w e w') ∨ (¬ n < 256 ^ k ∧ e = .returned (.tuple #[.slice none 0 0, .int .i64 1]) ∧ Below w.heap.size w w')

set_option maxRecDepth 100000 in
set_option maxHeartbeats 1000000 in
theorem refWide_own (n k : Nat) (hn : n < 18446744073709551616) (h1 : 1 ≤ k) (h2 : k ≤ 8) (w : World) :
    Calls Tryd.prog 28 #[.int .u64 n, .int .i64 k] w (WideEndO n k w) := by
  obtain ⟨i0, hi, hz0, hz1, hz2⟩ := info_parts info_u8
  have R0 := Lib.hid (RWideRel.start n k w)
  go_enter Tryd.func28, Tryd.ntmps28
  go_wp2_with fail
  go_loopw [0, 6, 7] (fun s v j wr => ∃ (i m : Nat) (A : Option Addr) (c : Nat) (acc : List Int), i ≤ k ∧ m < 18446744073709551616 ∧ s = .int .u64 m ∧ v = .slice A i c ∧ j = .int .i64 i ∧ RWideRel n k w i m A c acc wr) (fun _ _ j _ => k - (intOf j).toNat)
  case atStart => exact ⟨0, n, none, 0, _, Nat.zero_le _, hn, rfl, rfl, rfl, R0.out⟩
  case round =>
    obtain ⟨i, m, A, c, acc, hik, hm, rfl, rfl, rfl, R⟩ := hrel
    have HR := Lib.hid R
    clear R
    by_cases hlt : i < k
    · have hbs := HR.out.bel.size
      have o1 := own_one wr w.heap.size 5 ((m : Int) % 256) hbs
      have hb := (Byt.of_own HR.out.own HR.out.rng).alloc (.cells #[.int .u8 ((m : Int) % 256)] 5)
      go_wp2_with (at_builtin; refine wpList_append_byt rfl _ _ 24 rfl w.heap.size 5 i0 Tryd.underlying24 hi hz0 hz1 hz2 _ 1 [(m : Int) % 256] rfl (by exact o1) A i c acc rfl (by exact hb) (by omega) (by simp; omega) ?_)
      intro A' c' w' h1 h2
      have R := Lib.hid (HR.out.step hlt rfl h1 h2)
      clear h1 h2 hb o1
      go_wp2
      go_roundw
      case rel => exact ⟨1 + i, m / 256, _, _, _, by omega, by omega, by go_num, rfl, by go_num, R.out⟩
      case measure => simp [intOf]; omega
    · have hkn : i = k := by omega
      subst hkn
      have H := Lib.hid HR.out.owned
      have Z := Lib.hid HR.out.zero
      by_cases h0 : m = 0
      · have Z1 := Lib.hid (Z.out.2 h0)
        have hz : decide (0 < m) = false := by simp; omega
        clear h0
        go_wp2_with fail
        go_ret2
        exact .inl ⟨Z1.out, _, _, _, rfl, H.out, wideL_rng i n, HR.out.bel⟩
      · have Z1 := Lib.hid (fun h => h0 (Z.out.1 h))
        have hz : 0 < m := by omega
        clear h0
        go_wp2_with fail
        go_ret2
        exact .inr ⟨Z1.out, rfl, HR.out.bel⟩
end Go.Proofs.YtljpnngknmpdoaaDoor

/- trothref08.May; trothref08.Encode. -/
namespace Go.Proofs.YtljpnngknmpdoaaDoor
open Go.RowKit

set_option maxRecDepth 100000 in
set_option maxHeartbeats 4000000 in
theorem may8_any (x : Sh) (w : World) (hx : x.In) : Calls Tryd.prog 27 #[.agg x.cells.toArray] w (Ret (.bool (decide (mayP x))) w) := by
  obtain ⟨inc, pos, first, data⟩ := x
  obtain ⟨⟨i0, i1⟩, ⟨p0, p1⟩, ⟨f0, f1⟩, hd⟩ := hx
  unfold maxLen at hd
  simp only at i0 i1 p0 p1 f0 f1 hd
  show Calls _ _ #[.agg #[.int .i64 inc, .int .i64 pos, .int .i64 first, .string data]] w _
  have HB : Hid (Below w.heap.size w (w.alloc (.cells #[.int .i64 inc, .int .i64 pos, .int .i64 first, .string data] 23))) := Lib.hid ((Below.refl _ _).alloc (Nat.le_refl _) _)
  have fin : ∀ b : Bool, (b = true ↔ mayP ⟨inc, pos, first, data⟩) → decide (mayP ⟨inc, pos, first, data⟩) = b := fun b h => by
    cases b
    · exact decide_eq_false (fun q => by have := h.2 q; cases this)
    · exact decide_eq_true (h.1 rfl)
  unfold mayP at fin
  simp only at fin
  have cases8 : ¬ 0 ≤ inc ∨ (0 ≤ inc ∧ ¬ inc ≤ 1099511627776) ∨ ((0 ≤ inc ∧ inc ≤ 1099511627776) ∧ ¬ 0 ≤ pos) ∨ ((0 ≤ inc ∧ inc ≤ 1099511627776) ∧ 0 ≤ pos ∧ ¬ pos ≤ 1099511627776) ∨ ((0 ≤ inc ∧ inc ≤ 1099511627776) ∧ (0 ≤ pos ∧ pos ≤ 1099511627776) ∧ ¬ (data.size : Int) ≤ 242) ∨
      ((0 ≤ inc ∧ inc ≤ 1099511627776) ∧ (0 ≤ pos ∧ pos ≤ 1099511627776) ∧ (data.size : Int) ≤ 242 ∧ (first == 255) = true) ∨ ((0 ≤ inc ∧ inc ≤ 1099511627776) ∧ (0 ≤ pos ∧ pos ≤ 1099511627776) ∧ (data.size : Int) ≤ 242 ∧ (first == 255) = false ∧ ¬ 0 ≤ first) ∨
      ((0 ≤ inc ∧ inc ≤ 1099511627776) ∧ (0 ≤ pos ∧ pos ≤ 1099511627776) ∧ (data.size : Int) ≤ 242 ∧ (first == 255) = false ∧ 0 ≤ first ∧ ¬ first ≤ (data.size : Int)) ∨ ((0 ≤ inc ∧ inc ≤ 1099511627776) ∧ (0 ≤ pos ∧ pos ≤ 1099511627776) ∧ (data.size : Int) ≤ 242 ∧ (first == 255) = false ∧ 0 ≤ first ∧ first ≤ (data.size : Int)) := by
    by_cases a1 : 0 ≤ inc
    · by_cases a2 : inc ≤ 1099511627776
      · by_cases a3 : 0 ≤ pos
        · by_cases a4 : pos ≤ 1099511627776
          · by_cases a5 : (data.size : Int) ≤ 242
            · right; right; right; right; right
              cases hz : (first == 255)
              · right
                by_cases a7 : 0 ≤ first
                · right
                  by_cases a8 : first ≤ (data.size : Int)
                  · right; exact ⟨⟨a1, a2⟩, ⟨a3, a4⟩, a5, rfl, a7, a8⟩
                  · left; exact ⟨⟨a1, a2⟩, ⟨a3, a4⟩, a5, rfl, a7, a8⟩
                · left; exact ⟨⟨a1, a2⟩, ⟨a3, a4⟩, a5, rfl, a7⟩
              · left; exact ⟨⟨a1, a2⟩, ⟨a3, a4⟩, a5, rfl⟩
            · right; right; right; right; left; exact ⟨⟨a1, a2⟩, ⟨a3, a4⟩, a5⟩
          · right; right; right; left; exact ⟨⟨a1, a2⟩, a3, a4⟩
        · right; right; left; exact ⟨⟨a1, a2⟩, a3⟩
      · right; left; exact ⟨a1, a2⟩
    · left; exact a1
  rcases cases8 with q1 | ⟨q1, q2⟩ | ⟨⟨q1, q2⟩, q3⟩ | ⟨⟨q1, q2⟩, q3, q4⟩ | ⟨⟨q1, q2⟩, ⟨q3, q4⟩, q5⟩ | ⟨⟨q1, q2⟩, ⟨q3, q4⟩, q5, q6⟩ | ⟨⟨q1, q2⟩, ⟨q3, q4⟩, q5, q6, q7⟩ | ⟨⟨q1, q2⟩, ⟨q3, q4⟩, q5, q6, q7, q8⟩ | ⟨⟨q1, q2⟩, ⟨q3, q4⟩, q5, q6, q7, q8⟩
  · have E := Lib.hid (fin false ⟨fun e => (by cases e), fun h => absurd h.1.1 q1⟩)
    clear fin
    go_enter Tryd.func27, Tryd.ntmps27
    go_wp2_with fail
    go_ret
    exact ⟨by rw [show decide (mayP ⟨inc, pos, first, data⟩) = false from E.out]; rfl, HB.out⟩
  · have E := Lib.hid (fin false ⟨fun e => (by cases e), fun h => absurd h.1.2 q2⟩)
    clear fin
    go_enter Tryd.func27, Tryd.ntmps27
    go_wp2_with fail
    go_ret
    exact ⟨by rw [show decide (mayP ⟨inc, pos, first, data⟩) = false from E.out]; rfl, HB.out⟩
  · have E := Lib.hid (fin false ⟨fun e => (by cases e), fun h => absurd h.2.1.1 q3⟩)
    clear fin
    go_enter Tryd.func27, Tryd.ntmps27
    go_wp2_with fail
    go_ret
    exact ⟨by rw [show decide (mayP ⟨inc, pos, first, data⟩) = false from E.out]; rfl, HB.out⟩
  · have E := Lib.hid (fin false ⟨fun e => (by cases e), fun h => absurd h.2.1.2 q4⟩)
    clear fin
    go_enter Tryd.func27, Tryd.ntmps27
    go_wp2_with fail
    go_ret
    exact ⟨by rw [show decide (mayP ⟨inc, pos, first, data⟩) = false from E.out]; rfl, HB.out⟩
  · have E := Lib.hid (fin false ⟨fun e => (by cases e), fun h => by have := h.2.2.1; omega⟩)
    clear fin
    go_enter Tryd.func27, Tryd.ntmps27
    go_wp2_with fail
    go_ret
    exact ⟨by rw [show decide (mayP ⟨inc, pos, first, data⟩) = false from E.out]; rfl, HB.out⟩
  · have E := Lib.hid (fin true ⟨fun _ => ⟨⟨q1, q2⟩, ⟨q3, q4⟩, by omega, .inr (by simpa using q6)⟩, fun _ => rfl⟩)
    clear fin
    go_enter Tryd.func27, Tryd.ntmps27
    go_wp2_with fail
    go_ret
    exact ⟨by rw [show decide (mayP ⟨inc, pos, first, data⟩) = true from E.out]; rfl, HB.out⟩
  · have E := Lib.hid (fin false ⟨fun e => (by cases e), fun h => by
      rcases h.2.2.2 with q | q
      · exact absurd q.1 q7
      · simp [q] at q6⟩)
    clear fin
    go_enter Tryd.func27, Tryd.ntmps27
    go_wp2_with fail
    go_ret
    exact ⟨by rw [show decide (mayP ⟨inc, pos, first, data⟩) = false from E.out]; rfl, HB.out⟩
  · have E := Lib.hid (fin false ⟨fun e => (by cases e), fun h => by
      rcases h.2.2.2 with q | q
      · exact absurd q.2 q8
      · simp [q] at q6⟩)
    clear fin
    go_enter Tryd.func27, Tryd.ntmps27
    go_wp2_with fail
    go_ret
    exact ⟨by rw [show decide (mayP ⟨inc, pos, first, data⟩) = false from E.out]; rfl, HB.out⟩
  · have E := Lib.hid (fin true ⟨fun _ => ⟨⟨q1, q2⟩, ⟨q3, q4⟩, by omega, .inl ⟨q7, q8⟩⟩, fun _ => rfl⟩)
    clear fin
    go_enter Tryd.func27, Tryd.ntmps27
    go_wp2_with fail
    go_ret
    exact ⟨by rw [show decide (mayP ⟨inc, pos, first, data⟩) = true from E.out]; rfl, HB.out⟩

set_option maxRecDepth 100000 in
set_option maxHeartbeats 4000000 in
theorem rEnc_any (x : Sh) (w : World) (hx : x.In) (hd : x.data.size ≤ 1000) : Calls Tryd.prog 10 #[.agg x.cells.toArray] w (RetEnc x w) := by
  obtain ⟨j0, hi, hz0, hz1, hz2⟩ := info_parts info_u8
  have CS0 := fun W => may8_any x W hx
  have hsm := stor_may x
  obtain ⟨inc, pos, first, data⟩ := x
  obtain ⟨⟨i0, i1⟩, ⟨p0, p1⟩, ⟨f0, f1⟩, _⟩ := hx
  simp only at i0 i1 p0 p1 f0 f1 hd hsm
  show Calls _ _ #[.agg #[.int .i64 inc, .int .i64 pos, .int .i64 first, .string data]] w _
  obtain ⟨W1, hW1⟩ : ∃ W1, W1 = w.alloc (.cells #[.int .i64 inc, .int .i64 pos, .int .i64 first, .string data] 23) := ⟨_, rfl⟩
  obtain ⟨r, hr⟩ : ∃ r, w.heap.size = r := ⟨_, rfl⟩
  have b1 : Below w.heap.size w W1 := by rw [hW1]; exact (Below.refl _ _).alloc (Nat.le_refl _) _
  have v1 : Bk W1 r 23 #[.int .i64 inc, .int .i64 pos, .int .i64 first, .string data] := by rw [hW1, ← hr]; exact Bk.new _ _ _
  have CS := CS0 W1
  have HW := Lib.hid hW1
  have HV := Lib.hid v1
  have HB := Lib.hid b1
  have hr' := Lib.hid hr
  clear hW1 v1 b1 hr CS0
  by_cases hst : storP ⟨inc, pos, first, data⟩
  · obtain ⟨hmay, hn1, hn2⟩ := hsm.1 hst
    rw [decide_eq_true hmay] at CS
    have CS := Lib.hid CS
    have HST := Lib.hid hst
    obtain ⟨⟨g0, g1⟩, ⟨g2, g3⟩, g4, g5⟩ := hst
    simp only at g0 g1 g2 g3 g4 g5
    have g6 : 0 ≤ first ∧ first < 256 := by omega
    obtain ⟨I, rfl⟩ := Int.eq_ofNat_of_zero_le g0
    obtain ⟨P, rfl⟩ := Int.eq_ofNat_of_zero_le g2
    obtain ⟨F, rfl⟩ := Int.eq_ofNat_of_zero_le g6.1
    have hF : F < 256 := by omega
    have e1 : ((I : Int) == 1099511627776) = false := by simp; omega
    have e2 : ((P : Int) == 1099511627776) = false := by simp; omega
    have m1 : (F : Int) % 256 = (F : Int) := by omega
    have m2 : (data.size : Int) % 256 = (data.size : Int) := by omega
    clear g5 g6 hn1 hn2 hsm hmay
    go_enter Tryd.func10, Tryd.ntmps10
    go_upto_region 1 with fail
    rw [hr'.out, ← HW.out]
    clear HW
    go_wp2_with (refine wpList_load_row rfl _ _ rfl _ rfl _ _ _ _ HV.out Tryd.underlying23 rfl (by kernel_rfl) ?_)
    refine CS.out.mono ?_
    rintro e w2 ⟨rfl, b2⟩
    have B2 := Lib.hid (HB.out.trans (b2.mono HB.out.size))
    have V2 := Lib.hid (HV.out.bel b2 HV.out.lt)
    have c0 : w2.cell? ⟨r, 0, none⟩ = some (.int .i64 (I : Int)) := V2.out.cell 0
    have c1 : w2.cell? ⟨r, 1, none⟩ = some (.int .i64 (P : Int)) := V2.out.cell 1
    clear b2 CS
    go_wp2_with fail
    refine (refWide_own I 5 (by omega) (by omega) (by omega) w2).mono ?_
    rintro e w3 (⟨_, A3, n3, c3, rfl, ho3, hr3, b3⟩ | ⟨hbad, _⟩)
    rotate_left
    · exact absurd (show I < 256 ^ 5 by rw [pow5]; omega) hbad
    have B3 := Lib.hid (B2.out.trans (b3.mono B2.out.size))
    have V3 := Lib.hid (V2.out.bel b3 V2.out.lt)
    have hn3 : n3 = 5 := by have := ho3.1; simp [wideL_len] at this; exact this.symm
    subst hn3
    have O3 := Lib.hid (own_base ho3 B2.out.size)
    have c1 : w3.cell? ⟨r, 1, none⟩ = some (.int .i64 (P : Int)) := V3.out.cell 1
    clear b3 ho3 hr3 c0
    go_wp2_with fail
    refine (refWide_own P 5 (by omega) (by omega) (by omega) w3).mono ?_
    rintro e w4 (⟨_, A4, n4, c4, rfl, ho4, hr4, b4⟩ | ⟨hbad, _⟩)
    rotate_left
    · exact absurd (show P < 256 ^ 5 by rw [pow5]; omega) hbad
    have B4 := Lib.hid (B3.out.trans (b4.mono B3.out.size))
    have V4 := Lib.hid (V3.out.bel b4 V3.out.lt)
    have hn4 : n4 = 5 := by have := ho4.1; simp [wideL_len] at this; exact this.symm
    subst hn4
    have O4 := Lib.hid (own_stay O3.out (w' := w4) (fun q hq => b4.block q (O3.out.lt q hq).2))
    have Y4 := Lib.hid (Byt.of_own ho4 hr4)
    have hbs := B4.out.size
    clear b4 ho4 hr4 c1
    go_wp2_with (at_builtin; refine wpList_append_byt rfl _ _ 24 rfl w.heap.size 5 j0 Tryd.underlying24 hi hz0 hz1 hz2 _ 5 (wideL 5 I) rfl (by exact O4.out) A4 5 c4 (wideL 5 P) rfl Y4.out (by omega) hbs ?_)
    intro A5 c5 w5 k1 k2
    have V5 := Lib.hid (bk_apart O4.out V4.out (by decide) k2)
    have O5 := Lib.hid k1
    have B5 := Lib.hid (B4.out.grown k2 hbs (fun q hq => (O4.out.lt q hq).1))
    have c2 : w5.cell? ⟨r, 2, none⟩ = some (.int .i64 (F : Int)) := V5.out.cell 2
    have c3' : w5.cell? ⟨r, 3, none⟩ = some (.string data) := V5.out.cell 3
    clear k1 k2 O4 Y4 O3
    have bA : Below w5.heap.size w5 (w5.alloc (.cells #[.int .u8 (F : Int), .int .u8 (data.size : Int)] 5)) := (Below.refl _ _).alloc (Nat.le_refl _) _
    have Y5 : Byt (w5.alloc (.cells #[.int .u8 (F : Int), .int .u8 (data.size : Int)] 5)) (some ⟨w5.heap.size, 0, none⟩) 2 2 [(F : Int), (data.size : Int)] := Byt.lit w5 5 [(F : Int), (data.size : Int)] 2 rfl (by unfold maxLen; omega) (by intro y hy; simp at hy; rcases hy with rfl | rfl <;> omega)
    have O5b : Hid ((w5.alloc (.cells #[.int .u8 (F : Int), .int .u8 (data.size : Int)] 5)).ownsRow w.heap.size 5 1 (.slice A5 (5 + 5) c5) (5 + 5) ((wideL 5 I ++ wideL 5 P).map (Value.int .u8))) := Lib.hid (own_stay (by simpa using O5.out) (fun q hq => bA.block q (O5.out.lt q hq).2))
    have hbs5 : w.heap.size ≤ (w5.alloc (.cells #[.int .u8 (F : Int), .int .u8 (data.size : Int)] 5)).heap.size := Nat.le_trans B5.out.size bA.size
    have V5b := Lib.hid (V5.out.bel bA V5.out.lt)
    have B5b := Lib.hid (B5.out.trans (bA.mono B5.out.size))
    clear bA
    go_wp2_with (at_builtin; refine wpList_append_byt rfl _ _ 24 rfl w.heap.size 5 j0 Tryd.underlying24 hi hz0 hz1 hz2 _ (5 + 5) (wideL 5 I ++ wideL 5 P) rfl (by exact O5b.out) _ 2 2 [(F : Int), (data.size : Int)] rfl Y5 (by omega) hbs5 ?_)
    intro A6 c6 w6 k1 k2
    have V6 := Lib.hid (bk_apart O5b.out V5b.out (by decide) k2)
    have O6 : Hid (w6.ownsRow w.heap.size 5 1 (.slice A6 (5 + 5 + 2) c6) (5 + 5 + 2) (((wideL 5 I ++ wideL 5 P) ++ [(F : Int), (data.size : Int)]).map (Value.int .u8))) := Lib.hid (by simpa using k1)
    have B6 := Lib.hid (B5b.out.grown k2 hbs5 (fun q hq => (O5b.out.lt q hq).1))
    have hbs6 := B6.out.size
    have c3'' : w6.cell? ⟨r, 3, none⟩ = some (.string data) := V6.out.cell 3
    clear k1 k2 O5 O5b Y5 V5 V5b c2 c3'
    go_wp2_with (at_builtin; refine Lib.wpList_append_own_string _ rfl _ _ 24 9 rfl w.heap.size 5 j0 Tryd.underlying24 Tryd.underlying9 hi hz0 hz1 hz2 _ (5 + 5 + 2) _ rfl (by exact O6.out) data rfl (by unfold maxLen; omega) (by omega) hbs6 ?_)
    intro v' w7 k1 k2 _
    have R7 : Hid (RetByt2 (encS ⟨(I : Int), (P : Int), (F : Int), data⟩) .i64 0 w (.returned (.tuple #[v', .int .i64 0])) w7) := Lib.hid (by
      obtain ⟨A7, c7, rfl⟩ := own_form k1
      rw [strCells_nums] at k1
      have eM : (encS ⟨(I : Int), (P : Int), (F : Int), data⟩).map (Value.int .u8) = (wideL 5 I).map (Value.int .u8) ++ ((wideL 5 P).map (Value.int .u8) ++ Value.int .u8 (F : Int) :: Value.int .u8 (data.size : Int) :: (nums data).map (Value.int .u8)) := by
        show (wideL 5 I ++ (wideL 5 P ++ ([(F : Int), (data.size : Int)] ++ nums data))).map (Value.int .u8) = _
        simp only [List.map_append, List.map_cons, List.map_nil, List.cons_append, List.nil_append]
      rw [← eM] at k1
      exact ⟨A7, _, c7, rfl, Byt.of_own k1 (encS_rng HST.out), B6.out.grown k2 hbs6 (fun q hq => (O6.out.lt q hq).1)⟩)
    clear k1 k2 O6
    go_wp2_with fail
    go_ret2
    exact .inl ⟨HST.out, R7.out⟩
  · have HST := Lib.hid hst
    by_cases hmay : mayP ⟨inc, pos, first, data⟩
    · rw [decide_eq_true hmay] at CS
      have CS := Lib.hid CS
      have hor : (inc == 1099511627776) = true ∨ ((inc == 1099511627776) = false ∧ (pos == 1099511627776) = true) := by
        by_cases z1 : inc = 1099511627776
        · left; simp [z1]
        · right
          refine ⟨by simp [z1], ?_⟩
          by_cases z2 : pos = 1099511627776
          · simp [z2]
          · exact absurd (hsm.2 ⟨hmay, z1, z2⟩) hst
      clear hst hmay hsm
      rcases hor with q1 | ⟨q1, q2⟩
      all_goals
        go_enter Tryd.func10, Tryd.ntmps10
        go_upto_region 1 with fail
        rw [hr'.out, ← HW.out]
        clear HW
        go_wp2_with (refine wpList_load_row rfl _ _ rfl _ rfl _ _ _ _ HV.out Tryd.underlying23 rfl (by kernel_rfl) ?_)
        refine CS.out.mono ?_
        rintro e w2 ⟨rfl, b2⟩
        have B2 := Lib.hid (HB.out.trans (b2.mono HB.out.size))
        have V2 := HV.out.bel b2 HV.out.lt
        have c0 : w2.cell? ⟨r, 0, none⟩ = some (.int .i64 inc) := V2.cell 0
        have c1 : w2.cell? ⟨r, 1, none⟩ = some (.int .i64 pos) := V2.cell 1
        clear b2 V2
        go_wp2_with fail
        go_ret2
        exact .inr ⟨HST.out, rfl, B2.out⟩
    · rw [decide_eq_false hmay] at CS
      have CS := Lib.hid CS
      clear hst hmay hsm
      go_enter Tryd.func10, Tryd.ntmps10
      go_upto_region 1 with fail
      rw [hr'.out, ← HW.out]
      clear HW
      go_wp2_with (refine wpList_load_row rfl _ _ rfl _ rfl _ _ _ _ HV.out Tryd.underlying23 rfl (by kernel_rfl) ?_)
      refine CS.out.mono ?_
      rintro e w2 ⟨rfl, b2⟩
      have B2 := Lib.hid (HB.out.trans (b2.mono HB.out.size))
      clear b2
      go_wp2_with fail
      go_ret2
      exact .inr ⟨HST.out, rfl, B2.out⟩
end Go.Proofs.YtljpnngknmpdoaaDoor

/- a region that draws its order, whose last operations go one behind the other: those ahead of them may be taken in an order of one's own, where what they read holds till the last ones begin. No program is named; no condition. -/
namespace Go.Proofs.YtljpnngknmpdoaaDoor
open Go.RowKit

section
variable {P : Program} {ops : Array Oper} {Q : Exit → Act → World → Prop} {S : World → Prop} {n : Nat}

/-- Whatever comes up next; S holds behind each operation ahead of number n. -/
def Upto (P : Program) (ops : Array Oper) (Q : Exit → Act → World → Prop) (S : World → Prop) (n : Nat) : Nat → Array Bool → Act → World → Prop
  | 0, listed, a, w => Region.ready .any ops listed = [] ∧ Q .normal a w
  | fuel + 1, listed, a, w => (Region.ready .any ops listed = [] → Q .normal a w) ∧
    ∀ i ∈ Region.ready .any ops listed, wpOp P ops Q i (fun a' w' => (i < n → S w') ∧ Upto P ops Q S n fuel (listed.setIfInBounds i true) a' w') a w

theorem any_of_upto : ∀ (fuel : Nat) (listed : Array Bool) (a : Act) (w : World), Upto P ops Q S n fuel listed a w → wpAny P .any ops Q fuel listed a w
  | 0, _, _, _, h => h
  | fuel + 1, _, _, _, h => ⟨h.1, fun i hi => wpOp_mono (fun a' w' h' => any_of_upto fuel _ a' w' h'.2) (h.2 i hi)⟩

/-- The head's state, asked by the kernel. -/
def headB (ops : Array Oper) (n : Nat) (listed : Array Bool) : Bool :=
  listed.size == ops.size && (List.range ops.size).all (fun j => match ops[j]? with
    | none => true
    | some o => !listed.getD j false || o.after.toList.all fun e => !Region.binds .any e || listed.getD e.on false) &&
  (List.range ops.size).all fun t => decide (t < n) || !listed.getD t true

theorem headB_spec {listed : Array Bool} (h : headB ops n listed = true) : HeadInv .any ops n listed := by
  simp only [headB, Bool.and_eq_true, List.all_eq_true, List.mem_range, beq_iff_eq] at h
  obtain ⟨⟨h1, h2⟩, h3⟩ := h
  refine ⟨h1, fun j oj hj hl e he hb => ?_, fun t ht htl => ?_⟩
  · have := h2 j (Array.getElem?_eq_some_iff.1 hj).1
    simp only [hj, hl] at this
    rw [Bool.not_true, Bool.false_or] at this
    have he' := List.all_eq_true.1 this e (by simpa using he)
    simpa [hb] using he'
  · have := h3 t htl
    simpa [Nat.not_lt.2 ht] using this

/-- The region's own facts, asked by the kernel. -/
def tailB (ops : Array Oper) (n : Nat) : Bool := Region.noSelect ops && decide (n < ops.size) && Region.sinkB .any ops n && Region.chainB .any ops n

theorem upto_first (hB : tailB ops n = true) {i : Nat} {oi : Oper} {v : Value} (hin : i < n) (hi : ops[i]? = some oi)
    (hQ : ∀ c a w, Q (.panic c) (a.put oi.dst v) w → Q (.panic c) a w) :
    ∀ (fuel : Nat) (listed : Array Bool) (a : Act) (w : World), HeadInv .any ops n listed →
      (∀ j oj, ops[j]? = some oj → j ≠ i → listed.getD j true = false → (∀ e ∈ oj.after, Region.binds .any e = true → e.on ≠ i) → oi.apart ops oj = true) →
      i ∈ Region.ready .any ops listed → YieldsIf P ops S oi v a → S w →
      Upto P ops Q S n fuel (listed.setIfInBounds i true) (a.put oi.dst v) w → Upto P ops Q S n (fuel + 1) listed a w := by
  simp only [tailB, Bool.and_eq_true, decide_eq_true_eq] at hB
  obtain ⟨⟨⟨hsel0, hns⟩, hsk⟩, hch⟩ := hB
  have hsel := Region.noSelect_spec hsel0
  intro fuel
  induction fuel with
  | zero =>
    intro listed a w _ _ hr hy hS H
    refine ⟨fun h => (by rw [h] at hr; cases hr), fun j hj => ?_⟩
    by_cases hji : j = i
    · subst hji
      exact hy.wpOp hi hS ⟨fun _ => hS, H⟩
    · have := ready_mono hj hji
      rw [H.1] at this
      cases this
  | succ fuel ih =>
    intro listed a w inv hfree hr hy hS H
    refine ⟨fun h => (by rw [h] at hr; cases hr), fun j hj => ?_⟩
    by_cases hji : j = i
    · subst hji
      exact hy.wpOp hi hS ⟨fun _ => hS, H⟩
    · have h1 := H.2 j (ready_mono hj hji)
      have hun := (mem_ready.1 hr).1
      have hjn : j < n := by
        rcases Nat.lt_or_ge j n with h | h
        · exact h
        · exact absurd hj (tail_waits hsk hch hns inv _ i rfl hin hun j h)
      obtain ⟨hjun, oj, hoj, hall⟩ := mem_ready.1 hj
      have hnot : ∀ e ∈ oj.after, Region.binds .any e = true → e.on ≠ i := fun e he hb heq => by
        have h1 := hall e he hb
        rw [heq, getD_both hun] at h1
        cases h1
      have h2 := wpOp_putIf hoj (hfree j oj hoj hji hjun hnot) (fun cs b => hsel i oi cs b hi) (fun cs b => hsel j oj cs b hoj) hQ hy h1
      have hfree' : ∀ k ok, ops[k]? = some ok → k ≠ i → (listed.setIfInBounds j true).getD k true = false →
          (∀ e ∈ ok.after, Region.binds .any e = true → e.on ≠ i) → oi.apart ops ok = true := fun k ok hk hki hunk hno => by
        refine hfree k ok hk hki ?_ hno
        by_cases hjk : j = k
        · subst hjk; exact hjun
        · rw [getD_set_ne true hjk] at hunk; exact hunk
      refine wpOp_mono (fun a' w' h3 => ⟨h3.2.1, ih (listed.setIfInBounds j true) a' w' (inv.set hj hjn) hfree' (ready_mono hr (Ne.symm hji)) h3.1 (h3.2.1 hjn) ?_⟩) h2
      rw [Array.setIfInBounds_comm _ _ hji]
      exact h3.2.2

theorem drop_at {l rest : List Oper} {i : Nat} {o : Oper} (h : l.drop i = o :: rest) : l.toArray[i]? = some o := by
  have h0 : (l.drop i)[0]? = some o := by rw [h]; rfl
  rw [List.getElem?_drop] at h0
  simpa using h0

/-- An operation of the head is taken now. -/
theorem Upto.take {i : Nat} {oi : Oper} {v : Value} {fuel : Nat} {listed : Array Bool} {a : Act} {w : World} {l rest : List Oper} (hi : l.drop i = oi :: rest) (hc : (tailB l.toArray n && decide (i < n) && headB l.toArray n listed && Region.free .any l.toArray listed i && (Region.ready .any l.toArray listed).contains i) = true)
    (hQ : ∀ c a w, Q (.panic c) (a.put oi.dst v) w → Q (.panic c) a w) (hg : oi.guard = none) (hy : ∀ w, S w → (execOp a.eval oi).run P w = .ok (.value v) w) (hS : S w)
    (h : Upto P l.toArray Q S n fuel (listed.setIfInBounds i true) (a.put oi.dst v) w) : Upto P l.toArray Q S n (fuel + 1) listed a w := by
  have hi := drop_at hi
  simp only [Bool.and_eq_true, decide_eq_true_eq] at hc
  obtain ⟨⟨⟨⟨h1, h2⟩, h3⟩, h4⟩, h5⟩ := hc
  exact upto_first h1 h2 hi hQ fuel listed a w (headB_spec h3) (Region.free_spec hi h4) (by simpa using h5) (.inl ⟨wanted_plain hg, hy⟩) hS h

/-- The one operation that may come up now, whatever it does to the world. -/
theorem Upto.only {i : Nat} {oi : Oper} {v : Value} {fuel : Nat} {listed : Array Bool} {a : Act} {w w' : World} {l rest : List Oper} (hi : l.drop i = oi :: rest) (hc : Region.ready .any l.toArray listed = [i])
    (hg : oi.guard = none) (hy : (execOp a.eval oi).run P w = .ok (.value v) w') (hS : S w')
    (h : Upto P l.toArray Q S n fuel (listed.setIfInBounds i true) (a.put oi.dst v) w') : Upto P l.toArray Q S n (fuel + 1) listed a w := by
  have hi := drop_at hi
  refine ⟨fun h0 => (by rw [h0] at hc; cases hc), fun j hj => ?_⟩
  rw [hc] at hj
  have hji : j = i := by simpa using hj
  subst hji
  unfold wpOp
  simp only [hi, wanted_plain hg, if_true]
  refine .inl ?_
  unfold Oper.wp
  rw [hy]
  exact ⟨fun _ => hS, h⟩

/-- The same, by a law of its own. -/
theorem Upto.law {i : Nat} {oi : Oper} {fuel : Nat} {listed : Array Bool} {a : Act} {w : World} {l rest : List Oper} (hi : l.drop i = oi :: rest) (hc : Region.ready .any l.toArray listed = [i]) (hg : oi.guard = none)
    (h : ∀ K : Act → World → Prop, (∀ a' w', S w' → Upto P l.toArray Q S n fuel (listed.setIfInBounds i true) a' w' → K a' w') → oi.wp P a w K Q) : Upto P l.toArray Q S n (fuel + 1) listed a w := by
  have hi := drop_at hi
  refine ⟨fun h0 => (by rw [h0] at hc; cases hc), fun j hj => ?_⟩
  rw [hc] at hj
  have hji : j = i := by simpa using hj
  subst hji
  unfold wpOp
  simp only [hi, wanted_plain hg, if_true]
  exact .inl (h _ fun a' w' hS hU => ⟨fun _ => hS, hU⟩)

/-- A call of a Go function, by its contract. -/
theorem wp_enter {o : Oper} {a : Act} {w : World} {K : Act → World → Prop} {f : FuncId} {args : Array Value} {R : Ending → World → Prop} (hrun : (execOp a.eval o).run P w = .ok (.enter f args) w) (C : Calls P f args w R)
    (hR : ∀ e w', R e w' → ∃ v, e = .returned v ∧ K (a.put o.dst v) w') : o.wp P a w K Q := by
  unfold Oper.wp
  rw [hrun]
  refine C.mono fun e w' h => ?_
  obtain ⟨v, rfl, hK⟩ := hR e w' h
  exact hK

theorem upto_seq : ∀ (l : List Oper) (k : Nat) (listed : Array Bool) (a : Act) (w : World), n ≤ k → (∀ j, l[j]? = ops[k + j]?) →
    Region.seqB .any ops l.length k listed = true → wpList P ops Q l a w → Upto P ops Q S n l.length listed a w
  | [], k, listed, a, w, _, _, hB, h => ⟨by simpa [Region.seqB] using hB, h⟩
  | o :: l, k, listed, a, w, hk, hl, hB, h => by
    have h0 : ops[k]? = some o := by simpa using (hl 0).symm
    simp only [List.length_cons, Region.seqB, Bool.and_eq_true, decide_eq_true_eq] at hB
    refine ⟨fun h1 => (by rw [hB.1] at h1; cases h1), fun i hi => ?_⟩
    rw [hB.1] at hi
    have hik : i = k := by simpa using hi
    subst hik
    have hw : wpOp P ops Q i (wpList P ops Q l) a w := by unfold wpOp; simp only [h0]; exact h
    exact wpOp_mono (fun a' w' h' => ⟨fun hlt => absurd hlt (by omega), upto_seq l (i + 1) _ a' w' (by omega) (fun j => by have := hl (j + 1); simpa [Nat.add_assoc, Nat.add_comm 1 j] using this) hB.2 h'⟩) hw

/-- The last operations, one behind the other. -/
theorem Upto.tail {l : List Oper} {fuel : Nat} {listed : Array Bool} {a : Act} {w : World} (hf : (l.drop n).length = fuel) (hB : Region.seqB .any l.toArray fuel n listed = true) (h : wpList P l.toArray Q (l.drop n) a w) : Upto P l.toArray Q S n fuel listed a w := by
  subst hf
  exact upto_seq (l.drop n) n listed a w (Nat.le_refl _) (fun j => by simp [List.getElem?_drop]) hB h

/-- The beginning. -/
theorem upto_start {id : Nat} {a : Act} {w : World} (S : World → Prop) (n : Nat) (hm : P.follows .mixedOrders = true) (h : Upto P ops Q S n ops.size (Array.replicate ops.size false) a w.drew) : (Code.region id ops true).wp P Q a w :=
  wp_region_any hm (any_of_upto _ _ _ _ h)
end
end Go.Proofs.YtljpnngknmpdoaaDoor

/- sheet.Decode: the sheet of a payload, or the error. -/
namespace Go.Proofs.YtljpnngknmpdoaaDoor
open Go.RowKit

theorem results_cellS {P : Program} {fn : Func} {p u : Tmp} {ty : TypeId} (h : fn.results = #[.cell p ty, .tmp u]) (tmps : Array Value) (w : World) (g : Nat) (t : TypeId) (cs : Array Value) (d : TypeDesc)
    (hp : tmps.getD p undef = .pointer (some ⟨g, 0, none⟩)) (hg : Bk w g t cs)
    (hu : P.underlying ty = some d) (hd : (match d with | .struct _ | .array _ _ => true | _ => false) = true) (hi : (P.info? ty).map (·.size) = some cs.size) :
    (results fn tmps).run P w = .ok (.tuple #[.agg cs, tmps.getD u undef]) w := by
  rw [results_cell_tmp h, hp]
  simp [asAddr, run_loadVar_row w g t ty cs (0, 0) d hg hu hd hi, Result.andThen]
theorem Bk.rowS {w : World} {g : Nat} {t : TypeId} {cs : Array Value} (h : Bk w g t cs) (cs' : Array Value) : Bk (w.setRow g cs') g t cs' := setRow_heap w g cs cs' t (0, 0) h
theorem below_rowS {B r : Nat} {w W : World} (h : Below B w W) (hr : B ≤ r) (cs : Array Value) : Below B w (W.setRow r cs) :=
  h.trans ⟨rfl, rfl, rfl, by simp [World.setRow], fun k hk => setRow_other W r k _ (fun e => by omega)⟩
theorem sh_infoD : (Tryd.prog.info? 23).map (·.size) = some 4 := by kernel_rfl
theorem sh_oneD (x0 x1 x2 : Int) (x3 : ByteArray) : (#[Value.int .i64 x0, .int .i64 x1, .int .i64 x2, .string x3] : Array Value).all (·.oneCell') = true := by simp [Value.oneCell']
theorem exec_convD {P : Program} {w w' : World} {o : Oper} {a : Act} {s d : TypeId} {x : Operand} (ho : o.op = .convert s d x) {v : Value} (hb : (convert s d (a.eval x)).run P w = .ok v w') : (execOp a.eval o).run P w = .ok (.value v) w' := by
  unfold execOp
  simp only [ho, Sem.run_bind]
  rw [hb]
  rfl
/-- A sheet and an error. -/
def RetDec8 (b : List Int) (w : World) (e : Ending) (w' : World) : Prop := e = .returned (.tuple #[.agg (decRes b).cells.toArray, .int .i64 (decErr b)]) ∧ Below w.heap.size w w'
theorem decSh_in {b : List Int} (h : isB b) (hl : b.length ≤ 1000) : (decSh b).In := by
  obtain ⟨a1, a2, a3, a4⟩ := dec_rng h
  refine ⟨⟨by omega, by omega⟩, ⟨by omega, by omega⟩, ?_, ?_⟩
  · have : 0 ≤ b.getD 10 0 ∧ b.getD 10 0 < 256 := by
      rcases Nat.lt_or_ge 10 b.length with q | q
      · have e : b.getD 10 0 = b[10] := by simp [List.getD, List.getElem?_eq_getElem q]
        rw [e]
        exact h _ (List.getElem_mem q)
      · have e : b.getD 10 0 = 0 := by simp [List.getD, List.getElem?_eq_none q]
        rw [e]
        omega
    unfold decSh
    exact ⟨by simp only; omega, by simp only; omega⟩
  · unfold decSh
    simp only
    rw [str_size, List.length_take, List.length_drop]
    unfold maxLen
    omega

set_option maxRecDepth 100000 in
set_option maxHeartbeats 8000000 in
theorem shDec_any (A : Option Addr) (n c : Nat) (b : List Int) (w : World) (h : Byt w A n c b) (hn : n ≤ 1000) : Calls Tryd.prog 11 #[.slice A n c] w (RetDec8 b w) := by
  have hlen := h.len
  have hcap := h.cap
  have hmax := h.max
  unfold maxLen at hmax
  have hrng : isB b := h.rng
  have HRG := Lib.hid hrng
  obtain ⟨W0, hW0⟩ : ∃ W0, W0 = w.alloc (.cells #[.int .i64 0, .int .i64 0, .int .i64 0, .string ⟨#[]⟩] 23) := ⟨_, rfl⟩
  obtain ⟨r, hr⟩ : ∃ r, w.heap.size = r := ⟨_, rfl⟩
  have Z0 : Hid (Bk W0 r 23 #[.int .i64 0, .int .i64 0, .int .i64 0, .string ⟨#[]⟩]) := Lib.hid (by rw [hW0, ← hr]; exact Bk.new w _ _)
  have B0 : Hid (Below w.heap.size w W0) := Lib.hid (by rw [hW0]; exact (Below.refl _ _).alloc (Nat.le_refl _) _)
  have HSZ : Hid (W0.heap.size = r + 1) := Lib.hid (by rw [hW0, ← hr]; simp)
  have HW0 := Lib.hid hW0
  have HR := Lib.hid hr
  have HH := Lib.hid (h.below B0.out)
  clear h hW0 hr hrng
  by_cases h12 : (n : Int) < 12
  · go_enter Tryd.func11, Tryd.ntmps11
    go_upto_region 1 with fail
    rw [HR.out, ← HW0.out]
    clear HW0
    have HBK := Lib.hid (Z0.out.rowS #[.int .i64 0, .int .i64 0, .int .i64 0, .string ⟨#[]⟩])
    have HL := Lib.hid (below_rowS B0.out (Nat.le_of_eq HR.out) #[.int .i64 0, .int .i64 0, .int .i64 0, .string ⟨#[]⟩])
    have E1 : Hid (decRes b = sh0 ∧ decErr b = 10) := Lib.hid (by
      have e : decErr b = 10 := by unfold decErr; rw [if_pos (by omega)]
      exact ⟨by unfold decRes; rw [e]; rfl, e⟩)
    go_wp2_with (refine wpList_store_row rfl 23 _ _ rfl r #[.int .i64 0, .int .i64 0, .int .i64 0, .string ⟨#[]⟩] rfl rfl 23 _ Z0.out sh_infoD rfl (sh_oneD _ _ _ _) ?_; simp only [Act.put])
    (try simp only [Exit.inBlock, Exit.then])
    refine bodyPost_ret (results_cellS rfl _ _ r 23 _ _ rfl HBK.out Tryd.underlying23 rfl sh_infoD) rfl ?_
    exact ⟨by rw [E1.out.1, E1.out.2]; rfl, HL.out⟩
  · obtain ⟨g, off, rfl, hc⟩ := HH.out.at_ (by omega)
    have c11 := hc 11 (by omega)
    have c10 := hc 10 (by omega)
    obtain ⟨L, hL⟩ : ∃ L, b.getD 11 0 = L := ⟨_, rfl⟩
    obtain ⟨F, hF⟩ : ∃ F, b.getD 10 0 = F := ⟨_, rfl⟩
    have hl1 := HH.out.lt_ 11 (by omega)
    have hf1 := HH.out.lt_ 10 (by omega)
    rw [hL] at c11 hl1
    rw [hF] at c10 hf1
    obtain ⟨l, rfl⟩ := Int.eq_ofNat_of_zero_le hl1.1
    obtain ⟨f, rfl⟩ := Int.eq_ofNat_of_zero_le hf1.1
    have hlb : l < 256 := by omega
    have hfb : f < 256 := by omega
    have HL0 := Lib.hid hL
    have HF0 := Lib.hid hF
    clear hl1 hf1 hc hL hF
    by_cases hsh : (n : Int) < 12 + (l : Int)
    · go_enter Tryd.func11, Tryd.ntmps11
      go_upto_region 1 with fail
      rw [HR.out, ← HW0.out]
      clear HW0
      have HBK := Lib.hid (Z0.out.rowS #[.int .i64 0, .int .i64 0, .int .i64 0, .string ⟨#[]⟩])
      have HL := Lib.hid (below_rowS B0.out (Nat.le_of_eq HR.out) #[.int .i64 0, .int .i64 0, .int .i64 0, .string ⟨#[]⟩])
      have E1 : Hid (decRes b = sh0 ∧ decErr b = 10) := Lib.hid (by
        have e : decErr b = 10 := by unfold decErr; rw [if_neg (by omega), if_pos (by rw [HL0.out]; omega)]
        exact ⟨by unfold decRes; rw [e]; rfl, e⟩)
      go_wp2_with (refine wpList_store_row rfl 23 _ _ rfl r #[.int .i64 0, .int .i64 0, .int .i64 0, .string ⟨#[]⟩] rfl rfl 23 _ Z0.out sh_infoD rfl (sh_oneD _ _ _ _) ?_; simp only [Act.put])
      (try simp only [Exit.inBlock, Exit.then])
      refine bodyPost_ret (results_cellS rfl _ _ r 23 _ _ rfl HBK.out Tryd.underlying23 rfl sh_infoD) rfl ?_
      exact ⟨by rw [E1.out.1, E1.out.2]; rfl, HL.out⟩
    · obtain ⟨I, hI⟩ : ∃ I, ofWide (b.take 5) = I := ⟨_, rfl⟩
      obtain ⟨P, hP⟩ : ∃ P, ofWide ((b.drop 5).take 5) = P := ⟨_, rfl⟩
      have hrg := dec_rng HRG.out
      unfold decSh at hrg
      simp only at hrg
      rw [hI, hP] at hrg
      have hI1 : I < 1099511627776 := by omega
      have hP1 : P < 1099511627776 := by omega
      have CI := numTakeWide_any (some ⟨g, off, none⟩) n c 5 b W0 HH.out (by omega) (by omega)
      rw [if_pos (show 5 ≤ n by omega), if_pos (show 5 ≤ n by omega), hI] at CI
      have CI := Lib.hid CI
      obtain ⟨B5, m5, d5, hs5, hm5, hb5⟩ := cut_l HH.out 5 (by omega) (5 : Int) rfl
      have hb5' : Byt W0 B5 (n - 5) d5 (b.drop 5) := hm5 ▸ hb5
      have CP := fun k => numTakeWide_any B5 (n - 5) d5 5 (b.drop 5) (W0.drewN k) (hb5'.drewN k) (by omega) (by omega)
      simp only [if_pos (show 5 ≤ n - 5 by omega), hP] at CP
      have CP := Lib.hid CP
      obtain ⟨B6, m6, d6, hs6, hm6, hb6⟩ := cut_lh HH.out 12 (12 + l) (by omega) (by omega) (12 : Int) (12 + (l : Int)) rfl (by omega)
      have hdl : (b.drop 12).take (12 + l - 12) = (b.drop 12).take l := by congr 1; omega
      rw [hdl] at hb6
      have HB6 := Lib.hid hb6
      have DS : Hid (decSh b = ⟨(I : Int), (P : Int), (f : Int), strOfNums ((b.drop 12).take l)⟩) := Lib.hid (by unfold decSh; rw [hI, hP, HF0.out, HL0.out, Int.toNat_natCast])
      obtain ⟨ds, hds⟩ : ∃ s, strOfNums ((b.drop 12).take l) = s := ⟨_, rfl⟩
      rw [hds] at DS
      have HDS := Lib.hid hds
      have HIN := Lib.hid (decSh_in HRG.out (by omega))
      clear hI hP hrg hb5 hb5' hb6 hdl hds hm6
      go_enter Tryd.func11, Tryd.ntmps11
      go_upto_region 1 with fail
      rw [HR.out, ← HW0.out]
      clear HW0
      go_wp2_with fail
      refine CI.out.mono ?_
      rintro e w1 ⟨rfl, k1, rfl⟩
      go_wp2_with fail
      refine (CP.out _).mono ?_
      rintro e w2 ⟨rfl, k2, rfl⟩
      go_wp2_with fail
      obtain ⟨W2, hW2⟩ : ∃ W2, W2 = W0.drewN (k1 + k2) := ⟨_, rfl⟩
      (try rw [← hW2])
      have Z2 : Hid (Bk W2 r 23 #[.int .i64 0, .int .i64 0, .int .i64 0, .string ⟨#[]⟩]) := Lib.hid (by rw [hW2]; exact Z0.out)
      have B2 : Hid (Below w.heap.size w W2) := Lib.hid (by rw [hW2]; exact below_drewN B0.out (k1 + k2))
      have hS0 : W2.drew.cell? ⟨g, off + 10, none⟩ = some (.int .u8 (f : Int)) ∧ W2.drew.cell? ⟨g, off + 11, none⟩ = some (.int .u8 (l : Int)) ∧ Byt W2.drew B6 m6 d6 ((b.drop 12).take l) := by rw [hW2]; exact ⟨c10, c11, (HB6.out.drewN (k1 + k2)).drew⟩
      have h10 : (10 : Int) < (n : Int) := by omega
      have h11 : (11 : Int) < (n : Int) := by omega
      have h12c : 12 + (l : Int) ≤ (n : Int) := by omega
      have hsz2 : W2.drew.heap.size = r + 1 := by rw [hW2]; have : W0.heap.size = r + 1 := HSZ.out; exact this
      have HSS := Lib.hid hsz2
      have hbw2 : Byt W2 B6 m6 d6 ((b.drop 12).take l) := by rw [hW2]; exact HB6.out.drewN (k1 + k2)
      clear hW2 c10 c11 CI CP Z0 B0 HH HB6 hs5 hsz2
      have c10 := hS0.1
      have c11 := hS0.2.1
      have c10a : (W2.alloc (.cells #[.int .i64 0, .int .i64 0, .int .i64 0, .string ⟨#[]⟩] 23)).drew.cell? ⟨g, off + 10, none⟩ = some (.int .u8 (f : Int)) := Lib.cell?_alloc_some (.cells #[.int .i64 0, .int .i64 0, .int .i64 0, .string ⟨#[]⟩] 23) c10
      have c11a : (W2.alloc (.cells #[.int .i64 0, .int .i64 0, .int .i64 0, .string ⟨#[]⟩] 23)).drew.cell? ⟨g, off + 11, none⟩ = some (.int .u8 (l : Int)) := Lib.cell?_alloc_some (.cells #[.int .i64 0, .int .i64 0, .int .i64 0, .string ⟨#[]⟩] 23) c11
      have kc := conv_byt hS0.2.2
      have kca := conv_byt (hbw2.alloc (.cells #[.int .i64 0, .int .i64 0, .int .i64 0, .string ⟨#[]⟩] 23)).drew
      rw [HDS.out] at kc kca
      clear hS0 hbw2
      obtain ⟨q, hq⟩ : ∃ q, decide (storP (decSh b)) = q := ⟨_, rfl⟩
      have HQ := Lib.hid hq
      have SP := fun (W : World) => stor_any (decSh b) W HIN.out
      rw [DS.out] at SP
      have HZ2 : Hid (W2.heap.size = r + 1) := Lib.hid HSS.out
      rw [DS.out] at hq
      simp only [hq] at SP
      have SP := Lib.hid SP
      clear hq 
      go_region
      all_goals
        obtain ⟨W3, hW3⟩ : ∃ W3, W3 = (W2.alloc (.cells #[.int .i64 I, .int .i64 P, .int .i64 f, .string ds] 23)).drew := ⟨_, rfl⟩
        rw [← hW3, HZ2.out]
        have Z3 : Hid (Bk W3 r 23 #[.int .i64 0, .int .i64 0, .int .i64 0, .string ⟨#[]⟩]) := Lib.hid (by rw [hW3]; exact Z2.out.bel ((Below.refl _ _).alloc (Nat.le_refl _) _).drew Z2.out.lt)
        have Y3 : Hid (Bk W3 (r + 1) 23 #[.int .i64 I, .int .i64 P, .int .i64 f, .string ds]) := Lib.hid (by rw [hW3, ← HZ2.out]; exact Bk.new W2 _ _)
        have B3 : Hid (Below w.heap.size w W3) := Lib.hid (by rw [hW3]; exact (B2.out.alloc (by have := HR.out; have := HZ2.out; omega) _).drew)
        clear hW3 kc kca c10 c11 c10a c11a HSS HZ2 Z2 B2 hs6
        go_wp2_with (refine wpList_load_row rfl _ _ rfl _ rfl _ _ _ _ Y3.out Tryd.underlying23 rfl (by kernel_rfl) ?_)
        refine (SP.out _).mono ?_
        rintro e W4 ⟨rfl, b4⟩
        have Z4 := Lib.hid (Z3.out.bel b4 Z3.out.lt)
        have Y4 := Lib.hid (Y3.out.bel b4 Y3.out.lt)
        have B4 := Lib.hid (B3.out.trans (b4.mono B3.out.size))
        clear b4 Z3 Y3 B3 SP
        cases q with
        | false =>
          have HBK := Lib.hid (Z4.out.rowS #[.int .i64 0, .int .i64 0, .int .i64 0, .string ⟨#[]⟩])
          have HL := Lib.hid (below_rowS B4.out (Nat.le_of_eq HR.out) #[.int .i64 0, .int .i64 0, .int .i64 0, .string ⟨#[]⟩])
          have E1 : Hid (decRes b = sh0 ∧ decErr b = 11) := Lib.hid (by
            have e : decErr b = 11 := by unfold decErr; rw [if_neg (by omega), if_neg (by rw [HL0.out]; omega), if_neg (of_decide_eq_false HQ.out)]
            exact ⟨by unfold decRes; rw [e]; rfl, e⟩)
          go_wp2_with (refine wpList_store_row rfl 23 _ _ rfl r #[.int .i64 0, .int .i64 0, .int .i64 0, .string ⟨#[]⟩] rfl rfl 23 _ Z4.out sh_infoD rfl (sh_oneD _ _ _ _) ?_; simp only [Act.put])
          (try simp only [Exit.inBlock, Exit.then])
          refine bodyPost_ret (results_cellS rfl _ _ r 23 _ _ rfl HBK.out Tryd.underlying23 rfl sh_infoD) rfl ?_
          exact ⟨by rw [E1.out.1, E1.out.2]; rfl, HL.out⟩
        | true =>
          have HBK := Lib.hid (Z4.out.rowS #[.int .i64 I, .int .i64 P, .int .i64 f, .string ds])
          have HL := Lib.hid (below_rowS B4.out (Nat.le_of_eq HR.out) #[.int .i64 I, .int .i64 P, .int .i64 f, .string ds])
          have E1 : Hid (decRes b = ⟨(I : Int), (P : Int), (f : Int), ds⟩ ∧ decErr b = 0) := Lib.hid (by
            have e : decErr b = 0 := by unfold decErr; rw [if_neg (by omega), if_neg (by rw [HL0.out]; omega), if_pos (of_decide_eq_true HQ.out)]
            exact ⟨by unfold decRes; rw [e, ← DS.out]; rfl, e⟩)
          go_wp2_with (first | (refine wpList_load_row rfl _ _ rfl _ rfl _ _ _ _ Y4.out Tryd.underlying23 rfl (by kernel_rfl) ?_) | (refine wpList_store_row rfl 23 _ _ rfl r #[.int .i64 I, .int .i64 P, .int .i64 f, .string ds] rfl rfl 23 _ Z4.out sh_infoD rfl (sh_oneD _ _ _ _) ?_; simp only [Act.put]))
          (try simp only [Exit.inBlock, Exit.then])
          refine bodyPost_ret (results_cellS rfl _ _ r 23 _ _ rfl HBK.out Tryd.underlying23 rfl sh_infoD) rfl ?_
          exact ⟨by rw [E1.out.1, E1.out.2]; rfl, HL.out⟩
end Go.Proofs.YtljpnngknmpdoaaDoor

/- trothref08.Decode: the sheet of a payload, or the error. -/
namespace Go.Proofs.YtljpnngknmpdoaaDoor
open Go.RowKit

set_option maxRecDepth 100000 in
set_option maxHeartbeats 8000000 in
theorem rDec_any (A : Option Addr) (n c : Nat) (b : List Int) (w : World) (h : Byt w A n c b) (hn : n ≤ 1000) : Calls Tryd.prog 12 #[.slice A n c] w (RetDec8 b w) := by
  have hlen := h.len
  have hcap := h.cap
  have hmax := h.max
  unfold maxLen at hmax
  have hrng : isB b := h.rng
  have HRG := Lib.hid hrng
  obtain ⟨W0, hW0⟩ : ∃ W0, W0 = w.alloc (.cells #[.int .i64 0, .int .i64 0, .int .i64 0, .string ⟨#[]⟩] 23) := ⟨_, rfl⟩
  obtain ⟨r, hr⟩ : ∃ r, w.heap.size = r := ⟨_, rfl⟩
  have Z0 : Hid (Bk W0 r 23 #[.int .i64 0, .int .i64 0, .int .i64 0, .string ⟨#[]⟩]) := Lib.hid (by rw [hW0, ← hr]; exact Bk.new w _ _)
  have B0 : Hid (Below w.heap.size w W0) := Lib.hid (by rw [hW0]; exact (Below.refl _ _).alloc (Nat.le_refl _) _)
  have HSZ : Hid (W0.heap.size = r + 1) := Lib.hid (by rw [hW0, ← hr]; simp)
  have HW0 := Lib.hid hW0
  have HR := Lib.hid hr
  have HH := Lib.hid (h.below B0.out)
  clear h hW0 hr hrng
  by_cases h12 : (n : Int) < 12
  · go_enter Tryd.func12, Tryd.ntmps12
    go_upto_region 1 with fail
    rw [HR.out, ← HW0.out]
    clear HW0
    have HBK := Lib.hid (Z0.out.rowS #[.int .i64 0, .int .i64 0, .int .i64 0, .string ⟨#[]⟩])
    have HL := Lib.hid (below_rowS B0.out (Nat.le_of_eq HR.out) #[.int .i64 0, .int .i64 0, .int .i64 0, .string ⟨#[]⟩])
    have E1 : Hid (decRes b = sh0 ∧ decErr b = 10) := Lib.hid (by
      have e : decErr b = 10 := by unfold decErr; rw [if_pos (by omega)]
      exact ⟨by unfold decRes; rw [e]; rfl, e⟩)
    go_wp2_with (refine wpList_store_row rfl 23 _ _ rfl r #[.int .i64 0, .int .i64 0, .int .i64 0, .string ⟨#[]⟩] rfl rfl 23 _ Z0.out sh_infoD rfl (sh_oneD _ _ _ _) ?_; simp only [Act.put])
    (try simp only [Exit.inBlock, Exit.then])
    refine bodyPost_ret (results_cellS rfl _ _ r 23 _ _ rfl HBK.out Tryd.underlying23 rfl sh_infoD) rfl ?_
    exact ⟨by rw [E1.out.1, E1.out.2]; rfl, HL.out⟩
  · obtain ⟨g, off, rfl, hc⟩ := HH.out.at_ (by omega)
    have c11 := hc 11 (by omega)
    have c10 := hc 10 (by omega)
    obtain ⟨L, hL⟩ : ∃ L, b.getD 11 0 = L := ⟨_, rfl⟩
    obtain ⟨F, hF⟩ : ∃ F, b.getD 10 0 = F := ⟨_, rfl⟩
    have hl1 := HH.out.lt_ 11 (by omega)
    have hf1 := HH.out.lt_ 10 (by omega)
    rw [hL] at c11 hl1
    rw [hF] at c10 hf1
    obtain ⟨l, rfl⟩ := Int.eq_ofNat_of_zero_le hl1.1
    obtain ⟨f, rfl⟩ := Int.eq_ofNat_of_zero_le hf1.1
    have hlb : l < 256 := by omega
    have hfb : f < 256 := by omega
    have HL0 := Lib.hid hL
    have HF0 := Lib.hid hF
    clear hl1 hf1 hc hL hF
    by_cases hsh : (n : Int) < 12 + (l : Int)
    · go_enter Tryd.func12, Tryd.ntmps12
      go_upto_region 1 with fail
      rw [HR.out, ← HW0.out]
      clear HW0
      have HBK := Lib.hid (Z0.out.rowS #[.int .i64 0, .int .i64 0, .int .i64 0, .string ⟨#[]⟩])
      have HL := Lib.hid (below_rowS B0.out (Nat.le_of_eq HR.out) #[.int .i64 0, .int .i64 0, .int .i64 0, .string ⟨#[]⟩])
      have E1 : Hid (decRes b = sh0 ∧ decErr b = 10) := Lib.hid (by
        have e : decErr b = 10 := by unfold decErr; rw [if_neg (by omega), if_pos (by rw [HL0.out]; omega)]
        exact ⟨by unfold decRes; rw [e]; rfl, e⟩)
      go_wp2_with (refine wpList_store_row rfl 23 _ _ rfl r #[.int .i64 0, .int .i64 0, .int .i64 0, .string ⟨#[]⟩] rfl rfl 23 _ Z0.out sh_infoD rfl (sh_oneD _ _ _ _) ?_; simp only [Act.put])
      (try simp only [Exit.inBlock, Exit.then])
      refine bodyPost_ret (results_cellS rfl _ _ r 23 _ _ rfl HBK.out Tryd.underlying23 rfl sh_infoD) rfl ?_
      exact ⟨by rw [E1.out.1, E1.out.2]; rfl, HL.out⟩
    · obtain ⟨I, hI⟩ : ∃ I, ofWide (b.take 5) = I := ⟨_, rfl⟩
      obtain ⟨P, hP⟩ : ∃ P, ofWide ((b.drop 5).take 5) = P := ⟨_, rfl⟩
      have hrg := dec_rng HRG.out
      unfold decSh at hrg
      simp only at hrg
      rw [hI, hP] at hrg
      have hI1 : I < 1099511627776 := by omega
      have hP1 : P < 1099511627776 := by omega
      have CI := refTakeWide_any (some ⟨g, off, none⟩) n c 5 b W0 HH.out (by omega) (by omega)
      rw [if_pos (show 5 ≤ n by omega), if_pos (show 5 ≤ n by omega), hI] at CI
      have CI := Lib.hid CI
      obtain ⟨B5, m5, d5, hs5, hm5, hb5⟩ := cut_l HH.out 5 (by omega) (5 : Int) rfl
      have hb5' : Byt W0 B5 (n - 5) d5 (b.drop 5) := hm5 ▸ hb5
      have CP := fun k => refTakeWide_any B5 (n - 5) d5 5 (b.drop 5) (W0.drewN k) (hb5'.drewN k) (by omega) (by omega)
      simp only [if_pos (show 5 ≤ n - 5 by omega), hP] at CP
      have CP := Lib.hid CP
      obtain ⟨B6, m6, d6, hs6, hm6, hb6⟩ := cut_lh HH.out 12 (12 + l) (by omega) (by omega) (12 : Int) (12 + (l : Int)) rfl (by omega)
      have hdl : (b.drop 12).take (12 + l - 12) = (b.drop 12).take l := by congr 1; omega
      rw [hdl] at hb6
      have HB6 := Lib.hid hb6
      have DS : Hid (decSh b = ⟨(I : Int), (P : Int), (f : Int), strOfNums ((b.drop 12).take l)⟩) := Lib.hid (by unfold decSh; rw [hI, hP, HF0.out, HL0.out, Int.toNat_natCast])
      obtain ⟨ds, hds⟩ : ∃ s, strOfNums ((b.drop 12).take l) = s := ⟨_, rfl⟩
      rw [hds] at DS
      have HDS := Lib.hid hds
      have HIN := Lib.hid (decSh_in HRG.out (by omega))
      clear hI hP hrg hb5 hb5' hb6 hdl hds hm6
      go_enter Tryd.func12, Tryd.ntmps12
      go_upto_region 1 with fail
      rw [HR.out, ← HW0.out]
      clear HW0
      go_wp2_with fail
      refine CI.out.mono ?_
      rintro e w1 ⟨rfl, k1, rfl⟩
      go_wp2_with fail
      refine (CP.out _).mono ?_
      rintro e w2 ⟨rfl, k2, rfl⟩
      go_wp2_with fail
      obtain ⟨W2, hW2⟩ : ∃ W2, W2 = W0.drewN (k1 + k2) := ⟨_, rfl⟩
      (try rw [← hW2])
      have Z2 : Hid (Bk W2 r 23 #[.int .i64 0, .int .i64 0, .int .i64 0, .string ⟨#[]⟩]) := Lib.hid (by rw [hW2]; exact Z0.out)
      have B2 : Hid (Below w.heap.size w W2) := Lib.hid (by rw [hW2]; exact below_drewN B0.out (k1 + k2))
      have hS0 : W2.drew.cell? ⟨g, off + 10, none⟩ = some (.int .u8 (f : Int)) ∧ W2.drew.cell? ⟨g, off + 11, none⟩ = some (.int .u8 (l : Int)) ∧ Byt W2.drew B6 m6 d6 ((b.drop 12).take l) := by rw [hW2]; exact ⟨c10, c11, (HB6.out.drewN (k1 + k2)).drew⟩
      have h10 : (10 : Int) < (n : Int) := by omega
      have h11 : (11 : Int) < (n : Int) := by omega
      have h12c : 12 + (l : Int) ≤ (n : Int) := by omega
      have hsz2 : W2.drew.heap.size = r + 1 := by rw [hW2]; have : W0.heap.size = r + 1 := HSZ.out; exact this
      have HSS := Lib.hid hsz2
      have hbw2 : Byt W2 B6 m6 d6 ((b.drop 12).take l) := by rw [hW2]; exact HB6.out.drewN (k1 + k2)
      clear hW2 c10 c11 CI CP Z0 B0 HH HB6 hs5 hsz2
      have c10 := hS0.1
      have c11 := hS0.2.1
      have c10a : (W2.alloc (.cells #[.int .i64 0, .int .i64 0, .int .i64 0, .string ⟨#[]⟩] 23)).drew.cell? ⟨g, off + 10, none⟩ = some (.int .u8 (f : Int)) := Lib.cell?_alloc_some (.cells #[.int .i64 0, .int .i64 0, .int .i64 0, .string ⟨#[]⟩] 23) c10
      have c11a : (W2.alloc (.cells #[.int .i64 0, .int .i64 0, .int .i64 0, .string ⟨#[]⟩] 23)).drew.cell? ⟨g, off + 11, none⟩ = some (.int .u8 (l : Int)) := Lib.cell?_alloc_some (.cells #[.int .i64 0, .int .i64 0, .int .i64 0, .string ⟨#[]⟩] 23) c11
      have kc := conv_byt hS0.2.2
      have kca := conv_byt (hbw2.alloc (.cells #[.int .i64 0, .int .i64 0, .int .i64 0, .string ⟨#[]⟩] 23)).drew
      rw [HDS.out] at kc kca
      clear hS0 hbw2
      obtain ⟨q, hq⟩ : ∃ q, decide (storP (decSh b)) = q := ⟨_, rfl⟩
      have HQ := Lib.hid hq
      have SP := fun (W : World) => may8_any (decSh b) W HIN.out
      have eSM : decide (storP (decSh b)) = decide (mayP (decSh b)) := decide_eq_decide.mpr (dec_stor_may HRG.out)
      rw [eSM] at hq
      clear eSM
      rw [DS.out] at SP
      have HZ2 : Hid (W2.heap.size = r + 1) := Lib.hid HSS.out
      rw [DS.out] at hq
      simp only [hq] at SP
      have SP := Lib.hid SP
      clear hq 
      go_region
      all_goals
        obtain ⟨W3, hW3⟩ : ∃ W3, W3 = (W2.alloc (.cells #[.int .i64 I, .int .i64 P, .int .i64 f, .string ds] 23)).drew := ⟨_, rfl⟩
        rw [← hW3, HZ2.out]
        have Z3 : Hid (Bk W3 r 23 #[.int .i64 0, .int .i64 0, .int .i64 0, .string ⟨#[]⟩]) := Lib.hid (by rw [hW3]; exact Z2.out.bel ((Below.refl _ _).alloc (Nat.le_refl _) _).drew Z2.out.lt)
        have Y3 : Hid (Bk W3 (r + 1) 23 #[.int .i64 I, .int .i64 P, .int .i64 f, .string ds]) := Lib.hid (by rw [hW3, ← HZ2.out]; exact Bk.new W2 _ _)
        have B3 : Hid (Below w.heap.size w W3) := Lib.hid (by rw [hW3]; exact (B2.out.alloc (by have := HR.out; have := HZ2.out; omega) _).drew)
        clear hW3 kc kca c10 c11 c10a c11a HSS HZ2 Z2 B2 hs6
        go_wp2_with (refine wpList_load_row rfl _ _ rfl _ rfl _ _ _ _ Y3.out Tryd.underlying23 rfl (by kernel_rfl) ?_)
        refine (SP.out _).mono ?_
        rintro e W4 ⟨rfl, b4⟩
        have Z4 := Lib.hid (Z3.out.bel b4 Z3.out.lt)
        have Y4 := Lib.hid (Y3.out.bel b4 Y3.out.lt)
        have B4 := Lib.hid (B3.out.trans (b4.mono B3.out.size))
        clear b4 Z3 Y3 B3 SP
        cases q with
        | false =>
          have HBK := Lib.hid (Z4.out.rowS #[.int .i64 0, .int .i64 0, .int .i64 0, .string ⟨#[]⟩])
          have HL := Lib.hid (below_rowS B4.out (Nat.le_of_eq HR.out) #[.int .i64 0, .int .i64 0, .int .i64 0, .string ⟨#[]⟩])
          have E1 : Hid (decRes b = sh0 ∧ decErr b = 11) := Lib.hid (by
            have e : decErr b = 11 := by unfold decErr; rw [if_neg (by omega), if_neg (by rw [HL0.out]; omega), if_neg (of_decide_eq_false HQ.out)]
            exact ⟨by unfold decRes; rw [e]; rfl, e⟩)
          go_wp2_with (refine wpList_store_row rfl 23 _ _ rfl r #[.int .i64 0, .int .i64 0, .int .i64 0, .string ⟨#[]⟩] rfl rfl 23 _ Z4.out sh_infoD rfl (sh_oneD _ _ _ _) ?_; simp only [Act.put])
          (try simp only [Exit.inBlock, Exit.then])
          refine bodyPost_ret (results_cellS rfl _ _ r 23 _ _ rfl HBK.out Tryd.underlying23 rfl sh_infoD) rfl ?_
          exact ⟨by rw [E1.out.1, E1.out.2]; rfl, HL.out⟩
        | true =>
          have HBK := Lib.hid (Z4.out.rowS #[.int .i64 I, .int .i64 P, .int .i64 f, .string ds])
          have HL := Lib.hid (below_rowS B4.out (Nat.le_of_eq HR.out) #[.int .i64 I, .int .i64 P, .int .i64 f, .string ds])
          have E1 : Hid (decRes b = ⟨(I : Int), (P : Int), (f : Int), ds⟩ ∧ decErr b = 0) := Lib.hid (by
            have e : decErr b = 0 := by unfold decErr; rw [if_neg (by omega), if_neg (by rw [HL0.out]; omega), if_pos (of_decide_eq_true HQ.out)]
            exact ⟨by unfold decRes; rw [e, ← DS.out]; rfl, e⟩)
          go_wp2_with (first | (refine wpList_load_row rfl _ _ rfl _ rfl _ _ _ _ Y4.out Tryd.underlying23 rfl (by kernel_rfl) ?_) | (refine wpList_store_row rfl 23 _ _ rfl r #[.int .i64 I, .int .i64 P, .int .i64 f, .string ds] rfl rfl 23 _ Z4.out sh_infoD rfl (sh_oneD _ _ _ _) ?_; simp only [Act.put]))
          (try simp only [Exit.inBlock, Exit.then])
          refine bodyPost_ret (results_cellS rfl _ _ r 23 _ _ rfl HBK.out Tryd.underlying23 rfl sh_infoD) rfl ?_
          exact ⟨by rw [E1.out.1, E1.out.2]; rfl, HL.out⟩
end Go.Proofs.YtljpnngknmpdoaaDoor

/- bytes that are gathered onto a slice that has no room, or onto a row of one's own. -/
namespace Go.Proofs.YtljpnngknmpdoaaDoor
open Go.RowKit

/-- Bytes that have no room behind them, or a row of one's own. -/
structure Beg (base : Nat) (w : World) (B : Option Addr) (m d : Nat) (l : List Int) : Prop where
  bty : Bty w B m d l
  own : m = d ∨ w.ownsRow base 5 1 (.slice B m d) m (l.map (Value.int .u8))

/-- What an append onto them leaves. -/
structure AppB (base : Nat) (w w' : World) (B : Option Addr) (m d : Nat) (B' : Option Addr) (m' d' : Nat) (l : List Int) : Prop where
  beg : Beg base w' B' m' d' l
  grown : ∃ row, w.grownBy w' row ∧ ∀ k, row = some k → base ≤ k ∧ (Value.slice B m d).ownBlock = some k
  at_ : ∀ q, (Value.slice B' m' d').ownBlock = some q → (Value.slice B m d).ownBlock = some q ∨ w.heap.size ≤ q

theorem info_u8z : (Tryd.prog.info? 5).map (fun i => (i.zero, i.size, i.bytes)) = some (some (.int .u8 0), 1, 1) := by kernel_rfl

theorem run_append_none {P : Program} (w : World) (t ty e : TypeId) (i : TypeInfo) (ht : P.underlying t = some (.slice e)) (hi : P.info? e = some i) (hs : i.size = 1)
    (ad : Addr) (m d q : Nat) (hmd : m ≤ d) (C : Option Addr) : (Builtin.append_ #[t, t] ty #[.slice (some ad) m d, .slice C 0 q]).run P w = .ok (.slice (some ad) m d) w := by
  cases C <;> simp [Builtin.append_, run_underlying ht, sizeOf, typeInfo, hi, hs, Builtin.lenOf, Builtin.firstCells, loadCells, loadCellsFrom, storeCells, hmd]

theorem wpList_app_beg {w : World} {ops : Array Oper} {rest : List Oper} {o : Oper} {a : Act} {Q : Exit → Act → World → Prop} (hgd : o.guard = none) (s x : Operand)
    (ho : o.op = .call { callee := .builtin .append, args := #[s, x], argTypes := #[24, 24] }) (base : Nat)
    {B : Option Addr} {m d : Nat} {l : List Int} (hs : a.eval s = .slice B m d) (hB : Beg base w B m d l) (hm : 0 < m) {C : Option Addr} {p q : Nat} {h : List Int} (hx : a.eval x = .slice C p q) (hC : Byt w C p q h)
    (hlim : m + p ≤ 100000000) (hbase : base ≤ w.heap.size)
    (H : ∀ B' d' w', Hid (AppB base w w' B m d B' (m + p) d' (l ++ h)) → wpList Tryd.prog ops Q rest (a.put o.dst (.slice B' (m + p) d')) w') : wpList Tryd.prog ops Q (o :: rest) a w := by
  obtain ⟨i0, hi, hz0, hz1, hz2⟩ := info_parts info_u8
  have ht := Tryd.underlying24
  rcases hB.own with hfull | hown
  · obtain ⟨g, off, rfl, hc⟩ := hB.bty.byt.at_ hm
    by_cases hp : p = 0
    · subst hp
      have hh : h = [] := List.eq_nil_of_length_eq_zero hC.len
      subst hh
      have hrun := run_append_none (P := Tryd.prog) w 24 o.type 5 i0 ht hi hz1 ⟨g, off, none⟩ m d q hB.bty.byt.cap C
      refine wpList_run hgd (v := .slice (some ⟨g, off, none⟩) m d) (w' := w) ?_ ?_
      · simp [execOp, ho, resolve, invoke, builtin, hs, hx, hrun, Result.andThen]
      · have := H (some ⟨g, off, none⟩) d w (Lib.hid ⟨⟨by simpa using hB.bty, .inl (by simpa using hfull)⟩, ⟨none, World.grownBy.refl w _, fun _ e => nomatch e⟩, fun q hq => .inl (by simpa [Value.ownBlock] using hq)⟩)
        simpa using this
    · obtain ⟨g2, off2, rfl, hc2⟩ := hC.at_ (by omega)
      have hl1 : (l.map (Value.int .u8)).length = m * i0.size := by simp [hB.bty.byt.len, hz1]
      have hl2 : (h.map (Value.int .u8)).length = p * i0.size := by simp [hC.len, hz1]
      have hge := grownCap_ge w (m + p) d 5
      have hcm : grownCap w (m + p) d 5 ≤ maxLen := grownCap_le_maxLen w (m + p) d 5 (by unfold maxLen; omega)
      have hrun := run_append_grow (P := Tryd.prog) w 24 o.type 5 i0 (.int .u8 0) ht hi hz0 ⟨g, off, none⟩ m d (l.map (Value.int .u8)) hl1 (hB.bty.byt.cells ⟨g, off, none⟩ rfl) ⟨g2, off2, none⟩ p q (h.map (Value.int .u8)) hl2 (hC.cells ⟨g2, off2, none⟩ rfl) (by omega) (by omega) (growslice_fits (by omega) (by rw [hz2]; omega))
      have hex : (execOp a.eval o).run Tryd.prog w = .ok (.value (.slice (some ⟨w.heap.size, 0, none⟩) (m + p) (grownCap w (m + p) d 5))) (w.drew.alloc (.cells ((l.map (Value.int .u8)).toArray ++ (h.map (Value.int .u8)).toArray ++ Builtin.zeroCells (Value.int .u8 0).cells (grownCap w (m + p) d 5 - (m + p))) 5)) := by
        simp only [execOp, ho, resolve, invoke, builtin, List.map_toArray, List.map_cons, List.map_nil, hs, hx, Sem.run_bind, Sem.run_pure, Result.andThen_ok, hrun]
      refine wpList_run hgd hex ?_
      · have hO : (w.drew.alloc (.cells ((l.map (Value.int .u8)).toArray ++ (h.map (Value.int .u8)).toArray ++ Builtin.zeroCells (Value.int .u8 0).cells (grownCap w (m + p) d 5 - (m + p))) 5)).ownsRow base 5 1
            (.slice (some ⟨w.heap.size, 0, none⟩) (m + p) (grownCap w (m + p) d 5)) (m + p) ((l ++ h).map (Value.int .u8)) := by
          refine ⟨by simp [hB.bty.byt.len, hC.len], .inr ⟨w.heap.size, _, _, rfl, hbase, heap_alloc_new w.drew _, hge, hcm, ?_, ?_⟩⟩
          · simp only [Array.size_append, List.size_toArray, size_zeroCells, List.length_map, hB.bty.byt.len, hC.len, Value.cells]
            simp
            omega
          · simp only [Array.toList_append, List.append_assoc]
            rw [← List.append_assoc, ← List.map_append]
            have : (m + p) * 1 = ((l ++ h).map (Value.int .u8)).length := by simp [hB.bty.byt.len, hC.len]
            rw [this]
            exact List.take_left
        refine H _ _ _ (Lib.hid ⟨⟨Bty.of_own hO (fun x hx => ?_), .inr hO⟩, ⟨none, ⟨rfl, rfl, rfl, by simp, fun k hk _ => heap_alloc_old w.drew _ hk⟩, fun _ e => nomatch e⟩, fun q hq => .inr ?_⟩)
        · rcases List.mem_append.1 hx with k | k
          · exact hB.bty.byt.rng x k
          · exact hC.rng x k
        · simp [Value.ownBlock] at hq
          omega
  · refine wpList_append_at hgd s x 24 ho base 5 i0 ht hi hz0 hz1 hz2 (.slice B m d) m l hs hown C p q h hx hC (by omega) hbase ?_
    intro B' d' w' h1 h2 h3
    refine H B' d' w' (Lib.hid ⟨⟨Bty.of_own h1 (fun x hx => ?_), .inr h1⟩, ⟨_, h2, fun k hk => ⟨(hown.lt k hk).1, hk⟩⟩, h3⟩)
    rcases List.mem_append.1 hx with k | k
    · exact hB.bty.byt.rng x k
    · exact hC.rng x k

/-- What was found, as cells. -/
def fndC (x : List Int × Int) : List Value := [.string (strOfNums x.1), .int .i64 x.2]
theorem fndC_len (x : List Int × Int) : (fndC x).length = 2 := rfl

/-- A search in memory: its own blocks lie from base on, below H. -/
structure Srch (base H : Nat) (w : World) (fb : Nat) (s : Fs) : Prop where
  lo : base ≤ fb
  hi : fb < H
  top : H ≤ w.heap.size
  ok : s.Ok
  ex : ∃ A n c B m d, Bk w fb 73 #[.slice A n c, .slice B m d, .int .i64 s.frm] ∧ w.ownsRow base 55 2 (.slice A n c) n (s.out.flatMap fndC) ∧ s.out.length = n ∧ Beg base w B m d s.beg ∧
    (∀ q, (Value.slice A n c).ownBlock = some q → q < H) ∧ (∀ q, (Value.slice B m d).ownBlock = some q → q < H)
/-- What was found, in memory. -/
structure FndAt (base : Nat) (w : World) (fb : Nat) (out : List (List Int × Int)) : Prop where
  ex : ∃ A n c x y, Bk w fb 73 #[.slice A n c, x, y] ∧ w.ownsRow base 55 2 (.slice A n c) n (out.flatMap fndC) ∧ out.length = n
/-- Blocks from base on, below H. -/
def Mid (base H : Nat) : Nat → Prop := fun k => base ≤ k ∧ k < H
/-- What a step of a search leaves. -/
def SrPost (base H fb : Nat) (r : Fs × Bool) (w : World) (e : Ending) (w' : World) : Prop :=
  e = .returned (.bool r.2) ∧ (r.2 = true → Srch base w'.heap.size w' fb r.1) ∧ FndAt base w' fb r.1.out ∧ Fr (Mid base H) w w'

theorem Srch.fnd {base H : Nat} {w : World} {fb : Nat} {s : Fs} (h : Srch base H w fb s) : FndAt base w fb s.out := by
  obtain ⟨A, n, c, B, m, d, h1, h2, h3, _⟩ := h.ex
  exact ⟨A, n, c, _, _, h1, h2, h3⟩
theorem Srch.up {base H H' : Nat} {w : World} {fb : Nat} {s : Fs} (h : Srch base H w fb s) (hH : H ≤ H') (ht : H' ≤ w.heap.size) : Srch base H' w fb s := by
  obtain ⟨A, n, c, B, m, d, h1, h2, h3, h4, h5, h6⟩ := h.ex
  exact ⟨h.lo, Nat.lt_of_lt_of_le h.hi hH, ht, h.ok, A, n, c, B, m, d, h1, h2, h3, h4, fun q k => Nat.lt_of_lt_of_le (h5 q k) hH, fun q k => Nat.lt_of_lt_of_le (h6 q k) hH⟩
theorem Beg.stay {base : Nat} {w w' : World} {B : Option Addr} {m d : Nat} {l : List Int} (h : Beg base w B m d l) (hk : ∀ q, (Value.slice B m d).ownBlock = some q → w'.heap[q]? = w.heap[q]?) : Beg base w' B m d l :=
  ⟨h.bty.stay (fun a ha => hk a.block (by rw [ha]; rfl)), h.own.imp id (fun o => own_stay o hk)⟩
theorem Srch.stay {base H : Nat} {w w' : World} {fb : Nat} {s : Fs} (h : Srch base H w fb s) (hb : ∀ k, k < H → w'.heap[k]? = w.heap[k]?) (hs : w.heap.size ≤ w'.heap.size) : Srch base H w' fb s := by
  obtain ⟨A, n, c, B, m, d, h1, h2, h3, h4, h5, h6⟩ := h.ex
  exact ⟨h.lo, h.hi, Nat.le_trans h.top hs, h.ok, A, n, c, B, m, d, (hb fb h.hi).trans h1, own_stay h2 (fun q hq => hb q (h5 q hq)), h3, h4.stay (fun q hq => hb q (h6 q hq)), h5, h6⟩
end Go.Proofs.YtljpnngknmpdoaaDoor
