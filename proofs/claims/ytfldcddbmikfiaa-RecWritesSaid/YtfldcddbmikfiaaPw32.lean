/- What it says: contracts and plain mathematics that the laws' walks use, 32 of 34: each part's own remark says what; no condition. -/
import Derived.Test.YtfldcddbmikfiaaPw4
import Derived.Test.YtfldcddbmikfiaaPw6
import Derived.Test.YtfldcddbmikfiaaPw21
import Derived.Test.YtfldcddbmikfiaaPw31

set_option linter.unusedSimpArgs false
set_option linter.unusedVariables false
set_option linter.deprecated false
set_option linter.unusedSectionVars false
set_option linter.all false

/- trothref07.lists: the bytes of a checkpoint's lists, in new memory. -/
namespace Go.Proofs.Ytfldcddbmikfiaa
open Go.RowKit

theorem flatMap_le {α : Type} (f : α → List Int) (M : Nat) : ∀ (l : List α), (∀ x ∈ l, (f x).length ≤ M) → (l.flatMap f).length ≤ M * l.length
  | [], _ => by simp
  | x :: l, h => by
    have h1 := h x (by simp)
    have h2 := flatMap_le f M l (fun y hy => h y (by simp [hy]))
    rw [List.flatMap_cons, List.length_append, List.length_cons, Nat.mul_add]
    omega
theorem intsL_len {l : List Int} (h : ∀ x ∈ l, i64 x) (hl : l.length ≤ 1000) : (intsL l).length ≤ 10010 := by
  unfold intsL encList
  have h1 := numL_len (l.length : Int) (by omega)
  have h2 := flatMap_le numL 10 l (fun x hx => numL_len x (h x hx).2)
  rw [List.length_append]
  omega
theorem lksL_len {l : List Lk} (h : ∀ k ∈ l, k.key.size ≤ 1000) (hl : l.length ≤ 1000) : (lksL l).length ≤ 1100010 := by
  unfold lksL encList
  have h1 := numL_len (l.length : Int) (by omega)
  have h2 := flatMap_le lkL 1100 l (fun x hx => by
    have q := h x hx
    unfold lkL textL
    have h3 := shortL_len (nums x.key).length (by rw [nums_len]; omega)
    have h4 : (flagL x.x).length ≤ 10 := by cases x.x <;> simp [flagL]
    rw [List.length_append, List.length_append, nums_len] at *
    omega)
  rw [List.length_append]
  omega
theorem getD_row (l : List Xw) (i : Nat) : (l.map Xw.row).getD i default = (l.getD i default).row := by
  rw [List.getD_eq_getElem?_getD, List.getElem?_map, List.getD_eq_getElem?_getD]
  cases l[i]? <;> rfl
theorem getD_deed (l : List Xd) (i : Nat) : (l.map Xd.deed).getD i default = (l.getD i default).deed := by
  rw [List.getD_eq_getElem?_getD, List.getElem?_map, List.getD_eq_getElem?_getD]
  cases l[i]? <;> rfl
theorem row_bound' {n0 n1 n2 n3 n4 n5 n6 n7 n8 m m' a b c : Nat} (hm : m' = m + c) (hc : 60 + a + b ≤ c) (h0 : n0 ≤ 10 + m) (h1 : n1 ≤ n0 + 10) (h2 : n2 ≤ n1 + 10) (h3 : n3 ≤ n2 + 10) (h4 : n4 ≤ n3 + 10) (h5 : n5 ≤ n4 + 10) (h6 : n6 ≤ n5 + 10) (h7 : n7 ≤ n6 + a) (h8 : n8 ≤ n7 + b) : n8 ≤ 10 + m' := by omega
theorem row_bound {n0 n1 n2 n3 n4 n5 n6 n7 n8 k : Nat} (h0 : n0 ≤ 10 + 1200000 * k) (h1 : n1 ≤ n0 + 10) (h2 : n2 ≤ n1 + 10) (h3 : n3 ≤ n2 + 10) (h4 : n4 ≤ n3 + 10) (h5 : n5 ≤ n4 + 10) (h6 : n6 ≤ n5 + 10) (h7 : n7 ≤ n6 + 10010) (h8 : n8 ≤ n7 + 1100010) : n8 ≤ 10 + 1200000 * (k + 1) := row_bound' (Nat.mul_succ _ _) (by decide) h0 h1 h2 h3 h4 h5 h6 h7 h8
theorem own_lower {w : World} {base base' size n : Nat} {e : TypeId} {v : Value} {xs : List Value} (h : w.ownsRow base e size v n xs) (hb : base' ≤ base) : w.ownsRow base' e size v n xs :=
  ⟨h.1, h.2.imp id (fun ⟨g, cap, cur, e1, e2, r⟩ => ⟨g, cap, cur, e1, Nat.le_trans hb e2, r⟩)⟩
theorem dir_top {n k : Nat} (h : n ≤ 1200000020 + 12000 * k) (hk : k ≤ 1000) : n ≤ 1300000020 := by omega
theorem deed_top {n k : Nat} (h : n ≤ 1300000030 + 12000 * k) (hk : k ≤ 1000) : n ≤ 1400000030 := by omega
theorem row_top {n k : Nat} (h : n ≤ 10 + 1200000 * k) (hk : k ≤ 1000) : n ≤ 1200000010 := by omega
set_option maxRecDepth 100000 in
theorem two_bound {n0 n1 n2 m k : Nat} (h0 : n0 ≤ m + 12000 * k) (h1 : n1 ≤ n0 + 10) (h2 : n2 ≤ n1 + 10010) : n2 ≤ m + 12000 * (k + 1) := by rw [Nat.mul_succ]; omega
/-- The bounds that a checkpoint's lists keep. -/
structure Few (x : Xr) : Prop where
  rn : x.rn ≤ 1000
  dn : x.dn ≤ 1000
  en : x.en ≤ 1000
  pn : x.pn ≤ 1000
  row : ∀ z ∈ x.rows, z.mn ≤ 1000 ∧ z.kn ≤ 1000 ∧ ∀ k ∈ z.lks, k.key.size ≤ 1000
  deed : ∀ z ∈ x.deeds, z.mn ≤ 1000

set_option maxRecDepth 100000 in
set_option maxHeartbeats 16000000 in
theorem rLists7_any (x : Xr) (H : Nat) (w : World) (hx : XrIn H w x) (hH : H ≤ w.heap.size) (hf : Few x) :
    Calls Try.prog 19 #[x.val] w (RetOwn (bK x.read) w) := by
  obtain ⟨i0, hi, hz0, hz1, hz2⟩ := info_parts info_u8
  obtain ⟨kind, tx, prev, next, key, ⟨oh, od⟩, ⟨nh, nd⟩, co, mA, mn, mc, mem, kA, kn, kc, lks, rA, rn, rc, rows, dA, dn, dc, dirty, eA, en, ec, deeds, pA, pn, pc, past⟩ := x
  obtain ⟨f1, f2, f3, f4, f5, f6⟩ := hf
  simp only at f1 f2 f3 f4 f5 f6
  unfold Xr.val
  simp only
  obtain ⟨r, hrr⟩ : ∃ r, w.heap.size = r := ⟨_, rfl⟩
  obtain ⟨W1, hW1⟩ : ∃ W1, W1 = w.alloc (.cells #[.int .i64 kind, .int .i64 tx, .int .i64 prev, .int .i64 next, .string key, .bool oh, .string od, .bool nh, .string nd, .int .i64 co, .slice mA mn mc, .slice kA kn kc, .slice rA rn rc, .slice dA dn dc, .slice eA en ec, .slice pA pn pc] 30) := ⟨_, rfl⟩
  have hb : Below w.heap.size w W1 := by rw [hW1]; exact (Below.refl _ _).alloc (Nat.le_refl _) _
  have V0 : Hid (Bk W1 r 30 #[.int .i64 kind, .int .i64 tx, .int .i64 prev, .int .i64 next, .string key, .bool oh, .string od, .bool nh, .string nd, .int .i64 co, .slice mA mn mc, .slice kA kn kc, .slice rA rn rc, .slice dA dn dc, .slice eA en ec, .slice pA pn pc]) := Lib.hid (by rw [hW1, ← hrr]; exact Bk.new w _ _)
  have hX := hx.calm (Calm.of_below hb)
  have XR : Hid (Sl elR H W1 rA rn rc rows) := Lib.hid hX.rows
  have XD : Hid (Sl elD H W1 dA dn dc dirty) := Lib.hid hX.dirty
  have XE : Hid (Sl elE H W1 eA en ec deeds) := Lib.hid hX.deeds
  have XP : Hid (Sl elI H W1 pA pn pc past) := Lib.hid hX.past
  have HH : Hid (H ≤ W1.heap.size) := Lib.hid (Nat.le_trans hH hb.size)
  have HB0 := Lib.hid hb
  have HW := Lib.hid hW1
  have HRR := Lib.hid hrr
  have F5 := Lib.hid f5
  have F6 := Lib.hid f6
  have bounds : (rc ≤ 2 ^ 63 - 1 ∧ rn ≤ rc) ∧ (dc ≤ 2 ^ 63 - 1 ∧ dn ≤ dc) ∧ (ec ≤ 2 ^ 63 - 1 ∧ en ≤ ec) := ⟨⟨XR.out.max, XR.out.cap⟩, ⟨XD.out.max, XD.out.cap⟩, ⟨XE.out.max, XE.out.cap⟩⟩
  obtain ⟨⟨g1, g2⟩, ⟨g3, g4⟩, ⟨g5, g6⟩⟩ := bounds
  have a12 : W1.cell? ⟨r, 12, none⟩ = some (.slice rA rn rc) := V0.out.cell 12
  have C1 := Lib.hid (rNum7_any (rn : Int) W1 (by omega))
  clear hx hX hb hW1 hrr hH f5 f6
  go_enter Try.func19, Try.ntmps19
  go_upto_region 1 with fail
  rw [HRR.out, ← HW.out]
  clear HW
  go_wp2_with fail
  refine C1.out.mono ?_
  rintro e w0 ⟨A0, n0, c0, rfl, ho, hr, hb⟩
  have R0 := Lib.hid (Acc.of ho hr hb)
  have K0 : Hid (Calm H W1 w0) := Lib.hid (Calm.of_below hb)
  have N0 : n0 ≤ 10 := by rw [← R0.out.len]; exact numL_len _ (by omega)
  clear ho hr hb a12 C1
  go_wp2_with fail
  go_loopw [3, 4] (fun o q wr => ∃ k A n c L, k ≤ rn ∧ q = .int .i64 (k : Nat) ∧ o = .slice A n c ∧ n ≤ 10 + 1200000 * k ∧ L = numL rn ++ ((rows.map Xw.row).take k).flatMap rwL ∧ Acc W1 wr A n c L ∧ Calm H W1 wr) (fun _ q _ => rn - (intOf q).toNat)
  case atStart => exact ⟨0, A0, n0, c0, _, Nat.zero_le _, rfl, rfl, by omega, rfl, by simpa using R0.out, K0.out⟩
  case round =>
    obtain ⟨k, A0, n0, c0, L0, hk, rfl, rfl, hn3, hL0, hacc, hcal⟩ := hrel
    have HA0 := Lib.hid hacc
    have HC0 := Lib.hid hcal
    have HL0 := Lib.hid hL0
    have a12 : wr.cell? ⟨r, 12, none⟩ = some (.slice rA rn rc) := (V0.out.calm rfl hcal).cell 12
    clear R0 K0 hL0 hacc
    by_cases hlt : k < rn
    · obtain ⟨g, off, hA, _, hr⟩ := (XR.out.calm hcal).at_ (show 0 < rn by omega)
      obtain rfl : rA = _ := hA
      obtain ⟨z, hz⟩ : ∃ z, rows.getD k default = z := ⟨_, rfl⟩
      have hr2 : wr.rangeAt g (off + k * 8) (elR.cells z) := by rw [← hz]; exact hr k hlt
      have hzi : XwIn H W1 z := by rw [← hz]; exact XR.out.get hlt
      have hzn := F5.out (rows.getD k default) (getD_mem (by rw [XR.out.len]; exact hlt))
      rw [hz] at hzn
      have HZ := Lib.hid hz
      clear hr hz hcal
      obtain ⟨zt, zs, zf, zl, zu, zc, zmA, zmn, zmc, zmem, zkA, zkn, zkc, zlks⟩ := z
      have gz1 : zmn ≤ 1000 := hzn.1
      have gz2 : zkn ≤ 1000 := hzn.2.1
      have gz3 : Hid (∀ k ∈ zlks, k.key.size ≤ 1000) := Lib.hid hzn.2.2
      have HR2 : Hid (wr.rangeAt g (off + k * 8) [.int .i64 zt, .int .i64 zs, .int .i64 zf, .int .i64 zl, .int .i64 zu, .int .i64 zc, .slice zmA zmn zmc, .slice zkA zkn zkc]) := Lib.hid hr2
      have HZI := Lib.hid hzi
      clear hzn hr2 hzi
      obtain ⟨s, he⟩ : ∃ e, wr.heap.size = e := ⟨_, rfl⟩
      obtain ⟨wa, hwa⟩ : ∃ wa, wa = wr.alloc (.cells #[.int .i64 zt, .int .i64 zs, .int .i64 zf, .int .i64 zl, .int .i64 zu, .int .i64 zc, .slice zmA zmn zmc, .slice zkA zkn zkc] 51) := ⟨_, rfl⟩
      have ba : Below wr.heap.size wr wa := by rw [hwa]; exact (Below.refl _ _).alloc (Nat.le_refl _) _
      have X0 : Hid (Bk wa s 51 #[.int .i64 zt, .int .i64 zs, .int .i64 zf, .int .i64 zl, .int .i64 zu, .int .i64 zc, .slice zmA zmn zmc, .slice zkA zkn zkc]) := Lib.hid (by rw [hwa, ← he]; exact Bk.new wr _ _)
      have HAa := Lib.hid (HA0.out.below ba)
      have HCa := Lib.hid (HC0.out.trans (Calm.of_below ba))
      have HWA := Lib.hid hwa
      clear hwa ba HA0 HC0
      go_upto_region 6 with (first
        | (refine wpList_load_mid rfl 51 _ rfl g (off + k * 8) rfl [.int .i64 zt, .int .i64 zs, .int .i64 zf, .int .i64 zl, .int .i64 zu, .int .i64 zc, .slice zmA zmn zmc, .slice zkA zkn zkc] _ HR2.out Try.underlying51 rfl (by kernel_rfl) ?_)
        | (refine wpList_store_new rfl (W := wr) rfl (c := #[.int .i64 0, .int .i64 0, .int .i64 0, .int .i64 0, .int .i64 0, .int .i64 0, .slice none 0 0, .slice none 0 0]) (c' := #[.int .i64 zt, .int .i64 zs, .int .i64 zf, .int .i64 zl, .int .i64 zu, .int .i64 zc, .slice zmA zmn zmc, .slice zkA zkn zkc]) rfl (by simp [he]) rfl (by kernel_rfl) rfl rfl ?_; simp only [Act.put]))
      (try rw [he])
      rw [← HWA.out]
      clear HWA he HR2 a12
      obtain ⟨w0, hw0⟩ : ∃ w0, w0 = wa := ⟨_, rfl⟩
      rw [← hw0]
      rw [← hw0] at X0 HAa HCa
      have HA0 := HAa
      have HC0 := HCa
      clear HAa HCa hw0
      have q0 : w0.cell? ⟨s, 0, none⟩ = some (.int .i64 zt) := X0.out.cell 0
      have CN := Lib.hid (rNum7_any zt w0 HZI.out.tx)
      go_wp2_with fail
      refine CN.out.mono ?_
      rintro e v0 ⟨D, d, f, rfl, ho, hr, hb⟩
      have HB := Lib.hid (HA0.out.below hb)
      have HD := Lib.hid (HC0.out.trans (Calm.of_below hb))
      have HY := Lib.hid (Byt.of_own ho hr)
      have HR := Lib.hid hr
      have ND : d ≤ 10 := by
        rw [← HY.out.len]
        exact numL_len _ HZI.out.tx.2
      have YX := Lib.hid (X0.out.calm rfl (Calm.of_below (H := H) hb))
      clear ho hr hb CN HA0 HC0 q0 X0
      go_wp2_with (at_builtin; refine wpList_append_byt rfl _ _ 33 rfl W1.heap.size 5 i0 Try.underlying33 hi hz0 hz1 hz2 _ n0 _ rfl (by exact HB.out.own) D d f _ rfl HY.out (by omega) HB.out.bel.size ?_)
      intro A1 c1 w1 h1 h2
      obtain ⟨n1, hn⟩ : ∃ m, n0 + d = m := ⟨_, rfl⟩
      obtain ⟨L1, hL⟩ : ∃ m, L0 ++ numL zt = m := ⟨_, rfl⟩
      have HA1 := HB.out.app HR.out h1 h2
      rw [hn, hL] at HA1
      have HA1 := Lib.hid HA1
      have GC : Calm H v0 w1 := Calm.grown h2 (fun q hq => ⟨Nat.le_trans HH.out (own_special HB.out.own hq).1, (own_special HB.out.own hq).2⟩)
      have HC1 := Lib.hid (HD.out.trans GC)
      have HL1 := Lib.hid hL
      have N1 : n1 ≤ n0 + 10 := by omega
      have X1 := Lib.hid (YX.out.calm rfl GC)
      (try rw [hn])
      clear h1 h2 HB HD HY HR hn hL ND GC YX
      have q1 : w1.cell? ⟨s, 1, none⟩ = some (.int .i64 zs) := X1.out.cell 1
      have CN := Lib.hid (rNum7_any zs w1 HZI.out.st)
      go_wp2_with fail
      refine CN.out.mono ?_
      rintro e v1 ⟨D, d, f, rfl, ho, hr, hb⟩
      have HB := Lib.hid (HA1.out.below hb)
      have HD := Lib.hid (HC1.out.trans (Calm.of_below hb))
      have HY := Lib.hid (Byt.of_own ho hr)
      have HR := Lib.hid hr
      have ND : d ≤ 10 := by
        rw [← HY.out.len]
        exact numL_len _ HZI.out.st.2
      have YX := Lib.hid (X1.out.calm rfl (Calm.of_below (H := H) hb))
      clear ho hr hb CN HA1 HC1 q1 X1
      go_wp2_with (at_builtin; refine wpList_append_byt rfl _ _ 33 rfl W1.heap.size 5 i0 Try.underlying33 hi hz0 hz1 hz2 _ n1 _ rfl (by exact HB.out.own) D d f _ rfl HY.out (by omega) HB.out.bel.size ?_)
      intro A2 c2 w2 h1 h2
      obtain ⟨n2, hn⟩ : ∃ m, n1 + d = m := ⟨_, rfl⟩
      obtain ⟨L2, hL⟩ : ∃ m, L1 ++ numL zs = m := ⟨_, rfl⟩
      have HA2 := HB.out.app HR.out h1 h2
      rw [hn, hL] at HA2
      have HA2 := Lib.hid HA2
      have GC : Calm H v1 w2 := Calm.grown h2 (fun q hq => ⟨Nat.le_trans HH.out (own_special HB.out.own hq).1, (own_special HB.out.own hq).2⟩)
      have HC2 := Lib.hid (HD.out.trans GC)
      have HL2 := Lib.hid hL
      have N2 : n2 ≤ n1 + 10 := by omega
      have X2 := Lib.hid (YX.out.calm rfl GC)
      (try rw [hn])
      clear h1 h2 HB HD HY HR hn hL ND GC YX
      have q2 : w2.cell? ⟨s, 2, none⟩ = some (.int .i64 zf) := X2.out.cell 2
      have CN := Lib.hid (rNum7_any zf w2 HZI.out.fi)
      go_wp2_with fail
      refine CN.out.mono ?_
      rintro e v2 ⟨D, d, f, rfl, ho, hr, hb⟩
      have HB := Lib.hid (HA2.out.below hb)
      have HD := Lib.hid (HC2.out.trans (Calm.of_below hb))
      have HY := Lib.hid (Byt.of_own ho hr)
      have HR := Lib.hid hr
      have ND : d ≤ 10 := by
        rw [← HY.out.len]
        exact numL_len _ HZI.out.fi.2
      have YX := Lib.hid (X2.out.calm rfl (Calm.of_below (H := H) hb))
      clear ho hr hb CN HA2 HC2 q2 X2
      go_wp2_with (at_builtin; refine wpList_append_byt rfl _ _ 33 rfl W1.heap.size 5 i0 Try.underlying33 hi hz0 hz1 hz2 _ n2 _ rfl (by exact HB.out.own) D d f _ rfl HY.out (by omega) HB.out.bel.size ?_)
      intro A3 c3 w3 h1 h2
      obtain ⟨n3, hn⟩ : ∃ m, n2 + d = m := ⟨_, rfl⟩
      obtain ⟨L3, hL⟩ : ∃ m, L2 ++ numL zf = m := ⟨_, rfl⟩
      have HA3 := HB.out.app HR.out h1 h2
      rw [hn, hL] at HA3
      have HA3 := Lib.hid HA3
      have GC : Calm H v2 w3 := Calm.grown h2 (fun q hq => ⟨Nat.le_trans HH.out (own_special HB.out.own hq).1, (own_special HB.out.own hq).2⟩)
      have HC3 := Lib.hid (HD.out.trans GC)
      have HL3 := Lib.hid hL
      have N3 : n3 ≤ n2 + 10 := by omega
      have X3 := Lib.hid (YX.out.calm rfl GC)
      (try rw [hn])
      clear h1 h2 HB HD HY HR hn hL ND GC YX
      have q3 : w3.cell? ⟨s, 3, none⟩ = some (.int .i64 zl) := X3.out.cell 3
      have CN := Lib.hid (rNum7_any zl w3 HZI.out.la)
      go_wp2_with fail
      refine CN.out.mono ?_
      rintro e v3 ⟨D, d, f, rfl, ho, hr, hb⟩
      have HB := Lib.hid (HA3.out.below hb)
      have HD := Lib.hid (HC3.out.trans (Calm.of_below hb))
      have HY := Lib.hid (Byt.of_own ho hr)
      have HR := Lib.hid hr
      have ND : d ≤ 10 := by
        rw [← HY.out.len]
        exact numL_len _ HZI.out.la.2
      have YX := Lib.hid (X3.out.calm rfl (Calm.of_below (H := H) hb))
      clear ho hr hb CN HA3 HC3 q3 X3
      go_wp2_with (at_builtin; refine wpList_append_byt rfl _ _ 33 rfl W1.heap.size 5 i0 Try.underlying33 hi hz0 hz1 hz2 _ n3 _ rfl (by exact HB.out.own) D d f _ rfl HY.out (by omega) HB.out.bel.size ?_)
      intro A4 c4 w4 h1 h2
      obtain ⟨n4, hn⟩ : ∃ m, n3 + d = m := ⟨_, rfl⟩
      obtain ⟨L4, hL⟩ : ∃ m, L3 ++ numL zl = m := ⟨_, rfl⟩
      have HA4 := HB.out.app HR.out h1 h2
      rw [hn, hL] at HA4
      have HA4 := Lib.hid HA4
      have GC : Calm H v3 w4 := Calm.grown h2 (fun q hq => ⟨Nat.le_trans HH.out (own_special HB.out.own hq).1, (own_special HB.out.own hq).2⟩)
      have HC4 := Lib.hid (HD.out.trans GC)
      have HL4 := Lib.hid hL
      have N4 : n4 ≤ n3 + 10 := by omega
      have X4 := Lib.hid (YX.out.calm rfl GC)
      (try rw [hn])
      clear h1 h2 HB HD HY HR hn hL ND GC YX
      have q4 : w4.cell? ⟨s, 4, none⟩ = some (.int .i64 zu) := X4.out.cell 4
      have CN := Lib.hid (rNum7_any zu w4 HZI.out.un)
      go_wp2_with fail
      refine CN.out.mono ?_
      rintro e v4 ⟨D, d, f, rfl, ho, hr, hb⟩
      have HB := Lib.hid (HA4.out.below hb)
      have HD := Lib.hid (HC4.out.trans (Calm.of_below hb))
      have HY := Lib.hid (Byt.of_own ho hr)
      have HR := Lib.hid hr
      have ND : d ≤ 10 := by
        rw [← HY.out.len]
        exact numL_len _ HZI.out.un.2
      have YX := Lib.hid (X4.out.calm rfl (Calm.of_below (H := H) hb))
      clear ho hr hb CN HA4 HC4 q4 X4
      go_wp2_with (at_builtin; refine wpList_append_byt rfl _ _ 33 rfl W1.heap.size 5 i0 Try.underlying33 hi hz0 hz1 hz2 _ n4 _ rfl (by exact HB.out.own) D d f _ rfl HY.out (by omega) HB.out.bel.size ?_)
      intro A5 c5 w5 h1 h2
      obtain ⟨n5, hn⟩ : ∃ m, n4 + d = m := ⟨_, rfl⟩
      obtain ⟨L5, hL⟩ : ∃ m, L4 ++ numL zu = m := ⟨_, rfl⟩
      have HA5 := HB.out.app HR.out h1 h2
      rw [hn, hL] at HA5
      have HA5 := Lib.hid HA5
      have GC : Calm H v4 w5 := Calm.grown h2 (fun q hq => ⟨Nat.le_trans HH.out (own_special HB.out.own hq).1, (own_special HB.out.own hq).2⟩)
      have HC5 := Lib.hid (HD.out.trans GC)
      have HL5 := Lib.hid hL
      have N5 : n5 ≤ n4 + 10 := by omega
      have X5 := Lib.hid (YX.out.calm rfl GC)
      (try rw [hn])
      clear h1 h2 HB HD HY HR hn hL ND GC YX
      have q5 : w5.cell? ⟨s, 5, none⟩ = some (.int .i64 zc) := X5.out.cell 5
      have CN := Lib.hid (rNum7_any zc w5 HZI.out.co)
      go_wp2_with fail
      refine CN.out.mono ?_
      rintro e v5 ⟨D, d, f, rfl, ho, hr, hb⟩
      have HB := Lib.hid (HA5.out.below hb)
      have HD := Lib.hid (HC5.out.trans (Calm.of_below hb))
      have HY := Lib.hid (Byt.of_own ho hr)
      have HR := Lib.hid hr
      have ND : d ≤ 10 := by
        rw [← HY.out.len]
        exact numL_len _ HZI.out.co.2
      have YX := Lib.hid (X5.out.calm rfl (Calm.of_below (H := H) hb))
      clear ho hr hb CN HA5 HC5 q5 X5
      go_wp2_with (at_builtin; refine wpList_append_byt rfl _ _ 33 rfl W1.heap.size 5 i0 Try.underlying33 hi hz0 hz1 hz2 _ n5 _ rfl (by exact HB.out.own) D d f _ rfl HY.out (by omega) HB.out.bel.size ?_)
      intro A6 c6 w6 h1 h2
      obtain ⟨n6, hn⟩ : ∃ m, n5 + d = m := ⟨_, rfl⟩
      obtain ⟨L6, hL⟩ : ∃ m, L5 ++ numL zc = m := ⟨_, rfl⟩
      have HA6 := HB.out.app HR.out h1 h2
      rw [hn, hL] at HA6
      have HA6 := Lib.hid HA6
      have GC : Calm H v5 w6 := Calm.grown h2 (fun q hq => ⟨Nat.le_trans HH.out (own_special HB.out.own hq).1, (own_special HB.out.own hq).2⟩)
      have HC6 := Lib.hid (HD.out.trans GC)
      have HL6 := Lib.hid hL
      have N6 : n6 ≤ n5 + 10 := by omega
      have X6 := Lib.hid (YX.out.calm rfl GC)
      (try rw [hn])
      clear h1 h2 HB HD HY HR hn hL ND GC YX
      have q6 : w6.cell? ⟨s, 6, none⟩ = some (.slice zmA zmn zmc) := X6.out.cell 6
      have CN := Lib.hid (rInts7_any zmA zmn zmc H zmem w6 (HZI.out.mem.calm HC6.out) (by omega))
      go_wp2_with fail
      refine CN.out.mono ?_
      rintro e v6 ⟨D, d, f, rfl, ho, hr, hb⟩
      have HB := Lib.hid (HA6.out.below hb)
      have HD := Lib.hid (HC6.out.trans (Calm.of_below hb))
      have HY := Lib.hid (Byt.of_own ho hr)
      have HR := Lib.hid hr
      have ND : d ≤ 10010 := by
        rw [← HY.out.len]
        exact intsL_len HZI.out.mem.each (by rw [HZI.out.mem.len]; exact gz1)
      have YX := Lib.hid (X6.out.calm rfl (Calm.of_below (H := H) hb))
      clear ho hr hb CN HA6 HC6 q6 X6
      go_wp2_with (at_builtin; refine wpList_append_byt rfl _ _ 33 rfl W1.heap.size 5 i0 Try.underlying33 hi hz0 hz1 hz2 _ n6 _ rfl (by exact HB.out.own) D d f _ rfl HY.out (by omega) HB.out.bel.size ?_)
      intro A7 c7 w7 h1 h2
      obtain ⟨n7, hn⟩ : ∃ m, n6 + d = m := ⟨_, rfl⟩
      obtain ⟨L7, hL⟩ : ∃ m, L6 ++ intsL zmem = m := ⟨_, rfl⟩
      have HA7 := HB.out.app HR.out h1 h2
      rw [hn, hL] at HA7
      have HA7 := Lib.hid HA7
      have GC : Calm H v6 w7 := Calm.grown h2 (fun q hq => ⟨Nat.le_trans HH.out (own_special HB.out.own hq).1, (own_special HB.out.own hq).2⟩)
      have HC7 := Lib.hid (HD.out.trans GC)
      have HL7 := Lib.hid hL
      have N7 : n7 ≤ n6 + 10010 := by omega
      have X7 := Lib.hid (YX.out.calm rfl GC)
      (try rw [hn])
      clear h1 h2 HB HD HY HR hn hL ND GC YX
      have q7 : w7.cell? ⟨s, 7, none⟩ = some (.slice zkA zkn zkc) := X7.out.cell 7
      have CN := Lib.hid (rLocks7_any zkA zkn zkc H zlks w7 (HZI.out.lks.calm HC7.out) (by omega) (fun k hk => Nat.le_trans (gz3.out k hk) (by omega)))
      go_wp2_with fail
      refine CN.out.mono ?_
      rintro e v7 ⟨D, d, f, rfl, ho, hr, hb⟩
      have HB := Lib.hid (HA7.out.below hb)
      have HD := Lib.hid (HC7.out.trans (Calm.of_below hb))
      have HY := Lib.hid (Byt.of_own ho hr)
      have HR := Lib.hid hr
      have ND : d ≤ 1100010 := by
        rw [← HY.out.len]
        exact lksL_len gz3.out (by rw [HZI.out.lks.len]; exact gz2)
      have YX := Lib.hid (X7.out.calm rfl (Calm.of_below (H := H) hb))
      clear ho hr hb CN HA7 HC7 q7 X7
      go_wp2_with (at_builtin; refine wpList_append_byt rfl _ _ 33 rfl W1.heap.size 5 i0 Try.underlying33 hi hz0 hz1 hz2 _ n7 _ rfl (by exact HB.out.own) D d f _ rfl HY.out (by omega) HB.out.bel.size ?_)
      intro A8 c8 w8 h1 h2
      obtain ⟨n8, hn⟩ : ∃ m, n7 + d = m := ⟨_, rfl⟩
      obtain ⟨L8, hL⟩ : ∃ m, L7 ++ lksL zlks = m := ⟨_, rfl⟩
      have HA8 := HB.out.app HR.out h1 h2
      rw [hn, hL] at HA8
      have HA8 := Lib.hid HA8
      have GC : Calm H v7 w8 := Calm.grown h2 (fun q hq => ⟨Nat.le_trans HH.out (own_special HB.out.own hq).1, (own_special HB.out.own hq).2⟩)
      have HC8 := Lib.hid (HD.out.trans GC)
      have HL8 := Lib.hid hL
      have N8 : n8 ≤ n7 + 1100010 := by omega
      have X8 := Lib.hid (YX.out.calm rfl GC)
      (try rw [hn])
      clear h1 h2 HB HD HY HR hn hL ND GC YX
      have R : Hid (L8 = numL rn ++ ((rows.map Xw.row).take (k + 1)).flatMap rwL) := Lib.hid (by
        rw [take_getD _ (by rw [List.length_map, XR.out.len]; exact hlt), getD_row, HZ.out, List.flatMap_append, ← List.append_assoc, ← HL0.out, ← HL8.out, ← HL7.out, ← HL6.out, ← HL5.out, ← HL4.out, ← HL3.out, ← HL2.out, ← HL1.out]
        simp [rwL, Xw.row, List.append_assoc])
      clear HL0 HL1 HL2 HL3 HL4 HL5 HL6 HL7 HL8 HZ HZI gz3 X8
      go_wp2_with fail
      go_roundw
      case rel => exact ⟨k + 1, A8, n8, c8, L8, by omega, by go_num, rfl, row_bound hn3 N1 N2 N3 N4 N5 N6 N7 N8, R.out, HA8.out, HC8.out⟩
      case measure => simp [intOf]; omega
    · have hkn : rn = k := by omega
      subst hkn
      have M0 : Hid (L0 = encList rwL (rows.map Xw.row)) := Lib.hid (by
        rw [HL0.out]
        unfold encList
        rw [List.length_map, XR.out.len, List.take_of_length_le (by rw [List.length_map, XR.out.len]; omega)])
      have a13 : wr.cell? ⟨r, 13, none⟩ = some (.slice dA dn dc) := (V0.out.calm rfl hcal).cell 13
      obtain ⟨w0, hw0⟩ : ∃ w0, w0 = wr := ⟨_, rfl⟩
      rw [← hw0] at a12 a13 HA0 HC0 ⊢
      clear hw0 hcal HL0 hlt hk
      have N0 : n0 ≤ 1200000010 := row_top hn3 f1
      have F0 : Hid (r < W1.heap.size) := Lib.hid V0.out.lt
      clear hn3
      have CN := Lib.hid (rNum7_any (dn : Int) w0 (by omega))
      go_wp2_with fail
      refine CN.out.mono ?_
      rintro e v0 ⟨D, d, f, rfl, ho, hr, hb⟩
      have HB := Lib.hid (HA0.out.below hb)
      have HD := Lib.hid (HC0.out.trans (Calm.of_below hb))
      have HY := Lib.hid (Byt.of_own ho hr)
      have HR := Lib.hid hr
      have ND : d ≤ 10 := by
        rw [← HY.out.len]
        exact numL_len _ (by omega)
      clear ho hr hb CN HA0 HC0  
      go_wp2_with (at_builtin; refine wpList_append_byt rfl _ _ 33 rfl W1.heap.size 5 i0 Try.underlying33 hi hz0 hz1 hz2 _ n0 _ rfl (by exact HB.out.own) D d f _ rfl HY.out (by omega) HB.out.bel.size ?_)
      intro A1 c1 w1 h1 h2
      obtain ⟨n1, hn⟩ : ∃ m, n0 + d = m := ⟨_, rfl⟩
      obtain ⟨L1, hL⟩ : ∃ m, L0 ++ numL (dn : Int) = m := ⟨_, rfl⟩
      have HA1 := HB.out.app HR.out h1 h2
      rw [hn, hL] at HA1
      have HA1 := Lib.hid HA1
      have GC : Calm H v0 w1 := Calm.grown h2 (fun q hq => ⟨Nat.le_trans HH.out (own_special HB.out.own hq).1, (own_special HB.out.own hq).2⟩)
      have HC1 := Lib.hid (HD.out.trans GC)
      have HL1 := Lib.hid hL
      have N1 : n1 ≤ n0 + 10 := by omega
      (try rw [hn])
      clear h1 h2 HB HD HY HR hn hL ND GC 
      clear a13
      obtain ⟨LB, hLB⟩ : ∃ L, L = L1 := ⟨_, rfl⟩
      rw [← hLB] at HA1 HL1
      clear hLB
      go_wp2_with fail
      go_loopw [3, 6] (fun o q wr => ∃ k A n c L, k ≤ dn ∧ q = .int .i64 (k : Nat) ∧ o = .slice A n c ∧ n ≤ 1200000020 + 12000 * k ∧ L = LB ++ (dirty.take k).flatMap dtL ∧ Acc W1 wr A n c L ∧ Calm H W1 wr) (fun _ q _ => dn - (intOf q).toNat)
      case atStart => exact ⟨0, A1, n1, c1, _, Nat.zero_le _, rfl, rfl, by omega, rfl, by simpa using HA1.out, HC1.out⟩
      case round =>
        clear HA1 HC1
        obtain ⟨k, A0, n0, c0, L0, hk, rfl, rfl, hn3, hL0, hacc, hcal⟩ := hrel
        have HA0 := Lib.hid hacc
        have HC0 := Lib.hid hcal
        have HL0 := Lib.hid hL0
        have a13 : wr.cell? ⟨r, 13, none⟩ = some (.slice dA dn dc) := (V0.out.calm rfl hcal).cell 13
        clear hL0 hacc
        by_cases hlt : k < dn
        · obtain ⟨g, off, hA, hst, hr⟩ := (XD.out.calm (Calm.refl H W1)).at_ (show 0 < dn by omega)
          obtain rfl : dA = _ := hA
          obtain ⟨z, hz⟩ : ∃ z, dirty.getD k default = z := ⟨_, rfl⟩
          have hzi := XD.out.get hlt
          have hr0 := hr k hlt
          rw [hz] at hzi hr0
          have HZ := Lib.hid hz
          obtain ⟨zp, zl⟩ := z
          have HZP : Hid (i64 zp) := Lib.hid hzi.1
          have HZL : Hid (i64 zl) := Lib.hid hzi.2
          have KC : Hid (∀ W, Calm H W1 W → W.cell? ⟨r, 13, none⟩ = some (.slice (some ⟨g, off, none⟩) dn dc) ∧ W.cell? ⟨g, off + k * 2, none⟩ = some (.int .i64 zp) ∧ W.cell? ⟨g, off + k * 2 + 1, none⟩ = some (.int .i64 zl)) := Lib.hid (fun W hW =>
            ⟨(V0.out.calm rfl hW).cell 13, by have := (hW.cell (p := ⟨g, off + k * 2 + 0, none⟩) (hst.stab rfl)).trans (hr0 0 _ rfl); simpa using this, (hW.cell (p := ⟨g, off + k * 2 + 1, none⟩) (hst.stab rfl)).trans (hr0 1 _ rfl)⟩)
          clear hzi hr hr0 hst hz hcal a13
          obtain ⟨w0, hw0⟩ : ∃ w0, w0 = wr := ⟨_, rfl⟩
          rw [← hw0] at HA0 HC0 ⊢
          clear hw0
          have q0 := KC.out w0 HC0.out
          have CN := Lib.hid (rNum7_any zp w0 HZP.out)
          go_wp2_with fail
          refine CN.out.mono ?_
          rintro e v0 ⟨D, d, f, rfl, ho, hr, hb⟩
          have HB := Lib.hid (HA0.out.below hb)
          have HD := Lib.hid (HC0.out.trans (Calm.of_below hb))
          have HY := Lib.hid (Byt.of_own ho hr)
          have HR := Lib.hid hr
          have ND : d ≤ 10 := by
            rw [← HY.out.len]
            exact numL_len _ HZP.out.2
          clear ho hr hb CN HA0 HC0 q0 
          go_wp2_with (at_builtin; refine wpList_append_byt rfl _ _ 33 rfl W1.heap.size 5 i0 Try.underlying33 hi hz0 hz1 hz2 _ n0 _ rfl (by exact HB.out.own) D d f _ rfl HY.out (by omega) HB.out.bel.size ?_)
          intro A1 c1 w1 h1 h2
          obtain ⟨n1, hn⟩ : ∃ m, n0 + d = m := ⟨_, rfl⟩
          obtain ⟨L1, hL⟩ : ∃ m, L0 ++ numL zp = m := ⟨_, rfl⟩
          have HA1 := HB.out.app HR.out h1 h2
          rw [hn, hL] at HA1
          have HA1 := Lib.hid HA1
          have GC : Calm H v0 w1 := Calm.grown h2 (fun q hq => ⟨Nat.le_trans HH.out (own_special HB.out.own hq).1, (own_special HB.out.own hq).2⟩)
          have HC1 := Lib.hid (HD.out.trans GC)
          have HL1 := Lib.hid hL
          have N1 : n1 ≤ n0 + 10 := by omega
          (try rw [hn])
          clear h1 h2 HB HD HY HR hn hL ND GC 
          have q1 := KC.out w1 HC1.out
          have CN := Lib.hid (rNum7_any zl w1 HZL.out)
          go_wp2_with fail
          refine CN.out.mono ?_
          rintro e v1 ⟨D, d, f, rfl, ho, hr, hb⟩
          have HB := Lib.hid (HA1.out.below hb)
          have HD := Lib.hid (HC1.out.trans (Calm.of_below hb))
          have HY := Lib.hid (Byt.of_own ho hr)
          have HR := Lib.hid hr
          have ND : d ≤ 10 := by
            rw [← HY.out.len]
            exact numL_len _ HZL.out.2
          clear ho hr hb CN HA1 HC1 q1 
          go_wp2_with (at_builtin; refine wpList_append_byt rfl _ _ 33 rfl W1.heap.size 5 i0 Try.underlying33 hi hz0 hz1 hz2 _ n1 _ rfl (by exact HB.out.own) D d f _ rfl HY.out (by omega) HB.out.bel.size ?_)
          intro A2 c2 w2 h1 h2
          obtain ⟨n2, hn⟩ : ∃ m, n1 + d = m := ⟨_, rfl⟩
          obtain ⟨L2, hL⟩ : ∃ m, L1 ++ numL zl = m := ⟨_, rfl⟩
          have HA2 := HB.out.app HR.out h1 h2
          rw [hn, hL] at HA2
          have HA2 := Lib.hid HA2
          have GC : Calm H v1 w2 := Calm.grown h2 (fun q hq => ⟨Nat.le_trans HH.out (own_special HB.out.own hq).1, (own_special HB.out.own hq).2⟩)
          have HC2 := Lib.hid (HD.out.trans GC)
          have HL2 := Lib.hid hL
          have N2 : n2 ≤ n1 + 10 := by omega
          (try rw [hn])
          clear h1 h2 HB HD HY HR hn hL ND GC 
          have R : Hid (L2 = LB ++ (dirty.take (k + 1)).flatMap dtL) := Lib.hid (by
            rw [take_getD _ (by rw [XD.out.len]; exact hlt), HZ.out, List.flatMap_append, ← List.append_assoc, ← HL0.out, ← HL2.out, ← HL1.out]
            simp [dtL, List.append_assoc])
          clear HL0 HL1 HL2 HZ HZP HZL KC
          go_wp2_with fail
          go_roundw
          case rel => exact ⟨k + 1, A2, n2, c2, L2, by omega, by go_num, rfl, two_bound hn3 N1 (Nat.le_trans N2 (by omega)), R.out, HA2.out, HC2.out⟩
          case measure => simp [intOf]; omega
        · have hkn : dn = k := by omega
          subst hkn
          have M0' := M0.out
          have MB : Hid (L0 = (encList rwL (rows.map Xw.row) ++ encList dtL dirty)) := Lib.hid (by
            rw [HL0.out, ← HL1.out, M0', List.take_of_length_le (by rw [XD.out.len]; omega), List.append_assoc]
            unfold encList
            rw [XD.out.len])
          have a14 : wr.cell? ⟨r, 14, none⟩ = some (.slice eA en ec) := (V0.out.calm rfl hcal).cell 14
          obtain ⟨w0, hw0⟩ : ∃ w0, w0 = wr := ⟨_, rfl⟩
          rw [← hw0] at a13 a14 HA0 HC0 ⊢
          have N0 : n0 ≤ 1300000020 := dir_top hn3 f2
          clear hw0 hcal HL0 HL1 M0 M0' hlt hk hn3
          have CN := Lib.hid (rNum7_any (en : Int) w0 (by omega))
          go_wp2_with fail
          refine CN.out.mono ?_
          rintro e v0 ⟨D, d, f, rfl, ho, hr, hb⟩
          have HB := Lib.hid (HA0.out.below hb)
          have HD := Lib.hid (HC0.out.trans (Calm.of_below hb))
          have HY := Lib.hid (Byt.of_own ho hr)
          have HR := Lib.hid hr
          have ND : d ≤ 10 := by
            rw [← HY.out.len]
            exact numL_len _ (by omega)
          clear ho hr hb CN HA0 HC0  
          go_wp2_with (at_builtin; refine wpList_append_byt rfl _ _ 33 rfl W1.heap.size 5 i0 Try.underlying33 hi hz0 hz1 hz2 _ n0 _ rfl (by exact HB.out.own) D d f _ rfl HY.out (by omega) HB.out.bel.size ?_)
          intro A1 c1 w1 h1 h2
          obtain ⟨n1, hn⟩ : ∃ m, n0 + d = m := ⟨_, rfl⟩
          obtain ⟨L1, hL⟩ : ∃ m, L0 ++ numL (en : Int) = m := ⟨_, rfl⟩
          have HA1 := HB.out.app HR.out h1 h2
          rw [hn, hL] at HA1
          have HA1 := Lib.hid HA1
          have GC : Calm H v0 w1 := Calm.grown h2 (fun q hq => ⟨Nat.le_trans HH.out (own_special HB.out.own hq).1, (own_special HB.out.own hq).2⟩)
          have HC1 := Lib.hid (HD.out.trans GC)
          have HL1 := Lib.hid hL
          have N1 : n1 ≤ n0 + 10 := by omega
          (try rw [hn])
          clear h1 h2 HB HD HY HR hn hL ND GC 
          clear a14 a13
          obtain ⟨LC, hLC⟩ : ∃ L, L = L1 := ⟨_, rfl⟩
          rw [← hLC] at HA1 HL1
          clear hLC
          go_wp2_with fail
          go_loopw [3, 7] (fun o q wr => ∃ k A n c L, k ≤ en ∧ q = .int .i64 (k : Nat) ∧ o = .slice A n c ∧ n ≤ 1300000030 + 12000 * k ∧ L = LC ++ ((deeds.map Xd.deed).take k).flatMap ddL ∧ Acc W1 wr A n c L ∧ Calm H W1 wr) (fun _ q _ => en - (intOf q).toNat)
          case atStart => exact ⟨0, A1, n1, c1, _, Nat.zero_le _, rfl, rfl, by omega, rfl, by simpa using HA1.out, HC1.out⟩
          case round =>
            clear HA1 HC1
            obtain ⟨k, A0, n0, c0, L0, hk, rfl, rfl, hn3, hL0, hacc, hcal⟩ := hrel
            have HA0 := Lib.hid hacc
            have HC0 := Lib.hid hcal
            have HL0 := Lib.hid hL0
            have a14 : wr.cell? ⟨r, 14, none⟩ = some (.slice eA en ec) := (V0.out.calm rfl hcal).cell 14
            clear hL0 hacc
            by_cases hlt : k < en
            · obtain ⟨g, off, hA, hst, hr⟩ := (XE.out.calm (Calm.refl H W1)).at_ (show 0 < en by omega)
              obtain rfl : eA = _ := hA
              obtain ⟨z, hz⟩ : ∃ z, deeds.getD k default = z := ⟨_, rfl⟩
              have hzi := XE.out.get hlt
              have hr0 := hr k hlt
              have hzn := F6.out (deeds.getD k default) (getD_mem (by rw [XE.out.len]; exact hlt))
              rw [hz] at hzi hr0 hzn
              have HZ := Lib.hid hz
              obtain ⟨zt, zmA, zmn, zmc, zmem⟩ := z
              have HZT : Hid (i64 zt) := Lib.hid hzi.tx
              have HZM : Hid (Sl elI H W1 zmA zmn zmc zmem) := Lib.hid hzi.mem
              have gz1 : zmn ≤ 1000 := hzn
              have KC : Hid (∀ W, Calm H W1 W → W.cell? ⟨r, 14, none⟩ = some (.slice (some ⟨g, off, none⟩) en ec) ∧ W.cell? ⟨g, off + k * 2, none⟩ = some (.int .i64 zt) ∧ W.cell? ⟨g, off + k * 2 + 1, none⟩ = some (.slice zmA zmn zmc)) := Lib.hid (fun W hW =>
                ⟨(V0.out.calm rfl hW).cell 14, by have := (hW.cell (p := ⟨g, off + k * 2 + 0, none⟩) (hst.stab rfl)).trans (hr0 0 _ rfl); simpa using this, (hW.cell (p := ⟨g, off + k * 2 + 1, none⟩) (hst.stab rfl)).trans (hr0 1 _ rfl)⟩)
              clear hzi hr hr0 hst hz hcal a14 hzn
              obtain ⟨w0, hw0⟩ : ∃ w0, w0 = wr := ⟨_, rfl⟩
              rw [← hw0] at HA0 HC0 ⊢
              clear hw0
              have q0 := KC.out w0 HC0.out
              have CN := Lib.hid (rNum7_any zt w0 HZT.out)
              go_wp2_with fail
              refine CN.out.mono ?_
              rintro e v0 ⟨D, d, f, rfl, ho, hr, hb⟩
              have HB := Lib.hid (HA0.out.below hb)
              have HD := Lib.hid (HC0.out.trans (Calm.of_below hb))
              have HY := Lib.hid (Byt.of_own ho hr)
              have HR := Lib.hid hr
              have ND : d ≤ 10 := by
                rw [← HY.out.len]
                exact numL_len _ HZT.out.2
              clear ho hr hb CN HA0 HC0 q0 
              go_wp2_with (at_builtin; refine wpList_append_byt rfl _ _ 33 rfl W1.heap.size 5 i0 Try.underlying33 hi hz0 hz1 hz2 _ n0 _ rfl (by exact HB.out.own) D d f _ rfl HY.out (by omega) HB.out.bel.size ?_)
              intro A1 c1 w1 h1 h2
              obtain ⟨n1, hn⟩ : ∃ m, n0 + d = m := ⟨_, rfl⟩
              obtain ⟨L1, hL⟩ : ∃ m, L0 ++ numL zt = m := ⟨_, rfl⟩
              have HA1 := HB.out.app HR.out h1 h2
              rw [hn, hL] at HA1
              have HA1 := Lib.hid HA1
              have GC : Calm H v0 w1 := Calm.grown h2 (fun q hq => ⟨Nat.le_trans HH.out (own_special HB.out.own hq).1, (own_special HB.out.own hq).2⟩)
              have HC1 := Lib.hid (HD.out.trans GC)
              have HL1 := Lib.hid hL
              have N1 : n1 ≤ n0 + 10 := by omega
              (try rw [hn])
              clear h1 h2 HB HD HY HR hn hL ND GC 
              have q1 := KC.out w1 HC1.out
              have CN := Lib.hid (rInts7_any zmA zmn zmc H zmem w1 (HZM.out.calm HC1.out) (by omega))
              go_wp2_with fail
              refine CN.out.mono ?_
              rintro e v1 ⟨D, d, f, rfl, ho, hr, hb⟩
              have HB := Lib.hid (HA1.out.below hb)
              have HD := Lib.hid (HC1.out.trans (Calm.of_below hb))
              have HY := Lib.hid (Byt.of_own ho hr)
              have HR := Lib.hid hr
              have ND : d ≤ 10010 := by
                rw [← HY.out.len]
                exact intsL_len HZM.out.each (by rw [HZM.out.len]; exact gz1)
              clear ho hr hb CN HA1 HC1 q1 
              go_wp2_with (at_builtin; refine wpList_append_byt rfl _ _ 33 rfl W1.heap.size 5 i0 Try.underlying33 hi hz0 hz1 hz2 _ n1 _ rfl (by exact HB.out.own) D d f _ rfl HY.out (by omega) HB.out.bel.size ?_)
              intro A2 c2 w2 h1 h2
              obtain ⟨n2, hn⟩ : ∃ m, n1 + d = m := ⟨_, rfl⟩
              obtain ⟨L2, hL⟩ : ∃ m, L1 ++ intsL zmem = m := ⟨_, rfl⟩
              have HA2 := HB.out.app HR.out h1 h2
              rw [hn, hL] at HA2
              have HA2 := Lib.hid HA2
              have GC : Calm H v1 w2 := Calm.grown h2 (fun q hq => ⟨Nat.le_trans HH.out (own_special HB.out.own hq).1, (own_special HB.out.own hq).2⟩)
              have HC2 := Lib.hid (HD.out.trans GC)
              have HL2 := Lib.hid hL
              have N2 : n2 ≤ n1 + 10010 := by omega
              (try rw [hn])
              clear h1 h2 HB HD HY HR hn hL ND GC 
              have R : Hid (L2 = LC ++ ((deeds.map Xd.deed).take (k + 1)).flatMap ddL) := Lib.hid (by
                rw [take_getD _ (by rw [List.length_map, XE.out.len]; exact hlt), getD_deed, HZ.out, List.flatMap_append, ← List.append_assoc, ← HL0.out, ← HL2.out, ← HL1.out]
                simp [ddL, Xd.deed, List.append_assoc])
              clear HL0 HL1 HL2 HZ HZT HZM KC
              go_wp2_with fail
              go_roundw
              case rel => exact ⟨k + 1, A2, n2, c2, L2, by omega, by go_num, rfl, two_bound hn3 N1 N2, R.out, HA2.out, HC2.out⟩
              case measure => simp [intOf]; omega
            · have hkn : en = k := by omega
              subst hkn
              have MD : Hid (L0 ++ intsL past = bK (Xr.read ⟨kind, tx, prev, next, key, ⟨oh, od⟩, ⟨nh, nd⟩, co, mA, mn, mc, mem, kA, kn, kc, lks, rA, rn, rc, rows, dA, dn, dc, dirty, eA, en, ec, deeds, pA, pn, pc, past⟩)) := Lib.hid (by
                rw [HL0.out, ← HL1.out, MB.out, List.take_of_length_le (by rw [List.length_map, XE.out.len]; omega)]
                unfold bK Xr.read
                simp only [encList, List.length_map, XE.out.len, List.append_assoc])
              have a15 : wr.cell? ⟨r, 15, none⟩ = some (.slice pA pn pc) := (V0.out.calm rfl hcal).cell 15
              obtain ⟨w0, hw0⟩ : ∃ w0, w0 = wr := ⟨_, rfl⟩
              rw [← hw0] at a14 a15 HA0 HC0 ⊢
              have N0 : n0 ≤ 1400000030 := deed_top hn3 f3
              clear hw0 hcal HL0 HL1 MB hlt hk hn3
              have CN := Lib.hid (rInts7_any pA pn pc H past w0 (XP.out.calm HC0.out) (by omega))
              go_wp2_with fail
              refine CN.out.mono ?_
              rintro e v0 ⟨D, d, f, rfl, ho, hr, hb⟩
              have HB := Lib.hid (HA0.out.below hb)
              have HD := Lib.hid (HC0.out.trans (Calm.of_below hb))
              have HY := Lib.hid (Byt.of_own ho hr)
              have HR := Lib.hid hr
              have ND : d ≤ 10010 := by
                rw [← HY.out.len]
                exact intsL_len XP.out.each (by rw [XP.out.len]; exact f4)
              clear ho hr hb CN HA0 HC0  
              go_wp2_with (at_builtin; refine wpList_append_byt rfl _ _ 33 rfl W1.heap.size 5 i0 Try.underlying33 hi hz0 hz1 hz2 _ n0 _ rfl (by exact HB.out.own) D d f _ rfl HY.out (by omega) HB.out.bel.size ?_)
              intro A1 c1 w1 h1 h2
              obtain ⟨n1, hn⟩ : ∃ m, n0 + d = m := ⟨_, rfl⟩
              obtain ⟨L1, hL⟩ : ∃ m, L0 ++ intsL past = m := ⟨_, rfl⟩
              have HA1 := HB.out.app HR.out h1 h2
              rw [hn, hL] at HA1
              have HA1 := Lib.hid HA1
              have GC : Calm H v0 w1 := Calm.grown h2 (fun q hq => ⟨Nat.le_trans HH.out (own_special HB.out.own hq).1, (own_special HB.out.own hq).2⟩)
              have HC1 := Lib.hid (HD.out.trans GC)
              have HL1 := Lib.hid hL
              have N1 : n1 ≤ n0 + 10010 := by omega
              (try rw [hn])
              clear h1 h2 HB HD HY HR hn hL ND GC 
              clear a14 a15
              have R : Hid (RetOwn (bK (Xr.read ⟨kind, tx, prev, next, key, ⟨oh, od⟩, ⟨nh, nd⟩, co, mA, mn, mc, mem, kA, kn, kc, lks, rA, rn, rc, rows, dA, dn, dc, dirty, eA, en, ec, deeds, pA, pn, pc, past⟩)) w (.returned (.slice A1 n1 c1)) w1) := Lib.hid (by
                have hL := HL1.out
                rw [MD.out] at hL
                rw [hL]
                exact ⟨A1, n1, c1, rfl, own_lower HA1.out.own HB0.out.size, HA1.out.rng, HB0.out.trans (HA1.out.bel.mono HB0.out.size)⟩)
              clear HA1 HC1 HL1 MD
              go_wp2_with fail
              go_ret
              exact R.out
end Go.Proofs.Ytfldcddbmikfiaa
