/- What it says: contracts and plain mathematics that the laws' walks use, 33 of 34: each part's own remark says what; no condition. -/
import Derived.Test.YtfldcddbmikfiaaPw32

set_option linter.unusedSimpArgs false
set_option linter.unusedVariables false
set_option linter.deprecated false
set_option linter.unusedSectionVars false
set_option linter.all false

/- trothref07.Encode, behind May's yes: the bytes of the record, or the error. -/
namespace Go.Proofs.Ytfldcddbmikfiaa
open Go.RowKit
theorem textL_le {s : ByteArray} (h : s.size ≤ 1000) : (textL (nums s)).length ≤ 2000 := by
  unfold textL
  have h1 := shortL_len (nums s).length (by rw [nums_len]; omega)
  rw [List.length_append, nums_len] at *
  omega
theorem valL_len (v : Vl) (h : v.data.size ≤ 1000) : (valL v).length ≤ 2000 := by
  obtain ⟨hs, d⟩ := v
  unfold valL
  cases hs with
  | false => simp [flagL]
  | true =>
    unfold textL
    simp only at h
    have h1 := shortL_len (nums d).length (by rw [nums_len]; omega)
    simp only [if_pos, List.length_append, nums_len, flagL] at *
    simp
    omega
theorem rwL_len {H : Nat} {w : World} {z : Xw} (h : XwIn H w z) (h1 : z.mn ≤ 1000) (h2 : z.kn ≤ 1000) (h3 : ∀ k ∈ z.lks, k.key.size ≤ 1000) : (rwL z.row).length ≤ 1200000 := by
  unfold rwL Xw.row
  have a1 := numL_len _ h.tx.2
  have a2 := numL_len _ h.st.2
  have a3 := numL_len _ h.fi.2
  have a4 := numL_len _ h.la.2
  have a5 := numL_len _ h.un.2
  have a6 := numL_len _ h.co.2
  have a7 := intsL_len h.mem.each (by rw [h.mem.len]; exact h1)
  have a8 := lksL_len h3 (by rw [h.lks.len]; exact h2)
  simp only [List.length_append]
  omega
theorem encList_le {α : Type} (f : α → List Int) (M : Nat) (l : List α) (h : ∀ x ∈ l, (f x).length ≤ M) (hl : l.length ≤ 1000) : (encList f l).length ≤ 10 + M * 1000 := by
  unfold encList
  have h1 := numL_len (l.length : Int) (by omega)
  have h2 := flatMap_le f M l h
  have h3 := Nat.mul_le_mul_left M hl
  rw [List.length_append]
  omega
theorem bK_len {H : Nat} {w : World} {x : Xr} (h : XrIn H w x) (f : Few x) : (bK x.read).length ≤ 2000000000 := by
  unfold bK Xr.read
  have a1 := encList_le rwL 1200000 (x.rows.map Xw.row) (fun q hq => by
    obtain ⟨z, hz, rfl⟩ := List.mem_map.1 hq
    obtain ⟨g1, g2, g3⟩ := f.row z hz
    exact rwL_len (h.rows.each z hz) g1 g2 g3) (by rw [List.length_map, h.rows.len]; exact f.rn)
  have a2 := encList_le dtL 20 x.dirty (fun q hq => by
    have hd := h.dirty.each q hq
    have b1 := numL_len _ hd.1.2
    have b2 := numL_len _ hd.2.2
    unfold dtL
    rw [List.length_append]
    omega) (by rw [h.dirty.len]; exact f.dn)
  have a3 := encList_le ddL 10020 (x.deeds.map Xd.deed) (fun q hq => by
    obtain ⟨z, hz, rfl⟩ := List.mem_map.1 hq
    have hd := h.deeds.each z hz
    have b1 := numL_len _ hd.tx.2
    have b2 := intsL_len hd.mem.each (by rw [hd.mem.len]; exact f.deed z hz)
    unfold ddL Xd.deed
    rw [List.length_append]
    simp only
    omega) (by rw [List.length_map, h.deeds.len]; exact f.en)
  have a4 := intsL_len h.past.each (by rw [h.past.len]; exact f.pn)
  simp only [List.length_append]
  omega
/-- The bounds that a record's other fields keep. -/
structure FewR (x : Xr) : Prop where
  few : Few x
  key : x.key.size ≤ 1000
  od : x.old.data.size ≤ 1000
  nd : x.new.data.size ≤ 1000
  mn : x.mn ≤ 1000
  kn : x.kn ≤ 1000
  keys : ∀ k ∈ x.lks, k.key.size ≤ 1000
/-- The bytes, or ErrLong. -/
def RetEnc7 (l : List Int) (w : World) (e : Ending) (w' : World) : Prop :=
  (4096 < l.length ∧ e = .returned (.tuple #[.slice none 0 0, .int .i64 12]) ∧ Below w.heap.size w w') ∨ (l.length ≤ 4096 ∧ ∃ A n c, e = .returned (.tuple #[.slice A n c, .int .i64 0]) ∧ w'.ownsRow w.heap.size 5 1 (.slice A n c) n (l.map (Value.int .u8)) ∧ (∀ x ∈ l, 0 ≤ x ∧ x < 256) ∧ Below w.heap.size w w')
theorem RetEnc7.big {w w1 w' : World} {A : Option Addr} {n c : Nat} {l : List Int} (hb : Below w.heap.size w w1) (h : Acc w1 w' A n c l) (hn : 4096 < n) : RetEnc7 l w (.returned (.tuple #[.slice none 0 0, .int .i64 12])) w' := .inl ⟨by rw [h.len]; exact hn, rfl, hb.trans (h.bel.mono hb.size)⟩
theorem RetEnc7.fits {w w1 w' : World} {A : Option Addr} {n c : Nat} {l : List Int} (hb : Below w.heap.size w w1) (h : Acc w1 w' A n c l) (hn : ¬ 4096 < n) : RetEnc7 l w (.returned (.tuple #[.slice A n c, .int .i64 0])) w' := .inr ⟨by rw [h.len]; omega, A, n, c, rfl, own_lower h.own hb.size, h.rng, hb.trans (h.bel.mono hb.size)⟩

set_option maxRecDepth 100000 in
set_option maxHeartbeats 16000000 in
theorem rEnc7_7 (x : Xr) (H : Nat) (w : World) (hx : XrIn H w x) (hH : H ≤ w.heap.size) (hf : FewR x) (hkd : x.kind = 7) (CM : ∀ W, Below w.heap.size w W → Calls Try.prog 11 #[x.val] W (fun e w' => e = .returned (.bool true) ∧ Below W.heap.size W w')) :
    Calls Try.prog 9 #[x.val] w (RetEnc7 (rcL x.read) w) := by
  obtain ⟨i0, hi, hz0, hz1, hz2⟩ := info_parts info_u8
  obtain ⟨kind, tx, prev, next, key, ⟨oh, od⟩, ⟨nh, nd⟩, co, mA, mn, mc, mem, kA, kn, kc, lks, rA, rn, rc, rows, dA, dn, dc, dirty, eA, en, ec, deeds, pA, pn, pc, past⟩ := x
  simp only at hkd
  subst hkd
  have FW := Lib.hid hf
  have CL := Lib.hid (fun W hb hs => rLists7_any ⟨7, tx, prev, next, key, ⟨oh, od⟩, ⟨nh, nd⟩, co, mA, mn, mc, mem, kA, kn, kc, lks, rA, rn, rc, rows, dA, dn, dc, dirty, eA, en, ec, deeds, pA, pn, pc, past⟩ H W hb hs hf.few)
  unfold Xr.val at CM CL ⊢
  simp only at CM CL ⊢
  obtain ⟨r, hrr⟩ : ∃ r, w.heap.size = r := ⟨_, rfl⟩
  obtain ⟨Wb, hWb⟩ : ∃ W, W = w.alloc (.cells #[(.int .i64 7), .int .i64 tx, .int .i64 prev, .int .i64 next, .string key, .bool oh, .string od, .bool nh, .string nd, .int .i64 co, .slice mA mn mc, .slice kA kn kc, .slice rA rn rc, .slice dA dn dc, .slice eA en ec, .slice pA pn pc] 30) := ⟨_, rfl⟩
  have hb : Below w.heap.size w Wb := by rw [hWb]; exact (Below.refl _ _).alloc (Nat.le_refl _) _
  have Vb : Hid (Bk Wb r 30 #[(.int .i64 7), .int .i64 tx, .int .i64 prev, .int .i64 next, .string key, .bool oh, .string od, .bool nh, .string nd, .int .i64 co, .slice mA mn mc, .slice kA kn kc, .slice rA rn rc, .slice dA dn dc, .slice eA en ec, .slice pA pn pc]) := Lib.hid (by rw [hWb, ← hrr]; exact Bk.new w _ _)
  have HM := Lib.hid (CM Wb hb)
  have HBb := Lib.hid hb
  have HW := Lib.hid hWb
  have HRR := Lib.hid hrr
  have HX := Lib.hid hx
  have HH0 := Lib.hid hH
  clear hb hWb hrr hx hH hf CM
  go_enter Try.func9, Try.ntmps9
  go_upto_region 1 with fail
  rw [HRR.out, ← HW.out]
  clear HW
  go_wp2_with (refine wpList_load_row rfl _ _ rfl _ rfl _ _ _ _ Vb.out Try.underlying30 rfl (by kernel_rfl) ?_)
  refine HM.out.mono ?_
  rintro e W1 ⟨rfl, b1⟩
  have V0 := Lib.hid (Vb.out.bel b1 Vb.out.lt)
  have HB0 := Lib.hid (HBb.out.trans (b1.mono HBb.out.size))
  have XI : Hid (XrIn H W1 ⟨7, tx, prev, next, key, ⟨oh, od⟩, ⟨nh, nd⟩, co, mA, mn, mc, mem, kA, kn, kc, lks, rA, rn, rc, rows, dA, dn, dc, dirty, eA, en, ec, deeds, pA, pn, pc, past⟩) := Lib.hid (HX.out.calm (Calm.of_below HB0.out))
  have HH : Hid (H ≤ W1.heap.size) := Lib.hid (Nat.le_trans HH0.out HB0.out.size)
  have KC : Hid (∀ W, Calm H W1 W → W.cell? ⟨r, 0, none⟩ = some (.int .i64 7) ∧ W.cell? ⟨r, 1, none⟩ = some (.int .i64 tx) ∧ W.cell? ⟨r, 2, none⟩ = some (.int .i64 prev) ∧ W.cell? ⟨r, 3, none⟩ = some (.int .i64 next) ∧ W.cell? ⟨r, 4, none⟩ = some (.string key) ∧ W.cell? ⟨r, 5, none⟩ = some (.bool oh) ∧ W.cell? ⟨r, 6, none⟩ = some (.string od) ∧ W.cell? ⟨r, 7, none⟩ = some (.bool nh) ∧ W.cell? ⟨r, 8, none⟩ = some (.string nd) ∧ W.cell? ⟨r, 9, none⟩ = some (.int .i64 co) ∧ W.cell? ⟨r, 10, none⟩ = some (.slice mA mn mc) ∧ W.cell? ⟨r, 11, none⟩ = some (.slice kA kn kc)) := Lib.hid (fun W hW => by
    have v := V0.out.calm rfl hW
    exact ⟨v.cell 0, v.cell 1, v.cell 2, v.cell 3, v.cell 4, v.cell 5, v.cell 6, v.cell 7, v.cell 8, v.cell 9, v.cell 10, v.cell 11⟩)
  have k1 := KC.out W1 (Calm.refl H W1)
  clear b1 Vb HBb HX HH0 HM
  go_wp2_with fail
  refine (rNum7_any 7 W1 (by omega)).mono ?_
  rintro e w0 ⟨A0, n0, c0, rfl, ho, hr, hb⟩
  have HA0 := Acc.of ho hr hb
  have HC0 : Hid (Calm H W1 w0) := Lib.hid (Calm.of_below hb)
  have N0 : n0 ≤ 10 := by rw [← HA0.len]; exact numL_len _ (by omega)
  obtain ⟨L0, hL0⟩ : ∃ L, numL 7 = L := ⟨_, rfl⟩
  rw [hL0] at HA0
  have HA0 := Lib.hid HA0
  have HL0 := Lib.hid hL0
  clear ho hr hb k1 hL0
  have q := KC.out w0 HC0.out
  have E : Hid (rcL (Xr.read ⟨7, tx, prev, next, key, ⟨oh, od⟩, ⟨nh, nd⟩, co, mA, mn, mc, mem, kA, kn, kc, lks, rA, rn, rc, rows, dA, dn, dc, dirty, eA, en, ec, deeds, pA, pn, pc, past⟩) = L0) := Lib.hid (by
    rw [← HL0.out]
    simp [rcL, restL, Xr.read, bU, bC, bP, bE, bD, bF, List.append_assoc])
  clear HC0 XI KC V0 FW CL N0
  by_cases hbig : (4096 : Int) < (n0 : Int)
  · have R := RetEnc7.big HB0.out HA0.out (by omega)
    rw [← E.out] at R
    have R := Lib.hid R
    clear HA0 E
    go_wp2_with fail
    go_ret2
    exact R.out
  · have R := RetEnc7.fits HB0.out HA0.out (by omega)
    rw [← E.out] at R
    have R := Lib.hid R
    clear HA0 E
    go_wp2_with fail
    go_ret2
    exact R.out

set_option maxRecDepth 100000 in
set_option maxHeartbeats 16000000 in
theorem rEnc7_10 (x : Xr) (H : Nat) (w : World) (hx : XrIn H w x) (hH : H ≤ w.heap.size) (hf : FewR x) (hkd : x.kind = 10) (CM : ∀ W, Below w.heap.size w W → Calls Try.prog 11 #[x.val] W (fun e w' => e = .returned (.bool true) ∧ Below W.heap.size W w')) :
    Calls Try.prog 9 #[x.val] w (RetEnc7 (rcL x.read) w) := by
  obtain ⟨i0, hi, hz0, hz1, hz2⟩ := info_parts info_u8
  obtain ⟨kind, tx, prev, next, key, ⟨oh, od⟩, ⟨nh, nd⟩, co, mA, mn, mc, mem, kA, kn, kc, lks, rA, rn, rc, rows, dA, dn, dc, dirty, eA, en, ec, deeds, pA, pn, pc, past⟩ := x
  simp only at hkd
  subst hkd
  have FW := Lib.hid hf
  have CL := Lib.hid (fun W hb hs => rLists7_any ⟨10, tx, prev, next, key, ⟨oh, od⟩, ⟨nh, nd⟩, co, mA, mn, mc, mem, kA, kn, kc, lks, rA, rn, rc, rows, dA, dn, dc, dirty, eA, en, ec, deeds, pA, pn, pc, past⟩ H W hb hs hf.few)
  unfold Xr.val at CM CL ⊢
  simp only at CM CL ⊢
  obtain ⟨r, hrr⟩ : ∃ r, w.heap.size = r := ⟨_, rfl⟩
  obtain ⟨Wb, hWb⟩ : ∃ W, W = w.alloc (.cells #[(.int .i64 10), .int .i64 tx, .int .i64 prev, .int .i64 next, .string key, .bool oh, .string od, .bool nh, .string nd, .int .i64 co, .slice mA mn mc, .slice kA kn kc, .slice rA rn rc, .slice dA dn dc, .slice eA en ec, .slice pA pn pc] 30) := ⟨_, rfl⟩
  have hb : Below w.heap.size w Wb := by rw [hWb]; exact (Below.refl _ _).alloc (Nat.le_refl _) _
  have Vb : Hid (Bk Wb r 30 #[(.int .i64 10), .int .i64 tx, .int .i64 prev, .int .i64 next, .string key, .bool oh, .string od, .bool nh, .string nd, .int .i64 co, .slice mA mn mc, .slice kA kn kc, .slice rA rn rc, .slice dA dn dc, .slice eA en ec, .slice pA pn pc]) := Lib.hid (by rw [hWb, ← hrr]; exact Bk.new w _ _)
  have HM := Lib.hid (CM Wb hb)
  have HBb := Lib.hid hb
  have HW := Lib.hid hWb
  have HRR := Lib.hid hrr
  have HX := Lib.hid hx
  have HH0 := Lib.hid hH
  clear hb hWb hrr hx hH hf CM
  go_enter Try.func9, Try.ntmps9
  go_upto_region 1 with fail
  rw [HRR.out, ← HW.out]
  clear HW
  go_wp2_with (refine wpList_load_row rfl _ _ rfl _ rfl _ _ _ _ Vb.out Try.underlying30 rfl (by kernel_rfl) ?_)
  refine HM.out.mono ?_
  rintro e W1 ⟨rfl, b1⟩
  have V0 := Lib.hid (Vb.out.bel b1 Vb.out.lt)
  have HB0 := Lib.hid (HBb.out.trans (b1.mono HBb.out.size))
  have XI : Hid (XrIn H W1 ⟨10, tx, prev, next, key, ⟨oh, od⟩, ⟨nh, nd⟩, co, mA, mn, mc, mem, kA, kn, kc, lks, rA, rn, rc, rows, dA, dn, dc, dirty, eA, en, ec, deeds, pA, pn, pc, past⟩) := Lib.hid (HX.out.calm (Calm.of_below HB0.out))
  have HH : Hid (H ≤ W1.heap.size) := Lib.hid (Nat.le_trans HH0.out HB0.out.size)
  have KC : Hid (∀ W, Calm H W1 W → W.cell? ⟨r, 0, none⟩ = some (.int .i64 10) ∧ W.cell? ⟨r, 1, none⟩ = some (.int .i64 tx) ∧ W.cell? ⟨r, 2, none⟩ = some (.int .i64 prev) ∧ W.cell? ⟨r, 3, none⟩ = some (.int .i64 next) ∧ W.cell? ⟨r, 4, none⟩ = some (.string key) ∧ W.cell? ⟨r, 5, none⟩ = some (.bool oh) ∧ W.cell? ⟨r, 6, none⟩ = some (.string od) ∧ W.cell? ⟨r, 7, none⟩ = some (.bool nh) ∧ W.cell? ⟨r, 8, none⟩ = some (.string nd) ∧ W.cell? ⟨r, 9, none⟩ = some (.int .i64 co) ∧ W.cell? ⟨r, 10, none⟩ = some (.slice mA mn mc) ∧ W.cell? ⟨r, 11, none⟩ = some (.slice kA kn kc)) := Lib.hid (fun W hW => by
    have v := V0.out.calm rfl hW
    exact ⟨v.cell 0, v.cell 1, v.cell 2, v.cell 3, v.cell 4, v.cell 5, v.cell 6, v.cell 7, v.cell 8, v.cell 9, v.cell 10, v.cell 11⟩)
  have k1 := KC.out W1 (Calm.refl H W1)
  clear b1 Vb HBb HX HH0 HM
  go_wp2_with fail
  refine (rNum7_any 10 W1 (by omega)).mono ?_
  rintro e w0 ⟨A0, n0, c0, rfl, ho, hr, hb⟩
  have HA0 := Acc.of ho hr hb
  have HC0 : Hid (Calm H W1 w0) := Lib.hid (Calm.of_below hb)
  have N0 : n0 ≤ 10 := by rw [← HA0.len]; exact numL_len _ (by omega)
  obtain ⟨L0, hL0⟩ : ∃ L, numL 10 = L := ⟨_, rfl⟩
  rw [hL0] at HA0
  have HA0 := Lib.hid HA0
  have HL0 := Lib.hid hL0
  clear ho hr hb k1 hL0
  have q0 := KC.out w0 HC0.out
  have CN := Lib.hid (rNum7_any tx w0 XI.out.tx)
  go_wp2_with fail
  refine CN.out.mono ?_
  rintro e v0 ⟨D, d, f, rfl, ho, hr, hb⟩
  have HB := Lib.hid (HA0.out.below hb)
  have HD := Lib.hid (HC0.out.trans (Calm.of_below hb))
  have HY := Lib.hid (Byt.of_own ho hr)
  have HR := Lib.hid hr
  have ND : d ≤ 10 := by
    rw [← HY.out.len]
    exact numL_len _ XI.out.tx.2
  clear ho hr hb CN HA0 HC0 q0 
  go_wp2_with (at_builtin; refine wpList_append_byt rfl _ _ 33 rfl W1.heap.size 5 i0 Try.underlying33 hi hz0 hz1 hz2 _ n0 _ rfl (by exact HB.out.own) D d f _ rfl HY.out (by omega) HB.out.bel.size ?_)
  intro A1 c1 w1 h1 h2
  obtain ⟨n1, hn⟩ : ∃ m, n0 + d = m := ⟨_, rfl⟩
  obtain ⟨L1, hL⟩ : ∃ m, L0 ++ numL tx = m := ⟨_, rfl⟩
  have HA1 := HB.out.app HR.out h1 h2
  rw [hn, hL] at HA1
  have HA1 := Lib.hid HA1
  have GC : Calm H v0 w1 := Calm.grown h2 (fun q hq => ⟨Nat.le_trans HH.out (own_special HB.out.own hq).1, (own_special HB.out.own hq).2⟩)
  have HC1 := Lib.hid (HD.out.trans GC)
  have HL1 := Lib.hid hL
  have N1 : n1 ≤ n0 + 10 := by omega
  (try rw [hn])
  clear h1 h2 HB HD HY HR hn hL ND GC 
  have q := KC.out w1 HC1.out
  have E : Hid (rcL (Xr.read ⟨10, tx, prev, next, key, ⟨oh, od⟩, ⟨nh, nd⟩, co, mA, mn, mc, mem, kA, kn, kc, lks, rA, rn, rc, rows, dA, dn, dc, dirty, eA, en, ec, deeds, pA, pn, pc, past⟩) = L1) := Lib.hid (by
    rw [← HL1.out, ← HL0.out]
    simp [rcL, restL, Xr.read, bU, bC, bP, bE, bD, bF, List.append_assoc])
  clear HC1 XI KC V0 FW CL N0 N1
  by_cases hbig : (4096 : Int) < (n1 : Int)
  · have R := RetEnc7.big HB0.out HA1.out (by omega)
    rw [← E.out] at R
    have R := Lib.hid R
    clear HA1 E
    go_wp2_with fail
    go_ret2
    exact R.out
  · have R := RetEnc7.fits HB0.out HA1.out (by omega)
    rw [← E.out] at R
    have R := Lib.hid R
    clear HA1 E
    go_wp2_with fail
    go_ret2
    exact R.out

set_option maxRecDepth 100000 in
set_option maxHeartbeats 16000000 in
theorem rEnc7_4 (x : Xr) (H : Nat) (w : World) (hx : XrIn H w x) (hH : H ≤ w.heap.size) (hf : FewR x) (hkd : x.kind = 4) (CM : ∀ W, Below w.heap.size w W → Calls Try.prog 11 #[x.val] W (fun e w' => e = .returned (.bool true) ∧ Below W.heap.size W w')) :
    Calls Try.prog 9 #[x.val] w (RetEnc7 (rcL x.read) w) := by
  obtain ⟨i0, hi, hz0, hz1, hz2⟩ := info_parts info_u8
  obtain ⟨kind, tx, prev, next, key, ⟨oh, od⟩, ⟨nh, nd⟩, co, mA, mn, mc, mem, kA, kn, kc, lks, rA, rn, rc, rows, dA, dn, dc, dirty, eA, en, ec, deeds, pA, pn, pc, past⟩ := x
  simp only at hkd
  subst hkd
  have FW := Lib.hid hf
  have CL := Lib.hid (fun W hb hs => rLists7_any ⟨4, tx, prev, next, key, ⟨oh, od⟩, ⟨nh, nd⟩, co, mA, mn, mc, mem, kA, kn, kc, lks, rA, rn, rc, rows, dA, dn, dc, dirty, eA, en, ec, deeds, pA, pn, pc, past⟩ H W hb hs hf.few)
  unfold Xr.val at CM CL ⊢
  simp only at CM CL ⊢
  obtain ⟨r, hrr⟩ : ∃ r, w.heap.size = r := ⟨_, rfl⟩
  obtain ⟨Wb, hWb⟩ : ∃ W, W = w.alloc (.cells #[(.int .i64 4), .int .i64 tx, .int .i64 prev, .int .i64 next, .string key, .bool oh, .string od, .bool nh, .string nd, .int .i64 co, .slice mA mn mc, .slice kA kn kc, .slice rA rn rc, .slice dA dn dc, .slice eA en ec, .slice pA pn pc] 30) := ⟨_, rfl⟩
  have hb : Below w.heap.size w Wb := by rw [hWb]; exact (Below.refl _ _).alloc (Nat.le_refl _) _
  have Vb : Hid (Bk Wb r 30 #[(.int .i64 4), .int .i64 tx, .int .i64 prev, .int .i64 next, .string key, .bool oh, .string od, .bool nh, .string nd, .int .i64 co, .slice mA mn mc, .slice kA kn kc, .slice rA rn rc, .slice dA dn dc, .slice eA en ec, .slice pA pn pc]) := Lib.hid (by rw [hWb, ← hrr]; exact Bk.new w _ _)
  have HM := Lib.hid (CM Wb hb)
  have HBb := Lib.hid hb
  have HW := Lib.hid hWb
  have HRR := Lib.hid hrr
  have HX := Lib.hid hx
  have HH0 := Lib.hid hH
  clear hb hWb hrr hx hH hf CM
  go_enter Try.func9, Try.ntmps9
  go_upto_region 1 with fail
  rw [HRR.out, ← HW.out]
  clear HW
  go_wp2_with (refine wpList_load_row rfl _ _ rfl _ rfl _ _ _ _ Vb.out Try.underlying30 rfl (by kernel_rfl) ?_)
  refine HM.out.mono ?_
  rintro e W1 ⟨rfl, b1⟩
  have V0 := Lib.hid (Vb.out.bel b1 Vb.out.lt)
  have HB0 := Lib.hid (HBb.out.trans (b1.mono HBb.out.size))
  have XI : Hid (XrIn H W1 ⟨4, tx, prev, next, key, ⟨oh, od⟩, ⟨nh, nd⟩, co, mA, mn, mc, mem, kA, kn, kc, lks, rA, rn, rc, rows, dA, dn, dc, dirty, eA, en, ec, deeds, pA, pn, pc, past⟩) := Lib.hid (HX.out.calm (Calm.of_below HB0.out))
  have HH : Hid (H ≤ W1.heap.size) := Lib.hid (Nat.le_trans HH0.out HB0.out.size)
  have KC : Hid (∀ W, Calm H W1 W → W.cell? ⟨r, 0, none⟩ = some (.int .i64 4) ∧ W.cell? ⟨r, 1, none⟩ = some (.int .i64 tx) ∧ W.cell? ⟨r, 2, none⟩ = some (.int .i64 prev) ∧ W.cell? ⟨r, 3, none⟩ = some (.int .i64 next) ∧ W.cell? ⟨r, 4, none⟩ = some (.string key) ∧ W.cell? ⟨r, 5, none⟩ = some (.bool oh) ∧ W.cell? ⟨r, 6, none⟩ = some (.string od) ∧ W.cell? ⟨r, 7, none⟩ = some (.bool nh) ∧ W.cell? ⟨r, 8, none⟩ = some (.string nd) ∧ W.cell? ⟨r, 9, none⟩ = some (.int .i64 co) ∧ W.cell? ⟨r, 10, none⟩ = some (.slice mA mn mc) ∧ W.cell? ⟨r, 11, none⟩ = some (.slice kA kn kc)) := Lib.hid (fun W hW => by
    have v := V0.out.calm rfl hW
    exact ⟨v.cell 0, v.cell 1, v.cell 2, v.cell 3, v.cell 4, v.cell 5, v.cell 6, v.cell 7, v.cell 8, v.cell 9, v.cell 10, v.cell 11⟩)
  have k1 := KC.out W1 (Calm.refl H W1)
  clear b1 Vb HBb HX HH0 HM
  go_wp2_with fail
  refine (rNum7_any 4 W1 (by omega)).mono ?_
  rintro e w0 ⟨A0, n0, c0, rfl, ho, hr, hb⟩
  have HA0 := Acc.of ho hr hb
  have HC0 : Hid (Calm H W1 w0) := Lib.hid (Calm.of_below hb)
  have N0 : n0 ≤ 10 := by rw [← HA0.len]; exact numL_len _ (by omega)
  obtain ⟨L0, hL0⟩ : ∃ L, numL 4 = L := ⟨_, rfl⟩
  rw [hL0] at HA0
  have HA0 := Lib.hid HA0
  have HL0 := Lib.hid hL0
  clear ho hr hb k1 hL0
  have q0 := KC.out w0 HC0.out
  have CN := Lib.hid (rNum7_any tx w0 XI.out.tx)
  go_wp2_with fail
  refine CN.out.mono ?_
  rintro e v0 ⟨D, d, f, rfl, ho, hr, hb⟩
  have HB := Lib.hid (HA0.out.below hb)
  have HD := Lib.hid (HC0.out.trans (Calm.of_below hb))
  have HY := Lib.hid (Byt.of_own ho hr)
  have HR := Lib.hid hr
  have ND : d ≤ 10 := by
    rw [← HY.out.len]
    exact numL_len _ XI.out.tx.2
  clear ho hr hb CN HA0 HC0 q0 
  go_wp2_with (at_builtin; refine wpList_append_byt rfl _ _ 33 rfl W1.heap.size 5 i0 Try.underlying33 hi hz0 hz1 hz2 _ n0 _ rfl (by exact HB.out.own) D d f _ rfl HY.out (by omega) HB.out.bel.size ?_)
  intro A1 c1 w1 h1 h2
  obtain ⟨n1, hn⟩ : ∃ m, n0 + d = m := ⟨_, rfl⟩
  obtain ⟨L1, hL⟩ : ∃ m, L0 ++ numL tx = m := ⟨_, rfl⟩
  have HA1 := HB.out.app HR.out h1 h2
  rw [hn, hL] at HA1
  have HA1 := Lib.hid HA1
  have GC : Calm H v0 w1 := Calm.grown h2 (fun q hq => ⟨Nat.le_trans HH.out (own_special HB.out.own hq).1, (own_special HB.out.own hq).2⟩)
  have HC1 := Lib.hid (HD.out.trans GC)
  have HL1 := Lib.hid hL
  have N1 : n1 ≤ n0 + 10 := by omega
  (try rw [hn])
  clear h1 h2 HB HD HY HR hn hL ND GC 
  have q1 := KC.out w1 HC1.out
  have CN := Lib.hid (rNum7_any prev w1 XI.out.prev)
  go_wp2_with fail
  refine CN.out.mono ?_
  rintro e v1 ⟨D, d, f, rfl, ho, hr, hb⟩
  have HB := Lib.hid (HA1.out.below hb)
  have HD := Lib.hid (HC1.out.trans (Calm.of_below hb))
  have HY := Lib.hid (Byt.of_own ho hr)
  have HR := Lib.hid hr
  have ND : d ≤ 10 := by
    rw [← HY.out.len]
    exact numL_len _ XI.out.prev.2
  clear ho hr hb CN HA1 HC1 q1 
  go_wp2_with (at_builtin; refine wpList_append_byt rfl _ _ 33 rfl W1.heap.size 5 i0 Try.underlying33 hi hz0 hz1 hz2 _ n1 _ rfl (by exact HB.out.own) D d f _ rfl HY.out (by omega) HB.out.bel.size ?_)
  intro A2 c2 w2 h1 h2
  obtain ⟨n2, hn⟩ : ∃ m, n1 + d = m := ⟨_, rfl⟩
  obtain ⟨L2, hL⟩ : ∃ m, L1 ++ numL prev = m := ⟨_, rfl⟩
  have HA2 := HB.out.app HR.out h1 h2
  rw [hn, hL] at HA2
  have HA2 := Lib.hid HA2
  have GC : Calm H v1 w2 := Calm.grown h2 (fun q hq => ⟨Nat.le_trans HH.out (own_special HB.out.own hq).1, (own_special HB.out.own hq).2⟩)
  have HC2 := Lib.hid (HD.out.trans GC)
  have HL2 := Lib.hid hL
  have N2 : n2 ≤ n1 + 10 := by omega
  (try rw [hn])
  clear h1 h2 HB HD HY HR hn hL ND GC 
  have q := KC.out w2 HC2.out
  have E : Hid (rcL (Xr.read ⟨4, tx, prev, next, key, ⟨oh, od⟩, ⟨nh, nd⟩, co, mA, mn, mc, mem, kA, kn, kc, lks, rA, rn, rc, rows, dA, dn, dc, dirty, eA, en, ec, deeds, pA, pn, pc, past⟩) = L2) := Lib.hid (by
    rw [← HL2.out, ← HL1.out, ← HL0.out]
    simp [rcL, restL, Xr.read, bU, bC, bP, bE, bD, bF, List.append_assoc])
  clear HC2 XI KC V0 FW CL N0 N1 N2
  by_cases hbig : (4096 : Int) < (n2 : Int)
  · have R := RetEnc7.big HB0.out HA2.out (by omega)
    rw [← E.out] at R
    have R := Lib.hid R
    clear HA2 E
    go_wp2_with fail
    go_ret2
    exact R.out
  · have R := RetEnc7.fits HB0.out HA2.out (by omega)
    rw [← E.out] at R
    have R := Lib.hid R
    clear HA2 E
    go_wp2_with fail
    go_ret2
    exact R.out

set_option maxRecDepth 100000 in
set_option maxHeartbeats 16000000 in
theorem rEnc7_5 (x : Xr) (H : Nat) (w : World) (hx : XrIn H w x) (hH : H ≤ w.heap.size) (hf : FewR x) (hkd : x.kind = 5) (CM : ∀ W, Below w.heap.size w W → Calls Try.prog 11 #[x.val] W (fun e w' => e = .returned (.bool true) ∧ Below W.heap.size W w')) :
    Calls Try.prog 9 #[x.val] w (RetEnc7 (rcL x.read) w) := by
  obtain ⟨i0, hi, hz0, hz1, hz2⟩ := info_parts info_u8
  obtain ⟨kind, tx, prev, next, key, ⟨oh, od⟩, ⟨nh, nd⟩, co, mA, mn, mc, mem, kA, kn, kc, lks, rA, rn, rc, rows, dA, dn, dc, dirty, eA, en, ec, deeds, pA, pn, pc, past⟩ := x
  simp only at hkd
  subst hkd
  have FW := Lib.hid hf
  have CL := Lib.hid (fun W hb hs => rLists7_any ⟨5, tx, prev, next, key, ⟨oh, od⟩, ⟨nh, nd⟩, co, mA, mn, mc, mem, kA, kn, kc, lks, rA, rn, rc, rows, dA, dn, dc, dirty, eA, en, ec, deeds, pA, pn, pc, past⟩ H W hb hs hf.few)
  unfold Xr.val at CM CL ⊢
  simp only at CM CL ⊢
  obtain ⟨r, hrr⟩ : ∃ r, w.heap.size = r := ⟨_, rfl⟩
  obtain ⟨Wb, hWb⟩ : ∃ W, W = w.alloc (.cells #[(.int .i64 5), .int .i64 tx, .int .i64 prev, .int .i64 next, .string key, .bool oh, .string od, .bool nh, .string nd, .int .i64 co, .slice mA mn mc, .slice kA kn kc, .slice rA rn rc, .slice dA dn dc, .slice eA en ec, .slice pA pn pc] 30) := ⟨_, rfl⟩
  have hb : Below w.heap.size w Wb := by rw [hWb]; exact (Below.refl _ _).alloc (Nat.le_refl _) _
  have Vb : Hid (Bk Wb r 30 #[(.int .i64 5), .int .i64 tx, .int .i64 prev, .int .i64 next, .string key, .bool oh, .string od, .bool nh, .string nd, .int .i64 co, .slice mA mn mc, .slice kA kn kc, .slice rA rn rc, .slice dA dn dc, .slice eA en ec, .slice pA pn pc]) := Lib.hid (by rw [hWb, ← hrr]; exact Bk.new w _ _)
  have HM := Lib.hid (CM Wb hb)
  have HBb := Lib.hid hb
  have HW := Lib.hid hWb
  have HRR := Lib.hid hrr
  have HX := Lib.hid hx
  have HH0 := Lib.hid hH
  clear hb hWb hrr hx hH hf CM
  go_enter Try.func9, Try.ntmps9
  go_upto_region 1 with fail
  rw [HRR.out, ← HW.out]
  clear HW
  go_wp2_with (refine wpList_load_row rfl _ _ rfl _ rfl _ _ _ _ Vb.out Try.underlying30 rfl (by kernel_rfl) ?_)
  refine HM.out.mono ?_
  rintro e W1 ⟨rfl, b1⟩
  have V0 := Lib.hid (Vb.out.bel b1 Vb.out.lt)
  have HB0 := Lib.hid (HBb.out.trans (b1.mono HBb.out.size))
  have XI : Hid (XrIn H W1 ⟨5, tx, prev, next, key, ⟨oh, od⟩, ⟨nh, nd⟩, co, mA, mn, mc, mem, kA, kn, kc, lks, rA, rn, rc, rows, dA, dn, dc, dirty, eA, en, ec, deeds, pA, pn, pc, past⟩) := Lib.hid (HX.out.calm (Calm.of_below HB0.out))
  have HH : Hid (H ≤ W1.heap.size) := Lib.hid (Nat.le_trans HH0.out HB0.out.size)
  have KC : Hid (∀ W, Calm H W1 W → W.cell? ⟨r, 0, none⟩ = some (.int .i64 5) ∧ W.cell? ⟨r, 1, none⟩ = some (.int .i64 tx) ∧ W.cell? ⟨r, 2, none⟩ = some (.int .i64 prev) ∧ W.cell? ⟨r, 3, none⟩ = some (.int .i64 next) ∧ W.cell? ⟨r, 4, none⟩ = some (.string key) ∧ W.cell? ⟨r, 5, none⟩ = some (.bool oh) ∧ W.cell? ⟨r, 6, none⟩ = some (.string od) ∧ W.cell? ⟨r, 7, none⟩ = some (.bool nh) ∧ W.cell? ⟨r, 8, none⟩ = some (.string nd) ∧ W.cell? ⟨r, 9, none⟩ = some (.int .i64 co) ∧ W.cell? ⟨r, 10, none⟩ = some (.slice mA mn mc) ∧ W.cell? ⟨r, 11, none⟩ = some (.slice kA kn kc)) := Lib.hid (fun W hW => by
    have v := V0.out.calm rfl hW
    exact ⟨v.cell 0, v.cell 1, v.cell 2, v.cell 3, v.cell 4, v.cell 5, v.cell 6, v.cell 7, v.cell 8, v.cell 9, v.cell 10, v.cell 11⟩)
  have k1 := KC.out W1 (Calm.refl H W1)
  clear b1 Vb HBb HX HH0 HM
  go_wp2_with fail
  refine (rNum7_any 5 W1 (by omega)).mono ?_
  rintro e w0 ⟨A0, n0, c0, rfl, ho, hr, hb⟩
  have HA0 := Acc.of ho hr hb
  have HC0 : Hid (Calm H W1 w0) := Lib.hid (Calm.of_below hb)
  have N0 : n0 ≤ 10 := by rw [← HA0.len]; exact numL_len _ (by omega)
  obtain ⟨L0, hL0⟩ : ∃ L, numL 5 = L := ⟨_, rfl⟩
  rw [hL0] at HA0
  have HA0 := Lib.hid HA0
  have HL0 := Lib.hid hL0
  clear ho hr hb k1 hL0
  have q0 := KC.out w0 HC0.out
  have CN := Lib.hid (rNum7_any tx w0 XI.out.tx)
  go_wp2_with fail
  refine CN.out.mono ?_
  rintro e v0 ⟨D, d, f, rfl, ho, hr, hb⟩
  have HB := Lib.hid (HA0.out.below hb)
  have HD := Lib.hid (HC0.out.trans (Calm.of_below hb))
  have HY := Lib.hid (Byt.of_own ho hr)
  have HR := Lib.hid hr
  have ND : d ≤ 10 := by
    rw [← HY.out.len]
    exact numL_len _ XI.out.tx.2
  clear ho hr hb CN HA0 HC0 q0 
  go_wp2_with (at_builtin; refine wpList_append_byt rfl _ _ 33 rfl W1.heap.size 5 i0 Try.underlying33 hi hz0 hz1 hz2 _ n0 _ rfl (by exact HB.out.own) D d f _ rfl HY.out (by omega) HB.out.bel.size ?_)
  intro A1 c1 w1 h1 h2
  obtain ⟨n1, hn⟩ : ∃ m, n0 + d = m := ⟨_, rfl⟩
  obtain ⟨L1, hL⟩ : ∃ m, L0 ++ numL tx = m := ⟨_, rfl⟩
  have HA1 := HB.out.app HR.out h1 h2
  rw [hn, hL] at HA1
  have HA1 := Lib.hid HA1
  have GC : Calm H v0 w1 := Calm.grown h2 (fun q hq => ⟨Nat.le_trans HH.out (own_special HB.out.own hq).1, (own_special HB.out.own hq).2⟩)
  have HC1 := Lib.hid (HD.out.trans GC)
  have HL1 := Lib.hid hL
  have N1 : n1 ≤ n0 + 10 := by omega
  (try rw [hn])
  clear h1 h2 HB HD HY HR hn hL ND GC 
  have q1 := KC.out w1 HC1.out
  have CN := Lib.hid (rNum7_any prev w1 XI.out.prev)
  go_wp2_with fail
  refine CN.out.mono ?_
  rintro e v1 ⟨D, d, f, rfl, ho, hr, hb⟩
  have HB := Lib.hid (HA1.out.below hb)
  have HD := Lib.hid (HC1.out.trans (Calm.of_below hb))
  have HY := Lib.hid (Byt.of_own ho hr)
  have HR := Lib.hid hr
  have ND : d ≤ 10 := by
    rw [← HY.out.len]
    exact numL_len _ XI.out.prev.2
  clear ho hr hb CN HA1 HC1 q1 
  go_wp2_with (at_builtin; refine wpList_append_byt rfl _ _ 33 rfl W1.heap.size 5 i0 Try.underlying33 hi hz0 hz1 hz2 _ n1 _ rfl (by exact HB.out.own) D d f _ rfl HY.out (by omega) HB.out.bel.size ?_)
  intro A2 c2 w2 h1 h2
  obtain ⟨n2, hn⟩ : ∃ m, n1 + d = m := ⟨_, rfl⟩
  obtain ⟨L2, hL⟩ : ∃ m, L1 ++ numL prev = m := ⟨_, rfl⟩
  have HA2 := HB.out.app HR.out h1 h2
  rw [hn, hL] at HA2
  have HA2 := Lib.hid HA2
  have GC : Calm H v1 w2 := Calm.grown h2 (fun q hq => ⟨Nat.le_trans HH.out (own_special HB.out.own hq).1, (own_special HB.out.own hq).2⟩)
  have HC2 := Lib.hid (HD.out.trans GC)
  have HL2 := Lib.hid hL
  have N2 : n2 ≤ n1 + 10 := by omega
  (try rw [hn])
  clear h1 h2 HB HD HY HR hn hL ND GC 
  have q := KC.out w2 HC2.out
  have E : Hid (rcL (Xr.read ⟨5, tx, prev, next, key, ⟨oh, od⟩, ⟨nh, nd⟩, co, mA, mn, mc, mem, kA, kn, kc, lks, rA, rn, rc, rows, dA, dn, dc, dirty, eA, en, ec, deeds, pA, pn, pc, past⟩) = L2) := Lib.hid (by
    rw [← HL2.out, ← HL1.out, ← HL0.out]
    simp [rcL, restL, Xr.read, bU, bC, bP, bE, bD, bF, List.append_assoc])
  clear HC2 XI KC V0 FW CL N0 N1 N2
  by_cases hbig : (4096 : Int) < (n2 : Int)
  · have R := RetEnc7.big HB0.out HA2.out (by omega)
    rw [← E.out] at R
    have R := Lib.hid R
    clear HA2 E
    go_wp2_with fail
    go_ret2
    exact R.out
  · have R := RetEnc7.fits HB0.out HA2.out (by omega)
    rw [← E.out] at R
    have R := Lib.hid R
    clear HA2 E
    go_wp2_with fail
    go_ret2
    exact R.out

set_option maxRecDepth 100000 in
set_option maxHeartbeats 16000000 in
theorem rEnc7_6 (x : Xr) (H : Nat) (w : World) (hx : XrIn H w x) (hH : H ≤ w.heap.size) (hf : FewR x) (hkd : x.kind = 6) (CM : ∀ W, Below w.heap.size w W → Calls Try.prog 11 #[x.val] W (fun e w' => e = .returned (.bool true) ∧ Below W.heap.size W w')) :
    Calls Try.prog 9 #[x.val] w (RetEnc7 (rcL x.read) w) := by
  obtain ⟨i0, hi, hz0, hz1, hz2⟩ := info_parts info_u8
  obtain ⟨kind, tx, prev, next, key, ⟨oh, od⟩, ⟨nh, nd⟩, co, mA, mn, mc, mem, kA, kn, kc, lks, rA, rn, rc, rows, dA, dn, dc, dirty, eA, en, ec, deeds, pA, pn, pc, past⟩ := x
  simp only at hkd
  subst hkd
  have FW := Lib.hid hf
  have CL := Lib.hid (fun W hb hs => rLists7_any ⟨6, tx, prev, next, key, ⟨oh, od⟩, ⟨nh, nd⟩, co, mA, mn, mc, mem, kA, kn, kc, lks, rA, rn, rc, rows, dA, dn, dc, dirty, eA, en, ec, deeds, pA, pn, pc, past⟩ H W hb hs hf.few)
  unfold Xr.val at CM CL ⊢
  simp only at CM CL ⊢
  obtain ⟨r, hrr⟩ : ∃ r, w.heap.size = r := ⟨_, rfl⟩
  obtain ⟨Wb, hWb⟩ : ∃ W, W = w.alloc (.cells #[(.int .i64 6), .int .i64 tx, .int .i64 prev, .int .i64 next, .string key, .bool oh, .string od, .bool nh, .string nd, .int .i64 co, .slice mA mn mc, .slice kA kn kc, .slice rA rn rc, .slice dA dn dc, .slice eA en ec, .slice pA pn pc] 30) := ⟨_, rfl⟩
  have hb : Below w.heap.size w Wb := by rw [hWb]; exact (Below.refl _ _).alloc (Nat.le_refl _) _
  have Vb : Hid (Bk Wb r 30 #[(.int .i64 6), .int .i64 tx, .int .i64 prev, .int .i64 next, .string key, .bool oh, .string od, .bool nh, .string nd, .int .i64 co, .slice mA mn mc, .slice kA kn kc, .slice rA rn rc, .slice dA dn dc, .slice eA en ec, .slice pA pn pc]) := Lib.hid (by rw [hWb, ← hrr]; exact Bk.new w _ _)
  have HM := Lib.hid (CM Wb hb)
  have HBb := Lib.hid hb
  have HW := Lib.hid hWb
  have HRR := Lib.hid hrr
  have HX := Lib.hid hx
  have HH0 := Lib.hid hH
  clear hb hWb hrr hx hH hf CM
  go_enter Try.func9, Try.ntmps9
  go_upto_region 1 with fail
  rw [HRR.out, ← HW.out]
  clear HW
  go_wp2_with (refine wpList_load_row rfl _ _ rfl _ rfl _ _ _ _ Vb.out Try.underlying30 rfl (by kernel_rfl) ?_)
  refine HM.out.mono ?_
  rintro e W1 ⟨rfl, b1⟩
  have V0 := Lib.hid (Vb.out.bel b1 Vb.out.lt)
  have HB0 := Lib.hid (HBb.out.trans (b1.mono HBb.out.size))
  have XI : Hid (XrIn H W1 ⟨6, tx, prev, next, key, ⟨oh, od⟩, ⟨nh, nd⟩, co, mA, mn, mc, mem, kA, kn, kc, lks, rA, rn, rc, rows, dA, dn, dc, dirty, eA, en, ec, deeds, pA, pn, pc, past⟩) := Lib.hid (HX.out.calm (Calm.of_below HB0.out))
  have HH : Hid (H ≤ W1.heap.size) := Lib.hid (Nat.le_trans HH0.out HB0.out.size)
  have KC : Hid (∀ W, Calm H W1 W → W.cell? ⟨r, 0, none⟩ = some (.int .i64 6) ∧ W.cell? ⟨r, 1, none⟩ = some (.int .i64 tx) ∧ W.cell? ⟨r, 2, none⟩ = some (.int .i64 prev) ∧ W.cell? ⟨r, 3, none⟩ = some (.int .i64 next) ∧ W.cell? ⟨r, 4, none⟩ = some (.string key) ∧ W.cell? ⟨r, 5, none⟩ = some (.bool oh) ∧ W.cell? ⟨r, 6, none⟩ = some (.string od) ∧ W.cell? ⟨r, 7, none⟩ = some (.bool nh) ∧ W.cell? ⟨r, 8, none⟩ = some (.string nd) ∧ W.cell? ⟨r, 9, none⟩ = some (.int .i64 co) ∧ W.cell? ⟨r, 10, none⟩ = some (.slice mA mn mc) ∧ W.cell? ⟨r, 11, none⟩ = some (.slice kA kn kc)) := Lib.hid (fun W hW => by
    have v := V0.out.calm rfl hW
    exact ⟨v.cell 0, v.cell 1, v.cell 2, v.cell 3, v.cell 4, v.cell 5, v.cell 6, v.cell 7, v.cell 8, v.cell 9, v.cell 10, v.cell 11⟩)
  have k1 := KC.out W1 (Calm.refl H W1)
  clear b1 Vb HBb HX HH0 HM
  go_wp2_with fail
  refine (rNum7_any 6 W1 (by omega)).mono ?_
  rintro e w0 ⟨A0, n0, c0, rfl, ho, hr, hb⟩
  have HA0 := Acc.of ho hr hb
  have HC0 : Hid (Calm H W1 w0) := Lib.hid (Calm.of_below hb)
  have N0 : n0 ≤ 10 := by rw [← HA0.len]; exact numL_len _ (by omega)
  obtain ⟨L0, hL0⟩ : ∃ L, numL 6 = L := ⟨_, rfl⟩
  rw [hL0] at HA0
  have HA0 := Lib.hid HA0
  have HL0 := Lib.hid hL0
  clear ho hr hb k1 hL0
  have q0 := KC.out w0 HC0.out
  have CN := Lib.hid (rNum7_any tx w0 XI.out.tx)
  go_wp2_with fail
  refine CN.out.mono ?_
  rintro e v0 ⟨D, d, f, rfl, ho, hr, hb⟩
  have HB := Lib.hid (HA0.out.below hb)
  have HD := Lib.hid (HC0.out.trans (Calm.of_below hb))
  have HY := Lib.hid (Byt.of_own ho hr)
  have HR := Lib.hid hr
  have ND : d ≤ 10 := by
    rw [← HY.out.len]
    exact numL_len _ XI.out.tx.2
  clear ho hr hb CN HA0 HC0 q0 
  go_wp2_with (at_builtin; refine wpList_append_byt rfl _ _ 33 rfl W1.heap.size 5 i0 Try.underlying33 hi hz0 hz1 hz2 _ n0 _ rfl (by exact HB.out.own) D d f _ rfl HY.out (by omega) HB.out.bel.size ?_)
  intro A1 c1 w1 h1 h2
  obtain ⟨n1, hn⟩ : ∃ m, n0 + d = m := ⟨_, rfl⟩
  obtain ⟨L1, hL⟩ : ∃ m, L0 ++ numL tx = m := ⟨_, rfl⟩
  have HA1 := HB.out.app HR.out h1 h2
  rw [hn, hL] at HA1
  have HA1 := Lib.hid HA1
  have GC : Calm H v0 w1 := Calm.grown h2 (fun q hq => ⟨Nat.le_trans HH.out (own_special HB.out.own hq).1, (own_special HB.out.own hq).2⟩)
  have HC1 := Lib.hid (HD.out.trans GC)
  have HL1 := Lib.hid hL
  have N1 : n1 ≤ n0 + 10 := by omega
  (try rw [hn])
  clear h1 h2 HB HD HY HR hn hL ND GC 
  have q1 := KC.out w1 HC1.out
  have CN := Lib.hid (rNum7_any prev w1 XI.out.prev)
  go_wp2_with fail
  refine CN.out.mono ?_
  rintro e v1 ⟨D, d, f, rfl, ho, hr, hb⟩
  have HB := Lib.hid (HA1.out.below hb)
  have HD := Lib.hid (HC1.out.trans (Calm.of_below hb))
  have HY := Lib.hid (Byt.of_own ho hr)
  have HR := Lib.hid hr
  have ND : d ≤ 10 := by
    rw [← HY.out.len]
    exact numL_len _ XI.out.prev.2
  clear ho hr hb CN HA1 HC1 q1 
  go_wp2_with (at_builtin; refine wpList_append_byt rfl _ _ 33 rfl W1.heap.size 5 i0 Try.underlying33 hi hz0 hz1 hz2 _ n1 _ rfl (by exact HB.out.own) D d f _ rfl HY.out (by omega) HB.out.bel.size ?_)
  intro A2 c2 w2 h1 h2
  obtain ⟨n2, hn⟩ : ∃ m, n1 + d = m := ⟨_, rfl⟩
  obtain ⟨L2, hL⟩ : ∃ m, L1 ++ numL prev = m := ⟨_, rfl⟩
  have HA2 := HB.out.app HR.out h1 h2
  rw [hn, hL] at HA2
  have HA2 := Lib.hid HA2
  have GC : Calm H v1 w2 := Calm.grown h2 (fun q hq => ⟨Nat.le_trans HH.out (own_special HB.out.own hq).1, (own_special HB.out.own hq).2⟩)
  have HC2 := Lib.hid (HD.out.trans GC)
  have HL2 := Lib.hid hL
  have N2 : n2 ≤ n1 + 10 := by omega
  (try rw [hn])
  clear h1 h2 HB HD HY HR hn hL ND GC 
  have q := KC.out w2 HC2.out
  have E : Hid (rcL (Xr.read ⟨6, tx, prev, next, key, ⟨oh, od⟩, ⟨nh, nd⟩, co, mA, mn, mc, mem, kA, kn, kc, lks, rA, rn, rc, rows, dA, dn, dc, dirty, eA, en, ec, deeds, pA, pn, pc, past⟩) = L2) := Lib.hid (by
    rw [← HL2.out, ← HL1.out, ← HL0.out]
    simp [rcL, restL, Xr.read, bU, bC, bP, bE, bD, bF, List.append_assoc])
  clear HC2 XI KC V0 FW CL N0 N1 N2
  by_cases hbig : (4096 : Int) < (n2 : Int)
  · have R := RetEnc7.big HB0.out HA2.out (by omega)
    rw [← E.out] at R
    have R := Lib.hid R
    clear HA2 E
    go_wp2_with fail
    go_ret2
    exact R.out
  · have R := RetEnc7.fits HB0.out HA2.out (by omega)
    rw [← E.out] at R
    have R := Lib.hid R
    clear HA2 E
    go_wp2_with fail
    go_ret2
    exact R.out

set_option maxRecDepth 100000 in
set_option maxHeartbeats 16000000 in
theorem rEnc7_9 (x : Xr) (H : Nat) (w : World) (hx : XrIn H w x) (hH : H ≤ w.heap.size) (hf : FewR x) (hkd : x.kind = 9) (CM : ∀ W, Below w.heap.size w W → Calls Try.prog 11 #[x.val] W (fun e w' => e = .returned (.bool true) ∧ Below W.heap.size W w')) :
    Calls Try.prog 9 #[x.val] w (RetEnc7 (rcL x.read) w) := by
  obtain ⟨i0, hi, hz0, hz1, hz2⟩ := info_parts info_u8
  obtain ⟨kind, tx, prev, next, key, ⟨oh, od⟩, ⟨nh, nd⟩, co, mA, mn, mc, mem, kA, kn, kc, lks, rA, rn, rc, rows, dA, dn, dc, dirty, eA, en, ec, deeds, pA, pn, pc, past⟩ := x
  simp only at hkd
  subst hkd
  have FW := Lib.hid hf
  have CL := Lib.hid (fun W hb hs => rLists7_any ⟨9, tx, prev, next, key, ⟨oh, od⟩, ⟨nh, nd⟩, co, mA, mn, mc, mem, kA, kn, kc, lks, rA, rn, rc, rows, dA, dn, dc, dirty, eA, en, ec, deeds, pA, pn, pc, past⟩ H W hb hs hf.few)
  unfold Xr.val at CM CL ⊢
  simp only at CM CL ⊢
  obtain ⟨r, hrr⟩ : ∃ r, w.heap.size = r := ⟨_, rfl⟩
  obtain ⟨Wb, hWb⟩ : ∃ W, W = w.alloc (.cells #[(.int .i64 9), .int .i64 tx, .int .i64 prev, .int .i64 next, .string key, .bool oh, .string od, .bool nh, .string nd, .int .i64 co, .slice mA mn mc, .slice kA kn kc, .slice rA rn rc, .slice dA dn dc, .slice eA en ec, .slice pA pn pc] 30) := ⟨_, rfl⟩
  have hb : Below w.heap.size w Wb := by rw [hWb]; exact (Below.refl _ _).alloc (Nat.le_refl _) _
  have Vb : Hid (Bk Wb r 30 #[(.int .i64 9), .int .i64 tx, .int .i64 prev, .int .i64 next, .string key, .bool oh, .string od, .bool nh, .string nd, .int .i64 co, .slice mA mn mc, .slice kA kn kc, .slice rA rn rc, .slice dA dn dc, .slice eA en ec, .slice pA pn pc]) := Lib.hid (by rw [hWb, ← hrr]; exact Bk.new w _ _)
  have HM := Lib.hid (CM Wb hb)
  have HBb := Lib.hid hb
  have HW := Lib.hid hWb
  have HRR := Lib.hid hrr
  have HX := Lib.hid hx
  have HH0 := Lib.hid hH
  clear hb hWb hrr hx hH hf CM
  go_enter Try.func9, Try.ntmps9
  go_upto_region 1 with fail
  rw [HRR.out, ← HW.out]
  clear HW
  go_wp2_with (refine wpList_load_row rfl _ _ rfl _ rfl _ _ _ _ Vb.out Try.underlying30 rfl (by kernel_rfl) ?_)
  refine HM.out.mono ?_
  rintro e W1 ⟨rfl, b1⟩
  have V0 := Lib.hid (Vb.out.bel b1 Vb.out.lt)
  have HB0 := Lib.hid (HBb.out.trans (b1.mono HBb.out.size))
  have XI : Hid (XrIn H W1 ⟨9, tx, prev, next, key, ⟨oh, od⟩, ⟨nh, nd⟩, co, mA, mn, mc, mem, kA, kn, kc, lks, rA, rn, rc, rows, dA, dn, dc, dirty, eA, en, ec, deeds, pA, pn, pc, past⟩) := Lib.hid (HX.out.calm (Calm.of_below HB0.out))
  have HH : Hid (H ≤ W1.heap.size) := Lib.hid (Nat.le_trans HH0.out HB0.out.size)
  have KC : Hid (∀ W, Calm H W1 W → W.cell? ⟨r, 0, none⟩ = some (.int .i64 9) ∧ W.cell? ⟨r, 1, none⟩ = some (.int .i64 tx) ∧ W.cell? ⟨r, 2, none⟩ = some (.int .i64 prev) ∧ W.cell? ⟨r, 3, none⟩ = some (.int .i64 next) ∧ W.cell? ⟨r, 4, none⟩ = some (.string key) ∧ W.cell? ⟨r, 5, none⟩ = some (.bool oh) ∧ W.cell? ⟨r, 6, none⟩ = some (.string od) ∧ W.cell? ⟨r, 7, none⟩ = some (.bool nh) ∧ W.cell? ⟨r, 8, none⟩ = some (.string nd) ∧ W.cell? ⟨r, 9, none⟩ = some (.int .i64 co) ∧ W.cell? ⟨r, 10, none⟩ = some (.slice mA mn mc) ∧ W.cell? ⟨r, 11, none⟩ = some (.slice kA kn kc)) := Lib.hid (fun W hW => by
    have v := V0.out.calm rfl hW
    exact ⟨v.cell 0, v.cell 1, v.cell 2, v.cell 3, v.cell 4, v.cell 5, v.cell 6, v.cell 7, v.cell 8, v.cell 9, v.cell 10, v.cell 11⟩)
  have k1 := KC.out W1 (Calm.refl H W1)
  clear b1 Vb HBb HX HH0 HM
  go_wp2_with fail
  refine (rNum7_any 9 W1 (by omega)).mono ?_
  rintro e w0 ⟨A0, n0, c0, rfl, ho, hr, hb⟩
  have HA0 := Acc.of ho hr hb
  have HC0 : Hid (Calm H W1 w0) := Lib.hid (Calm.of_below hb)
  have N0 : n0 ≤ 10 := by rw [← HA0.len]; exact numL_len _ (by omega)
  obtain ⟨L0, hL0⟩ : ∃ L, numL 9 = L := ⟨_, rfl⟩
  rw [hL0] at HA0
  have HA0 := Lib.hid HA0
  have HL0 := Lib.hid hL0
  clear ho hr hb k1 hL0
  have q0 := KC.out w0 HC0.out
  have CN := Lib.hid (rNum7_any tx w0 XI.out.tx)
  go_wp2_with fail
  refine CN.out.mono ?_
  rintro e v0 ⟨D, d, f, rfl, ho, hr, hb⟩
  have HB := Lib.hid (HA0.out.below hb)
  have HD := Lib.hid (HC0.out.trans (Calm.of_below hb))
  have HY := Lib.hid (Byt.of_own ho hr)
  have HR := Lib.hid hr
  have ND : d ≤ 10 := by
    rw [← HY.out.len]
    exact numL_len _ XI.out.tx.2
  clear ho hr hb CN HA0 HC0 q0 
  go_wp2_with (at_builtin; refine wpList_append_byt rfl _ _ 33 rfl W1.heap.size 5 i0 Try.underlying33 hi hz0 hz1 hz2 _ n0 _ rfl (by exact HB.out.own) D d f _ rfl HY.out (by omega) HB.out.bel.size ?_)
  intro A1 c1 w1 h1 h2
  obtain ⟨n1, hn⟩ : ∃ m, n0 + d = m := ⟨_, rfl⟩
  obtain ⟨L1, hL⟩ : ∃ m, L0 ++ numL tx = m := ⟨_, rfl⟩
  have HA1 := HB.out.app HR.out h1 h2
  rw [hn, hL] at HA1
  have HA1 := Lib.hid HA1
  have GC : Calm H v0 w1 := Calm.grown h2 (fun q hq => ⟨Nat.le_trans HH.out (own_special HB.out.own hq).1, (own_special HB.out.own hq).2⟩)
  have HC1 := Lib.hid (HD.out.trans GC)
  have HL1 := Lib.hid hL
  have N1 : n1 ≤ n0 + 10 := by omega
  (try rw [hn])
  clear h1 h2 HB HD HY HR hn hL ND GC 
  have q1 := KC.out w1 HC1.out
  have CN := Lib.hid (rInts7_any mA mn mc H mem w1 (XI.out.mem.calm HC1.out) (Nat.le_trans FW.out.mn (by omega)))
  go_wp2_with fail
  refine CN.out.mono ?_
  rintro e v1 ⟨D, d, f, rfl, ho, hr, hb⟩
  have HB := Lib.hid (HA1.out.below hb)
  have HD := Lib.hid (HC1.out.trans (Calm.of_below hb))
  have HY := Lib.hid (Byt.of_own ho hr)
  have HR := Lib.hid hr
  have ND : d ≤ 10010 := by
    rw [← HY.out.len]
    exact intsL_len XI.out.mem.each (by rw [XI.out.mem.len]; exact FW.out.mn)
  clear ho hr hb CN HA1 HC1 q1 
  go_wp2_with (at_builtin; refine wpList_append_byt rfl _ _ 33 rfl W1.heap.size 5 i0 Try.underlying33 hi hz0 hz1 hz2 _ n1 _ rfl (by exact HB.out.own) D d f _ rfl HY.out (by omega) HB.out.bel.size ?_)
  intro A2 c2 w2 h1 h2
  obtain ⟨n2, hn⟩ : ∃ m, n1 + d = m := ⟨_, rfl⟩
  obtain ⟨L2, hL⟩ : ∃ m, L1 ++ intsL mem = m := ⟨_, rfl⟩
  have HA2 := HB.out.app HR.out h1 h2
  rw [hn, hL] at HA2
  have HA2 := Lib.hid HA2
  have GC : Calm H v1 w2 := Calm.grown h2 (fun q hq => ⟨Nat.le_trans HH.out (own_special HB.out.own hq).1, (own_special HB.out.own hq).2⟩)
  have HC2 := Lib.hid (HD.out.trans GC)
  have HL2 := Lib.hid hL
  have N2 : n2 ≤ n1 + 10010 := by omega
  (try rw [hn])
  clear h1 h2 HB HD HY HR hn hL ND GC 
  have q := KC.out w2 HC2.out
  have E : Hid (rcL (Xr.read ⟨9, tx, prev, next, key, ⟨oh, od⟩, ⟨nh, nd⟩, co, mA, mn, mc, mem, kA, kn, kc, lks, rA, rn, rc, rows, dA, dn, dc, dirty, eA, en, ec, deeds, pA, pn, pc, past⟩) = L2) := Lib.hid (by
    rw [← HL2.out, ← HL1.out, ← HL0.out]
    simp [rcL, restL, Xr.read, bU, bC, bP, bE, bD, bF, List.append_assoc])
  clear HC2 XI KC V0 FW CL N0 N1 N2
  by_cases hbig : (4096 : Int) < (n2 : Int)
  · have R := RetEnc7.big HB0.out HA2.out (by omega)
    rw [← E.out] at R
    have R := Lib.hid R
    clear HA2 E
    go_wp2_with fail
    go_ret2
    exact R.out
  · have R := RetEnc7.fits HB0.out HA2.out (by omega)
    rw [← E.out] at R
    have R := Lib.hid R
    clear HA2 E
    go_wp2_with fail
    go_ret2
    exact R.out

set_option maxRecDepth 100000 in
set_option maxHeartbeats 16000000 in
theorem rEnc7_1 (x : Xr) (H : Nat) (w : World) (hx : XrIn H w x) (hH : H ≤ w.heap.size) (hf : FewR x) (hkd : x.kind = 1) (CM : ∀ W, Below w.heap.size w W → Calls Try.prog 11 #[x.val] W (fun e w' => e = .returned (.bool true) ∧ Below W.heap.size W w')) :
    Calls Try.prog 9 #[x.val] w (RetEnc7 (rcL x.read) w) := by
  obtain ⟨i0, hi, hz0, hz1, hz2⟩ := info_parts info_u8
  obtain ⟨kind, tx, prev, next, key, ⟨oh, od⟩, ⟨nh, nd⟩, co, mA, mn, mc, mem, kA, kn, kc, lks, rA, rn, rc, rows, dA, dn, dc, dirty, eA, en, ec, deeds, pA, pn, pc, past⟩ := x
  simp only at hkd
  subst hkd
  have FW := Lib.hid hf
  have CL := Lib.hid (fun W hb hs => rLists7_any ⟨1, tx, prev, next, key, ⟨oh, od⟩, ⟨nh, nd⟩, co, mA, mn, mc, mem, kA, kn, kc, lks, rA, rn, rc, rows, dA, dn, dc, dirty, eA, en, ec, deeds, pA, pn, pc, past⟩ H W hb hs hf.few)
  unfold Xr.val at CM CL ⊢
  simp only at CM CL ⊢
  obtain ⟨r, hrr⟩ : ∃ r, w.heap.size = r := ⟨_, rfl⟩
  obtain ⟨Wb, hWb⟩ : ∃ W, W = w.alloc (.cells #[(.int .i64 1), .int .i64 tx, .int .i64 prev, .int .i64 next, .string key, .bool oh, .string od, .bool nh, .string nd, .int .i64 co, .slice mA mn mc, .slice kA kn kc, .slice rA rn rc, .slice dA dn dc, .slice eA en ec, .slice pA pn pc] 30) := ⟨_, rfl⟩
  have hb : Below w.heap.size w Wb := by rw [hWb]; exact (Below.refl _ _).alloc (Nat.le_refl _) _
  have Vb : Hid (Bk Wb r 30 #[(.int .i64 1), .int .i64 tx, .int .i64 prev, .int .i64 next, .string key, .bool oh, .string od, .bool nh, .string nd, .int .i64 co, .slice mA mn mc, .slice kA kn kc, .slice rA rn rc, .slice dA dn dc, .slice eA en ec, .slice pA pn pc]) := Lib.hid (by rw [hWb, ← hrr]; exact Bk.new w _ _)
  have HM := Lib.hid (CM Wb hb)
  have HBb := Lib.hid hb
  have HW := Lib.hid hWb
  have HRR := Lib.hid hrr
  have HX := Lib.hid hx
  have HH0 := Lib.hid hH
  clear hb hWb hrr hx hH hf CM
  go_enter Try.func9, Try.ntmps9
  go_upto_region 1 with fail
  rw [HRR.out, ← HW.out]
  clear HW
  go_wp2_with (refine wpList_load_row rfl _ _ rfl _ rfl _ _ _ _ Vb.out Try.underlying30 rfl (by kernel_rfl) ?_)
  refine HM.out.mono ?_
  rintro e W1 ⟨rfl, b1⟩
  have V0 := Lib.hid (Vb.out.bel b1 Vb.out.lt)
  have HB0 := Lib.hid (HBb.out.trans (b1.mono HBb.out.size))
  have XI : Hid (XrIn H W1 ⟨1, tx, prev, next, key, ⟨oh, od⟩, ⟨nh, nd⟩, co, mA, mn, mc, mem, kA, kn, kc, lks, rA, rn, rc, rows, dA, dn, dc, dirty, eA, en, ec, deeds, pA, pn, pc, past⟩) := Lib.hid (HX.out.calm (Calm.of_below HB0.out))
  have HH : Hid (H ≤ W1.heap.size) := Lib.hid (Nat.le_trans HH0.out HB0.out.size)
  have KC : Hid (∀ W, Calm H W1 W → W.cell? ⟨r, 0, none⟩ = some (.int .i64 1) ∧ W.cell? ⟨r, 1, none⟩ = some (.int .i64 tx) ∧ W.cell? ⟨r, 2, none⟩ = some (.int .i64 prev) ∧ W.cell? ⟨r, 3, none⟩ = some (.int .i64 next) ∧ W.cell? ⟨r, 4, none⟩ = some (.string key) ∧ W.cell? ⟨r, 5, none⟩ = some (.bool oh) ∧ W.cell? ⟨r, 6, none⟩ = some (.string od) ∧ W.cell? ⟨r, 7, none⟩ = some (.bool nh) ∧ W.cell? ⟨r, 8, none⟩ = some (.string nd) ∧ W.cell? ⟨r, 9, none⟩ = some (.int .i64 co) ∧ W.cell? ⟨r, 10, none⟩ = some (.slice mA mn mc) ∧ W.cell? ⟨r, 11, none⟩ = some (.slice kA kn kc)) := Lib.hid (fun W hW => by
    have v := V0.out.calm rfl hW
    exact ⟨v.cell 0, v.cell 1, v.cell 2, v.cell 3, v.cell 4, v.cell 5, v.cell 6, v.cell 7, v.cell 8, v.cell 9, v.cell 10, v.cell 11⟩)
  have k1 := KC.out W1 (Calm.refl H W1)
  clear b1 Vb HBb HX HH0 HM
  go_wp2_with fail
  refine (rNum7_any 1 W1 (by omega)).mono ?_
  rintro e w0 ⟨A0, n0, c0, rfl, ho, hr, hb⟩
  have HA0 := Acc.of ho hr hb
  have HC0 : Hid (Calm H W1 w0) := Lib.hid (Calm.of_below hb)
  have N0 : n0 ≤ 10 := by rw [← HA0.len]; exact numL_len _ (by omega)
  obtain ⟨L0, hL0⟩ : ∃ L, numL 1 = L := ⟨_, rfl⟩
  rw [hL0] at HA0
  have HA0 := Lib.hid HA0
  have HL0 := Lib.hid hL0
  clear ho hr hb k1 hL0
  have q0 := KC.out w0 HC0.out
  have CN := Lib.hid (rNum7_any tx w0 XI.out.tx)
  go_wp2_with fail
  refine CN.out.mono ?_
  rintro e v0 ⟨D, d, f, rfl, ho, hr, hb⟩
  have HB := Lib.hid (HA0.out.below hb)
  have HD := Lib.hid (HC0.out.trans (Calm.of_below hb))
  have HY := Lib.hid (Byt.of_own ho hr)
  have HR := Lib.hid hr
  have ND : d ≤ 10 := by
    rw [← HY.out.len]
    exact numL_len _ XI.out.tx.2
  clear ho hr hb CN HA0 HC0 q0 
  go_wp2_with (at_builtin; refine wpList_append_byt rfl _ _ 33 rfl W1.heap.size 5 i0 Try.underlying33 hi hz0 hz1 hz2 _ n0 _ rfl (by exact HB.out.own) D d f _ rfl HY.out (by omega) HB.out.bel.size ?_)
  intro A1 c1 w1 h1 h2
  obtain ⟨n1, hn⟩ : ∃ m, n0 + d = m := ⟨_, rfl⟩
  obtain ⟨L1, hL⟩ : ∃ m, L0 ++ numL tx = m := ⟨_, rfl⟩
  have HA1 := HB.out.app HR.out h1 h2
  rw [hn, hL] at HA1
  have HA1 := Lib.hid HA1
  have GC : Calm H v0 w1 := Calm.grown h2 (fun q hq => ⟨Nat.le_trans HH.out (own_special HB.out.own hq).1, (own_special HB.out.own hq).2⟩)
  have HC1 := Lib.hid (HD.out.trans GC)
  have HL1 := Lib.hid hL
  have N1 : n1 ≤ n0 + 10 := by omega
  (try rw [hn])
  clear h1 h2 HB HD HY HR hn hL ND GC 
  have q1 := KC.out w1 HC1.out
  have CN := Lib.hid (rNum7_any prev w1 XI.out.prev)
  go_wp2_with fail
  refine CN.out.mono ?_
  rintro e v1 ⟨D, d, f, rfl, ho, hr, hb⟩
  have HB := Lib.hid (HA1.out.below hb)
  have HD := Lib.hid (HC1.out.trans (Calm.of_below hb))
  have HY := Lib.hid (Byt.of_own ho hr)
  have HR := Lib.hid hr
  have ND : d ≤ 10 := by
    rw [← HY.out.len]
    exact numL_len _ XI.out.prev.2
  clear ho hr hb CN HA1 HC1 q1 
  go_wp2_with (at_builtin; refine wpList_append_byt rfl _ _ 33 rfl W1.heap.size 5 i0 Try.underlying33 hi hz0 hz1 hz2 _ n1 _ rfl (by exact HB.out.own) D d f _ rfl HY.out (by omega) HB.out.bel.size ?_)
  intro A2 c2 w2 h1 h2
  obtain ⟨n2, hn⟩ : ∃ m, n1 + d = m := ⟨_, rfl⟩
  obtain ⟨L2, hL⟩ : ∃ m, L1 ++ numL prev = m := ⟨_, rfl⟩
  have HA2 := HB.out.app HR.out h1 h2
  rw [hn, hL] at HA2
  have HA2 := Lib.hid HA2
  have GC : Calm H v1 w2 := Calm.grown h2 (fun q hq => ⟨Nat.le_trans HH.out (own_special HB.out.own hq).1, (own_special HB.out.own hq).2⟩)
  have HC2 := Lib.hid (HD.out.trans GC)
  have HL2 := Lib.hid hL
  have N2 : n2 ≤ n1 + 10 := by omega
  (try rw [hn])
  clear h1 h2 HB HD HY HR hn hL ND GC 
  have q2 := KC.out w2 HC2.out
  have CN := Lib.hid (refText_own key w2 (Nat.le_trans FW.out.key (by omega)))
  go_wp2_with fail
  refine CN.out.mono ?_
  rintro e v2 ⟨D, d, f, rfl, ho, hr, hb⟩
  have HB := Lib.hid (HA2.out.below hb)
  have HD := Lib.hid (HC2.out.trans (Calm.of_below hb))
  have HY := Lib.hid (Byt.of_own ho hr)
  have HR := Lib.hid hr
  have ND : d ≤ 2000 := by
    rw [← HY.out.len]
    exact textL_le FW.out.key
  clear ho hr hb CN HA2 HC2 q2 
  go_wp2_with (at_builtin; refine wpList_append_byt rfl _ _ 33 rfl W1.heap.size 5 i0 Try.underlying33 hi hz0 hz1 hz2 _ n2 _ rfl (by exact HB.out.own) D d f _ rfl HY.out (by omega) HB.out.bel.size ?_)
  intro A3 c3 w3 h1 h2
  obtain ⟨n3, hn⟩ : ∃ m, n2 + d = m := ⟨_, rfl⟩
  obtain ⟨L3, hL⟩ : ∃ m, L2 ++ textL (nums key) = m := ⟨_, rfl⟩
  have HA3 := HB.out.app HR.out h1 h2
  rw [hn, hL] at HA3
  have HA3 := Lib.hid HA3
  have GC : Calm H v2 w3 := Calm.grown h2 (fun q hq => ⟨Nat.le_trans HH.out (own_special HB.out.own hq).1, (own_special HB.out.own hq).2⟩)
  have HC3 := Lib.hid (HD.out.trans GC)
  have HL3 := Lib.hid hL
  have N3 : n3 ≤ n2 + 2000 := by omega
  (try rw [hn])
  clear h1 h2 HB HD HY HR hn hL ND GC 
  have q3 := KC.out w3 HC3.out
  have CN := Lib.hid (rVal7_any ⟨oh, od⟩ w3 (Nat.le_trans (FW.out.od) (by omega)))
  go_wp2_with fail
  refine CN.out.mono ?_
  rintro e v3 ⟨D, d, f, rfl, ho, hr, hb⟩
  have HB := Lib.hid (HA3.out.below hb)
  have HD := Lib.hid (HC3.out.trans (Calm.of_below hb))
  have HY := Lib.hid (Byt.of_own ho hr)
  have HR := Lib.hid hr
  have ND : d ≤ 2000 := by
    rw [← HY.out.len]
    exact valL_len _ FW.out.od
  clear ho hr hb CN HA3 HC3 q3 
  go_wp2_with (at_builtin; refine wpList_append_byt rfl _ _ 33 rfl W1.heap.size 5 i0 Try.underlying33 hi hz0 hz1 hz2 _ n3 _ rfl (by exact HB.out.own) D d f _ rfl HY.out (by omega) HB.out.bel.size ?_)
  intro A4 c4 w4 h1 h2
  obtain ⟨n4, hn⟩ : ∃ m, n3 + d = m := ⟨_, rfl⟩
  obtain ⟨L4, hL⟩ : ∃ m, L3 ++ valL ⟨oh, od⟩ = m := ⟨_, rfl⟩
  have HA4 := HB.out.app HR.out h1 h2
  rw [hn, hL] at HA4
  have HA4 := Lib.hid HA4
  have GC : Calm H v3 w4 := Calm.grown h2 (fun q hq => ⟨Nat.le_trans HH.out (own_special HB.out.own hq).1, (own_special HB.out.own hq).2⟩)
  have HC4 := Lib.hid (HD.out.trans GC)
  have HL4 := Lib.hid hL
  have N4 : n4 ≤ n3 + 2000 := by omega
  (try rw [hn])
  clear h1 h2 HB HD HY HR hn hL ND GC 
  have q4 := KC.out w4 HC4.out
  have CN := Lib.hid (rVal7_any ⟨nh, nd⟩ w4 (Nat.le_trans (FW.out.nd) (by omega)))
  go_wp2_with fail
  refine CN.out.mono ?_
  rintro e v4 ⟨D, d, f, rfl, ho, hr, hb⟩
  have HB := Lib.hid (HA4.out.below hb)
  have HD := Lib.hid (HC4.out.trans (Calm.of_below hb))
  have HY := Lib.hid (Byt.of_own ho hr)
  have HR := Lib.hid hr
  have ND : d ≤ 2000 := by
    rw [← HY.out.len]
    exact valL_len _ FW.out.nd
  clear ho hr hb CN HA4 HC4 q4 
  go_wp2_with (at_builtin; refine wpList_append_byt rfl _ _ 33 rfl W1.heap.size 5 i0 Try.underlying33 hi hz0 hz1 hz2 _ n4 _ rfl (by exact HB.out.own) D d f _ rfl HY.out (by omega) HB.out.bel.size ?_)
  intro A5 c5 w5 h1 h2
  obtain ⟨n5, hn⟩ : ∃ m, n4 + d = m := ⟨_, rfl⟩
  obtain ⟨L5, hL⟩ : ∃ m, L4 ++ valL ⟨nh, nd⟩ = m := ⟨_, rfl⟩
  have HA5 := HB.out.app HR.out h1 h2
  rw [hn, hL] at HA5
  have HA5 := Lib.hid HA5
  have GC : Calm H v4 w5 := Calm.grown h2 (fun q hq => ⟨Nat.le_trans HH.out (own_special HB.out.own hq).1, (own_special HB.out.own hq).2⟩)
  have HC5 := Lib.hid (HD.out.trans GC)
  have HL5 := Lib.hid hL
  have N5 : n5 ≤ n4 + 2000 := by omega
  (try rw [hn])
  clear h1 h2 HB HD HY HR hn hL ND GC 
  have q := KC.out w5 HC5.out
  have E : Hid (rcL (Xr.read ⟨1, tx, prev, next, key, ⟨oh, od⟩, ⟨nh, nd⟩, co, mA, mn, mc, mem, kA, kn, kc, lks, rA, rn, rc, rows, dA, dn, dc, dirty, eA, en, ec, deeds, pA, pn, pc, past⟩) = L5) := Lib.hid (by
    rw [← HL5.out, ← HL4.out, ← HL3.out, ← HL2.out, ← HL1.out, ← HL0.out]
    simp [rcL, restL, Xr.read, bU, bC, bP, bE, bD, bF, List.append_assoc])
  clear HC5 XI KC V0 FW CL N0 N1 N2 N3 N4 N5
  by_cases hbig : (4096 : Int) < (n5 : Int)
  · have R := RetEnc7.big HB0.out HA5.out (by omega)
    rw [← E.out] at R
    have R := Lib.hid R
    clear HA5 E
    go_wp2_with fail
    go_ret2
    exact R.out
  · have R := RetEnc7.fits HB0.out HA5.out (by omega)
    rw [← E.out] at R
    have R := Lib.hid R
    clear HA5 E
    go_wp2_with fail
    go_ret2
    exact R.out

set_option maxRecDepth 100000 in
set_option maxHeartbeats 16000000 in
theorem rEnc7_2 (x : Xr) (H : Nat) (w : World) (hx : XrIn H w x) (hH : H ≤ w.heap.size) (hf : FewR x) (hkd : x.kind = 2) (CM : ∀ W, Below w.heap.size w W → Calls Try.prog 11 #[x.val] W (fun e w' => e = .returned (.bool true) ∧ Below W.heap.size W w')) :
    Calls Try.prog 9 #[x.val] w (RetEnc7 (rcL x.read) w) := by
  obtain ⟨i0, hi, hz0, hz1, hz2⟩ := info_parts info_u8
  obtain ⟨kind, tx, prev, next, key, ⟨oh, od⟩, ⟨nh, nd⟩, co, mA, mn, mc, mem, kA, kn, kc, lks, rA, rn, rc, rows, dA, dn, dc, dirty, eA, en, ec, deeds, pA, pn, pc, past⟩ := x
  simp only at hkd
  subst hkd
  have FW := Lib.hid hf
  have CL := Lib.hid (fun W hb hs => rLists7_any ⟨2, tx, prev, next, key, ⟨oh, od⟩, ⟨nh, nd⟩, co, mA, mn, mc, mem, kA, kn, kc, lks, rA, rn, rc, rows, dA, dn, dc, dirty, eA, en, ec, deeds, pA, pn, pc, past⟩ H W hb hs hf.few)
  unfold Xr.val at CM CL ⊢
  simp only at CM CL ⊢
  obtain ⟨r, hrr⟩ : ∃ r, w.heap.size = r := ⟨_, rfl⟩
  obtain ⟨Wb, hWb⟩ : ∃ W, W = w.alloc (.cells #[(.int .i64 2), .int .i64 tx, .int .i64 prev, .int .i64 next, .string key, .bool oh, .string od, .bool nh, .string nd, .int .i64 co, .slice mA mn mc, .slice kA kn kc, .slice rA rn rc, .slice dA dn dc, .slice eA en ec, .slice pA pn pc] 30) := ⟨_, rfl⟩
  have hb : Below w.heap.size w Wb := by rw [hWb]; exact (Below.refl _ _).alloc (Nat.le_refl _) _
  have Vb : Hid (Bk Wb r 30 #[(.int .i64 2), .int .i64 tx, .int .i64 prev, .int .i64 next, .string key, .bool oh, .string od, .bool nh, .string nd, .int .i64 co, .slice mA mn mc, .slice kA kn kc, .slice rA rn rc, .slice dA dn dc, .slice eA en ec, .slice pA pn pc]) := Lib.hid (by rw [hWb, ← hrr]; exact Bk.new w _ _)
  have HM := Lib.hid (CM Wb hb)
  have HBb := Lib.hid hb
  have HW := Lib.hid hWb
  have HRR := Lib.hid hrr
  have HX := Lib.hid hx
  have HH0 := Lib.hid hH
  clear hb hWb hrr hx hH hf CM
  go_enter Try.func9, Try.ntmps9
  go_upto_region 1 with fail
  rw [HRR.out, ← HW.out]
  clear HW
  go_wp2_with (refine wpList_load_row rfl _ _ rfl _ rfl _ _ _ _ Vb.out Try.underlying30 rfl (by kernel_rfl) ?_)
  refine HM.out.mono ?_
  rintro e W1 ⟨rfl, b1⟩
  have V0 := Lib.hid (Vb.out.bel b1 Vb.out.lt)
  have HB0 := Lib.hid (HBb.out.trans (b1.mono HBb.out.size))
  have XI : Hid (XrIn H W1 ⟨2, tx, prev, next, key, ⟨oh, od⟩, ⟨nh, nd⟩, co, mA, mn, mc, mem, kA, kn, kc, lks, rA, rn, rc, rows, dA, dn, dc, dirty, eA, en, ec, deeds, pA, pn, pc, past⟩) := Lib.hid (HX.out.calm (Calm.of_below HB0.out))
  have HH : Hid (H ≤ W1.heap.size) := Lib.hid (Nat.le_trans HH0.out HB0.out.size)
  have KC : Hid (∀ W, Calm H W1 W → W.cell? ⟨r, 0, none⟩ = some (.int .i64 2) ∧ W.cell? ⟨r, 1, none⟩ = some (.int .i64 tx) ∧ W.cell? ⟨r, 2, none⟩ = some (.int .i64 prev) ∧ W.cell? ⟨r, 3, none⟩ = some (.int .i64 next) ∧ W.cell? ⟨r, 4, none⟩ = some (.string key) ∧ W.cell? ⟨r, 5, none⟩ = some (.bool oh) ∧ W.cell? ⟨r, 6, none⟩ = some (.string od) ∧ W.cell? ⟨r, 7, none⟩ = some (.bool nh) ∧ W.cell? ⟨r, 8, none⟩ = some (.string nd) ∧ W.cell? ⟨r, 9, none⟩ = some (.int .i64 co) ∧ W.cell? ⟨r, 10, none⟩ = some (.slice mA mn mc) ∧ W.cell? ⟨r, 11, none⟩ = some (.slice kA kn kc)) := Lib.hid (fun W hW => by
    have v := V0.out.calm rfl hW
    exact ⟨v.cell 0, v.cell 1, v.cell 2, v.cell 3, v.cell 4, v.cell 5, v.cell 6, v.cell 7, v.cell 8, v.cell 9, v.cell 10, v.cell 11⟩)
  have k1 := KC.out W1 (Calm.refl H W1)
  clear b1 Vb HBb HX HH0 HM
  go_wp2_with fail
  refine (rNum7_any 2 W1 (by omega)).mono ?_
  rintro e w0 ⟨A0, n0, c0, rfl, ho, hr, hb⟩
  have HA0 := Acc.of ho hr hb
  have HC0 : Hid (Calm H W1 w0) := Lib.hid (Calm.of_below hb)
  have N0 : n0 ≤ 10 := by rw [← HA0.len]; exact numL_len _ (by omega)
  obtain ⟨L0, hL0⟩ : ∃ L, numL 2 = L := ⟨_, rfl⟩
  rw [hL0] at HA0
  have HA0 := Lib.hid HA0
  have HL0 := Lib.hid hL0
  clear ho hr hb k1 hL0
  have q0 := KC.out w0 HC0.out
  have CN := Lib.hid (rNum7_any tx w0 XI.out.tx)
  go_wp2_with fail
  refine CN.out.mono ?_
  rintro e v0 ⟨D, d, f, rfl, ho, hr, hb⟩
  have HB := Lib.hid (HA0.out.below hb)
  have HD := Lib.hid (HC0.out.trans (Calm.of_below hb))
  have HY := Lib.hid (Byt.of_own ho hr)
  have HR := Lib.hid hr
  have ND : d ≤ 10 := by
    rw [← HY.out.len]
    exact numL_len _ XI.out.tx.2
  clear ho hr hb CN HA0 HC0 q0 
  go_wp2_with (at_builtin; refine wpList_append_byt rfl _ _ 33 rfl W1.heap.size 5 i0 Try.underlying33 hi hz0 hz1 hz2 _ n0 _ rfl (by exact HB.out.own) D d f _ rfl HY.out (by omega) HB.out.bel.size ?_)
  intro A1 c1 w1 h1 h2
  obtain ⟨n1, hn⟩ : ∃ m, n0 + d = m := ⟨_, rfl⟩
  obtain ⟨L1, hL⟩ : ∃ m, L0 ++ numL tx = m := ⟨_, rfl⟩
  have HA1 := HB.out.app HR.out h1 h2
  rw [hn, hL] at HA1
  have HA1 := Lib.hid HA1
  have GC : Calm H v0 w1 := Calm.grown h2 (fun q hq => ⟨Nat.le_trans HH.out (own_special HB.out.own hq).1, (own_special HB.out.own hq).2⟩)
  have HC1 := Lib.hid (HD.out.trans GC)
  have HL1 := Lib.hid hL
  have N1 : n1 ≤ n0 + 10 := by omega
  (try rw [hn])
  clear h1 h2 HB HD HY HR hn hL ND GC 
  have q1 := KC.out w1 HC1.out
  have CN := Lib.hid (rNum7_any prev w1 XI.out.prev)
  go_wp2_with fail
  refine CN.out.mono ?_
  rintro e v1 ⟨D, d, f, rfl, ho, hr, hb⟩
  have HB := Lib.hid (HA1.out.below hb)
  have HD := Lib.hid (HC1.out.trans (Calm.of_below hb))
  have HY := Lib.hid (Byt.of_own ho hr)
  have HR := Lib.hid hr
  have ND : d ≤ 10 := by
    rw [← HY.out.len]
    exact numL_len _ XI.out.prev.2
  clear ho hr hb CN HA1 HC1 q1 
  go_wp2_with (at_builtin; refine wpList_append_byt rfl _ _ 33 rfl W1.heap.size 5 i0 Try.underlying33 hi hz0 hz1 hz2 _ n1 _ rfl (by exact HB.out.own) D d f _ rfl HY.out (by omega) HB.out.bel.size ?_)
  intro A2 c2 w2 h1 h2
  obtain ⟨n2, hn⟩ : ∃ m, n1 + d = m := ⟨_, rfl⟩
  obtain ⟨L2, hL⟩ : ∃ m, L1 ++ numL prev = m := ⟨_, rfl⟩
  have HA2 := HB.out.app HR.out h1 h2
  rw [hn, hL] at HA2
  have HA2 := Lib.hid HA2
  have GC : Calm H v1 w2 := Calm.grown h2 (fun q hq => ⟨Nat.le_trans HH.out (own_special HB.out.own hq).1, (own_special HB.out.own hq).2⟩)
  have HC2 := Lib.hid (HD.out.trans GC)
  have HL2 := Lib.hid hL
  have N2 : n2 ≤ n1 + 10 := by omega
  (try rw [hn])
  clear h1 h2 HB HD HY HR hn hL ND GC 
  have q2 := KC.out w2 HC2.out
  have CN := Lib.hid (rNum7_any next w2 XI.out.next)
  go_wp2_with fail
  refine CN.out.mono ?_
  rintro e v2 ⟨D, d, f, rfl, ho, hr, hb⟩
  have HB := Lib.hid (HA2.out.below hb)
  have HD := Lib.hid (HC2.out.trans (Calm.of_below hb))
  have HY := Lib.hid (Byt.of_own ho hr)
  have HR := Lib.hid hr
  have ND : d ≤ 10 := by
    rw [← HY.out.len]
    exact numL_len _ XI.out.next.2
  clear ho hr hb CN HA2 HC2 q2 
  go_wp2_with (at_builtin; refine wpList_append_byt rfl _ _ 33 rfl W1.heap.size 5 i0 Try.underlying33 hi hz0 hz1 hz2 _ n2 _ rfl (by exact HB.out.own) D d f _ rfl HY.out (by omega) HB.out.bel.size ?_)
  intro A3 c3 w3 h1 h2
  obtain ⟨n3, hn⟩ : ∃ m, n2 + d = m := ⟨_, rfl⟩
  obtain ⟨L3, hL⟩ : ∃ m, L2 ++ numL next = m := ⟨_, rfl⟩
  have HA3 := HB.out.app HR.out h1 h2
  rw [hn, hL] at HA3
  have HA3 := Lib.hid HA3
  have GC : Calm H v2 w3 := Calm.grown h2 (fun q hq => ⟨Nat.le_trans HH.out (own_special HB.out.own hq).1, (own_special HB.out.own hq).2⟩)
  have HC3 := Lib.hid (HD.out.trans GC)
  have HL3 := Lib.hid hL
  have N3 : n3 ≤ n2 + 10 := by omega
  (try rw [hn])
  clear h1 h2 HB HD HY HR hn hL ND GC 
  have q3 := KC.out w3 HC3.out
  have CN := Lib.hid (refText_own key w3 (Nat.le_trans FW.out.key (by omega)))
  go_wp2_with fail
  refine CN.out.mono ?_
  rintro e v3 ⟨D, d, f, rfl, ho, hr, hb⟩
  have HB := Lib.hid (HA3.out.below hb)
  have HD := Lib.hid (HC3.out.trans (Calm.of_below hb))
  have HY := Lib.hid (Byt.of_own ho hr)
  have HR := Lib.hid hr
  have ND : d ≤ 2000 := by
    rw [← HY.out.len]
    exact textL_le FW.out.key
  clear ho hr hb CN HA3 HC3 q3 
  go_wp2_with (at_builtin; refine wpList_append_byt rfl _ _ 33 rfl W1.heap.size 5 i0 Try.underlying33 hi hz0 hz1 hz2 _ n3 _ rfl (by exact HB.out.own) D d f _ rfl HY.out (by omega) HB.out.bel.size ?_)
  intro A4 c4 w4 h1 h2
  obtain ⟨n4, hn⟩ : ∃ m, n3 + d = m := ⟨_, rfl⟩
  obtain ⟨L4, hL⟩ : ∃ m, L3 ++ textL (nums key) = m := ⟨_, rfl⟩
  have HA4 := HB.out.app HR.out h1 h2
  rw [hn, hL] at HA4
  have HA4 := Lib.hid HA4
  have GC : Calm H v3 w4 := Calm.grown h2 (fun q hq => ⟨Nat.le_trans HH.out (own_special HB.out.own hq).1, (own_special HB.out.own hq).2⟩)
  have HC4 := Lib.hid (HD.out.trans GC)
  have HL4 := Lib.hid hL
  have N4 : n4 ≤ n3 + 2000 := by omega
  (try rw [hn])
  clear h1 h2 HB HD HY HR hn hL ND GC 
  have q4 := KC.out w4 HC4.out
  have CN := Lib.hid (rVal7_any ⟨nh, nd⟩ w4 (Nat.le_trans (FW.out.nd) (by omega)))
  go_wp2_with fail
  refine CN.out.mono ?_
  rintro e v4 ⟨D, d, f, rfl, ho, hr, hb⟩
  have HB := Lib.hid (HA4.out.below hb)
  have HD := Lib.hid (HC4.out.trans (Calm.of_below hb))
  have HY := Lib.hid (Byt.of_own ho hr)
  have HR := Lib.hid hr
  have ND : d ≤ 2000 := by
    rw [← HY.out.len]
    exact valL_len _ FW.out.nd
  clear ho hr hb CN HA4 HC4 q4 
  go_wp2_with (at_builtin; refine wpList_append_byt rfl _ _ 33 rfl W1.heap.size 5 i0 Try.underlying33 hi hz0 hz1 hz2 _ n4 _ rfl (by exact HB.out.own) D d f _ rfl HY.out (by omega) HB.out.bel.size ?_)
  intro A5 c5 w5 h1 h2
  obtain ⟨n5, hn⟩ : ∃ m, n4 + d = m := ⟨_, rfl⟩
  obtain ⟨L5, hL⟩ : ∃ m, L4 ++ valL ⟨nh, nd⟩ = m := ⟨_, rfl⟩
  have HA5 := HB.out.app HR.out h1 h2
  rw [hn, hL] at HA5
  have HA5 := Lib.hid HA5
  have GC : Calm H v4 w5 := Calm.grown h2 (fun q hq => ⟨Nat.le_trans HH.out (own_special HB.out.own hq).1, (own_special HB.out.own hq).2⟩)
  have HC5 := Lib.hid (HD.out.trans GC)
  have HL5 := Lib.hid hL
  have N5 : n5 ≤ n4 + 2000 := by omega
  (try rw [hn])
  clear h1 h2 HB HD HY HR hn hL ND GC 
  have q := KC.out w5 HC5.out
  have E : Hid (rcL (Xr.read ⟨2, tx, prev, next, key, ⟨oh, od⟩, ⟨nh, nd⟩, co, mA, mn, mc, mem, kA, kn, kc, lks, rA, rn, rc, rows, dA, dn, dc, dirty, eA, en, ec, deeds, pA, pn, pc, past⟩) = L5) := Lib.hid (by
    rw [← HL5.out, ← HL4.out, ← HL3.out, ← HL2.out, ← HL1.out, ← HL0.out]
    simp [rcL, restL, Xr.read, bU, bC, bP, bE, bD, bF, List.append_assoc])
  clear HC5 XI KC V0 FW CL N0 N1 N2 N3 N4 N5
  by_cases hbig : (4096 : Int) < (n5 : Int)
  · have R := RetEnc7.big HB0.out HA5.out (by omega)
    rw [← E.out] at R
    have R := Lib.hid R
    clear HA5 E
    go_wp2_with fail
    go_ret2
    exact R.out
  · have R := RetEnc7.fits HB0.out HA5.out (by omega)
    rw [← E.out] at R
    have R := Lib.hid R
    clear HA5 E
    go_wp2_with fail
    go_ret2
    exact R.out

set_option maxRecDepth 100000 in
set_option maxHeartbeats 16000000 in
theorem rEnc7_3 (x : Xr) (H : Nat) (w : World) (hx : XrIn H w x) (hH : H ≤ w.heap.size) (hf : FewR x) (hkd : x.kind = 3) (CM : ∀ W, Below w.heap.size w W → Calls Try.prog 11 #[x.val] W (fun e w' => e = .returned (.bool true) ∧ Below W.heap.size W w')) :
    Calls Try.prog 9 #[x.val] w (RetEnc7 (rcL x.read) w) := by
  obtain ⟨i0, hi, hz0, hz1, hz2⟩ := info_parts info_u8
  obtain ⟨kind, tx, prev, next, key, ⟨oh, od⟩, ⟨nh, nd⟩, co, mA, mn, mc, mem, kA, kn, kc, lks, rA, rn, rc, rows, dA, dn, dc, dirty, eA, en, ec, deeds, pA, pn, pc, past⟩ := x
  simp only at hkd
  subst hkd
  have FW := Lib.hid hf
  have CL := Lib.hid (fun W hb hs => rLists7_any ⟨3, tx, prev, next, key, ⟨oh, od⟩, ⟨nh, nd⟩, co, mA, mn, mc, mem, kA, kn, kc, lks, rA, rn, rc, rows, dA, dn, dc, dirty, eA, en, ec, deeds, pA, pn, pc, past⟩ H W hb hs hf.few)
  unfold Xr.val at CM CL ⊢
  simp only at CM CL ⊢
  obtain ⟨r, hrr⟩ : ∃ r, w.heap.size = r := ⟨_, rfl⟩
  obtain ⟨Wb, hWb⟩ : ∃ W, W = w.alloc (.cells #[(.int .i64 3), .int .i64 tx, .int .i64 prev, .int .i64 next, .string key, .bool oh, .string od, .bool nh, .string nd, .int .i64 co, .slice mA mn mc, .slice kA kn kc, .slice rA rn rc, .slice dA dn dc, .slice eA en ec, .slice pA pn pc] 30) := ⟨_, rfl⟩
  have hb : Below w.heap.size w Wb := by rw [hWb]; exact (Below.refl _ _).alloc (Nat.le_refl _) _
  have Vb : Hid (Bk Wb r 30 #[(.int .i64 3), .int .i64 tx, .int .i64 prev, .int .i64 next, .string key, .bool oh, .string od, .bool nh, .string nd, .int .i64 co, .slice mA mn mc, .slice kA kn kc, .slice rA rn rc, .slice dA dn dc, .slice eA en ec, .slice pA pn pc]) := Lib.hid (by rw [hWb, ← hrr]; exact Bk.new w _ _)
  have HM := Lib.hid (CM Wb hb)
  have HBb := Lib.hid hb
  have HW := Lib.hid hWb
  have HRR := Lib.hid hrr
  have HX := Lib.hid hx
  have HH0 := Lib.hid hH
  clear hb hWb hrr hx hH hf CM
  go_enter Try.func9, Try.ntmps9
  go_upto_region 1 with fail
  rw [HRR.out, ← HW.out]
  clear HW
  go_wp2_with (refine wpList_load_row rfl _ _ rfl _ rfl _ _ _ _ Vb.out Try.underlying30 rfl (by kernel_rfl) ?_)
  refine HM.out.mono ?_
  rintro e W1 ⟨rfl, b1⟩
  have V0 := Lib.hid (Vb.out.bel b1 Vb.out.lt)
  have HB0 := Lib.hid (HBb.out.trans (b1.mono HBb.out.size))
  have XI : Hid (XrIn H W1 ⟨3, tx, prev, next, key, ⟨oh, od⟩, ⟨nh, nd⟩, co, mA, mn, mc, mem, kA, kn, kc, lks, rA, rn, rc, rows, dA, dn, dc, dirty, eA, en, ec, deeds, pA, pn, pc, past⟩) := Lib.hid (HX.out.calm (Calm.of_below HB0.out))
  have HH : Hid (H ≤ W1.heap.size) := Lib.hid (Nat.le_trans HH0.out HB0.out.size)
  have KC : Hid (∀ W, Calm H W1 W → W.cell? ⟨r, 0, none⟩ = some (.int .i64 3) ∧ W.cell? ⟨r, 1, none⟩ = some (.int .i64 tx) ∧ W.cell? ⟨r, 2, none⟩ = some (.int .i64 prev) ∧ W.cell? ⟨r, 3, none⟩ = some (.int .i64 next) ∧ W.cell? ⟨r, 4, none⟩ = some (.string key) ∧ W.cell? ⟨r, 5, none⟩ = some (.bool oh) ∧ W.cell? ⟨r, 6, none⟩ = some (.string od) ∧ W.cell? ⟨r, 7, none⟩ = some (.bool nh) ∧ W.cell? ⟨r, 8, none⟩ = some (.string nd) ∧ W.cell? ⟨r, 9, none⟩ = some (.int .i64 co) ∧ W.cell? ⟨r, 10, none⟩ = some (.slice mA mn mc) ∧ W.cell? ⟨r, 11, none⟩ = some (.slice kA kn kc)) := Lib.hid (fun W hW => by
    have v := V0.out.calm rfl hW
    exact ⟨v.cell 0, v.cell 1, v.cell 2, v.cell 3, v.cell 4, v.cell 5, v.cell 6, v.cell 7, v.cell 8, v.cell 9, v.cell 10, v.cell 11⟩)
  have k1 := KC.out W1 (Calm.refl H W1)
  clear b1 Vb HBb HX HH0 HM
  go_wp2_with fail
  refine (rNum7_any 3 W1 (by omega)).mono ?_
  rintro e w0 ⟨A0, n0, c0, rfl, ho, hr, hb⟩
  have HA0 := Acc.of ho hr hb
  have HC0 : Hid (Calm H W1 w0) := Lib.hid (Calm.of_below hb)
  have N0 : n0 ≤ 10 := by rw [← HA0.len]; exact numL_len _ (by omega)
  obtain ⟨L0, hL0⟩ : ∃ L, numL 3 = L := ⟨_, rfl⟩
  rw [hL0] at HA0
  have HA0 := Lib.hid HA0
  have HL0 := Lib.hid hL0
  clear ho hr hb k1 hL0
  have q0 := KC.out w0 HC0.out
  have CN := Lib.hid (rNum7_any tx w0 XI.out.tx)
  go_wp2_with fail
  refine CN.out.mono ?_
  rintro e v0 ⟨D, d, f, rfl, ho, hr, hb⟩
  have HB := Lib.hid (HA0.out.below hb)
  have HD := Lib.hid (HC0.out.trans (Calm.of_below hb))
  have HY := Lib.hid (Byt.of_own ho hr)
  have HR := Lib.hid hr
  have ND : d ≤ 10 := by
    rw [← HY.out.len]
    exact numL_len _ XI.out.tx.2
  clear ho hr hb CN HA0 HC0 q0 
  go_wp2_with (at_builtin; refine wpList_append_byt rfl _ _ 33 rfl W1.heap.size 5 i0 Try.underlying33 hi hz0 hz1 hz2 _ n0 _ rfl (by exact HB.out.own) D d f _ rfl HY.out (by omega) HB.out.bel.size ?_)
  intro A1 c1 w1 h1 h2
  obtain ⟨n1, hn⟩ : ∃ m, n0 + d = m := ⟨_, rfl⟩
  obtain ⟨L1, hL⟩ : ∃ m, L0 ++ numL tx = m := ⟨_, rfl⟩
  have HA1 := HB.out.app HR.out h1 h2
  rw [hn, hL] at HA1
  have HA1 := Lib.hid HA1
  have GC : Calm H v0 w1 := Calm.grown h2 (fun q hq => ⟨Nat.le_trans HH.out (own_special HB.out.own hq).1, (own_special HB.out.own hq).2⟩)
  have HC1 := Lib.hid (HD.out.trans GC)
  have HL1 := Lib.hid hL
  have N1 : n1 ≤ n0 + 10 := by omega
  (try rw [hn])
  clear h1 h2 HB HD HY HR hn hL ND GC 
  have q1 := KC.out w1 HC1.out
  have CN := Lib.hid (rNum7_any prev w1 XI.out.prev)
  go_wp2_with fail
  refine CN.out.mono ?_
  rintro e v1 ⟨D, d, f, rfl, ho, hr, hb⟩
  have HB := Lib.hid (HA1.out.below hb)
  have HD := Lib.hid (HC1.out.trans (Calm.of_below hb))
  have HY := Lib.hid (Byt.of_own ho hr)
  have HR := Lib.hid hr
  have ND : d ≤ 10 := by
    rw [← HY.out.len]
    exact numL_len _ XI.out.prev.2
  clear ho hr hb CN HA1 HC1 q1 
  go_wp2_with (at_builtin; refine wpList_append_byt rfl _ _ 33 rfl W1.heap.size 5 i0 Try.underlying33 hi hz0 hz1 hz2 _ n1 _ rfl (by exact HB.out.own) D d f _ rfl HY.out (by omega) HB.out.bel.size ?_)
  intro A2 c2 w2 h1 h2
  obtain ⟨n2, hn⟩ : ∃ m, n1 + d = m := ⟨_, rfl⟩
  obtain ⟨L2, hL⟩ : ∃ m, L1 ++ numL prev = m := ⟨_, rfl⟩
  have HA2 := HB.out.app HR.out h1 h2
  rw [hn, hL] at HA2
  have HA2 := Lib.hid HA2
  have GC : Calm H v1 w2 := Calm.grown h2 (fun q hq => ⟨Nat.le_trans HH.out (own_special HB.out.own hq).1, (own_special HB.out.own hq).2⟩)
  have HC2 := Lib.hid (HD.out.trans GC)
  have HL2 := Lib.hid hL
  have N2 : n2 ≤ n1 + 10 := by omega
  (try rw [hn])
  clear h1 h2 HB HD HY HR hn hL ND GC 
  have q2 := KC.out w2 HC2.out
  have CN := Lib.hid (rNum7_any co w2 XI.out.co)
  go_wp2_with fail
  refine CN.out.mono ?_
  rintro e v2 ⟨D, d, f, rfl, ho, hr, hb⟩
  have HB := Lib.hid (HA2.out.below hb)
  have HD := Lib.hid (HC2.out.trans (Calm.of_below hb))
  have HY := Lib.hid (Byt.of_own ho hr)
  have HR := Lib.hid hr
  have ND : d ≤ 10 := by
    rw [← HY.out.len]
    exact numL_len _ XI.out.co.2
  clear ho hr hb CN HA2 HC2 q2 
  go_wp2_with (at_builtin; refine wpList_append_byt rfl _ _ 33 rfl W1.heap.size 5 i0 Try.underlying33 hi hz0 hz1 hz2 _ n2 _ rfl (by exact HB.out.own) D d f _ rfl HY.out (by omega) HB.out.bel.size ?_)
  intro A3 c3 w3 h1 h2
  obtain ⟨n3, hn⟩ : ∃ m, n2 + d = m := ⟨_, rfl⟩
  obtain ⟨L3, hL⟩ : ∃ m, L2 ++ numL co = m := ⟨_, rfl⟩
  have HA3 := HB.out.app HR.out h1 h2
  rw [hn, hL] at HA3
  have HA3 := Lib.hid HA3
  have GC : Calm H v2 w3 := Calm.grown h2 (fun q hq => ⟨Nat.le_trans HH.out (own_special HB.out.own hq).1, (own_special HB.out.own hq).2⟩)
  have HC3 := Lib.hid (HD.out.trans GC)
  have HL3 := Lib.hid hL
  have N3 : n3 ≤ n2 + 10 := by omega
  (try rw [hn])
  clear h1 h2 HB HD HY HR hn hL ND GC 
  have q3 := KC.out w3 HC3.out
  have CN := Lib.hid (rInts7_any mA mn mc H mem w3 (XI.out.mem.calm HC3.out) (Nat.le_trans FW.out.mn (by omega)))
  go_wp2_with fail
  refine CN.out.mono ?_
  rintro e v3 ⟨D, d, f, rfl, ho, hr, hb⟩
  have HB := Lib.hid (HA3.out.below hb)
  have HD := Lib.hid (HC3.out.trans (Calm.of_below hb))
  have HY := Lib.hid (Byt.of_own ho hr)
  have HR := Lib.hid hr
  have ND : d ≤ 10010 := by
    rw [← HY.out.len]
    exact intsL_len XI.out.mem.each (by rw [XI.out.mem.len]; exact FW.out.mn)
  clear ho hr hb CN HA3 HC3 q3 
  go_wp2_with (at_builtin; refine wpList_append_byt rfl _ _ 33 rfl W1.heap.size 5 i0 Try.underlying33 hi hz0 hz1 hz2 _ n3 _ rfl (by exact HB.out.own) D d f _ rfl HY.out (by omega) HB.out.bel.size ?_)
  intro A4 c4 w4 h1 h2
  obtain ⟨n4, hn⟩ : ∃ m, n3 + d = m := ⟨_, rfl⟩
  obtain ⟨L4, hL⟩ : ∃ m, L3 ++ intsL mem = m := ⟨_, rfl⟩
  have HA4 := HB.out.app HR.out h1 h2
  rw [hn, hL] at HA4
  have HA4 := Lib.hid HA4
  have GC : Calm H v3 w4 := Calm.grown h2 (fun q hq => ⟨Nat.le_trans HH.out (own_special HB.out.own hq).1, (own_special HB.out.own hq).2⟩)
  have HC4 := Lib.hid (HD.out.trans GC)
  have HL4 := Lib.hid hL
  have N4 : n4 ≤ n3 + 10010 := by omega
  (try rw [hn])
  clear h1 h2 HB HD HY HR hn hL ND GC 
  have q4 := KC.out w4 HC4.out
  have CN := Lib.hid (rLocks7_any kA kn kc H lks w4 (XI.out.lks.calm HC4.out) (Nat.le_trans FW.out.kn (by omega)) (fun q hq => Nat.le_trans (FW.out.keys q hq) (by omega)))
  go_wp2_with fail
  refine CN.out.mono ?_
  rintro e v4 ⟨D, d, f, rfl, ho, hr, hb⟩
  have HB := Lib.hid (HA4.out.below hb)
  have HD := Lib.hid (HC4.out.trans (Calm.of_below hb))
  have HY := Lib.hid (Byt.of_own ho hr)
  have HR := Lib.hid hr
  have ND : d ≤ 1100010 := by
    rw [← HY.out.len]
    exact lksL_len FW.out.keys (by rw [XI.out.lks.len]; exact FW.out.kn)
  clear ho hr hb CN HA4 HC4 q4 
  go_wp2_with (at_builtin; refine wpList_append_byt rfl _ _ 33 rfl W1.heap.size 5 i0 Try.underlying33 hi hz0 hz1 hz2 _ n4 _ rfl (by exact HB.out.own) D d f _ rfl HY.out (by omega) HB.out.bel.size ?_)
  intro A5 c5 w5 h1 h2
  obtain ⟨n5, hn⟩ : ∃ m, n4 + d = m := ⟨_, rfl⟩
  obtain ⟨L5, hL⟩ : ∃ m, L4 ++ lksL lks = m := ⟨_, rfl⟩
  have HA5 := HB.out.app HR.out h1 h2
  rw [hn, hL] at HA5
  have HA5 := Lib.hid HA5
  have GC : Calm H v4 w5 := Calm.grown h2 (fun q hq => ⟨Nat.le_trans HH.out (own_special HB.out.own hq).1, (own_special HB.out.own hq).2⟩)
  have HC5 := Lib.hid (HD.out.trans GC)
  have HL5 := Lib.hid hL
  have N5 : n5 ≤ n4 + 1100010 := by omega
  (try rw [hn])
  clear h1 h2 HB HD HY HR hn hL ND GC 
  have q := KC.out w5 HC5.out
  have E : Hid (rcL (Xr.read ⟨3, tx, prev, next, key, ⟨oh, od⟩, ⟨nh, nd⟩, co, mA, mn, mc, mem, kA, kn, kc, lks, rA, rn, rc, rows, dA, dn, dc, dirty, eA, en, ec, deeds, pA, pn, pc, past⟩) = L5) := Lib.hid (by
    rw [← HL5.out, ← HL4.out, ← HL3.out, ← HL2.out, ← HL1.out, ← HL0.out]
    simp [rcL, restL, Xr.read, bU, bC, bP, bE, bD, bF, List.append_assoc])
  clear HC5 XI KC V0 FW CL N0 N1 N2 N3 N4 N5
  by_cases hbig : (4096 : Int) < (n5 : Int)
  · have R := RetEnc7.big HB0.out HA5.out (by omega)
    rw [← E.out] at R
    have R := Lib.hid R
    clear HA5 E
    go_wp2_with fail
    go_ret2
    exact R.out
  · have R := RetEnc7.fits HB0.out HA5.out (by omega)
    rw [← E.out] at R
    have R := Lib.hid R
    clear HA5 E
    go_wp2_with fail
    go_ret2
    exact R.out

set_option maxRecDepth 100000 in
set_option maxHeartbeats 16000000 in
theorem rEnc7_8 (x : Xr) (H : Nat) (w : World) (hx : XrIn H w x) (hH : H ≤ w.heap.size) (hf : FewR x) (hkd : x.kind = 8) (CM : ∀ W, Below w.heap.size w W → Calls Try.prog 11 #[x.val] W (fun e w' => e = .returned (.bool true) ∧ Below W.heap.size W w')) :
    Calls Try.prog 9 #[x.val] w (RetEnc7 (rcL x.read) w) := by
  obtain ⟨i0, hi, hz0, hz1, hz2⟩ := info_parts info_u8
  obtain ⟨kind, tx, prev, next, key, ⟨oh, od⟩, ⟨nh, nd⟩, co, mA, mn, mc, mem, kA, kn, kc, lks, rA, rn, rc, rows, dA, dn, dc, dirty, eA, en, ec, deeds, pA, pn, pc, past⟩ := x
  simp only at hkd
  subst hkd
  have FW := Lib.hid hf
  have CL := Lib.hid (fun W hb hs => rLists7_any ⟨8, tx, prev, next, key, ⟨oh, od⟩, ⟨nh, nd⟩, co, mA, mn, mc, mem, kA, kn, kc, lks, rA, rn, rc, rows, dA, dn, dc, dirty, eA, en, ec, deeds, pA, pn, pc, past⟩ H W hb hs hf.few)
  unfold Xr.val at CM CL ⊢
  simp only at CM CL ⊢
  obtain ⟨r, hrr⟩ : ∃ r, w.heap.size = r := ⟨_, rfl⟩
  obtain ⟨Wb, hWb⟩ : ∃ W, W = w.alloc (.cells #[(.int .i64 8), .int .i64 tx, .int .i64 prev, .int .i64 next, .string key, .bool oh, .string od, .bool nh, .string nd, .int .i64 co, .slice mA mn mc, .slice kA kn kc, .slice rA rn rc, .slice dA dn dc, .slice eA en ec, .slice pA pn pc] 30) := ⟨_, rfl⟩
  have hb : Below w.heap.size w Wb := by rw [hWb]; exact (Below.refl _ _).alloc (Nat.le_refl _) _
  have Vb : Hid (Bk Wb r 30 #[(.int .i64 8), .int .i64 tx, .int .i64 prev, .int .i64 next, .string key, .bool oh, .string od, .bool nh, .string nd, .int .i64 co, .slice mA mn mc, .slice kA kn kc, .slice rA rn rc, .slice dA dn dc, .slice eA en ec, .slice pA pn pc]) := Lib.hid (by rw [hWb, ← hrr]; exact Bk.new w _ _)
  have HM := Lib.hid (CM Wb hb)
  have HBb := Lib.hid hb
  have HW := Lib.hid hWb
  have HRR := Lib.hid hrr
  have HX := Lib.hid hx
  have HH0 := Lib.hid hH
  clear hb hWb hrr hx hH hf CM
  go_enter Try.func9, Try.ntmps9
  go_upto_region 1 with fail
  rw [HRR.out, ← HW.out]
  clear HW
  go_wp2_with (refine wpList_load_row rfl _ _ rfl _ rfl _ _ _ _ Vb.out Try.underlying30 rfl (by kernel_rfl) ?_)
  refine HM.out.mono ?_
  rintro e W1 ⟨rfl, b1⟩
  have V0 := Lib.hid (Vb.out.bel b1 Vb.out.lt)
  have HB0 := Lib.hid (HBb.out.trans (b1.mono HBb.out.size))
  have XI : Hid (XrIn H W1 ⟨8, tx, prev, next, key, ⟨oh, od⟩, ⟨nh, nd⟩, co, mA, mn, mc, mem, kA, kn, kc, lks, rA, rn, rc, rows, dA, dn, dc, dirty, eA, en, ec, deeds, pA, pn, pc, past⟩) := Lib.hid (HX.out.calm (Calm.of_below HB0.out))
  have HH : Hid (H ≤ W1.heap.size) := Lib.hid (Nat.le_trans HH0.out HB0.out.size)
  have KC : Hid (∀ W, Calm H W1 W → W.cell? ⟨r, 0, none⟩ = some (.int .i64 8) ∧ W.cell? ⟨r, 1, none⟩ = some (.int .i64 tx) ∧ W.cell? ⟨r, 2, none⟩ = some (.int .i64 prev) ∧ W.cell? ⟨r, 3, none⟩ = some (.int .i64 next) ∧ W.cell? ⟨r, 4, none⟩ = some (.string key) ∧ W.cell? ⟨r, 5, none⟩ = some (.bool oh) ∧ W.cell? ⟨r, 6, none⟩ = some (.string od) ∧ W.cell? ⟨r, 7, none⟩ = some (.bool nh) ∧ W.cell? ⟨r, 8, none⟩ = some (.string nd) ∧ W.cell? ⟨r, 9, none⟩ = some (.int .i64 co) ∧ W.cell? ⟨r, 10, none⟩ = some (.slice mA mn mc) ∧ W.cell? ⟨r, 11, none⟩ = some (.slice kA kn kc)) := Lib.hid (fun W hW => by
    have v := V0.out.calm rfl hW
    exact ⟨v.cell 0, v.cell 1, v.cell 2, v.cell 3, v.cell 4, v.cell 5, v.cell 6, v.cell 7, v.cell 8, v.cell 9, v.cell 10, v.cell 11⟩)
  have k1 := KC.out W1 (Calm.refl H W1)
  clear b1 Vb HBb HX HH0 HM
  go_wp2_with fail
  refine (rNum7_any 8 W1 (by omega)).mono ?_
  rintro e w0 ⟨A0, n0, c0, rfl, ho, hr, hb⟩
  have HA0 := Acc.of ho hr hb
  have HC0 : Hid (Calm H W1 w0) := Lib.hid (Calm.of_below hb)
  have N0 : n0 ≤ 10 := by rw [← HA0.len]; exact numL_len _ (by omega)
  obtain ⟨L0, hL0⟩ : ∃ L, numL 8 = L := ⟨_, rfl⟩
  rw [hL0] at HA0
  have HA0 := Lib.hid HA0
  have HL0 := Lib.hid hL0
  clear ho hr hb k1 hL0
  have VR := Lib.hid (V0.out.calm rfl HC0.out)
  have q0 := KC.out w0 HC0.out
  have CN := Lib.hid (CL.out w0 (XI.out.calm HC0.out) (Nat.le_trans HH.out HA0.out.bel.size))
  go_wp2_with (refine wpList_load_row rfl _ _ rfl _ rfl _ _ _ _ VR.out Try.underlying30 rfl (by kernel_rfl) ?_)
  refine CN.out.mono ?_
  rintro e v0 ⟨D, d, f, rfl, ho, hr, hb⟩
  have HB := Lib.hid (HA0.out.below hb)
  have HD := Lib.hid (HC0.out.trans (Calm.of_below hb))
  have HY := Lib.hid (Byt.of_own ho hr)
  have HR := Lib.hid hr
  have ND : d ≤ 2000000000 := by
    rw [← HY.out.len]
    exact bK_len XI.out FW.out.few
  clear ho hr hb CN HA0 HC0 q0 
  go_wp2_with (at_builtin; refine wpList_append_byt rfl _ _ 33 rfl W1.heap.size 5 i0 Try.underlying33 hi hz0 hz1 hz2 _ n0 _ rfl (by exact HB.out.own) D d f _ rfl HY.out (by omega) HB.out.bel.size ?_)
  intro A1 c1 w1 h1 h2
  obtain ⟨n1, hn⟩ : ∃ m, n0 + d = m := ⟨_, rfl⟩
  obtain ⟨L1, hL⟩ : ∃ m, L0 ++ bK (Xr.read ⟨8, tx, prev, next, key, ⟨oh, od⟩, ⟨nh, nd⟩, co, mA, mn, mc, mem, kA, kn, kc, lks, rA, rn, rc, rows, dA, dn, dc, dirty, eA, en, ec, deeds, pA, pn, pc, past⟩) = m := ⟨_, rfl⟩
  have HA1 := HB.out.app HR.out h1 h2
  rw [hn, hL] at HA1
  have HA1 := Lib.hid HA1
  have GC : Calm H v0 w1 := Calm.grown h2 (fun q hq => ⟨Nat.le_trans HH.out (own_special HB.out.own hq).1, (own_special HB.out.own hq).2⟩)
  have HC1 := Lib.hid (HD.out.trans GC)
  have HL1 := Lib.hid hL
  have N1 : n1 ≤ n0 + 2000000000 := by omega
  (try rw [hn])
  clear h1 h2 HB HD HY HR hn hL ND GC 
  clear VR
  have q := KC.out w1 HC1.out
  have E : Hid (rcL (Xr.read ⟨8, tx, prev, next, key, ⟨oh, od⟩, ⟨nh, nd⟩, co, mA, mn, mc, mem, kA, kn, kc, lks, rA, rn, rc, rows, dA, dn, dc, dirty, eA, en, ec, deeds, pA, pn, pc, past⟩) = L1) := Lib.hid (by
    rw [← HL1.out, ← HL0.out]
    simp [rcL, restL, Xr.read, bU, bC, bP, bE, bD, bF, List.append_assoc])
  clear HC1 XI KC V0 FW CL N0 N1
  by_cases hbig : (4096 : Int) < (n1 : Int)
  · have R := RetEnc7.big HB0.out HA1.out (by omega)
    rw [← E.out] at R
    have R := Lib.hid R
    clear HA1 E
    go_wp2_with fail
    go_ret2
    exact R.out
  · have R := RetEnc7.fits HB0.out HA1.out (by omega)
    rw [← E.out] at R
    have R := Lib.hid R
    clear HA1 E
    go_wp2_with fail
    go_ret2
    exact R.out

/-- Behind May's yes. -/
theorem rEnc7_yes (x : Xr) (H : Nat) (w : World) (hx : XrIn H w x) (hH : H ≤ w.heap.size) (hf : FewR x) (hk : 1 ≤ x.kind ∧ x.kind ≤ 10) (CM : ∀ W, Below w.heap.size w W → Calls Try.prog 11 #[x.val] W (fun e w' => e = .returned (.bool true) ∧ Below W.heap.size W w')) :
    Calls Try.prog 9 #[x.val] w (RetEnc7 (rcL x.read) w) := by
  obtain ⟨k, hkk⟩ : ∃ k, x.kind = k := ⟨_, rfl⟩
  rw [hkk] at hk
  have : k = 1 ∨ k = 2 ∨ k = 3 ∨ k = 4 ∨ k = 5 ∨ k = 6 ∨ k = 7 ∨ k = 8 ∨ k = 9 ∨ k = 10 := by omega
  rcases this with rfl | rfl | rfl | rfl | rfl | rfl | rfl | rfl | rfl | rfl
  · exact rEnc7_1 x H w hx hH hf hkk CM
  · exact rEnc7_2 x H w hx hH hf hkk CM
  · exact rEnc7_3 x H w hx hH hf hkk CM
  · exact rEnc7_4 x H w hx hH hf hkk CM
  · exact rEnc7_5 x H w hx hH hf hkk CM
  · exact rEnc7_6 x H w hx hH hf hkk CM
  · exact rEnc7_7 x H w hx hH hf hkk CM
  · exact rEnc7_8 x H w hx hH hf hkk CM
  · exact rEnc7_9 x H w hx hH hf hkk CM
  · exact rEnc7_10 x H w hx hH hf hkk CM

set_option maxRecDepth 100000 in
set_option maxHeartbeats 4000000 in
/-- Behind May's no. -/
theorem rEnc7_no (x : Xr) (w : World) (CM : ∀ W, Below w.heap.size w W → Calls Try.prog 11 #[x.val] W (fun e w' => e = .returned (.bool false) ∧ Below W.heap.size W w')) :
    Calls Try.prog 9 #[x.val] w (fun e w' => e = .returned (.tuple #[.slice none 0 0, .int .i64 1]) ∧ Below w.heap.size w w') := by
  obtain ⟨kind, tx, prev, next, key, ⟨oh, od⟩, ⟨nh, nd⟩, co, mA, mn, mc, mem, kA, kn, kc, lks, rA, rn, rc, rows, dA, dn, dc, dirty, eA, en, ec, deeds, pA, pn, pc, past⟩ := x
  unfold Xr.val at CM ⊢
  simp only at CM ⊢
  obtain ⟨r, hrr⟩ : ∃ r, w.heap.size = r := ⟨_, rfl⟩
  obtain ⟨Wb, hWb⟩ : ∃ W, W = w.alloc (.cells #[.int .i64 kind, .int .i64 tx, .int .i64 prev, .int .i64 next, .string key, .bool oh, .string od, .bool nh, .string nd, .int .i64 co, .slice mA mn mc, .slice kA kn kc, .slice rA rn rc, .slice dA dn dc, .slice eA en ec, .slice pA pn pc] 30) := ⟨_, rfl⟩
  have hb : Below w.heap.size w Wb := by rw [hWb]; exact (Below.refl _ _).alloc (Nat.le_refl _) _
  have Vb : Hid (Bk Wb r 30 #[.int .i64 kind, .int .i64 tx, .int .i64 prev, .int .i64 next, .string key, .bool oh, .string od, .bool nh, .string nd, .int .i64 co, .slice mA mn mc, .slice kA kn kc, .slice rA rn rc, .slice dA dn dc, .slice eA en ec, .slice pA pn pc]) := Lib.hid (by rw [hWb, ← hrr]; exact Bk.new w _ _)
  have HM := Lib.hid (CM Wb hb)
  have HBb := Lib.hid hb
  have HW := Lib.hid hWb
  have HRR := Lib.hid hrr
  clear hb hWb hrr CM
  go_enter Try.func9, Try.ntmps9
  go_upto_region 1 with fail
  rw [HRR.out, ← HW.out]
  clear HW
  go_wp2_with (refine wpList_load_row rfl _ _ rfl _ rfl _ _ _ _ Vb.out Try.underlying30 rfl (by kernel_rfl) ?_)
  refine HM.out.mono ?_
  rintro e W1 ⟨rfl, b1⟩
  have B1 := Lib.hid (HBb.out.trans (b1.mono HBb.out.size))
  clear b1 HBb Vb HM
  go_wp2_with fail
  go_ret2
  exact ⟨rfl, B1.out⟩
end Go.Proofs.Ytfldcddbmikfiaa
