/- What it says: contracts and plain mathematics that the laws' walks use, 23 of 33: each part's own remark says what; no condition. -/
import Derived.Test.YtfmfmdiegabobabGreatDoorPw6
import Derived.Test.YtfmfmdiegabobabGreatDoorPw13
import Derived.Test.YtfmfmdiegabobabGreatDoorPw15
import Derived.Test.YtfmfmdiegabobabGreatDoorPw17
import Derived.Test.YtfmfmdiegabobabGreatDoorPw18
import Derived.Test.YtfmfmdiegabobabGreatDoorPw19
import Derived.Test.YtfmfmdiegabobabGreatDoorPw20
import Derived.Test.YtfmfmdiegabobabGreatDoorPw21
import Derived.Test.YtfmfmdiegabobabGreatDoorPw22
import Derived.Lib.MinMax
import Derived.Deep.RegionHeld3
import Derived.Great.BuildSlice
import Derived.Great.FillDense
import Derived.Laws.Tables

set_option linter.unusedSimpArgs false
set_option linter.unusedVariables false
set_option linter.deprecated false
set_option linter.unusedSectionVars false
set_option linter.all false
set_option maxRecDepth 100000
set_option maxHeartbeats 16000000
namespace Go.Proofs.YtfmfmdiegabobabGreatDoor
theorem q1Pw23 {α : Type} (l : List α) (i : Nat) (x : α) : l.toArray.setIfInBounds i x = (l.set i x).toArray := by simp
theorem q2Pw23 {α : Type} (a : α) (l : List α) (x : α) : (a :: l).set 0 x = x :: l := rfl
theorem q3Pw23 {α : Type} (a : α) (l : List α) (i : Nat) (x : α) : (a :: l).set (i + 1) x = a :: l.set i x := rfl

/- rec.isSame, whatever it compares. -/
section
open Go.RowKit
theorem bytes_ne {a b : ByteArray} (h : ¬ a = b) : (a.toList == b.toList) = false := by
 rw [ByteArray.toList_eq, ByteArray.toList_eq]
 cases q : (a.data.toList == b.data.toList) with
 | false => rfl
 | true => exact absurd (Go.WideShapes.bytes_inj (by simpa using q)) h
theorem int_ne {a b : Int} (h : ¬ a = b) : (a == b) = false := by simpa using h
theorem bool_ne {a b : Bool} (h : ¬ a = b) : (a == b) = false := by cases a <;> cases b <;> simp_all
theorem nat_ne {a b : Nat} (h : ¬ a = b) : ((a : Int) == (b : Int)) = false := by simp; omega
theorem isSame_all : IsSame := by
 intro x y w
 have no : ∀ (q : ¬ SameX x y), (∀ e w', (e = Ending.returned (.bool false) ∧ Below w.heap.size w w') → ∃ b, e = .returned (.bool b) ∧ (b = true ↔ SameX x y) ∧ Below w.heap.size w w') := fun q e w' h => ⟨false, h.1, ⟨(fun z => nomatch z), fun z => absurd z q⟩, h.2⟩
 unfold SameX at no ⊢
 by_cases h0 : x.tx = y.tx
 rotate_left
 ·exact (isSame_0 x y w trivial (int_ne h0)).mono (no fun q => h0 q.1)
 by_cases h1 : x.prev = y.prev
 rotate_left
 ·exact (isSame_1 x y w h0 (int_ne h1)).mono (no fun q => h1 q.2.1)
 by_cases h2 : x.next = y.next
 rotate_left
 ·exact (isSame_2 x y w ⟨h0, h1⟩ (int_ne h2)).mono (no fun q => h2 q.2.2.1)
 by_cases h3 : x.key = y.key
 rotate_left
 ·exact (isSame_3 x y w ⟨h0, h1, h2⟩ (bytes_ne h3)).mono (no fun q => h3 q.2.2.2.1)
 by_cases h4 : x.old.has = y.old.has
 rotate_left
 ·exact (isSame_4 x y w ⟨h0, h1, h2, h3⟩ (bool_ne h4)).mono (no fun q => h4 q.2.2.2.2.1)
 by_cases h5 : x.old.data = y.old.data
 rotate_left
 ·exact (isSame_5 x y w ⟨h0, h1, h2, h3, h4⟩ (bytes_ne h5)).mono (no fun q => h5 q.2.2.2.2.2.1)
 by_cases h6 : x.new.has = y.new.has
 rotate_left
 ·exact (isSame_6 x y w ⟨h0, h1, h2, h3, h4, h5⟩ (bool_ne h6)).mono (no fun q => h6 q.2.2.2.2.2.2.1)
 by_cases h7 : x.new.data = y.new.data
 rotate_left
 ·exact (isSame_7 x y w ⟨h0, h1, h2, h3, h4, h5, h6⟩ (bytes_ne h7)).mono (no fun q => h7 q.2.2.2.2.2.2.2.1)
 by_cases h8 : x.co = y.co
 rotate_left
 ·exact (isSame_8 x y w ⟨h0, h1, h2, h3, h4, h5, h6, h7⟩ (int_ne h8)).mono (no fun q => h8 q.2.2.2.2.2.2.2.2.1)
 by_cases h9 : x.mn = y.mn
 rotate_left
 ·exact (isSame_9 x y w ⟨h0, h1, h2, h3, h4, h5, h6, h7, h8⟩ (nat_ne h9)).mono (no fun q => h9 q.2.2.2.2.2.2.2.2.2.1)
 by_cases h10 : x.kn = y.kn
 rotate_left
 ·exact (isSame_10 x y w ⟨h0, h1, h2, h3, h4, h5, h6, h7, h8, h9⟩ (nat_ne h10)).mono (no fun q => h10 q.2.2.2.2.2.2.2.2.2.2.1)
 by_cases h11 : x.rn = y.rn
 rotate_left
 ·exact (isSame_11 x y w ⟨h0, h1, h2, h3, h4, h5, h6, h7, h8, h9, h10⟩ (nat_ne h11)).mono (no fun q => h11 q.2.2.2.2.2.2.2.2.2.2.2.1)
 by_cases h12 : x.dn = y.dn
 rotate_left
 ·exact (isSame_12 x y w ⟨h0, h1, h2, h3, h4, h5, h6, h7, h8, h9, h10, h11⟩ (nat_ne h12)).mono (no fun q => h12 q.2.2.2.2.2.2.2.2.2.2.2.2.1)
 by_cases h13 : x.en = y.en
 rotate_left
 ·exact (isSame_13 x y w ⟨h0, h1, h2, h3, h4, h5, h6, h7, h8, h9, h10, h11, h12⟩ (nat_ne h13)).mono (no fun q => h13 q.2.2.2.2.2.2.2.2.2.2.2.2.2.1)
 by_cases h14 : x.pn = y.pn
 rotate_left
 ·exact (isSame_14 x y w ⟨h0, h1, h2, h3, h4, h5, h6, h7, h8, h9, h10, h11, h12, h13⟩ (nat_ne h14)).mono (no fun q => h14 q.2.2.2.2.2.2.2.2.2.2.2.2.2.2)
 refine (isSame_15 x y w ⟨h0, h1, h2, h3, h4, h5, h6, h7, h8, h9, h10, h11, h12, h13, h14⟩).mono ?_
 rintro e w' ⟨rfl, hb⟩
 exact ⟨true, rfl, ⟨fun _ => ⟨h0, h1, h2, h3, h4, h5, h6, h7, h8, h9, h10, h11, h12, h13, h14⟩, fun _ => rfl⟩, hb⟩
end

/- a log's recordOf, copyOf: a record of a body, in new memory. -/
section
open Go.RowKit
def RetRcd (r : Rc) (w : World) (e : Ending) (w' : World) : Prop :=
 ∃ x : Xr, e = .returned x.val ∧ XrIn w'.heap.size w' x ∧ (∀ k, x.owns k → w.heap.size ≤ k ∧ k < w'.heap.size) ∧ x.read = r ∧ Below w.heap.size w w' ∧ x.Wrt w'
theorem decF_enc {r : Rc} (h : encE r = 0) : decF (encB r) = (r, 0) := by
 obtain ⟨h1, h2⟩ := encE_zero h
 have e : encB r = rcL r := by unfold encB; rw [if_pos h]
 have d := dec_back h1
 have d1 : (decRc (rcL r)).1 = r := by rw [d]
 have d2 : (decRc (rcL r)).2 = 0 := by rw [d]
 rw [e, decF_ok (by omega) d2 (by rw [d1]; exact h1), d1]
theorem rcd_put {w w2 : World} {r : Nat} {x : Xr} {C : Array Value} (hb : Below w.heap.size w w2) (hr : w.heap.size ≤ r ∧ r < w2.heap.size) (hx : XrIn w2.heap.size w2 x) (hn : ∀ k, x.owns k → w.heap.size ≤ k ∧ k < w2.heap.size ∧ k ≠ r) :
  XrIn (w2.setRow r C).heap.size (w2.setRow r C) x ∧ (∀ k, x.owns k → w.heap.size ≤ k ∧ k < (w2.setRow r C).heap.size) ∧ Below w.heap.size w (w2.setRow r C) := by
 have hs : (w2.setRow r C).heap.size = w2.heap.size := by simp
 refine ⟨hx.same (by omega) (fun k q => setRow_other _ _ _ _ (hn k q).2.2), fun k q => ⟨(hn k q).1, by rw [hs]; exact (hn k q).2.1⟩, below_setRow hb hr.1 _⟩
theorem rcd_wrt {w2 : World} {r : Nat} {x : Xr} {C : Array Value} (h : x.Wrt w2) (hn : ∀ k, x.owns k → k ≠ r) : x.Wrt (w2.setRow r C) := h.same (fun k q => setRow_other _ _ _ _ (hn k q))
theorem wgRecordOf_any (A : Option Addr) (n c : Nat) (l : List Int) (w : World) (h : Byt w A n c l) : Calls Tryz.prog 25 #[.slice A n c] w (RetRcd (decF l).1 w) := by
 obtain ⟨r, hrr⟩ : ∃ r, w.heap.size = r := ⟨_, rfl⟩
 obtain ⟨W1, hW1⟩ : ∃ W1, W1 = w.alloc (.cells xr0.cells 30) := ⟨_, rfl⟩
 have hb1 : Below w.heap.size w W1 := by rw [hW1]; exact (Below.refl _ _).alloc (Nat.le_refl _) _
 have HV : Hid (Bk W1 r 30 xr0.cells) := Lib.hid (by rw [hW1, ← hrr]; exact Bk.new w _ _)
 have HB := Lib.hid hb1
 have CD := Lib.hid (recDecode_new A n c l W1 (h.below hb1))
 have HW := Lib.hid (show W1 = w.alloc (.cells #[.int .i64 0, .int .i64 0, .int .i64 0, .int .i64 0, .string ⟨#[]⟩, .bool false, .string ⟨#[]⟩, .bool false, .string ⟨#[]⟩, .int .i64 0, .slice none 0 0, .slice none 0 0, .slice none 0 0, .slice none 0 0, .slice none 0 0, .slice none 0 0] 30) from hW1)
 have HRR := Lib.hid hrr
 obtain ⟨z, hz⟩ : ∃ z, (decF l).2 = z := ⟨_, rfl⟩
 obtain ⟨y, hy⟩ : ∃ y, (decF l).1 = y := ⟨_, rfl⟩
 unfold RetRec at CD
 rw [hz, hy] at CD
 rw [hy]
 clear h hW1 hb1 hz hy
 go_enter Tryz.func25, Tryz.ntmps25
 go_upto_region 1 with fail
 (try rw [hrr])
 rw [← HW.out]
 clear HW hrr
 go_wp2_with fail
 refine CD.out.mono ?_
 rintro e v1 ⟨x, rfl, hx, hn, hr, hb, hwt⟩
 obtain ⟨C, hC⟩ : ∃ C, C = x.cells := ⟨_, rfl⟩
 have HC1 : Hid (C.all (·.oneCell') = true ∧ C.size = 16) := Lib.hid (by rw [hC]; exact ⟨Xr.cells_one x, rfl⟩)
 obtain ⟨q, hq⟩ : ∃ q, v1.heap.size = q := ⟨_, rfl⟩
 have b2 : Below v1.heap.size v1 (v1.alloc (.cells C 30)) := (Below.refl _ _).alloc (Nat.le_refl _) _
 have V2 : Hid (Bk (v1.alloc (.cells C 30)) q 30 C) := Lib.hid (by rw [← hq]; exact Bk.new v1 _ _)
 have V1 : Hid (Bk (v1.alloc (.cells C 30)) r 30 xr0.cells) := Lib.hid ((HV.out.later hb).later b2)
 have V3 : Hid (Bk ((v1.alloc (.cells C 30)).setRow r C) r 30 C) := Lib.hid (V1.out.rowp C)
 have R : Hid (RetRcd y w (.returned (.agg C)) ((v1.alloc (.cells C 30)).setRow r C)) := Lib.hid (by
  have hsz : w.heap.size < W1.heap.size := by have := HV.out.lt; rw [← HRR.out] at this; exact this
  have h2 := hb.size
  have h3 := b2.size
  have q := rcd_put (w := w) (r := r) (C := C) ((HB.out.trans (hb.mono HB.out.size)).trans (b2.mono (by omega))) ⟨by rw [HRR.out]; omega, V1.out.lt⟩ ((hx.calm (Calm.of_below b2)).up h3) (fun k hk => ⟨by have := hn k hk; omega, by have := hn k hk; omega, by have := hn k hk; have := HRR.out; omega⟩)
  exact ⟨x, by rw [hC, Xr.val_eq], q.1, q.2.1, hr, q.2.2, rcd_wrt (hwt.same fun k q => b2.block k (hn k q).2) (fun k hk => by have := hn k hk; have := HRR.out; omega)⟩)
 have HQ := Lib.hid hq
 rw [Xr.val_eq, ← hC]
 clear hx hn hr hb hwt hC b2 hq CD
 go_upto_region 2 with (refine wpList_store_new rfl (W := v1) rfl (c := xr0.cells) (c' := C) rfl (by rw [HQ.out]; rfl) rfl (by rw [HC1.out.2]; exact inf_rec) (by rw [HC1.out.2]; rfl) HC1.out.1 ?_; simp only [Act.put])
 (try rw [HQ.out])
 go_wp2_with (first
  | (refine wpList_load_row rfl 30 _ rfl q rfl 30 _ (0, 0) _ V2.out Tryz.underlying30 rfl (by rw [HC1.out.2]; exact inf_rec) ?_; simp only [Act.put])
  | (refine wpList_store_row rfl 30 _ _ rfl r C rfl rfl 30 _ V1.out (by rw [HC1.out.2]; exact inf_rec) (by rw [HC1.out.2]; rfl) HC1.out.1 ?_; simp only [Act.put]))
 (try simp only [Exit.inBlock, Exit.then])
 refine bodyPost_ret (results_cell_row rfl _ _ r 30 C (0, 0) _ rfl V3.out Tryz.underlying30 rfl (by rw [HC1.out.2]; exact inf_rec)) rfl ?_
 exact R.out
end

/- sheet.cut; the statements' own, great, ended. -/
section
open Go.RowKit
def partL (l : List Int) (i : Nat) : List Int := (l.drop (242 * i)).take 242
def partsL (l : List Int) : List (List Int) := (List.range (shN l.length)).map (partL l)
def RetBods (ls : List (List Int)) (w : World) (e : Ending) (w' : World) : Prop := ∃ A n c vs, e = .returned (.slice A n c) ∧ Bods w' A n c ls vs ∧ Below w.heap.size w w'
structure GatS (w : World) (f : Nat → List Int) (i : Nat) (wr : World) (A : Option Addr) (c : Nat) (vs : List (Option Addr × Nat × Nat)) : Prop where
 own : wr.ownsRow w.heap.size 59 1 (.slice A i c) i (vs.flatMap slV)
 len : vs.length = i
 each : ∀ j, j < i → Bty wr (vs.getD j sl0).1 (vs.getD j sl0).2.1 (vs.getD j sl0).2.2 (f j)
 bel : Below w.heap.size w wr
theorem GatS.start (w : World) (f : Nat → List Int) : GatS w f 0 w none 0 [] := ⟨World.ownsRow_nil _ _ _ _, rfl, fun j hj => absurd hj (by omega), Below.refl _ _⟩
theorem GatS.next {w wr w2 w3 : World} {f : Nat → List Int} {i c c' : Nat} {A A' : Option Addr} {vs : List (Option Addr × Nat × Nat)} {B : Option Addr} {m d : Nat} (h : GatS w f i wr A c vs) (hb : Below wr.heap.size wr w2) (hB : Bty w2 B m d (f i))
  (k1 : w3.ownsRow w.heap.size 59 1 (.slice A' (i + 1) c') (i + 1) (vs.flatMap slV ++ (#[Value.slice B m d] : Array Value).toList)) (k2 : w2.grownBy w3 (Value.slice A i c).ownBlock) : GatS w f (i + 1) w3 A' c' (vs ++ [(B, m, d)]) := by
 have o2 := own_stay (w' := w2) h.own (fun q hq => hb.block q (h.own.lt q hq).2)
 refine ⟨by rw [List.flatMap_append]; simpa [slV] using k1, by simp [h.len], fun j hj => ?_, h.bel.trans ((hb.mono h.bel.size).grown k2 (Nat.le_trans h.bel.size hb.size) (fun q hq => (o2.lt q hq).1))⟩
 by_cases hji : j < i
 ·have e : (vs ++ [(B, m, d)]).getD j sl0 = vs.getD j sl0 := by simp [List.getD, List.getElem?_append_left (show j < vs.length by rw [h.len]; exact hji)]
  rw [e]
  exact ((h.each j hji).below hb).apart o2 (by decide) k2
 ·obtain rfl : j = i := by omega
  have e : (vs ++ [(B, m, d)]).getD j sl0 = (B, m, d) := by
   have : (vs ++ [(B, m, d)]).getD vs.length sl0 = (B, m, d) := by simp
   rw [h.len] at this
   exact this
  rw [e]
  exact hB.apart o2 (by decide) k2
theorem GatS.bods {w wr : World} {f : Nat → List Int} {i c : Nat} {A : Option Addr} {vs : List (Option Addr × Nat × Nat)} (h : GatS w f i wr A c vs) (ls : List (List Int)) (hl : ls.length = i) (hf : ∀ j, j < i → ls.getD j [] = f j) : Bods wr A i c ls vs :=
 ⟨Flt.of_own h.own, h.len, hl, fun j hj => by rw [hf j hj]; exact (h.each j hj).byt⟩
theorem parts_get (l : List Int) (j : Nat) (h : j < shN l.length) : (partsL l).getD j [] = partL l j := by
 unfold partsL
 simp [List.getD, h]
theorem cut_any (A : Option Addr) (n c : Nat) (l : List Int) (w : World) (h : Bty w A n c l) (hn : n ≤ 10000000) : Calls Tryz.prog 48 #[.slice A n c] w (RetBods (partsL l) w) := by
 obtain ⟨j0, hj0, hy0, hy1, hy2⟩ := info_parts info_slJ
 have hcap := h.byt.cap
 have hmax := h.byt.max
 unfold maxLen at hmax
 have hlen := h.byt.len
 have R0 := Lib.hid (GatS.start w (partL l))
 have HB := Lib.hid h
 clear h
 go_enter Tryz.func48, Tryz.ntmps48
 go_wp2_with fail
 go_loopw [3, 4] (fun y q wr => ∃ (i : Nat) (A1 : Option Addr) (c1 : Nat) (vs : List (Option Addr × Nat × Nat)), i ≤ shN n ∧ y = .slice A1 i c1 ∧ q = .int .i64 ((242 * i : Nat) : Int) ∧ GatS w (partL l) i wr A1 c1 vs) (fun _ q _ => 242 * shN n - (intOf q).toNat)
 case atStart => exact ⟨0, none, 0, [], Nat.zero_le _, rfl, rfl, R0.out⟩
 case round =>
  obtain ⟨i, A1, c1, vs, hin, rfl, rfl, R⟩ := hrel
  have HR := Lib.hid R
  clear R R0
  obtain ⟨fr, hfr⟩ : ∃ fr, 242 * i = fr := ⟨_, rfl⟩
  rw [hfr]
  by_cases hlt : fr < n
  ·obtain ⟨k, hk⟩ : ∃ k, min (fr + 242) n = k := ⟨_, rfl⟩
   have hmin : min ((fr : Int) + 242) (n : Int) = (k : Int) := by omega
   have hkn : k ≤ n := by omega
   have hjk : fr ≤ k := by omega
   have hB := HB.out.below HR.out.bel
   have CP := part_any A n c l wr hB fr k hjk hkn
   have e : (l.drop fr).take (k - fr) = partL l i := by
    unfold partL
    rw [hfr]
    by_cases q : fr + 242 ≤ n
    ·congr 1; omega
    ·rw [List.take_of_length_le (by rw [List.length_drop]; omega), List.take_of_length_le (by rw [List.length_drop]; omega)]
   rw [e] at CP
   have CP := Lib.hid CP
   have hi1 : i + 1 ≤ shN n := by unfold shN; omega
   have hi2 : i ≤ 1000000 := by unfold shN at hi1; omega
   have HFR := Lib.hid hfr
   clear hB hk e hfr
   go_wp2_with fail
   refine CP.out.mono ?_
   rintro e w2 ⟨B, rfl, hB2, rfl⟩
   have O2 : Hid (∀ o, (wr.alloc o).ownsRow w.heap.size 59 1 (.slice A1 i c1) i (vs.flatMap slV)) := Lib.hid (fun o => own_stay HR.out.own (fun q hq => ((Below.refl wr.heap.size wr).alloc (Nat.le_refl _) o).block q (HR.out.own.lt q hq).2))
   have BS : Hid (∀ o, w.heap.size ≤ (wr.alloc o).heap.size) := Lib.hid (fun o => Nat.le_trans HR.out.bel.size (by simp))
   have NX := Lib.hid (fun (A' : Option Addr) (c' : Nat) (w3 : World) (o : Obj) k1 k2 => HR.out.next (w2 := wr.alloc o) (A' := A') (c' := c') (w3 := w3) ((Below.refl wr.heap.size wr).alloc (Nat.le_refl _) o) (hB2.below ((Below.refl wr.heap.size wr).alloc (Nat.le_refl _) o)) k1 k2)
   clear hB2 CP
   go_wp2_with (at_builtin; refine wpList_append_1 rfl _ _ 65 rfl w.heap.size 59 j0 _ 1 24 Tryz.underlying65 hj0 hy0 hy1 hy2 (by rfl) (by omega) (by rfl) (O2.out _) (g := wr.heap.size) (cs := #[.slice B (k - fr) (k - fr)]) (by rfl) (Bk.new _ _ _) (by rfl) (by intro u hu; simp at hu; subst hu; rfl) hi2 (by omega) (BS.out _) ?_)
   intro A4 c4 w3 k1 k2 _
   have NR := Lib.hid (NX.out A4 c4 w3 _ k1 k2)
   have HF := HFR.out
   clear k1 k2 NX O2 BS HR HB
   go_wp2_with fail
   go_roundw
   case rel => exact ⟨i + 1, A4, c4, _, hi1, by go_num, by rw [show 242 * (i + 1) = fr + 242 by omega]; go_num, NR.out⟩
   case measure => simp [intOf]; omega
  ·have hie : i = shN n := by unfold shN at hin ⊢; omega
   have RR : Hid (RetBods (partsL l) w (.returned (.slice A1 i c1)) wr) := Lib.hid ⟨A1, i, c1, vs, rfl, HR.out.bods (partsL l) (by simp [partsL, hlen, hie]) (fun j hj => parts_get l j (by rw [hlen, ← hie]; exact hj)), HR.out.bel⟩
   clear HR HB hfr hie
   go_wp2_with fail
   go_ret
   exact RR.out
end

/- bytes that are gathered onto a slice that has no room, or onto a row of one's own. -/
section
open Go.RowKit
structure Beg (base : Nat) (w : World) (B : Option Addr) (m d : Nat) (l : List Int) : Prop where
 bty : Bty w B m d l
 own : m = d ∨ w.ownsRow base 5 1 (.slice B m d) m (l.map (Value.int .u8))
structure AppB (base : Nat) (w w' : World) (B : Option Addr) (m d : Nat) (B' : Option Addr) (m' d' : Nat) (l : List Int) : Prop where
 beg : Beg base w' B' m' d' l
 grown : ∃ row, w.grownBy w' row ∧ ∀ k, row = some k → base ≤ k ∧ (Value.slice B m d).ownBlock = some k
 at_ : ∀ q, (Value.slice B' m' d').ownBlock = some q → (Value.slice B m d).ownBlock = some q ∨ w.heap.size ≤ q
theorem run_append_none {P : Program} (w : World) (t ty e : TypeId) (i : TypeInfo) (ht : P.underlying t = some (.slice e)) (hi : P.info? e = some i) (hs : i.size = 1)
  (ad : Addr) (m d q : Nat) (hmd : m ≤ d) (C : Option Addr) : (Builtin.append_ #[t, t] ty #[.slice (some ad) m d, .slice C 0 q]).run P w = .ok (.slice (some ad) m d) w := by
 cases C <;> simp [Builtin.append_, run_underlying ht, sizeOf, typeInfo, hi, hs, Builtin.lenOf, Builtin.firstCells, loadCells, loadCellsFrom, storeCells, hmd]
theorem wpList_app_beg {w : World} {ops : Array Oper} {rest : List Oper} {o : Oper} {a : Act} {Q : Exit → Act → World → Prop} (hgd : o.guard = none) (s x : Operand)
  (ho : o.op = .call { callee := .builtin .append, args := #[s, x], argTypes := #[59, 59] }) (base : Nat)
  {B : Option Addr} {m d : Nat} {l : List Int} (hs : a.eval s = .slice B m d) (hB : Beg base w B m d l) (hm : 0 < m) {C : Option Addr} {p q : Nat} {h : List Int} (hx : a.eval x = .slice C p q) (hC : Byt w C p q h)
  (hlim : m + p ≤ 100000000) (hbase : base ≤ w.heap.size)
  (H : ∀ B' d' w', Hid (AppB base w w' B m d B' (m + p) d' (l ++ h)) → wpList Tryz.prog ops Q rest (a.put o.dst (.slice B' (m + p) d')) w') : wpList Tryz.prog ops Q (o :: rest) a w := by
 obtain ⟨i0, hi, hz0, hz1, hz2⟩ := info_parts info_u8
 have ht := Tryz.underlying59
 rcases hB.own with hfull | hown
 ·obtain ⟨g, off, rfl, hc⟩ := hB.bty.byt.at_ hm
  by_cases hp : p = 0
  ·subst hp
   have hh : h = [] := List.eq_nil_of_length_eq_zero hC.len
   subst hh
   have hrun := run_append_none (P := Tryz.prog) w 59 o.type 5 i0 ht hi hz1 ⟨g, off, none⟩ m d q hB.bty.byt.cap C
   refine wpList_run hgd (v := .slice (some ⟨g, off, none⟩) m d) (w' := w) ?_ ?_
   ·simp [execOp, ho, resolve, invoke, builtin, hs, hx, hrun, Result.andThen]
   ·have := H (some ⟨g, off, none⟩) d w (Lib.hid ⟨⟨by simpa using hB.bty, .inl (by simpa using hfull)⟩, ⟨none, World.grownBy.refl w _, fun _ e => nomatch e⟩, fun q hq => .inl (by simpa [Value.ownBlock] using hq)⟩)
    simpa using this
  ·obtain ⟨g2, off2, rfl, hc2⟩ := hC.at_ (by omega)
   have hl1 : (l.map (Value.int .u8)).length = m * i0.size := by simp [hB.bty.byt.len, hz1]
   have hl2 : (h.map (Value.int .u8)).length = p * i0.size := by simp [hC.len, hz1]
   have hge := grownCap_ge w (m + p) d 5
   have hcm : grownCap w (m + p) d 5 ≤ maxLen := grownCap_le_maxLen w (m + p) d 5 (by unfold maxLen; omega)
   have hrun := run_append_grow (P := Tryz.prog) w 59 o.type 5 i0 (.int .u8 0) ht hi hz0 ⟨g, off, none⟩ m d (l.map (Value.int .u8)) hl1 (hB.bty.byt.cells ⟨g, off, none⟩ rfl) ⟨g2, off2, none⟩ p q (h.map (Value.int .u8)) hl2 (hC.cells ⟨g2, off2, none⟩ rfl) (by omega) (by omega) (growslice_fits (by omega) (by rw [hz2]; omega))
   have hex : (execOp a.eval o).run Tryz.prog w = .ok (.value (.slice (some ⟨w.heap.size, 0, none⟩) (m + p) (grownCap w (m + p) d 5))) (w.drew.alloc (.cells ((l.map (Value.int .u8)).toArray ++ (h.map (Value.int .u8)).toArray ++ Builtin.zeroCells (Value.int .u8 0).cells (grownCap w (m + p) d 5 - (m + p))) 5)) := by
    simp only [execOp, ho, resolve, invoke, builtin, List.map_toArray, List.map_cons, List.map_nil, hs, hx, Sem.run_bind, Sem.run_pure, Result.andThen_ok, hrun]
   refine wpList_run hgd hex ?_
   ·have hO : (w.drew.alloc (.cells ((l.map (Value.int .u8)).toArray ++ (h.map (Value.int .u8)).toArray ++ Builtin.zeroCells (Value.int .u8 0).cells (grownCap w (m + p) d 5 - (m + p))) 5)).ownsRow base 5 1
      (.slice (some ⟨w.heap.size, 0, none⟩) (m + p) (grownCap w (m + p) d 5)) (m + p) ((l ++ h).map (Value.int .u8)) := by
     refine ⟨by simp [hB.bty.byt.len, hC.len], .inr ⟨w.heap.size, _, _, rfl, hbase, heap_alloc_new w.drew _, hge, hcm, ?_, ?_⟩⟩
     ·simp only [Array.size_append, List.size_toArray, size_zeroCells, List.length_map, hB.bty.byt.len, hC.len, Value.cells]
      simp
      omega
     ·simp only [Array.toList_append, List.append_assoc]
      rw [← List.append_assoc, ← List.map_append]
      have : (m + p) * 1 = ((l ++ h).map (Value.int .u8)).length := by simp [hB.bty.byt.len, hC.len]
      rw [this]
      exact List.take_left
    refine H _ _ _ (Lib.hid ⟨⟨Bty.of_own hO (fun x hx => ?_), .inr hO⟩, ⟨none, ⟨rfl, rfl, rfl, by simp, fun k hk _ => heap_alloc_old w.drew _ hk⟩, fun _ e => nomatch e⟩, fun q hq => .inr ?_⟩)
    ·rcases List.mem_append.1 hx with k | k
     ·exact hB.bty.byt.rng x k
     ·exact hC.rng x k
    ·simp [Value.ownBlock] at hq
     omega
 ·refine wpList_append_at hgd s x 59 ho base 5 i0 ht hi hz0 hz1 hz2 (.slice B m d) m l hs hown C p q h hx hC (by omega) hbase ?_
  intro B' d' w' h1 h2 h3
  refine H B' d' w' (Lib.hid ⟨⟨Bty.of_own h1 (fun x hx => ?_), .inr h1⟩, ⟨_, h2, fun k hk => ⟨(hown.lt k hk).1, hk⟩⟩, h3⟩)
  rcases List.mem_append.1 hx with k | k
  ·exact hB.bty.byt.rng x k
  ·exact hC.rng x k
def fndC (x : List Int × Int) : List Value := [.string (strOfNums x.1), .int .i64 x.2]
structure Srch (base H : Nat) (w : World) (fb : Nat) (s : Fs) : Prop where
 lo : base ≤ fb
 hi : fb < H
 top : H ≤ w.heap.size
 ok : s.Ok
 ex : ∃ A n c B m d, Bk w fb 155 #[.slice A n c, .slice B m d, .int .i64 s.frm] ∧ w.ownsRow base 123 2 (.slice A n c) n (s.out.flatMap fndC) ∧ s.out.length = n ∧ Beg base w B m d s.beg ∧
  (∀ q, (Value.slice A n c).ownBlock = some q → q < H) ∧ (∀ q, (Value.slice B m d).ownBlock = some q → q < H)
structure FndAt (base : Nat) (w : World) (fb : Nat) (out : List (List Int × Int)) : Prop where
 ex : ∃ A n c x y, Bk w fb 155 #[.slice A n c, x, y] ∧ w.ownsRow base 123 2 (.slice A n c) n (out.flatMap fndC) ∧ out.length = n
def Mid (base H : Nat) : Nat → Prop := fun k => base ≤ k ∧ k < H
def SrPost (base H fb : Nat) (r : Fs × Bool) (w : World) (e : Ending) (w' : World) : Prop :=
 e = .returned (.bool r.2) ∧ (r.2 = true → Srch base w'.heap.size w' fb r.1) ∧ FndAt base w' fb r.1.out ∧ Fr (Mid base H) w w'
theorem Srch.fnd {base H : Nat} {w : World} {fb : Nat} {s : Fs} (h : Srch base H w fb s) : FndAt base w fb s.out := by
 obtain ⟨A, n, c, B, m, d, h1, h2, h3, _⟩ := h.ex
 exact ⟨A, n, c, _, _, h1, h2, h3⟩
theorem Srch.up {base H H' : Nat} {w : World} {fb : Nat} {s : Fs} (h : Srch base H w fb s) (hH : H ≤ H') (ht : H' ≤ w.heap.size) : Srch base H' w fb s := by
 obtain ⟨A, n, c, B, m, d, h1, h2, h3, h4, h5, h6⟩ := h.ex
 exact ⟨h.lo, Nat.lt_of_lt_of_le h.hi hH, ht, h.ok, A, n, c, B, m, d, h1, h2, h3, h4, fun q k => Nat.lt_of_lt_of_le (h5 q k) hH, fun q k => Nat.lt_of_lt_of_le (h6 q k) hH⟩
theorem Beg.stay {base : Nat} {w w' : World} {B : Option Addr} {m d : Nat} {l : List Int} (h : Beg base w B m d l) (hk : ∀ q, (Value.slice B m d).ownBlock = some q → w'.heap[q]? = w.heap[q]?) : Beg base w' B m d l :=
 ⟨h.bty.stay (fun a ha => hk a.block (by rw [ha]; rfl)), h.own.imp id (fun o => own_stay o hk)⟩
theorem Srch.stay {base H : Nat} {w w' : World} {fb : Nat} {s : Fs} (h : Srch base H w fb s) (hb : ∀ k, k < H → w'.heap[k]? = w.heap[k]?) (hs : w.heap.size ≤ w'.heap.size) : Srch base H w' fb s := by
 obtain ⟨A, n, c, B, m, d, h1, h2, h3, h4, h5, h6⟩ := h.ex
 exact ⟨h.lo, h.hi, Nat.le_trans h.top hs, h.ok, A, n, c, B, m, d, (hb fb h.hi).trans h1, own_stay h2 (fun q hq => hb q (h5 q hq)), h3, h4.stay (fun q hq => hb q (h6 q hq)), h5, h6⟩
end

/- one body more is found, in memory; (*sheet.search).head steps as the plain search does. -/
section
open Go.RowKit
theorem exec_conv {P : Program} {w w' : World} {o : Oper} {a : Act} {s d : TypeId} {x : Operand} (ho : o.op = .convert s d x) {v : Value} (hb : (convert s d (a.eval x)).run P w = .ok v w') : (execOp a.eval o).run P w = .ok (.value v) w' := by
 unfold execOp
 simp only [ho, Sem.run_bind]
 rw [hb]
 rfl
theorem info_fnd : (Tryz.prog.info? 123).map (fun i => (i.zero, i.size, i.bytes)) = some (some (.agg #[.string ByteArray.empty, .int .i64 0]), 2, 24) := by kernel_rfl
theorem built_fnd (s : ByteArray) (i : Int) : Tryz.prog.built 123 [(0, .string s), (1, .int .i64 i)] = some #[.string s, .int .i64 i] := by kernel_rfl
theorem bslice_fnd (s : ByteArray) (i : Int) (w : World) : (Instr.buildSlice 120 1 #[(0, .agg #[.string s, .int .i64 i])]).run Tryz.prog w =
  .ok (.slice (some ⟨w.heap.size, 0, none⟩) 1 1) (w.alloc (.cells #[.string s, .int .i64 i] 123)) := by
 obtain ⟨i0, hi, hz0, hz1, hz2⟩ := info_parts info_fnd
 refine Go.run_buildSlice w 120 123 1 _ _ i0 _ Tryz.underlying120 hi hz0 (by rw [hz1]; omega) (by rw [hz1]; omega) ?_
 rw [hz1]
 kernel_rfl
theorem fnd_one (s : ByteArray) (i : Int) : ∀ u ∈ (#[Value.string s, .int .i64 i] : Array Value).toList, u.oneCell' = true := by
 intro u hu
 simp at hu
 rcases hu with rfl | rfl <;> rfl
theorem tab_fr {base H : Nat} {w w1 : World} (hT : Tab w) (h0 : 0 < base) (f : Fr (Mid base H) w w1) : Tab w1 := fun i hi =>
 (World.cell?_of_block (w := w) (w' := w1) (a := ⟨0, i, none⟩) (f.block _ (World.block_lt_of_cell? w _ (hT i hi)) (fun m => by have h1 : base ≤ 0 := m.1; omega))).trans (hT i hi)
structure FndUp (base H fb : Nat) (w w0 : World) (A : Option Addr) (n c : Nat) (bv fv : Value) (out : List (List Int × Int)) : Prop where
 blk : Bk w fb 155 #[.slice A n c, bv, fv]
 own : w.ownsRow base 123 2 (.slice A n c) n (out.flatMap fndC)
 len : out.length = n
 fr : Fr (Mid base H) w0 w
 lo : base ≤ fb ∧ fb < H ∧ H ≤ w0.heap.size
 low : ∀ q, (Value.slice A n c).ownBlock = some q → q < H ∨ w0.heap.size ≤ q
theorem FndUp.step {base H fb : Nat} {w w0 w2 w' : World} {A A' : Option Addr} {n c c' : Nat} {bv fv : Value} {out : List (List Int × Int)} {x : List Int} {frm : Int} (h : FndUp base H fb w w0 A n c bv fv out) (hb : Below w.heap.size w w2)
  (k1 : w'.ownsRow base 123 2 (.slice A' (n + 1) c') (n + 1) (out.flatMap fndC ++ (#[Value.string (strOfNums x), .int .i64 frm] : Array Value).toList)) (k2 : w2.grownBy w' (Value.slice A n c).ownBlock) (k3 : ∀ q, (Value.slice A' (n + 1) c').ownBlock = some q → (Value.slice A n c).ownBlock = some q ∨ w2.heap.size ≤ q) :
  Bk w' fb 155 #[.slice A n c, bv, fv] ∧
  FndUp base H fb (w'.setCell ⟨fb, 0, none⟩ (.slice A' (n + 1) c')) w0 A' (n + 1) c' bv fv (out ++ [(x, frm)]) ∧
  (∀ (A5 : Option Addr) (n5 c5 : Nat) (l5 : List Int), Bty w A5 n5 c5 l5 → Bty (w'.setCell ⟨fb, 0, none⟩ (.slice A' (n + 1) c')) A5 n5 c5 l5) ∧
  (∀ (b5 : Nat) (v5 : Value) (n5 : Nat) (l5 : List Value), w.ownsRow b5 5 1 v5 n5 l5 → (w'.setCell ⟨fb, 0, none⟩ (.slice A' (n + 1) c')).ownsRow b5 5 1 v5 n5 l5) ∧ w.heap.size ≤ (w'.setCell ⟨fb, 0, none⟩ (.slice A' (n + 1) c')).heap.size := by
 have o2 : w2.ownsRow base 123 2 (.slice A n c) n (out.flatMap fndC) := own_stay h.own (fun q hq => hb.block q (h.own.lt q hq).2)
 have b2 : Bk w2 fb 155 #[.slice A n c, bv, fv] := h.blk.bel hb h.blk.lt
 have b3 : Bk w' fb 155 #[.slice A n c, bv, fv] := bk_apart o2 b2 (by decide) k2
 have hsz : (w'.setCell ⟨fb, 0, none⟩ (.slice A' (n + 1) c')).heap.size = w'.heap.size := by simp [World.setCell]
 have hs1 : w.heap.size ≤ w'.heap.size := Nat.le_trans hb.size k2.size
 have f1 : Fr (Mid base H) w0 w2 := h.fr.then (Fr.of_below hb)
 have f2 : Fr (Mid base H) w0 w' := f1.grown k2 (fun q hq => by
  rcases h.low q hq with a | a
  ·exact .inl ⟨(h.own.lt q hq).1, a⟩
  ·exact .inr a)
 have f3 : Fr (Mid base H) w0 (w'.setCell ⟨fb, 0, none⟩ (.slice A' (n + 1) c')) := f2.setCell (show Mid base H fb from ⟨h.lo.1, h.lo.2.1⟩) _
 refine ⟨b3, ⟨?_, ?_, by simp [h.len], f3, h.lo, fun q hq => ?_⟩, fun A5 n5 c5 l5 k => ?_, fun b5 v5 n5 l5 k => ?_, by rw [hsz]; exact hs1⟩
 ·have := b3.setc 0 (.slice A' (n + 1) c')
  simpa using this
 ·have := own_set (i := 0) (u := .slice A' (n + 1) c') k1 b3 (by decide)
  rw [List.flatMap_append]
  simpa [fndC] using this
 ·rcases k3 q hq with e | e
  ·exact h.low q e
  ·exact .inr (Nat.le_trans (Nat.le_trans h.fr.size hb.size) e)
 ·exact ((k.below hb).apart o2 (by decide) k2).set b3 (by decide)
 ·have k3 : w2.ownsRow b5 5 1 v5 n5 l5 := own_stay k (fun q hq => hb.block q (k.lt q hq).2)
  exact own_set (i := 0) (u := .slice A' (n + 1) c') (own_apart o2 k3 (by decide) k2) b3 (by decide)
theorem FndUp.pre {base H fb : Nat} {w w0 : World} {A : Option Addr} {n c : Nat} {bv : Value} {frm : Int} {out : List (List Int × Int)} (h : FndUp base H fb w w0 A n c bv (.int .i64 frm) out) (hbase : base ≤ w.heap.size) {A5 : Option Addr} {n5 c5 : Nat} {x : List Int} (h5 : Bty w A5 n5 c5 x) :
  Hid (∀ w2, w2 = w.drew.alloc (.cells #[.string (strOfNums x), .int .i64 frm] 123) → w2.cell? ⟨fb, 0, none⟩ = some (.slice A n c) ∧ w2.cell? ⟨fb, 2, none⟩ = some (.int .i64 frm) ∧ Byt w2 A5 n5 c5 x) ∧
  Hid (∀ w2, w2 = w.drew.alloc (.cells #[.string (strOfNums x), .int .i64 frm] 123) → w2.ownsRow base 123 2 (.slice A n c) n (out.flatMap fndC)) ∧
  Hid (∀ w2, w2 = w.drew.alloc (.cells #[.string (strOfNums x), .int .i64 frm] 123) → Bk w2 w.heap.size 123 #[.string (strOfNums x), .int .i64 frm]) ∧
  Hid (∀ w2, w2 = w.drew.alloc (.cells #[.string (strOfNums x), .int .i64 frm] 123) → base ≤ w2.heap.size) ∧
  (∀ A' c' w', w'.ownsRow base 123 2 (.slice A' (n + 1) c') (n + 1) (out.flatMap fndC ++ (#[Value.string (strOfNums x), .int .i64 frm] : Array Value).toList) → (w.drew.alloc (.cells #[.string (strOfNums x), .int .i64 frm] 123)).grownBy w' (Value.slice A n c).ownBlock →
   (w'.cell? ⟨fb, 0, none⟩ = some (.slice A n c) ∧ w'.cell? ⟨fb, 2, none⟩ = some (.int .i64 frm) ∧ Byt w' A5 n5 c5 x) ∧ w'.frozen? ⟨fb, 0, none⟩ = false) := by
 have hb : Below w.heap.size w (w.drew.alloc (.cells #[.string (strOfNums x), .int .i64 frm] 123)) := (Below.refl _ w).drew.alloc (Nat.le_refl _) _
 have b2 := h.blk.bel hb h.blk.lt
 refine ⟨Lib.hid ?_, Lib.hid ?_, Lib.hid ?_, Lib.hid ?_, ?_⟩
 ·rintro w2 rfl
  exact ⟨b2.cell 0, b2.cell 2, h5.byt.below hb⟩
 ·rintro w2 rfl
  exact own_stay h.own (fun q hq => hb.block q (h.own.lt q hq).2)
 ·rintro w2 rfl
  exact Bk.new w.drew _ _
 ·rintro w2 rfl
  exact Nat.le_trans hbase hb.size
 ·intro A' c' w' k1 k2
  have o2 : (w.drew.alloc (.cells #[.string (strOfNums x), .int .i64 frm] 123)).ownsRow base 123 2 (.slice A n c) n (out.flatMap fndC) := own_stay h.own (fun q hq => hb.block q (h.own.lt q hq).2)
  have b3 := bk_apart o2 b2 (by decide) k2
  exact ⟨⟨b3.cell 0, b3.cell 2, ((h5.below hb).apart o2 (by decide) k2).byt⟩, b3.frz 0⟩
structure Mid1 (base H fb : Nat) (s : Fs) (h : List Int) (w w3 : World) (A : Option Addr) (n c : Nat) (B : Option Addr) (m d : Nat) : Prop where
 up : FndUp base H fb w3 w A n c (.slice B m d) (.int .i64 s.frm) s.out
 beg : Beg base w3 B m d (s.beg ++ h)
 low : ∀ q, (Value.slice B m d).ownBlock = some q → q < H ∨ w.heap.size ≤ q
theorem Mid1.of {base H fb : Nat} {s : Fs} {h : List Int} {w w1 : World} {A : Option Addr} {n c : Nat} {B B' : Option Addr} {m d p d' : Nat} (hlo : base ≤ fb) (hhi : fb < H) (htop : H ≤ w.heap.size)
  (hbk : Bk w fb 155 #[.slice A n c, .slice B m d, .int .i64 s.frm]) (hown : w.ownsRow base 123 2 (.slice A n c) n (s.out.flatMap fndC)) (hlen : s.out.length = n) (hbeg : Beg base w B m d s.beg)
  (hA : ∀ q, (Value.slice A n c).ownBlock = some q → q < H) (hB : ∀ q, (Value.slice B m d).ownBlock = some q → q < H) (k : AppB base w w1 B m d B' (m + p) d' (s.beg ++ h)) :
  Bk w1 fb 155 #[.slice A n c, .slice B m d, .int .i64 s.frm] ∧ Mid1 base H fb s h w (w1.setCell ⟨fb, 1, none⟩ (.slice B' (m + p) d')) A n c B' (m + p) d' := by
 obtain ⟨row, hg, hrow⟩ := k.grown
 have hblkT : ∀ q, row = some q → ∃ cs fr, w.heap[q]? = some (.cells cs 5 fr) := by
  intro q hq
  have := (hrow q hq).2
  cases hBB : B with
  | none => rw [hBB] at this; simp [Value.ownBlock] at this
  | some a =>
   rw [hBB] at this
   simp [Value.ownBlock] at this
   obtain ⟨cs, fr, e⟩ := hbeg.bty.ty a hBB
   rw [this] at e
   exact ⟨cs, fr, e⟩
 have b1 : Bk w1 fb 155 #[.slice A n c, .slice B m d, .int .i64 s.frm] := (hg.block fb hbk.lt (fun e => by
  obtain ⟨cs, fr, e2⟩ := hblkT fb e.symm
  have h2 := hbk
  unfold Bk at h2
  rw [h2] at e2
  injection e2 with e2
  injection e2 with _ e2
  revert e2
  decide)).trans hbk
 have o1 : w1.ownsRow base 123 2 (.slice A n c) n (s.out.flatMap fndC) := own_stay hown (fun q hq => hg.block q (hown.lt q hq).2 (fun e => by
  obtain ⟨cs, fr, e2⟩ := hblkT q e.symm
  obtain ⟨cur, e3⟩ := own_ty hown hq
  rw [e3] at e2
  injection e2 with e2
  injection e2 with _ e2
  revert e2
  decide))
 have hsz : (w1.setCell ⟨fb, 1, none⟩ (.slice B' (m + p) d')).heap.size = w1.heap.size := by simp [World.setCell]
 refine ⟨b1, ⟨⟨?_, own_set (i := 1) (u := .slice B' (m + p) d') o1 b1 (by decide), hlen, ?_, ⟨hlo, hhi, htop⟩, fun q hq => .inl (hA q hq)⟩, ?_, fun q hq => ?_⟩⟩
 ·have := b1.setc 1 (.slice B' (m + p) d')
  simpa using this
 ·exact ((Fr.refl (Mid base H) w).grown hg (fun q hq => .inl ⟨(hrow q hq).1, hB q (hrow q hq).2⟩)).setCell (show Mid base H fb from ⟨hlo, hhi⟩) _
 ·exact ⟨k.beg.bty.set b1 (by decide), k.beg.own.imp id (fun o => own_set (i := 1) (u := .slice B' (m + p) d') o b1 (by decide))⟩
 ·rcases k.at_ q hq with e | e
  ·exact .inl (hB q e)
  ·exact .inr e
theorem Mid1.below {base H fb : Nat} {s : Fs} {h : List Int} {w w3 w4 : World} {A : Option Addr} {n c : Nat} {B : Option Addr} {m d : Nat} (k : Mid1 base H fb s h w w3 A n c B m d) (hb : Below w3.heap.size w3 w4) : Mid1 base H fb s h w w4 A n c B m d :=
 ⟨⟨k.up.blk.bel hb k.up.blk.lt, own_stay k.up.own (fun q hq => hb.block q (k.up.own.lt q hq).2), k.up.len, k.up.fr.then (Fr.of_below hb), k.up.lo, k.up.low⟩, k.beg.stay (fun q hq => hb.block q (by
  cases hBB : B with
  | none => rw [hBB] at hq; simp [Value.ownBlock] at hq
  | some a =>
   rw [hBB] at hq
   simp [Value.ownBlock] at hq
   subst hq
   exact k.beg.bty.ty.lt a hBB)), k.low⟩
theorem Mid1.short {base H fb : Nat} {s : Fs} {h : List Int} {w w3 : World} {A : Option Addr} {n c : Nat} {B : Option Addr} {m d : Nat} (k : Mid1 base H fb s h w w3 A n c B m d) (hok : (⟨s.out, s.beg ++ h, s.frm⟩ : Fs).Ok) (e : Ending) (he : e = .returned (.bool true)) : SrPost base H fb (⟨s.out, s.beg ++ h, s.frm⟩, true) w e w3 := by
 refine ⟨he, fun _ => ⟨k.up.lo.1, k.up.blk.lt, Nat.le_refl _, hok, A, n, c, B, m, d, k.up.blk, k.up.own, k.up.len, k.beg, fun q hq => (k.up.own.lt q hq).2, fun q hq => ?_⟩, ⟨A, n, c, _, _, k.up.blk, k.up.own, k.up.len⟩, k.up.fr⟩
 cases hBB : B with
 | none => rw [hBB] at hq; simp [Value.ownBlock] at hq
 | some a =>
  rw [hBB] at hq
  simp [Value.ownBlock] at hq
  subst hq
  exact k.beg.bty.ty.lt a hBB
theorem Mid1.bad {base H fb : Nat} {s : Fs} {h : List Int} {w w3 : World} {A : Option Addr} {n c : Nat} {B : Option Addr} {m d : Nat} (k : Mid1 base H fb s h w w3 A n c B m d) (e : Ending) (he : e = .returned (.bool false)) : SrPost base H fb (s, false) w e w3 :=
 ⟨he, fun h => (by cases h), ⟨A, n, c, _, _, k.up.blk, k.up.own, k.up.len⟩, k.up.fr⟩
theorem Mid1.found {base H fb : Nat} {s : Fs} {h x : List Int} {w w3 w' : World} {A A' : Option Addr} {n c c' : Nat} {B : Option Addr} {m d : Nat} (k : Mid1 base H fb s h w w3 A n c B m d) (hok : (⟨s.out ++ [(x, s.frm)], [], s.frm⟩ : Fs).Ok)
  (k1 : w'.ownsRow base 123 2 (.slice A' (n + 1) c') (n + 1) (s.out.flatMap fndC ++ (#[Value.string (strOfNums x), .int .i64 s.frm] : Array Value).toList)) (k2 : (w3.drew.alloc (.cells #[.string (strOfNums x), .int .i64 s.frm] 123)).grownBy w' (Value.slice A n c).ownBlock)
  (k3 : ∀ q, (Value.slice A' (n + 1) c').ownBlock = some q → (Value.slice A n c).ownBlock = some q ∨ (w3.drew.alloc (.cells #[.string (strOfNums x), .int .i64 s.frm] 123)).heap.size ≤ q) :
  (w'.setCell ⟨fb, 0, none⟩ (.slice A' (n + 1) c')).cell? ⟨fb, 1, none⟩ = some (.slice B m d) ∧ (w'.setCell ⟨fb, 0, none⟩ (.slice A' (n + 1) c')).frozen? ⟨fb, 1, none⟩ = false ∧
  SrPost base H fb (⟨s.out ++ [(x, s.frm)], [], s.frm⟩, true) w (.returned (.bool true)) ((w'.setCell ⟨fb, 0, none⟩ (.slice A' (n + 1) c')).setCell ⟨fb, 1, none⟩ (.slice none 0 0)) := by
 have hb : Below w3.heap.size w3 (w3.drew.alloc (.cells #[.string (strOfNums x), .int .i64 s.frm] 123)) := (Below.refl _ w3).drew.alloc (Nat.le_refl _) _
 obtain ⟨_, u, _, _, _⟩ := k.up.step hb k1 k2 k3
 have hsz : ((w'.setCell ⟨fb, 0, none⟩ (.slice A' (n + 1) c')).setCell ⟨fb, 1, none⟩ (.slice none 0 0)).heap.size = (w'.setCell ⟨fb, 0, none⟩ (.slice A' (n + 1) c')).heap.size := by simp [World.setCell]
 have bk := u.blk.setc 1 (.slice none 0 0)
 have bk2 : Bk ((w'.setCell ⟨fb, 0, none⟩ (.slice A' (n + 1) c')).setCell ⟨fb, 1, none⟩ (.slice none 0 0)) fb 155 #[.slice A' (n + 1) c', .slice none 0 0, .int .i64 s.frm] := by simpa using bk
 have ow := own_set (i := 1) (u := .slice none 0 0) u.own u.blk (by decide)
 refine ⟨u.blk.cell 1, u.blk.frz 1, rfl, fun _ => ⟨u.lo.1, bk2.lt, Nat.le_refl _, hok, A', n + 1, c', none, 0, 0, bk2, ow, by simp [k.up.len], ⟨Bty.nil _, .inl rfl⟩, fun q hq => (ow.lt q hq).2, fun q hq => by simp [Value.ownBlock] at hq⟩, ⟨A', n + 1, c', _, _, bk2, ow, by simp [k.up.len]⟩, u.fr.setCell (show Mid base H fb from ⟨k.up.lo.1, k.up.lo.2.1⟩) _⟩
theorem head_any (base H fb : Nat) (s : Fs) (w : World) (hS : Srch base H w fb s) (hT : Tab w) (hT0 : 0 < base) (C : Option Addr) (p q : Nat) (hd : List Int) (hC : Byt w C p q hd) (hlim : s.beg.length + p ≤ 1000000) (hnum : s.out.length ≤ 900000) :
  Calls Tryz.prog 89 #[.pointer (some ⟨fb, 0, none⟩), .slice C p q] w (SrPost base H fb (headF s hd) w) := by
 obtain ⟨A, n, c, B, m, d, hbk, hown, hlen, hbeg, hA, hB⟩ := hS.ex
 have hc1 : w.cell? ⟨fb, 1, none⟩ = some (.slice B m d) := hbk.cell 1
 have hml : s.beg.length = m := hbeg.bty.byt.len
 by_cases h0 : s.beg = []
 ·have hm : m = 0 := by rw [h0] at hml; exact hml.symm
  subst hm
  have e : headF s hd = (s, true) := by unfold headF; rw [if_pos h0]
  rw [e]
  have R : Hid (SrPost base H fb (s, true) w (.returned (.bool true)) w) := Lib.hid ⟨rfl, fun _ => hS.up hS.top (Nat.le_refl _), hS.fnd, Fr.refl _ _⟩
  clear hS hbk hown hbeg hA hB e hT hT0
  go_enter Tryz.func89, Tryz.ntmps89
  go_wp2_with fail
  go_ret
  exact R.out
 ·have hm : 0 < m := by
   rcases Nat.eq_zero_or_pos m with q | q
   ·exact absurd (List.eq_nil_of_length_eq_zero (by omega)) h0
   ·exact q
  have hm0 : ((m : Int) == 0) = false := by simp; omega
  have hbase : base ≤ w.heap.size := by have := hS.lo; have := hS.hi; have := hS.top; omega
  have hisB : isB (s.beg ++ hd) := hS.ok.1.app hC.rng
  have MK := Lib.hid (fun B' d' w1 (k : AppB base w w1 B m d B' (m + p) d' (s.beg ++ hd)) => Mid1.of hS.lo hS.hi hS.top hbk hown hlen hbeg hA hB k)
  have TB := Lib.hid (fun w1 (f : Fr (Mid base H) w w1) => tab_fr hT hT0 f)
  obtain ⟨x, u, e0, hO⟩ : ∃ x u e0, openF (s.beg ++ hd) = (x, u, e0) := ⟨_, _, _, rfl⟩
  have hlen2 : (s.beg ++ hd).length = m + p := by rw [List.length_append, hml, hC.len]
  have HO := Lib.hid hO
  have OK := Lib.hid (headF_ok hS.ok hC.rng)
  have hF : headF s hd = if e0 = 10 then (⟨s.out, s.beg ++ hd, s.frm⟩, true) else if e0 = 0 ∧ u = m + p then (⟨s.out ++ [(x, s.frm)], [], s.frm⟩, true) else (s, false) := by
   unfold headF
   rw [if_neg h0, hO, hlen2]
  have hu : e0 = 0 → u ≤ m + p := fun e => by
   subst e
   rw [← hlen2]
   exact (openF_ok hisB hO).1
  have HL := Lib.hid hlen2
  have HBG := Lib.hid hbeg
  have HIS := Lib.hid hisB
  obtain ⟨r, hr⟩ : ∃ r, headF s hd = r := ⟨_, rfl⟩
  rw [hr] at hF OK ⊢
  have HFF := Lib.hid hF
  have HCC := Lib.hid hC
  clear hS hbk hown hbeg hA hB hO h0 hT hT0 hr hisB hC hF
  go_enter Tryz.func89, Tryz.ntmps89
  go_wp2_with (at_builtin; refine wpList_app_beg rfl _ _ rfl base rfl HBG.out hm rfl HCC.out (by omega) hbase ?_)
  intro B' d' w1 k
  obtain ⟨k1, k2⟩ := MK.out B' d' w1 k.out
  have hc2 : w1.cell? ⟨fb, 1, none⟩ = some (.slice B m d) := k1.cell 1
  have hf2 : w1.frozen? ⟨fb, 1, none⟩ = false := k1.frz 1
  have hc3 : (w1.setCell ⟨fb, 1, none⟩ (.slice B' (m + p) d')).cell? ⟨fb, 1, none⟩ = some (.slice B' (m + p) d') := k2.up.blk.cell 1
  have C4 := Lib.hid (open_own B' (m + p) d' (s.beg ++ hd) _ k2.beg.bty.byt (by omega) (TB.out _ k2.up.fr) x u e0 HO.out)
  have K2 := Lib.hid k2
  clear k k1 k2 HBG HCC MK TB
  go_wp2_with fail
  refine C4.out.mono ?_
  rintro e w4 ⟨A5, n5, c5, rfl, ho5, hr5, b5⟩
  have K4 := Lib.hid (K2.out.below b5)
  have H5 := Lib.hid (Bty.of_own ho5 hr5)
  have hc4 : w4.cell? ⟨fb, 1, none⟩ = some (.slice B' (m + p) d') := K4.out.up.blk.cell 1
  clear ho5 hr5 b5 C4 K2 hc2 hf2 hc3
  have hF := HFF.out
  clear HFF
  by_cases he10 : e0 = 10
  ·subst he10
   rw [if_pos rfl] at hF
   subst hF
   have R := Lib.hid (K4.out.short OK.out (.returned (.bool true)) rfl)
   clear K4 H5 OK hu
   go_wp2_with fail
   go_ret
   exact R.out
  ·rw [if_neg he10] at hF
   by_cases he0 : e0 = 0
   ·subst he0
    have hne : ((0 : Int) == 10) = false := rfl
    clear he10
    by_cases hul : u = m + p
    ·subst hul
     rw [if_pos ⟨rfl, rfl⟩] at hF
     subst hF
     have hnum' : n ≤ 900000 := by omega
     have K5 := Lib.hid (fun A' c' w' k1 k2 k3 => K4.out.found (A' := A') (c' := c') (w' := w') OK.out k1 k2 k3)
     obtain ⟨i0, hi, hz0, hz1, hz2⟩ := info_parts info_fnd
     obtain ⟨S1, O1, B1, L1, S2⟩ := K4.out.up.pre (Nat.le_trans hbase (K4.out.up.fr.size)) H5.out
     have S2 := Lib.hid S2
     have RR := Lib.hid (fun A' c' w' k1 k2 k3 => (K5.out A' c' w' k1 k2 k3))
     have hS0 : w4.drew.cell? ⟨fb, 0, none⟩ = some (.slice A n c) ∧ w4.drew.cell? ⟨fb, 2, none⟩ = some (.int .i64 s.frm) ∧ Byt w4.drew A5 n5 c5 x := ⟨K4.out.up.blk.cell 0, K4.out.up.blk.cell 2, H5.out.byt.drew⟩
     obtain ⟨frm, hfrm⟩ : ∃ f, s.frm = f := ⟨_, rfl⟩
     rw [hfrm] at S1 O1 B1 L1 S2 RR hS0
     have HFR := Lib.hid hfrm
     have hc42 : w4.cell? ⟨fb, 2, none⟩ = some (.int .i64 frm) := hS0.2.1
     clear hfrm
     clear K4 H5 OK hu K5 HL HIS HO hml
     go_wp2_with fail
     refine wp_region_noPanic ?_
     refine upto_start (fun w' => w'.cell? ⟨fb, 0, none⟩ = some (.slice A n c) ∧ w'.cell? ⟨fb, 2, none⟩ = some (.int .i64 frm) ∧ Byt w' A5 n5 c5 x) 14 (by kernel_rfl) ?_
     change Upto _ _ _ _ _ 17 _ _ _
     refine Upto.tk 0 ?_ rfl (fun w' hS => ?_) hS0 ?_
     rotate_left
     ·(try dsimp only at hS); go_split_ands; go_simp; (try with_reducible rfl)
     simp only [Act.put, q1Pw23, q2Pw23, q3Pw23]
     refine Upto.tk 1 ?_ rfl (fun w' hS => ?_) hS0 ?_
     rotate_left
     ·(try dsimp only at hS); go_split_ands; go_simp; (try with_reducible rfl)
     simp only [Act.put, q1Pw23, q2Pw23, q3Pw23]
     refine Upto.tk 2 ?_ rfl (fun w' hS => ?_) hS0 ?_
     rotate_left
     ·(try dsimp only at hS); go_split_ands; go_simp; (try with_reducible rfl)
     simp only [Act.put, q1Pw23, q2Pw23, q3Pw23]
     refine Upto.tk 3 ?_ rfl (fun w' hS => ?_) hS0 ?_
     rotate_left
     ·(try dsimp only at hS); go_split_ands; go_simp; (try with_reducible rfl)
     simp only [Act.put, q1Pw23, q2Pw23, q3Pw23]
     refine Upto.tk 4 ?_ rfl (fun w' hS => ?_) hS0 ?_
     rotate_left
     ·(try dsimp only at hS); go_split_ands; go_simp; (try with_reducible rfl)
     simp only [Act.put, q1Pw23, q2Pw23, q3Pw23]
     refine Upto.tk 5 ?_ rfl (fun w' hS => ?_) hS0 ?_
     rotate_left
     ·(try dsimp only at hS); go_split_ands; go_simp; (try with_reducible rfl)
     simp only [Act.put, q1Pw23, q2Pw23, q3Pw23]
     refine Upto.take (i := 6) rfl (by kernel_rfl) (fun _ _ _ h => h) rfl (fun w' hS => exec_conv rfl (by exact conv_byt hS.2.2)) hS0 ?_
     simp only [Act.put, q1Pw23, q2Pw23, q3Pw23]
     refine Upto.tk 7 ?_ rfl (fun w' hS => ?_) hS0 ?_
     rotate_left
     ·(try dsimp only at hS); go_split_ands; go_simp; (try with_reducible rfl)
     simp only [Act.put, q1Pw23, q2Pw23, q3Pw23]
     refine Upto.tk 8 ?_ rfl (fun w' hS => ?_) hS0 ?_
     rotate_left
     ·(try dsimp only at hS); go_split_ands; go_simp; (try with_reducible rfl)
     simp only [Act.put, q1Pw23, q2Pw23, q3Pw23]
     refine Upto.tk 9 ?_ rfl (fun w' hS => ?_) hS0 ?_
     rotate_left
     ·(try dsimp only at hS); go_split_ands; go_simp; (try with_reducible rfl)
     simp only [Act.put, q1Pw23, q2Pw23, q3Pw23]
     refine Upto.tk 10 ?_ rfl (fun w' hS => ?_) hS0 ?_
     rotate_left
     ·(try dsimp only at hS); go_split_ands; go_simp; (try with_reducible rfl)
     simp only [Act.put, q1Pw23, q2Pw23, q3Pw23]
     refine Upto.take (i := 11) rfl (by kernel_rfl) (fun _ _ _ h => h) rfl (fun w' hS => exec_build rfl [(0, .string (strOfNums x)), (1, .int .i64 frm)] (by rfl) (built_fnd _ _)) hS0 ?_
     simp only [Act.put, q1Pw23, q2Pw23, q3Pw23]
     refine Upto.only (i := 12) rfl (by kernel_rfl) rfl (exec_buildSlice rfl [(0, .agg #[.string (strOfNums x), .int .i64 frm])] (by rfl) (bslice_fnd _ _ _)) (S1.out _ rfl) ?_
     simp only [Act.put, q1Pw23, q2Pw23, q3Pw23]
     refine Upto.law (i := 13) rfl (by kernel_rfl) rfl (fun K hK => ?_)
     refine wp_append_1 _ _ 120 (by rfl) base 123 i0 _ 2 24 Tryz.underlying120 hi hz0 hz1 hz2 (by rfl) (by omega) (by rfl) (O1.out _ rfl) (g := w4.heap.size) (cs := #[.string (strOfNums x), .int .i64 frm]) (by rfl) (B1.out _ rfl) (by rfl) (fnd_one _ _) (by omega) (by omega) (L1.out _ rfl) ?_
     intro A' c' w' k1 k2 k3
     have hS3 := S2.out A' c' w' k1 k2
     have R := Lib.hid (RR.out A' c' w' k1 k2 k3)
     refine hK _ _ hS3.1 ?_
     have hc3 := hS3.1.1
     have hf3 := hS3.2
     clear hS3 k1 k2 k3 hK S1 O1 B1 L1 S2 RR
     simp only [Act.put, q1Pw23, q2Pw23, q3Pw23]
     refine Upto.tail rfl (by kernel_rfl) ?_
     simp only [List.drop_succ_cons, List.drop_zero]
     obtain ⟨hc6, hf6, R⟩ := R.out
     have R := Lib.hid R
     go_wp2_with fail
     refine NoPanic.normal ?_
     go_wp2_with fail
     go_ret
     rw [HFR.out]
     exact R.out
    ·have hlt : (u : Int) < ((m + p : Nat) : Int) := by have := hu rfl; omega
     have hlt : (u : Int) < (m : Int) + (p : Int) := by omega
     rw [if_neg (fun h => hul h.2)] at hF
     subst hF
     have R := Lib.hid (K4.out.bad (.returned (.bool false)) rfl)
     clear K4 H5 OK hu
     go_wp2_with fail
     go_ret
     exact R.out
   ·have hne : ((e0 : Int) == 10) = false := by simp; omega
    have hne0 : ((e0 : Int) != 0) = true := by simp; omega
    rw [if_neg (fun h => he0 h.1)] at hF
    clear he10 he0
    subst hF
    have R := Lib.hid (K4.out.bad (.returned (.bool false)) rfl)
    clear K4 H5 OK hu
    go_wp2_with fail
    go_ret
    exact R.out
end
end Go.Proofs.YtfmfmdiegabobabGreatDoor
