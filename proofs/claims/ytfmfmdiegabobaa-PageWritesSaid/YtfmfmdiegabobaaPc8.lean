/- What it says: contracts and plain mathematics that the laws' walks use, 8 of 8: each part's own remark says what; no condition. -/
import Derived.Test.YtfmfmdiegabobaaPc2
import Derived.Test.YtfmfmdiegabobaaPc0
import Derived.Test.YtfmfmdiegabobaaPc7

set_option linter.unusedSimpArgs false
set_option linter.unusedVariables false
set_option linter.deprecated false
set_option linter.unusedSectionVars false
set_option linter.all false

/- what a writer's methods gather, and that blocks of other types stand. -/
namespace Go.Proofs.Ytfmfmdiegabobaa
open Go.RowKit

/-- Blocks that are neither the writer's nor of bytes stand. -/
def Stn (b : Nat) (w w' : World) : Prop := ∀ (k : Nat) (t : TypeId) (cs : Array Value), k ≠ b → t ≠ 5 → Bk w k t cs → Bk w' k t cs
theorem Stn.of_below {b : Nat} {w w' : World} (h : Below w.heap.size w w') : Stn b w w' := fun _ _ _ _ _ hb => hb.bel h hb.lt
theorem Stn.then {b : Nat} {w w1 w2 : World} (h : Stn b w w1) (k : Stn b w1 w2) : Stn b w w2 := fun g t cs hg ht hb => k g t cs hg ht (h g t cs hg ht hb)
/-- What a writer's method leaves. -/
def RetT (base b : Nat) (l : List Int) (w : World) (e : Ending) (w' : World) : Prop := RetW base b l w e w' ∧ Stn b w w'
theorem RetT.snd {base b : Nat} {l : List Int} {w w1 w2 : World} {e : Ending} (hb : base ≤ w.heap.size) (h : Below w.heap.size w w1) (k : RetT base b l w1 e w2) : RetT base b l w e w2 := ⟨k.1.snd (h.mono hb), (Stn.of_below h).then k.2⟩

set_option maxHeartbeats 1000000 in
theorem putT (base b : Nat) (l m : List Int) (A : Option Addr) (n c : Nat) (w : World) (h : Wrt w base b l) (hm : Byt w A n c m) (hn : l.length + n ≤ 140737488355328) :
    Calls Try.prog 50 #[.pointer (some ⟨b, 0, none⟩), .slice A n c] w (RetT base b (l ++ m) w) := by
  obtain ⟨i0, hi, hz0, hz1, hz2⟩ := info_parts info_u8
  obtain ⟨A0, n0, c0, hb, ho⟩ := h.ex
  have hl0 : l.length = n0 := by simpa using ho.1
  have hcell : w.cell? ⟨b, 0, none⟩ = some (.slice A0 n0 c0) := hb.cell 0
  have hbz : base ≤ w.heap.size := by have := hb.lt; have := h.low; omega
  have HE := fun A' n' c' w1 h1 h2 => @put_end base b l m w w1 A0 A' n0 c0 n' c' h.low hb hbz ho h.rng hm.rng h1 h2
  have HC := fun w1 h2 => @put_cell base b l w w1 A0 n0 c0 hb ho h2
  have HT : ∀ (w1 : World) (u : Value), w.grownBy w1 (Value.ownBlock (.slice A0 n0 c0)) → Stn b w (w1.setCell ⟨b, 0, none⟩ u) := fun w1 u h2 k t cs hk ht hkb => by
    have h3 : Bk w1 k t cs := bk_apart ho hkb (Ne.symm ht) h2
    exact (Below.heap_setCell w1 ⟨b, 0, none⟩ u k hk).trans h3
  have HE := Lib.hid HE
  have HC := Lib.hid HC
  have HT := Lib.hid HT
  have HO := Lib.hid ho
  clear h hb ho
  go_enter Try.func50, Try.ntmps50
  go_wp2_with (at_builtin; refine wpList_append_byt rfl _ _ 25 rfl base 5 i0 Try.underlying25 hi hz0 hz1 hz2 _ n0 l rfl (by exact HO.out) A n c m rfl hm (by omega) hbz ?_)
  intro A' c' w1 h1 h2
  obtain ⟨hc1, hf1⟩ := HC.out w1 h2
  have R := Lib.hid (HE.out _ _ _ w1 h1 h2)
  have RS := Lib.hid (HT.out w1 (.slice A' (n0 + n) c') h2)
  clear h1 h2 hcell hm HC HE HT
  go_wp2
  go_end0
  exact ⟨R.out, RS.out⟩

set_option maxHeartbeats 1000000 in
theorem numT (base b : Nat) (l : List Int) (z : Nat) (w : World) (h : Wrt w base b l) (hz : z ≤ 9223372036854775807) (hl : l.length ≤ 140737488350000) :
    Calls Try.prog 28 #[.pointer (some ⟨b, 0, none⟩), .int .i64 z] w (RetT base b (l ++ numL z) w) := by
  have GO : Hid (∀ (A : Option Addr) (k c : Nat) (w1 : World), Byt w1 A k c (shortL z) → Below w.heap.size w w1 → Calls Try.prog 50 #[.pointer (some ⟨b, 0, none⟩), .slice A k c] w1 (RetT base b (l ++ shortL z) w)) := Lib.hid (fun A k c w1 hb hbel => by
    have hk : k ≤ 10 := by rw [← hb.len]; exact shortL_len z (by omega)
    exact (putT base b l (shortL z) A k c w1 (h.ret hbel) hb (by omega)).mono fun e w2 hr => hr.snd h.base_le hbel)
  clear h
  rw [numL_nat]
  go_enter Try.func28, Try.ntmps28
  go_wp2_with fail
  refine (numShort_any z (by omega) w).mono ?_
  rintro e w1 ⟨A, k, c, rfl, hb, hbel⟩
  have C := Lib.hid (GO.out A k c w1 hb hbel)
  clear hb hbel
  go_wp2_with fail
  refine C.out.mono ?_
  rintro e w2 ⟨⟨rfl, R⟩, S⟩
  have R := Lib.hid R
  have S := Lib.hid S
  go_wp2_with fail
  go_end0
  exact ⟨⟨rfl, R.out⟩, S.out⟩

set_option maxHeartbeats 1000000 in
theorem flagT (base b : Nat) (l : List Int) (is : Bool) (w : World) (h : Wrt w base b l) (hl : l.length ≤ 140737488350000) :
    Calls Try.prog 53 #[.pointer (some ⟨b, 0, none⟩), .bool is] w (RetT base b (l ++ flagL is) w) := by
  have one : ∀ x : Int, 0 ≤ x ∧ x < 256 → Calls Try.prog 50 #[.pointer (some ⟨b, 0, none⟩), .slice (some ⟨w.heap.size, 0, none⟩) 1 1] (w.alloc (.cells #[.int .u8 x] 5)) (RetT base b (l ++ [x]) w) := fun x hx =>
    (putT base b l [x] _ 1 1 _ (h.ret ((Below.refl _ _).alloc (Nat.le_refl _) _)) (one_byt w x hx) (by omega)).mono fun e w2 hr => hr.snd h.base_le ((Below.refl _ _).alloc (Nat.le_refl _) _)
  cases is with
  | true =>
    have C := Lib.hid (one 1 (by omega))
    clear h one
    go_enter Try.func53, Try.ntmps53
    go_wp2_with fail
    refine C.out.mono ?_
    rintro e w2 ⟨⟨rfl, R⟩, S⟩
    have R := Lib.hid R
    have S := Lib.hid S
    go_wp2_with fail
    go_end0
    exact ⟨⟨rfl, R.out⟩, S.out⟩
  | false =>
    have C := Lib.hid (one 0 (by omega))
    clear h one
    go_enter Try.func53, Try.ntmps53
    go_wp2_with fail
    refine C.out.mono ?_
    rintro e w2 ⟨⟨rfl, R⟩, S⟩
    have R := Lib.hid R
    have S := Lib.hid S
    go_wp2_with fail
    go_end0
    exact ⟨⟨rfl, R.out⟩, S.out⟩

set_option maxHeartbeats 1000000 in
theorem textT (base b : Nat) (l : List Int) (s : ByteArray) (w : World) (h : Wrt w base b l) (hs : l.length + s.size ≤ 140737488350000) :
    Calls Try.prog 52 #[.pointer (some ⟨b, 0, none⟩), .string s] w (RetT base b (l ++ textL (nums s)) w) := by
  have go : ∀ w1, RetT base b (l ++ numL (s.size : Int)) w (.returned (.tuple #[])) w1 → Calls Try.prog 50 #[.pointer (some ⟨b, 0, none⟩), .slice (some ⟨w1.heap.size, 0, none⟩) s.size (grownCap w1 s.size 0 5)] (Lib.bytesWorld w1 5 s) (RetT base b (l ++ textL (nums s)) w) := by
    intro w1 hr
    have hlen : (numL (s.size : Int)).length ≤ 10 := numL_len _ (by omega)
    have hb := bytesWorld_below w1 5 s
    have := putT base b (l ++ numL (s.size : Int)) (nums s) _ _ _ _ (hr.1.2.1.ret hb) (Byt.ofString w1 5 s (by unfold maxLen; omega)) (by simp; omega)
    refine this.mono fun e w2 h2 => ?_
    have h3 := RetW.snd (hr.1.2.2.trans (hb.mono hr.1.2.1.base_le)) h2.1
    rw [List.append_assoc, numL_nat] at h3
    unfold textL
    rw [nums_len]
    exact ⟨h3, hr.2.then ((Stn.of_below hb).then h2.2)⟩
  have GO := Lib.hid go
  have CN := Lib.hid (numT base b l s.size w h (by omega) (by omega))
  have kc := conv_str
  clear go h
  go_enter Try.func52, Try.ntmps52
  go_wp2_with fail
  refine CN.out.mono ?_
  rintro e w1 ⟨⟨rfl, R⟩, S⟩
  have C := Lib.hid (GO.out w1 ⟨⟨rfl, R⟩, S⟩)
  clear R S
  go_wp2_with fail
  refine C.out.mono ?_
  rintro e w2 ⟨⟨rfl, R⟩, S⟩
  have R := Lib.hid R
  have S := Lib.hid S
  go_wp2_with fail
  go_end0
  exact ⟨⟨rfl, R.out⟩, S.out⟩
end Go.Proofs.Ytfmfmdiegabobaa

/- page.Encode answers a page's payload, or the error. -/
namespace Go.Proofs.Ytfmfmdiegabobaa
open Go.RowKit

/-- What Encode answers. -/
noncomputable def encPg (p : Pg) : List Int × Nat := if p.ok then (pgL p, 0) else ([], 1)
theorem encPg_ok {p : Pg} (h : p.ok) : encPg p = (pgL p, 0) := if_pos h
theorem encPg_no {p : Pg} (h : ¬ p.ok) : encPg p = ([], 1) := if_neg h
def RetEncP (r : List Int × Nat) (w : World) (e : Ending) (w' : World) : Prop :=
  ∃ A n c, e = .returned (.tuple #[.slice A n c, .int .i64 r.2]) ∧ w'.ownsRow w.heap.size 5 1 (.slice A n c) n (r.1.map (Value.int .u8)) ∧ (∀ x ∈ r.1, 0 ≤ x ∧ x < 256) ∧ Below w.heap.size w w'
theorem RetEncP.nil {w w' : World} (er : Nat) (hb : Below w.heap.size w w') : RetEncP ([], er) w (.returned (.tuple #[.slice none 0 0, .int .i64 er])) w' :=
  ⟨none, 0, 0, rfl, ⟨by simp, .inl ⟨rfl, rfl⟩⟩, by simp, hb⟩

theorem cl_small {c : Cl} (h : clOk c) : c.key.size ≤ 16 ∧ c.val.data.size ≤ 32 := by
  refine ⟨h.1.2, ?_⟩
  have := h.2
  unfold vlOk at this
  split at this
  · omega
  · rw [this]; simp
theorem own_lo {base base' k n : Nat} {e : TypeId} {w : World} {v : Value} {xs : List Value} (h : w.ownsRow base e k v n xs) (hb : base' ≤ base) : w.ownsRow base' e k v n xs := by
  refine ⟨h.1, ?_⟩
  rcases h.2 with q | ⟨g, cap, cur, q1, q2, q3⟩
  · exact .inl q
  · exact .inr ⟨g, cap, cur, q1, Nat.le_trans hb q2, q3⟩
/-- What is written of the first k cells. -/
def cellsL (l : List Cl) (k : Nat) : List Int := (l.take k).flatMap clL
theorem cellsL_next {l : List Cl} {k : Nat} (h : k < l.length) : cellsL l (k + 1) = cellsL l k ++ clL (l.getD k default) := by
  unfold cellsL
  rw [takeC_succ l k h, List.flatMap_append, List.flatMap_singleton]
theorem cellsL_len {l : List Cl} (h : ∀ c ∈ l, clOk c) (k : Nat) (hl : l.length ≤ 4) : (cellsL l k).length ≤ 204 := by
  have := cells_len (l := l.take k) (fun c hc => h c (List.mem_of_mem_take hc))
  rw [List.length_take] at this
  show ((l.take k).flatMap clL).length ≤ 204
  omega

set_option maxRecDepth 100000 in
set_option maxHeartbeats 4000000 in
theorem putCell_any (base b : Nat) (l : List Int) (c : Cl) (w : World) (h : Wrt w base b l) (hc : clOk c) (hl : l.length ≤ 1000000) :
    Calls Try.prog 29 #[.pointer (some ⟨b, 0, none⟩), .agg c.cells.toArray] w (RetT base b (l ++ clL c) w) := by
  obtain ⟨hk, hd⟩ := cl_small hc
  obtain ⟨k, ⟨f, d⟩⟩ := c
  simp only at hk hd
  show Calls _ _ #[.pointer (some ⟨b, 0, none⟩), .agg #[.string k, .bool f, .string d]] w _
  obtain ⟨W1, hW1⟩ : ∃ W, W = w.alloc (.cells #[.string k, .bool f, .string d] 54) := ⟨_, rfl⟩
  have b1 : Below w.heap.size w W1 := by rw [hW1]; exact (Below.refl _ _).alloc (Nat.le_refl _) _
  have hbase : base ≤ w.heap.size := h.base_le
  have hne : w.heap.size ≠ b := by have := h.lt; omega
  have H1 := Lib.hid (h.ret b1)
  have K1 : Hid (Bk W1 w.heap.size 54 #[.string k, .bool f, .string d]) := Lib.hid (by rw [hW1]; exact Bk.new w _ _)
  have B1 := Lib.hid b1
  have HW := Lib.hid hW1
  have k0 : W1.cell? ⟨w.heap.size, 0, none⟩ = some (.string k) := K1.out.cell 0
  have C1 := Lib.hid (textT base b l k W1 H1.out (by omega))
  have hlk : (textL (nums k)).length ≤ k.size + 10 := by have := textL_len (nums k) (by rw [nums_len]; omega); rw [nums_len] at this; exact this
  clear h b1 hW1
  go_enter Try.func29, Try.ntmps29
  go_upto_region 1 with fail
  rw [← HW.out]
  go_wp2_with fail
  refine C1.out.mono ?_
  rintro e w2 ⟨⟨rfl, hw2, hb2⟩, s2⟩
  have K2 := Lib.hid (s2 _ _ _ hne (by decide) K1.out)
  have S2 := Lib.hid s2
  have H2 := Lib.hid hw2
  have B2 := Lib.hid ((B1.out.mono hbase).trans hb2)
  have k1 : w2.cell? ⟨w.heap.size, 1, none⟩ = some (.bool f) := K2.out.cell 1
  have C2 := Lib.hid (flagT base b (l ++ textL (nums k)) f w2 H2.out (by rw [List.length_append]; omega))
  clear s2 hw2 hb2 C1 k0 H1
  go_wp2_with fail
  refine C2.out.mono ?_
  rintro e w3 ⟨⟨rfl, hw3, hb3⟩, s3⟩
  have K3 := Lib.hid (s3 _ _ _ hne (by decide) K2.out)
  have S3 : Hid (Stn b w w3) := Lib.hid ((Stn.of_below B1.out).then (S2.out.then s3))
  have H3 := Lib.hid hw3
  have B3 := Lib.hid (B2.out.trans hb3)
  have y1 : w3.cell? ⟨w.heap.size, 1, none⟩ = some (.bool f) := K3.out.cell 1
  have y2 : w3.cell? ⟨w.heap.size, 2, none⟩ = some (.string d) := K3.out.cell 2
  clear s3 hw3 hb3 C2 k1 H2 S2 B2 K2
  cases f with
  | false =>
    have R : Hid (RetT base b (l ++ clL ⟨k, ⟨false, d⟩⟩) w (.returned (.tuple #[])) w3) := Lib.hid ⟨⟨rfl, by
      have := H3.out
      rw [List.append_assoc] at this
      unfold clL valL
      simpa using this, B3.out⟩, S3.out⟩
    go_wp2_with fail
    go_end0
    exact R.out
  | true =>
    have C3 := Lib.hid (textT base b ((l ++ textL (nums k)) ++ flagL true) d w3 H3.out (by simp only [List.length_append]; have : (flagL true).length = 1 := rfl; omega))
    go_wp2_with fail
    refine C3.out.mono ?_
    rintro e w4 ⟨⟨rfl, hw4, hb4⟩, s4⟩
    have R : Hid (RetT base b (l ++ clL ⟨k, ⟨true, d⟩⟩) w (.returned (.tuple #[])) w4) := Lib.hid ⟨⟨rfl, by
      have := hw4
      unfold clL valL
      simp only [List.append_assoc, if_true] at this ⊢
      exact this, B3.out.trans hb4⟩, S3.out.then s4⟩
    clear hw4 hb4 s4 C3
    go_wp2_with fail
    go_end0
    exact R.out

set_option maxRecDepth 100000 in
set_option maxHeartbeats 8000000 in
theorem pgEnc_any (lsn : Int) (A : Option Addr) (n c : Nat) (l : List Cl) (w : World) (h : Pcs w A n c l) :
    Calls Try.prog 10 #[pgV lsn A n c] w (RetEncP (encPg ⟨lsn, l⟩) w) := by
  have hcap := h.flt.cap
  have hmax := h.flt.max
  unfold maxLen at hmax
  have hlen := Lib.hid h.len
  obtain ⟨W0, hW0⟩ : ∃ W, W = w.alloc (.cells #[.int .i64 lsn, .slice A n c] 24) := ⟨_, rfl⟩
  have HB : Hid (Below w.heap.size w W0) := Lib.hid (by rw [hW0]; exact (Below.refl _ _).alloc (Nat.le_refl _) _)
  have BP : Hid (Bk W0 w.heap.size 24 #[.int .i64 lsn, .slice A n c]) := Lib.hid (by rw [hW0]; exact Bk.new w _ _)
  have HP := Lib.hid (h.below HB.out)
  have p0 : W0.cell? ⟨w.heap.size, 0, none⟩ = some (.int .i64 lsn) := BP.out.cell 0
  have p1 : W0.cell? ⟨w.heap.size, 1, none⟩ = some (.slice A n c) := BP.out.cell 1
  have C := isPage_any lsn A n c l W0 HP.out
  have HW := Lib.hid hW0
  have HP0 := Lib.hid h
  clear h hW0
  by_cases hok : (⟨lsn, l⟩ : Pg).ok
  rotate_left
  · rw [decide_eq_false hok] at C
    have C := Lib.hid C
    rw [encPg_no hok]
    clear hok
    go_enter Try.func10, Try.ntmps10
    go_upto_region 1 with fail
    rw [← HW.out]
    go_wp2_with fail
    refine C.out.mono ?_
    rintro e w1 ⟨rfl, b1⟩
    have R := Lib.hid (RetEncP.nil (w := w) 1 (Below.then HB.out b1))
    clear b1 C
    go_wp2_with fail
    go_ret2
    exact R.out
  rw [decide_eq_true hok] at C
  have C := Lib.hid C
  rw [encPg_ok hok]
  obtain ⟨⟨hl0, hl1⟩, hl4, hcl⟩ := hok
  simp only at hl0 hl1 hl4 hcl
  have hall := ((clsOk_pw l).1 hcl).1
  have HALL := Lib.hid hall
  obtain ⟨z, rfl⟩ := Int.eq_ofNat_of_zero_le hl0
  have hzl : (numL (z : Int)).length ≤ 10 := numL_len _ (by omega)
  have hnl : (numL (n : Int)).length ≤ 10 := numL_len _ (by have := hlen.out; omega)
  have hn4 : n ≤ 4 := by rw [← hlen.out]; exact hl4
  have HCL : Hid (∀ k, (cellsL l k).length ≤ 204) := Lib.hid (fun k => cellsL_len hall k hl4)
  clear hcl hall hl4
  go_enter Try.func10, Try.ntmps10
  go_upto_region 1 with fail
  rw [← HW.out]
  go_wp2_with fail
  refine C.out.mono ?_
  rintro e w1 ⟨rfl, b1⟩
  have B1 := Lib.hid (Below.then HB.out b1)
  have P1 := Lib.hid (BP.out.bel b1 BP.out.lt)
  clear b1 C p0 p1
  go_upto_region 4 with fail
  obtain ⟨W2, hW2⟩ : ∃ W, W = w1.alloc (.cells #[.slice none 0 0] 56) := ⟨_, rfl⟩
  rw [← hW2]
  have b2 : Below w1.heap.size w1 W2 := by rw [hW2]; exact (Below.refl _ _).alloc (Nat.le_refl _) _
  have H2 : Hid (Wrt W2 w1.heap.size w1.heap.size []) := Lib.hid (by rw [hW2]; exact Wrt.new w1)
  have P2 := Lib.hid (P1.out.bel b2 P1.out.lt)
  have B2 := Lib.hid (Below.then B1.out b2)
  have hwb : w.heap.size < w1.heap.size := P1.out.lt
  have hne : w.heap.size ≠ w1.heap.size := by omega
  clear hW2 b2 P1
  have p0 : W2.cell? ⟨w.heap.size, 0, none⟩ = some (.int .i64 (z : Int)) := P2.out.cell 0
  have p1 : W2.cell? ⟨w.heap.size, 1, none⟩ = some (.slice A n c) := P2.out.cell 1
  obtain ⟨wb, hwbe⟩ : ∃ x, w1.heap.size = x := ⟨_, rfl⟩
  rw [hwbe] at H2 hwb hne
  (try rw [hwbe])
  have C3 := Lib.hid (numT wb wb [] z W2 H2.out (by omega) (by simp))
  go_wp2_with fail
  refine C3.out.mono ?_
  rintro e w3 ⟨⟨rfl, hw3, hb3⟩, s3⟩
  have P3 := Lib.hid (s3 _ _ _ hne (by decide) P2.out)
  have H3 := Lib.hid hw3
  have B3 := Lib.hid (B2.out.trans (hb3.mono (Nat.le_of_lt hwb)))
  clear hw3 hb3 s3 C3 p0 p1 P2 H2 B2
  have p1 : w3.cell? ⟨w.heap.size, 1, none⟩ = some (.slice A n c) := P3.out.cell 1
  have C4 := Lib.hid (numT wb wb ([] ++ numL (z : Int)) n w3 H3.out (by omega) (by simp; omega))
  go_wp2_with fail
  refine C4.out.mono ?_
  rintro e w4 ⟨⟨rfl, hw4, hb4⟩, s4⟩
  have P4 := Lib.hid (s4 _ _ _ hne (by decide) P3.out)
  obtain ⟨pre, hpre⟩ : ∃ x, ([] ++ numL (z : Int)) ++ numL (n : Int) = x := ⟨_, rfl⟩
  have hprel : pre.length ≤ 20 := by rw [← hpre]; simp only [List.length_append, List.length_nil]; omega
  rw [hpre] at hw4
  have H4 := Lib.hid hw4
  have B4 := Lib.hid (B3.out.trans (hb4.mono (Nat.le_of_lt hwb)))
  have HPRE := Lib.hid hpre
  clear hw4 hb4 s4 C4 p1 P3 H3 B3 hpre
  have p1 : w4.cell? ⟨w.heap.size, 1, none⟩ = some (.slice A n c) := P4.out.cell 1
  go_wp2_with fail
  go_loopw [20] (fun y wr => ∃ k : Nat, k ≤ n ∧ y = .int .i64 k ∧ Wrt wr wb wb (pre ++ cellsL l k) ∧ Bk wr w.heap.size 24 #[.int .i64 (z : Int), .slice A n c] ∧ Below w.heap.size w wr) (fun y _ => n - (intOf y).toNat)
  case atStart => exact ⟨0, Nat.zero_le _, rfl, by simpa [cellsL] using H4.out, P4.out, B4.out⟩
  case round =>
    obtain ⟨k, hk, rfl, hw, hp, hb⟩ := hrel
    have H := Lib.hid hw
    have PB := Lib.hid hp
    have B := Lib.hid hb
    clear hw hp H4 P4 B4 p1
    by_cases hlt : k < n
    · have hlt' : (k : Int) < (n : Int) := by omega
      obtain ⟨g, off, rfl, _, hc⟩ := (HP0.out.below hb).get (by omega)
      obtain ⟨a0, a1, a2⟩ := hc k hlt
      obtain ⟨x, hx⟩ : ∃ x, l.getD k default = x := ⟨_, rfl⟩
      have hxok : clOk x := by
        rw [← hx, List.getD_eq_getElem?_getD, List.getElem?_eq_getElem (by rw [hlen.out]; exact hlt)]
        exact HALL.out _ (List.getElem_mem _)
      rw [hx] at a0 a1 a2
      have HN : Hid ((pre ++ cellsL l k) ++ clL x = pre ++ cellsL l (k + 1)) := Lib.hid (by rw [cellsL_next (by rw [hlen.out]; exact hlt), hx, List.append_assoc])
      obtain ⟨key, ⟨f, d⟩⟩ := x
      simp only at a0 a1 a2
      have b5 : Below wr.heap.size wr (wr.alloc (.cells #[.string key, .bool f, .string d] 54)) := (Below.refl _ _).alloc (Nat.le_refl _) _
      have CP : Calls Try.prog 29 #[.pointer (some ⟨wb, 0, none⟩), .agg #[.string key, .bool f, .string d]] (wr.alloc (.cells #[.string key, .bool f, .string d] 54)) _ := putCell_any wb wb (pre ++ cellsL l k) ⟨key, ⟨f, d⟩⟩ _ (H.out.ret b5) hxok (by rw [List.length_append]; have := HCL.out k; omega)
      have CP := Lib.hid CP
      have P5 := Lib.hid (PB.out.bel b5 PB.out.lt)
      have B5 := Lib.hid (Below.then B.out b5)
      clear hb hc hx hxok b5
      go_wp2_with fail
      refine CP.out.mono ?_
      rintro e w6 ⟨⟨rfl, hw6, hb6⟩, s6⟩
      rw [HN.out] at hw6
      have H6 := Lib.hid hw6
      have P6 := Lib.hid (s6 _ _ _ hne (by decide) P5.out)
      have B6 := Lib.hid (B5.out.trans (hb6.mono (Nat.le_of_lt hwb)))
      clear hw6 hb6 s6 CP a0 a1 a2 H PB B P5 B5
      go_wp2_with fail
      go_roundw
      case rel => exact ⟨k + 1, by omega, by go_num, H6.out, P6.out, B6.out⟩
      case measure => simp [intOf]; omega
    · obtain rfl : k = n := by omega
      have CB := Lib.hid (wBytes_own wb wb (pre ++ cellsL l k) wr H.out (by rw [List.length_append]; have := HCL.out k; omega))
      have E : Hid (pre ++ cellsL l k = pgL ⟨(z : Int), l⟩) := Lib.hid (by
        rw [← HPRE.out]
        unfold cellsL pgL encList
        rw [List.take_of_length_le (by rw [hlen.out]; omega)]
        simp only [List.nil_append, List.append_assoc, hlen.out])
      clear hb hlt
      go_wp2_with fail
      refine CB.out.mono ?_
      rintro e w7 ⟨A7, n7, c7, rfl, ho7, hr7, b7⟩
      have R : Hid (RetEncP (pgL ⟨(z : Int), l⟩, 0) w (.returned (.tuple #[.slice A7 n7 c7, .int .i64 0])) w7) := Lib.hid (by
        rw [E.out] at ho7 hr7
        exact ⟨A7, n7, c7, rfl, own_lo ho7 B.out.size, hr7, Below.then B.out b7⟩)
      clear ho7 hr7 b7 CB
      go_wp2_with fail
      go_ret2
      exact R.out
end Go.Proofs.Ytfmfmdiegabobaa

/- trothref10.Encode answers a page's payload, or the error. -/
namespace Go.Proofs.Ytfmfmdiegabobaa
open Go.RowKit

/-- Bytes that are gathered: a row of one's own; nothing below has turned. -/
structure Gat (B : Nat) (W0 w : World) (A : Option Addr) (n c : Nat) (L : List Int) : Prop where
  own : w.ownsRow B 5 1 (.slice A n c) n (L.map (Value.int .u8))
  rng : ∀ x ∈ L, 0 ≤ x ∧ x < 256
  below : Below B W0 w
  hb : B ≤ w.heap.size
theorem Gat.new {B : Nat} {W0 w w' : World} {A : Option Addr} {n c : Nat} {L : List Int} (h : Gat B W0 w A n c L) (hb : Below w.heap.size w w') : Gat B W0 w' A n c L :=
  ⟨own_stay h.own (fun q hq => hb.block q (h.own.lt q hq).2), h.rng, h.below.trans (hb.mono h.hb), Nat.le_trans h.hb hb.size⟩
theorem Gat.app {B : Nat} {W0 w w' : World} {A A' : Option Addr} {n c m c' : Nat} {L L' : List Int} (h : Gat B W0 w A n c L) (ho : w'.ownsRow B 5 1 (.slice A' (n + m) c') (n + m) ((L ++ L').map (Value.int .u8))) (hr : ∀ x ∈ L', 0 ≤ x ∧ x < 256) (hg : w.grownBy w' (Value.slice A n c).ownBlock) : Gat B W0 w' A' (n + m) c' (L ++ L') :=
  ⟨ho, fun x hx => by
    rcases List.mem_append.1 hx with q | q
    · exact h.rng x q
    · exact hr x q, h.below.grown hg h.hb (fun k hk => (h.own.lt k hk).1), Nat.le_trans h.hb hg.size⟩
theorem Gat.len {B : Nat} {W0 w : World} {A : Option Addr} {n c : Nat} {L : List Int} (h : Gat B W0 w A n c L) : n = L.length := by have := h.own.1; simpa using this.symm
theorem shortL_of {z : Nat} : numL (z : Int) = shortL z := numL_nat z

set_option maxRecDepth 100000 in
set_option maxHeartbeats 8000000 in
theorem rpEnc_any (lsn : Int) (A : Option Addr) (n c : Nat) (l : List Cl) (w : World) (h : Pcs w A n c l) :
    Calls Try.prog 12 #[pgV lsn A n c] w (RetEncP (encPg ⟨lsn, l⟩) w) := by
  obtain ⟨i0, hi, hz0, hz1, hz2⟩ := info_parts info_u8
  have hcap := h.flt.cap
  have hmax := h.flt.max
  unfold maxLen at hmax
  have hlen := Lib.hid h.len
  obtain ⟨W0, hW0⟩ : ∃ W, W = w.alloc (.cells #[.int .i64 lsn, .slice A n c] 24) := ⟨_, rfl⟩
  have HB : Hid (Below w.heap.size w W0) := Lib.hid (by rw [hW0]; exact (Below.refl _ _).alloc (Nat.le_refl _) _)
  have BP : Hid (Bk W0 w.heap.size 24 #[.int .i64 lsn, .slice A n c]) := Lib.hid (by rw [hW0]; exact Bk.new w _ _)
  have HP := Lib.hid (h.below HB.out)
  have p0 : W0.cell? ⟨w.heap.size, 0, none⟩ = some (.int .i64 lsn) := BP.out.cell 0
  have p1 : W0.cell? ⟨w.heap.size, 1, none⟩ = some (.slice A n c) := BP.out.cell 1
  have C := may10_any lsn A n c l W0 HP.out
  have HW := Lib.hid hW0
  have HP0 := Lib.hid h
  clear h hW0
  by_cases hok : (⟨lsn, l⟩ : Pg).ok
  rotate_left
  · rw [decide_eq_false hok] at C
    have C := Lib.hid C
    rw [encPg_no hok]
    clear hok
    go_enter Try.func12, Try.ntmps12
    go_upto_region 1 with fail
    rw [← HW.out]
    go_wp2_with fail
    refine C.out.mono ?_
    rintro e w1 ⟨rfl, b1⟩
    have R := Lib.hid (RetEncP.nil (w := w) 1 (Below.then HB.out b1))
    clear b1 C
    go_wp2_with fail
    go_ret2
    exact R.out
  rw [decide_eq_true hok] at C
  have C := Lib.hid C
  rw [encPg_ok hok]
  obtain ⟨⟨hl0, hl1⟩, hl4, hcl⟩ := hok
  simp only at hl0 hl1 hl4 hcl
  have hall := ((clsOk_pw l).1 hcl).1
  have HALL := Lib.hid hall
  have hzl : (numL lsn).length ≤ 10 := numL_len _ (by omega)
  have hnl : (numL (n : Int)).length ≤ 10 := numL_len _ (by have := hlen.out; omega)
  have hn4 : n ≤ 4 := by rw [← hlen.out]; exact hl4
  have HCL : Hid (∀ k, (cellsL l k).length ≤ 204) := Lib.hid (fun k => cellsL_len hall k hl4)
  clear hcl hall hl4
  go_enter Try.func12, Try.ntmps12
  go_upto_region 1 with fail
  rw [← HW.out]
  go_wp2_with fail
  refine C.out.mono ?_
  rintro e w1 ⟨rfl, b1⟩
  have B1 := Lib.hid (Below.then HB.out b1)
  have P1 := Lib.hid (BP.out.bel b1 BP.out.lt)
  clear b1 C p0 p1
  have p0 : w1.cell? ⟨w.heap.size, 0, none⟩ = some (.int .i64 lsn) := P1.out.cell 0
  have p1 : w1.cell? ⟨w.heap.size, 1, none⟩ = some (.slice A n c) := P1.out.cell 1
  have CN := Lib.hid (refNum_own lsn w1 (by omega))
  have hP1 : w.heap.size < w1.heap.size := P1.out.lt
  go_wp2_with fail
  refine CN.out.mono ?_
  rintro e w2 ⟨A2, n2, c2, rfl, ho2, hr2, b2⟩
  have G2 : Hid (Gat w1.heap.size w1 w2 A2 n2 c2 (numL lsn)) := Lib.hid ⟨ho2, hr2, b2, b2.size⟩
  have PC : Hid (∀ w', Below w1.heap.size w1 w' → w'.cell? ⟨w.heap.size, 1, none⟩ = some (.slice A n c)) := Lib.hid (fun w' hb => (P1.out.bel hb P1.out.lt).cell 1)
  clear ho2 hr2 b2 CN p0 p1
  have p1 := PC.out _ G2.out.below
  have CN := Lib.hid (refNum_own (n : Int) w2 (by omega))
  go_wp2_with fail
  refine CN.out.mono ?_
  rintro e w3 ⟨A3, n3, c3, rfl, ho3, hr3, b3⟩
  have G3 := Lib.hid (G2.out.new b3)
  have Y3 := Lib.hid (Byt.of_own ho3 hr3)
  have hn2 : n2 ≤ 10 := by rw [G2.out.len]; exact hzl
  have hn3 : n3 ≤ 10 := by rw [← Y3.out.len]; exact hnl
  clear ho3 hr3 b3 CN p1
  go_wp2_with (at_builtin; refine wpList_append_byt rfl _ _ 25 rfl w1.heap.size 5 i0 Try.underlying25 hi hz0 hz1 hz2 _ n2 (numL lsn) rfl (by exact G3.out.own) A3 n3 c3 (numL (n : Int)) rfl Y3.out (by omega) G3.out.hb ?_)
  intro A4 c4 w4 k1 k2
  obtain ⟨pre, hpre⟩ : ∃ x, numL lsn ++ numL (n : Int) = x := ⟨_, rfl⟩
  have hprel : pre.length ≤ 20 := by rw [← hpre, List.length_append]; omega
  have g4 := G3.out.app (by simpa using k1) Y3.out.rng k2
  rw [hpre] at g4
  have G4 := Lib.hid g4
  have HPRE := Lib.hid hpre
  clear k1 k2 g4 hpre Y3 G3 G2
  go_wp2_with fail
  go_loopw [4, 5] (fun y z wr => ∃ (k : Nat) (A5 : Option Addr) (n5 c5 : Nat), k ≤ n ∧ y = .slice A5 n5 c5 ∧ z = .int .i64 k ∧ Gat w1.heap.size w1 wr A5 n5 c5 (pre ++ cellsL l k)) (fun _ z _ => n - (intOf z).toNat)
  case atStart => exact ⟨0, A4, n2 + n3, c4, Nat.zero_le _, rfl, rfl, by simpa [cellsL] using G4.out⟩
  case round =>
    obtain ⟨k, A5, n5, c5, hk, rfl, rfl, hg⟩ := hrel
    have G := Lib.hid hg
    have hn5 : n5 ≤ 300 := by rw [hg.len, List.length_append]; have := HCL.out k; omega
    have p1 := PC.out _ hg.below
    clear hg G4
    by_cases hlt : k < n
    · have hlt' : (k : Int) < (n : Int) := by omega
      obtain ⟨g, off, rfl, _, hc⟩ := (HP0.out.below (B1.out.trans (G.out.below.mono (Nat.le_of_lt hP1)))).get (by omega)
      obtain ⟨a0, a1, a2⟩ := hc k hlt
      obtain ⟨x, hx⟩ : ∃ x, l.getD k default = x := ⟨_, rfl⟩
      have hxok : clOk x := by
        rw [← hx, List.getD_eq_getElem?_getD, List.getElem?_eq_getElem (by rw [hlen.out]; exact hlt)]
        exact HALL.out _ (List.getElem_mem _)
      obtain ⟨hks, hds⟩ := cl_small hxok
      rw [hx] at a0 a1 a2
      have HN : Hid (pre ++ cellsL l (k + 1) = (pre ++ cellsL l k) ++ clL x) := Lib.hid (by rw [cellsL_next (by rw [hlen.out]; exact hlt), hx, List.append_assoc])
      obtain ⟨key, ⟨f, d⟩⟩ := x
      simp only at a0 a1 a2 hks hds
      have b6 : Below wr.heap.size wr (wr.alloc (.cells #[.string key, .bool f, .string d] 54)) := (Below.refl _ _).alloc (Nat.le_refl _) _
      have G6 := Lib.hid (G.out.new b6)
      have K6 : Hid (Bk (wr.alloc (.cells #[.string key, .bool f, .string d] 54)) wr.heap.size 54 #[.string key, .bool f, .string d]) := Lib.hid (Bk.new wr _ _)
      have CT := Lib.hid (refText_own key (wr.alloc (.cells #[.string key, .bool f, .string d] 54)) (by omega))
      have htk : (textL (nums key)).length ≤ 26 := by have := textL_len (nums key) (by rw [nums_len]; omega); rw [nums_len] at this; omega
      clear hc hx hxok b6
      go_wp2_with fail
      refine CT.out.mono ?_
      rintro e w7 ⟨A7, n7, c7, rfl, ho7, hr7, b7⟩
      have G7 := Lib.hid (G6.out.new b7)
      have K7 := Lib.hid (K6.out.bel b7 K6.out.lt)
      have Y7 := Lib.hid (Byt.of_own ho7 hr7)
      have hn7 : n7 ≤ 26 := by rw [← Y7.out.len]; exact htk
      clear ho7 hr7 b7 CT G6 K6 a0 a1 a2 p1
      go_wp2_with (at_builtin; refine wpList_append_byt rfl _ _ 25 rfl w1.heap.size 5 i0 Try.underlying25 hi hz0 hz1 hz2 _ n5 (pre ++ cellsL l k) rfl (by exact G7.out.own) A7 n7 c7 (textL (nums key)) rfl Y7.out (by omega) G7.out.hb ?_)
      intro A8 c8 w8 k1 k2
      have G8 := Lib.hid (G7.out.app (by simpa using k1) Y7.out.rng k2)
      have K8 := Lib.hid (bk_apart G7.out.own K7.out (by decide) k2)
      clear k1 k2 G7 K7 Y7
      have y1 : w8.cell? ⟨wr.heap.size, 1, none⟩ = some (.bool f) := K8.out.cell 1
      cases f with
      | false =>
        have b9 : Below w8.heap.size w8 (w8.alloc (.cells #[.int .u8 0] 5)) := (Below.refl _ _).alloc (Nat.le_refl _) _
        have G9 := Lib.hid (G8.out.new b9)
        have Y9 := Lib.hid (one_byt w8 0 (by omega))
        clear b9
        go_wp2_with (at_builtin; refine wpList_append_byt rfl _ _ 25 rfl w1.heap.size 5 i0 Try.underlying25 hi hz0 hz1 hz2 _ (n5 + n7) ((pre ++ cellsL l k) ++ textL (nums key)) rfl (by exact G9.out.own) (some ⟨w8.heap.size, 0, none⟩) 1 1 [0] rfl Y9.out (by omega) G9.out.hb ?_)
        intro A10 c10 w10 k1 k2
        have g10 := G9.out.app (by simpa using k1) Y9.out.rng k2
        have GN : Hid (Gat w1.heap.size w1 w10 A10 (n5 + n7 + 1) c10 (pre ++ cellsL l (k + 1))) := Lib.hid (by
          rw [HN.out]
          unfold clL valL
          simpa [flagL] using g10)
        clear k1 k2 g10 G9 Y9 G8 K8 y1
        go_wp2_with fail
        go_roundw
        case rel => exact ⟨k + 1, A10, n5 + n7 + 1, c10, by omega, rfl, by go_num, GN.out⟩
        case measure => simp [intOf]; omega
      | true =>
        have b9 : Below w8.heap.size w8 (w8.alloc (.cells #[.int .u8 1] 5)) := (Below.refl _ _).alloc (Nat.le_refl _) _
        have G9 := Lib.hid (G8.out.new b9)
        have K9 := Lib.hid (K8.out.bel b9 K8.out.lt)
        have Y9 := Lib.hid (one_byt w8 1 (by omega))
        clear b9
        go_wp2_with (at_builtin; refine wpList_append_byt rfl _ _ 25 rfl w1.heap.size 5 i0 Try.underlying25 hi hz0 hz1 hz2 _ (n5 + n7) ((pre ++ cellsL l k) ++ textL (nums key)) rfl (by exact G9.out.own) (some ⟨w8.heap.size, 0, none⟩) 1 1 [1] rfl Y9.out (by omega) G9.out.hb ?_)
        intro A10 c10 w10 k1 k2
        have G10 := Lib.hid (G9.out.app (by simpa using k1) Y9.out.rng k2)
        have K10 := Lib.hid (bk_apart G9.out.own K9.out (by decide) k2)
        clear k1 k2 G9 Y9 G8 K8 y1 K9
        have y2 : w10.cell? ⟨wr.heap.size, 2, none⟩ = some (.string d) := K10.out.cell 2
        have CT := Lib.hid (refText_own d w10 (by omega))
        have htd : (textL (nums d)).length ≤ 42 := by have := textL_len (nums d) (by rw [nums_len]; omega); rw [nums_len] at this; omega
        go_wp2_with fail
        refine CT.out.mono ?_
        rintro e w11 ⟨A11, n11, c11, rfl, ho11, hr11, b11⟩
        have G11 := Lib.hid (G10.out.new b11)
        have Y11 := Lib.hid (Byt.of_own ho11 hr11)
        have hn11 : n11 ≤ 42 := by rw [← Y11.out.len]; exact htd
        clear ho11 hr11 b11 CT G10 K10 y2
        go_wp2_with (at_builtin; refine wpList_append_byt rfl _ _ 25 rfl w1.heap.size 5 i0 Try.underlying25 hi hz0 hz1 hz2 _ (n5 + n7 + 1) (((pre ++ cellsL l k) ++ textL (nums key)) ++ [1]) rfl (by exact G11.out.own) A11 n11 c11 (textL (nums d)) rfl Y11.out (by omega) G11.out.hb ?_)
        intro A12 c12 w12 k1 k2
        have g12 := G11.out.app (by simpa using k1) Y11.out.rng k2
        have GN : Hid (Gat w1.heap.size w1 w12 A12 (n5 + n7 + 1 + n11) c12 (pre ++ cellsL l (k + 1))) := Lib.hid (by
          rw [HN.out]
          unfold clL valL
          simpa [flagL] using g12)
        clear k1 k2 g12 G11 Y11
        go_wp2_with fail
        go_roundw
        case rel => exact ⟨k + 1, A12, n5 + n7 + 1 + n11, c12, by omega, rfl, by go_num, GN.out⟩
        case measure => simp [intOf]; omega
    · obtain rfl : k = n := by omega
      have E : Hid (pre ++ cellsL l k = pgL ⟨lsn, l⟩) := Lib.hid (by
        rw [← HPRE.out]
        unfold cellsL pgL encList
        rw [List.take_of_length_le (by rw [hlen.out]; omega)]
        simp only [List.append_assoc, hlen.out])
      have R : Hid (RetEncP (pgL ⟨lsn, l⟩, 0) w (.returned (.tuple #[.slice A5 n5 c5, .int .i64 0])) wr) := Lib.hid (by
        have G := G.out
        rw [E.out] at G
        exact ⟨A5, n5, c5, rfl, own_lo G.own (Nat.le_of_lt hP1), G.rng, B1.out.trans (G.below.mono (Nat.le_of_lt hP1))⟩)
      clear hlt
      go_wp2_with fail
      go_ret2
      exact R.out
end Go.Proofs.Ytfmfmdiegabobaa
