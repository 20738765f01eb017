/- What it says: contracts and plain mathematics that the laws' walks use, 15 of 34: each part's own remark says what; no condition. -/
import Derived.Test.YtfldcddbmikfiaaPw14
import Derived.Test.YtfldcddbmikfiaaPw0
import Derived.LoopTactic
import Derived.Deep.CutBlock

set_option linter.unusedSimpArgs false
set_option linter.unusedVariables false
set_option linter.deprecated false
set_option linter.unusedSectionVars false
set_option linter.all false

/- rec.encode answers a record's bytes, if it may be. -/
namespace Go.Proofs.Ytfldcddbmikfiaa
open Go.RowKit

/-- What isSame answers. -/
def SameX (x y : Xr) : Prop := x.tx = y.tx ∧ x.prev = y.prev ∧ x.next = y.next ∧ x.key = y.key ∧ x.old.has = y.old.has ∧ x.old.data = y.old.data ∧ x.new.has = y.new.has ∧ x.new.data = y.new.data ∧ x.co = y.co ∧ x.mn = y.mn ∧ x.kn = y.kn ∧ x.rn = y.rn ∧ x.dn = y.dn ∧ x.en = y.en ∧ x.pn = y.pn
def IsSame : Prop := ∀ (x y : Xr) (w : World), Calls Try.prog 46 #[x.val, y.val] w (fun e w' => ∃ b, e = .returned (.bool b) ∧ (b = true ↔ SameX x y) ∧ Below w.heap.size w w')
theorem sameX_iff {H : Nat} {w w' : World} {x y : Xr} (hx : XrIn H w x) (hy : XrIn H w' y) : SameX x y ↔ sameRc x.read y.read := by
  unfold SameX sameRc Xr.read
  simp only [List.length_map, hx.mem.len, hx.lks.len, hx.rows.len, hx.dirty.len, hx.deeds.len, hx.past.len, hy.mem.len, hy.lks.len, hy.rows.len, hy.dirty.len, hy.deeds.len, hy.past.len]
  have v : ∀ a b : Vl, a = b ↔ a.has = b.has ∧ a.data = b.data := fun a b => ⟨fun h => by rw [h]; exact ⟨rfl, rfl⟩, fun h => by obtain ⟨a1, a2⟩ := a; obtain ⟨b1, b2⟩ := b; obtain ⟨h1, h2⟩ := h; simp only at h1 h2; subst h1 h2; rfl⟩
  rw [v x.old, v x.new]
  simp only [and_assoc]

theorem wpList_load_row_g {P : Program} {ops : Array Oper} {rest : List Oper} {o : Oper} {a : Act} {w : World} {Q : Exit → Act → World → Prop} (hgd : Region.wanted o (yielded ops a.tmps) = true) (ty : TypeId) (x : Operand) (ho : o.op = .load ty x)
    (g : Nat) (hx : a.eval x = .pointer (some ⟨g, 0, none⟩)) (t : TypeId) (cs : Array Value) (fr : Nat × Nat) (d : TypeDesc) (hg : w.heap[g]? = some (.cells cs t fr))
    (hu : P.underlying ty = some d) (hd : (match d with | .struct _ | .array _ _ => true | _ => false) = true) (hi : (P.info? ty).map (·.size) = some cs.size)
    (h : wpList P ops Q rest (a.put o.dst (.agg cs)) w) : wpList P ops Q (o :: rest) a w :=
  wpList_guarded hgd fun _ hK => wp_load_row ty x ho g hx t cs fr d hg hu hd hi (hK _ _ h)

/-- What encode answers. -/
def EncR (r : Rc) (w : World) (e : Ending) (w' : World) : Prop :=
  ((r.ok ∧ ∃ A n c, e = .returned (.tuple #[.slice A n c, .bool true]) ∧ w'.ownsRow w.heap.size 5 1 (.slice A n c) n ((rcL r).map (Value.int .u8)) ∧ (∀ x ∈ rcL r, 0 ≤ x ∧ x < 256) ∧ (rcL r).length ≤ 100000000000000) ∨
    (¬ r.ok ∧ e = .returned (.tuple #[.slice none 0 0, .bool false]))) ∧ Below w.heap.size w w'

def Xr.cells (x : Xr) : Array Value := #[.int .i64 x.kind, .int .i64 x.tx, .int .i64 x.prev, .int .i64 x.next, .string x.key, .bool x.old.has, .string x.old.data, .bool x.new.has, .string x.new.data, .int .i64 x.co, .slice x.mA x.mn x.mc, .slice x.kA x.kn x.kc, .slice x.rA x.rn x.rc, .slice x.dA x.dn x.dc, .slice x.eA x.en x.ec, .slice x.pA x.pn x.pc]
theorem Xr.val_eq (x : Xr) : x.val = .agg x.cells := rfl
theorem Xr.cells_size (x : Xr) : x.cells.size = 16 := rfl
theorem Xr.cells_one (x : Xr) : x.cells.all (·.oneCell') = true := by simp [Xr.cells, Value.oneCell']

/-- The kind and the fields, both passed on. -/
theorem whole_out {r y : Rc} {k1 : Int} {l l1 l2 : List Int} {B B1 B2 : Nat} {wr1 wr2 : Bool} (hk : 1 ≤ r.kind ∧ r.kind ≤ 10) (h : Goes (numS 1 10) r.kind (.out l B) false k1 (.out l1 B1) wr1) (k : Goes (kindSp r.kind) r (.out l1 B1) wr1 y (.out l2 B2) wr2) :
    (wr2 = false ↔ (kindSp r.kind).ok r) ∧ (wr2 = false → y = (kindSp r.kind).keep r ∧ l2 = l ++ rcL r) := by
  obtain ⟨l1', e1, h1, h2⟩ := h
  obtain ⟨l2', e2, k1', k2⟩ := k
  injection e1 with a1 a2
  injection e2 with b1 b2
  subst a1 b1
  have hw1 : wr1 = false := h1.2 ⟨rfl, hk⟩
  refine ⟨k1'.trans ⟨fun q => q.2, fun q => ⟨hw1, q⟩⟩, fun q => ?_⟩
  obtain ⟨c, d⟩ := k2 q
  refine ⟨c, ?_⟩
  rw [d, (h2 hw1).2, kindSp_enc]
  show l ++ numL r.kind ++ restLk r.kind r = l ++ rcL r
  rw [List.append_assoc]; rfl

set_option maxRecDepth 100000 in
set_option maxHeartbeats 8000000 in
theorem renc_any (HI : IsSame) (x : Xr) (w : World) (hx : XrIn w.heap.size w x) : Calls Try.prog 17 #[x.val] w (EncR x.read w) := by
  rw [Xr.val_eq]
  obtain ⟨r, hrr⟩ : ∃ r, w.heap.size = r := ⟨_, rfl⟩
  obtain ⟨C, hC⟩ : ∃ C, C = x.cells := ⟨_, rfl⟩
  rw [← hC]
  have hCs : C.size = 16 := by rw [hC]; rfl
  obtain ⟨W1, hW1⟩ : ∃ W1, W1 = ((w.alloc (.cells C 30)).alloc (.cells #[.slice none 0 0] 86)).alloc (.cells #[.pointer (some ⟨r + 1, 0, none⟩), .pointer none, .bool false] 71) := ⟨_, rfl⟩
  have hb0 : Below w.heap.size w (w.alloc (.cells C 30)) := (Below.refl _ _).alloc (Nat.le_refl _) _
  have hb1 : Below w.heap.size w ((w.alloc (.cells C 30)).alloc (.cells #[.slice none 0 0] 86)) := hb0.alloc (by simp) _
  have HB : Hid (Below w.heap.size w W1) := Lib.hid (by rw [hW1]; exact hb1.alloc (by simp; omega) _)
  have HV : Hid (Bk W1 r 30 C) := Lib.hid (by
    rw [hW1, ← hrr]
    exact ((Bk.new w _ _).bel ((Below.refl _ _).alloc (Nat.le_refl _) _) (by simp)).bel ((Below.refl _ _).alloc (Nat.le_refl _) _) (by simp; omega))
  have HP : Hid (Pst r W1 (r + 2) (.out [] 0) false) := Lib.hid (by
    refine ⟨r + 1, [], ⟨by omega, rfl⟩, ?_, ?_, Nat.le_refl _, fun _ => rfl⟩
    · rw [hW1, ← hrr]
      have := Bk.new ((w.alloc (.cells C 30)).alloc (.cells #[.slice none 0 0] 86)) 71 #[.pointer (some ⟨w.heap.size + 1, 0, none⟩), .pointer none, .bool false]
      rw [World.size_alloc, World.size_alloc] at this
      exact this
    · have wn := Wrt.new (w.alloc (.cells C 30))
      rw [World.size_alloc, hrr] at wn
      have wl : Wrt ((w.alloc (.cells C 30)).alloc (.cells #[.slice none 0 0] 86)) r (r + 1) [] := by
        obtain ⟨A, n, c, k1, k2⟩ := wn.ex
        exact ⟨by omega, wn.rng, A, n, c, k1, owns_low k2 (by omega)⟩
      rw [hW1]
      exact wl.ret ((Below.refl _ _).alloc (Nat.le_refl _) _))
  have hx1 : XrIn r W1 x := by rw [← hrr]; exact hx.calm (Calm.of_below HB.out)
  have HX := Lib.hid hx1
  have k0 : W1.cell? ⟨r, 0, none⟩ = some (.int .i64 x.kind) := by rw [HV.out.cell 0, hC]; rfl
  have CK := Lib.hid (kind_any (H := r) (pb := r + 2) (.out [] 0) false x.kind HP.out hx1.kind (by show 0 + 10 ≤ _; omega))
  have HW := Lib.hid hW1
  have HRR := Lib.hid hrr
  have HCS := Lib.hid hCs
  have HCE := Lib.hid hC
  clear hx hx1 hW1 hb0 hb1 hC hCs
  go_enter Try.func17, Try.ntmps17
  go_upto_region 3 with (refine wpList_store_new rfl rfl (c := #[.pointer none, .pointer none, .bool false]) (c' := #[.pointer (some ⟨r + 1, 0, none⟩), .pointer none, .bool false]) rfl (by simp [hrr]) rfl (by kernel_rfl) rfl rfl ?_; simp only [Act.put])
  (try rw [hrr])
  rw [← HW.out]
  clear HW hrr
  go_wp2_with fail
  refine CK.out.mono ?_
  rintro e v1 ⟨_, k1, s1, wr1, rfl, ⟨rfl, -⟩, hg1, hp1, hc1⟩
  have V1 := Lib.hid (HV.out.calm rfl hc1)
  have X1 := Lib.hid (HX.out.calm hc1)
  have G1 := Lib.hid hg1
  have P1 := Lib.hid hp1
  have C1 : Hid (Calm r w v1) := Lib.hid ((Calm.of_below HB.out).trans hc1)
  have R1 : Hid (s1.room 10000000) := Lib.hid (hg1.room (c := 10000000) (by show 0 + (10 + 10000000) ≤ _; omega))
  have HSZ := HB.out.size
  have HRL : Hid (r ≤ v1.heap.size) := Lib.hid (by have := hc1.size; have := HRR.out; omega)
  clear hg1 hp1 hc1 CK HP HV HX k0 HSZ
  by_cases hk : 1 ≤ x.kind ∧ x.kind ≤ 10
  · have CF := Lib.hid (fieldsAll_any s1 wr1 x P1.out X1.out hk R1.out)
    have HK := Lib.hid hk
    clear hk
    rw [Xr.val_eq, ← HCE.out] at CF
    go_wp2_with (refine wpList_load_row rfl 30 _ rfl r rfl 30 _ (0, 0) _ V1.out Try.underlying30 rfl (by rw [HCS.out]; exact inf_rec) ?_)
    refine CF.out.mono ?_
    rintro e v2 ⟨_, y, s2, wr2, rfl, ⟨x', rfl, hx', rfl⟩, hg2, hp2, hc2⟩
    obtain ⟨l1, rfl, -⟩ := id G1.out
    obtain ⟨l2, rfl, -⟩ := id hg2
    have WO := Lib.hid (whole_out (r := x.read) HK.out G1.out hg2)
    obtain ⟨W3, hW3⟩ : ∃ W3, W3 = v2.alloc (.cells x'.cells 30) := ⟨_, rfl⟩
    have B3 : Below v2.heap.size v2 W3 := by rw [hW3]; exact (Below.refl _ _).alloc (Nat.le_refl _) _
    have P3 : Hid (Pst r W3 (r + 2) _ wr2) := Lib.hid (hp2.keeps (Keeps.of_below B3))
    have K3 : Hid (Bk W3 v2.heap.size 30 x'.cells) := Lib.hid (by rw [hW3]; exact Bk.new v2 _ _)
    have V3 := Lib.hid ((V1.out.calm rfl hc2).calm rfl (Calm.of_below (H := r) B3))
    have C3 : Hid (Calm r w W3) := Lib.hid ((C1.out.trans hc2).trans (Calm.of_below B3))
    have HSM := Lib.hid (sameX_iff hx' X1.out)
    have c2 : W3.cell? ⟨r + 2, 2, none⟩ = some (.bool wr2) := P3.out.ptrs.1
    have HW3 := Lib.hid hW3
    have HSV : Hid (r ≤ v2.heap.size) := Lib.hid (Nat.le_trans HRL.out hc2.size)
    clear hg2 hp2 hc2 hx' hW3 B3 CF
    go_upto_region 5 with (refine wpList_store_new rfl (W := v2) rfl (c := #[.int .i64 0, .int .i64 0, .int .i64 0, .int .i64 0, .string ⟨#[]⟩, .bool false, .string ⟨#[]⟩, .bool false, .string ⟨#[]⟩, .int .i64 0, .slice none 0 0, .slice none 0 0, .slice none 0 0, .slice none 0 0, .slice none 0 0, .slice none 0 0]) (c' := x'.cells) rfl rfl rfl inf_rec rfl (Xr.cells_one x') ?_; simp only [Act.put])
    rw [← HW3.out]
    clear HW3
    cases wr2 with
    | true =>
      have R : Hid (EncR x.read w (.returned (.tuple #[.slice none 0 0, .bool false])) W3) := Lib.hid ⟨.inr ⟨(fun q => by
        have := ((ok_iff _).2 q).2.1
        have := WO.out.1.2 this
        cases this), rfl⟩, by have := C3.out.below (by rw [HRR.out]; exact Nat.le_refl r); rw [HRR.out]; exact this⟩
      clear WO P3 K3 V3 C3 HSM
      go_wp2_with fail
      go_ret2
      exact R.out
    | false =>
      have CI := Lib.hid (HI x' x W3)
      rw [Xr.val_eq, Xr.val_eq, ← HCE.out] at CI
      go_wp2_with (first
        | (refine wpList_load_row_g rfl 30 _ rfl v2.heap.size rfl 30 _ (0, 0) _ K3.out Try.underlying30 rfl inf_rec ?_)
        | (refine wpList_load_row_g rfl 30 _ rfl r rfl 30 _ (0, 0) _ V3.out Try.underlying30 rfl (by rw [HCS.out]; exact inf_rec) ?_))
      refine CI.out.mono ?_
      rintro e v4 ⟨b, rfl, hb, hbel⟩
      have HBB := Lib.hid hb
      have C4 : Hid (Calm r w v4) := Lib.hid (C3.out.trans (Calm.of_below hbel))
      have P4 := Lib.hid (P3.out.keeps (Keeps.of_below hbel))
      clear hb hbel CI c2
      cases b with
      | false =>
        have R : Hid (EncR x.read w (.returned (.tuple #[.slice none 0 0, .bool false])) v4) := Lib.hid ⟨.inr ⟨(fun q => by
          have h3 := ((ok_iff _).2 q).2.2
          have e1 := (WO.out.2 (by first | rfl | trivial)).1
          have := HBB.out.2 (HSM.out.2 (by rw [e1]; exact (same_iff _ HK.out).2 h3))
          cases this), rfl⟩, by have := C4.out.below (by rw [HRR.out]; exact Nat.le_refl r); rw [HRR.out]; exact this⟩
        clear WO P3 K3 V3 C3 HSM P4 C4
        go_wp2_with fail
        go_ret2
        exact R.out
      | true =>
        have hok : x.read.ok := by
          have e1 := (WO.out.2 (by first | rfl | trivial)).1
          have := HSM.out.1 (HBB.out.1 rfl)
          rw [e1] at this
          exact (ok_iff _).1 ⟨HK.out, WO.out.1.1 (by first | rfl | trivial), (same_iff _ HK.out).1 this⟩
        have el : l2 = rcL x.read := by have := (WO.out.2 (by first | rfl | trivial)).2; rw [this]; rfl
        obtain ⟨q1, q2⟩ := P4.out.bytes
        have e3 : r + 2 - 1 = r + 1 := by omega
        rw [e3] at q1
        have hbd : l2.length ≤ 100000000000000 := by
          have h1 : (kindSp x.kind).cost ≤ 10000000 := kindSp_cost _
          have h2 : (numS 1 10).cost = 10 := rfl
          omega
        have CB := Lib.hid (wBytes_own r (r + 1) l2 v4 q1 (by omega))
        have HOK := Lib.hid hok
        have HEL := Lib.hid (And.intro el hbd)
        clear hok el q1 q2 e3 hbd WO P3 K3 V3 C3 HSM P4
        go_wp2_with fail
        refine CB.out.mono ?_
        rintro e v5 ⟨A, n, c, rfl, ho, hr, hb5⟩
        have R : Hid (EncR x.read w (.returned (.tuple #[.slice A n c, .bool true])) v5) := Lib.hid ⟨.inl ⟨HOK.out, A, n, c, rfl, by
          rw [← HEL.out.1]
          exact owns_low ho C4.out.size, by rw [← HEL.out.1]; exact hr, by rw [← HEL.out.1]; exact HEL.out.2⟩, by
          have := (C4.out.trans (Calm.of_below hb5)).below (by rw [HRR.out]; exact Nat.le_refl r)
          rw [HRR.out]; exact this⟩
        clear ho hr hb5
        go_wp2_with fail
        go_ret2
        exact R.out
  · have CF := Lib.hid (fieldsZ_any s1 wr1 x P1.out hk)
    rw [Xr.val_eq, ← HCE.out] at CF
    have hwr : wr1 = true := by
      obtain ⟨l1, e1, h1, _⟩ := G1.out
      cases wr1 with
      | true => rfl
      | false => exact absurd (h1.1 rfl).2 hk
    have HNK := Lib.hid hk
    clear hk
    go_wp2_with (refine wpList_load_row rfl 30 _ rfl r rfl 30 _ (0, 0) _ V1.out Try.underlying30 rfl (by rw [HCS.out]; exact inf_rec) ?_)
    refine CF.out.mono ?_
    rintro e v2 ⟨rfl, hp2, hc2⟩
    obtain ⟨W3, hW3⟩ : ∃ W3, W3 = v2.alloc (.cells xr0.cells 30) := ⟨_, rfl⟩
    have B3 : Below v2.heap.size v2 W3 := by rw [hW3]; exact (Below.refl _ _).alloc (Nat.le_refl _) _
    have P3 : Pst r W3 (r + 2) _ wr1 := hp2.keeps (Keeps.of_below B3)
    have C3 : Hid (Calm r w W3) := Lib.hid ((C1.out.trans hc2).trans (Calm.of_below B3))
    have c2 : W3.cell? ⟨r + 2, 2, none⟩ = some (.bool true) := by rw [← hwr]; exact P3.ptrs.1
    have HW3 := Lib.hid hW3
    clear hp2 hc2 hW3 B3 CF P3
    go_upto_region 5 with (refine wpList_store_new rfl (W := v2) rfl (c := #[.int .i64 0, .int .i64 0, .int .i64 0, .int .i64 0, .string ⟨#[]⟩, .bool false, .string ⟨#[]⟩, .bool false, .string ⟨#[]⟩, .int .i64 0, .slice none 0 0, .slice none 0 0, .slice none 0 0, .slice none 0 0, .slice none 0 0, .slice none 0 0]) (c' := xr0.cells) rfl rfl rfl inf_rec rfl (Xr.cells_one xr0) ?_; simp only [Act.put])
    rw [← HW3.out]
    clear HW3
    have R : Hid (EncR x.read w (.returned (.tuple #[.slice none 0 0, .bool false])) W3) := Lib.hid ⟨.inr ⟨fun q => HNK.out q.kind, rfl⟩, by have := C3.out.below (by rw [HRR.out]; exact Nat.le_refl r); rw [HRR.out]; exact this⟩
    clear C3
    go_wp2_with fail
    go_ret2
    exact R.out
end Go.Proofs.Ytfldcddbmikfiaa

/- rec.May, Encode, Size answer as the document says, in plain mathematics. -/
namespace Go.Proofs.Ytfldcddbmikfiaa
open Go.RowKit
open Classical in
noncomputable def encE (r : Rc) : Nat := if r.ok then (if 4096 < (rcL r).length then 12 else 0) else 1
noncomputable def encB (r : Rc) : List Int := if encE r = 0 then rcL r else []
theorem encE_no {r : Rc} (h : ¬ r.ok) : encE r = 1 := if_neg h
theorem encE_long {r : Rc} (h : r.ok) (hl : 4096 < (rcL r).length) : encE r = 12 := by unfold encE; rw [if_pos h, if_pos hl]
theorem encE_ok {r : Rc} (h : r.ok) (hl : ¬ 4096 < (rcL r).length) : encE r = 0 := by unfold encE; rw [if_pos h, if_neg hl]
theorem encE_zero {r : Rc} (h : encE r = 0) : r.ok ∧ (rcL r).length ≤ 4096 := by
  unfold encE at h
  split at h
  · rename_i q
    split at h
    · cases h
    · exact ⟨q, by omega⟩
  · cases h

set_option maxRecDepth 100000 in
set_option maxHeartbeats 8000000 in
theorem may_any (HI : IsSame) (x : Xr) (w : World) (hx : XrIn w.heap.size w x) : Calls Try.prog 10 #[x.val] w (fun e w' => ∃ b, e = .returned (.bool b) ∧ (b = true ↔ x.read.ok) ∧ Below w.heap.size w w') := by
  obtain ⟨C, hC⟩ : ∃ C, C = x.cells := ⟨_, rfl⟩
  have hb : Below w.heap.size w (w.alloc (.cells C 30)) := (Below.refl _ _).alloc (Nat.le_refl _) _
  have CE := Lib.hid (renc_any HI x (w.alloc (.cells C 30)) (by
    have h1 := hx.calm (Calm.of_below hb)
    have hs : w.heap.size ≤ (w.alloc (.cells C 30)).heap.size := hb.size
    exact h1.up hs))
  have HV : Hid (Bk (w.alloc (.cells C 30)) w.heap.size 30 C) := Lib.hid (Bk.new w _ _)
  have HB := Lib.hid hb
  have HCS : Hid (C.size = 16) := Lib.hid (by rw [hC]; rfl)
  rw [Xr.val_eq, ← hC] at CE ⊢
  clear hx hb hC
  go_enter Try.func10, Try.ntmps10
  go_wp2_with (refine wpList_load_row rfl 30 _ rfl w.heap.size rfl 30 _ (0, 0) _ HV.out Try.underlying30 rfl (by rw [HCS.out]; exact inf_rec) ?_)
  refine CE.out.mono ?_
  rintro e w1 ⟨h, hb1⟩
  have B1 := Lib.hid (Below.then HB.out hb1)
  clear hb1
  rcases h with ⟨hok, A, n, c, rfl, -⟩ | ⟨hok, rfl⟩
  · have HOK := Lib.hid hok
    clear hok
    go_wp2_with fail
    go_ret
    exact ⟨true, rfl, ⟨fun _ => HOK.out, fun _ => rfl⟩, B1.out⟩
  · have HOK := Lib.hid hok
    clear hok
    go_wp2_with fail
    go_ret
    exact ⟨false, rfl, ⟨(fun h => nomatch h), fun h => absurd h HOK.out⟩, B1.out⟩

set_option maxRecDepth 100000 in
set_option maxHeartbeats 8000000 in
theorem recEncode_any (HI : IsSame) (x : Xr) (w : World) (hx : XrIn w.heap.size w x) : Calls Try.prog 7 #[x.val] w (RetOwn2 (encB x.read) (encE x.read) w) := by
  obtain ⟨C, hC⟩ : ∃ C, C = x.cells := ⟨_, rfl⟩
  have hb : Below w.heap.size w (w.alloc (.cells C 30)) := (Below.refl _ _).alloc (Nat.le_refl _) _
  have CE := Lib.hid (renc_any HI x (w.alloc (.cells C 30)) (by
    have h1 := hx.calm (Calm.of_below hb)
    have hs : w.heap.size ≤ (w.alloc (.cells C 30)).heap.size := hb.size
    exact h1.up hs))
  have HV : Hid (Bk (w.alloc (.cells C 30)) w.heap.size 30 C) := Lib.hid (Bk.new w _ _)
  have HB := Lib.hid hb
  have HCS : Hid (C.size = 16) := Lib.hid (by rw [hC]; rfl)
  rw [Xr.val_eq, ← hC] at CE ⊢
  clear hx hb hC
  go_enter Try.func7, Try.ntmps7
  go_wp2_with (refine wpList_load_row rfl 30 _ rfl w.heap.size rfl 30 _ (0, 0) _ HV.out Try.underlying30 rfl (by rw [HCS.out]; exact inf_rec) ?_)
  refine CE.out.mono ?_
  rintro e w1 ⟨h, hb1⟩
  have B1 := Lib.hid (Below.then HB.out hb1)
  clear hb1
  rcases h with ⟨hok, A, n, c, rfl, ho, hr, hlen⟩ | ⟨hok, rfl⟩
  · have hn : (rcL x.read).length = n := by simpa using ho.1
    by_cases hl : 4096 < n
    · have R : Hid (RetOwn2 (encB x.read) (encE x.read) w (.returned (.tuple #[.slice none 0 0, .int .i64 12])) w1) := Lib.hid (by
        have e := encE_long hok (by rw [hn]; exact hl)
        have e2 : encB x.read = [] := by unfold encB; rw [e]; rfl
        rw [e, e2]
        exact ⟨none, 0, 0, rfl, World.ownsRow_nil _ _ _ _, by simp, B1.out⟩)
      have hl' : (4096 : Int) < (n : Int) := by omega
      clear ho hr hlen hn hok hl
      go_wp2_with fail
      go_ret2
      exact R.out
    · have R : Hid (RetOwn2 (encB x.read) (encE x.read) w (.returned (.tuple #[.slice A n c, .int .i64 0])) w1) := Lib.hid (by
        have e := encE_ok hok (by rw [hn]; exact hl)
        have e2 : encB x.read = rcL x.read := by unfold encB; rw [e]; rfl
        rw [e, e2]
        exact ⟨A, n, c, rfl, owns_low ho HB.out.size, hr, B1.out⟩)
      have hl' : ¬ (4096 : Int) < (n : Int) := by omega
      clear ho hr hlen hn hok hl
      go_wp2_with fail
      go_ret2
      exact R.out
  · have R : Hid (RetOwn2 (encB x.read) (encE x.read) w (.returned (.tuple #[.slice none 0 0, .int .i64 1])) w1) := Lib.hid (by
      have e := encE_no hok
      have e2 : encB x.read = [] := by unfold encB; rw [e]; rfl
      rw [e, e2]
      exact ⟨none, 0, 0, rfl, World.ownsRow_nil _ _ _ _, by simp, B1.out⟩)
    clear hok
    go_wp2_with fail
    go_ret2
    exact R.out

set_option maxRecDepth 100000 in
set_option maxHeartbeats 8000000 in
theorem size_any (HI : IsSame) (x : Xr) (w : World) (hx : XrIn w.heap.size w x) : Calls Try.prog 13 #[x.val] w (fun e w' => e = .returned (.int .i64 ((encB x.read).length : Nat)) ∧ Below w.heap.size w w') := by
  obtain ⟨C, hC⟩ : ∃ C, C = x.cells := ⟨_, rfl⟩
  have hb : Below w.heap.size w (w.alloc (.cells C 30)) := (Below.refl _ _).alloc (Nat.le_refl _) _
  have CE := Lib.hid (recEncode_any HI x (w.alloc (.cells C 30)) (by
    have h1 := hx.calm (Calm.of_below hb)
    have hs : w.heap.size ≤ (w.alloc (.cells C 30)).heap.size := hb.size
    exact h1.up hs))
  have HV : Hid (Bk (w.alloc (.cells C 30)) w.heap.size 30 C) := Lib.hid (Bk.new w _ _)
  have HB := Lib.hid hb
  have HCS : Hid (C.size = 16) := Lib.hid (by rw [hC]; rfl)
  rw [Xr.val_eq, ← hC] at CE ⊢
  clear hx hb hC
  go_enter Try.func13, Try.ntmps13
  go_wp2_with (refine wpList_load_row rfl 30 _ rfl w.heap.size rfl 30 _ (0, 0) _ HV.out Try.underlying30 rfl (by rw [HCS.out]; exact inf_rec) ?_)
  refine CE.out.mono ?_
  rintro e w1 ⟨A, n, c, rfl, ho, hr, hb1⟩
  have hn : (encB x.read).length = n := by simpa using ho.1
  have R : Hid (Value.int IntKind.i64 (n : Int) = .int .i64 ((encB x.read).length : Nat) ∧ Below w.heap.size w w1) := Lib.hid ⟨by rw [hn], Below.then HB.out hb1⟩
  clear hb1 ho hr hn CE
  go_wp2_with fail
  go_ret
  exact ⟨congrArg Ending.returned R.out.1, R.out.2⟩
end Go.Proofs.Ytfldcddbmikfiaa
