/- What it says: contracts and plain mathematics that the laws' walks use, 14 of 34: each part's own remark says what; no condition. -/
import Derived.Test.YtfldcddbmikfiaaPw11
import Derived.Test.YtfldcddbmikfiaaPw12
import Derived.Test.YtfldcddbmikfiaaPw13
import Derived.LoopTactic
import Derived.Deep.CutBlock

set_option linter.unusedSimpArgs false
set_option linter.unusedVariables false
set_option linter.deprecated false
set_option linter.unusedSectionVars false
set_option linter.all false

/- of a record of no kind rec passes on nothing. -/
namespace Go.Proofs.Ytfldcddbmikfiaa
open Go.RowKit
def xr0 : Xr := ⟨0, 0, 0, 0, ⟨#[]⟩, ⟨false, ⟨#[]⟩⟩, ⟨false, ⟨#[]⟩⟩, 0, none, 0, 0, [], none, 0, 0, [], none, 0, 0, [], none, 0, 0, [], none, 0, 0, [], none, 0, 0, []⟩
section
variable {H pb : Nat} {w : World}
set_option maxRecDepth 100000 in
set_option maxHeartbeats 8000000 in
theorem fieldsZ_any (s : Ps) (wr : Bool) (x : Xr) (h : Pst H w pb s wr) (hk : ¬ (1 ≤ x.kind ∧ x.kind ≤ 10)) :
    Calls Try.prog 34 #[.pointer (some ⟨pb, 0, none⟩), x.val] w (fun e w' => e = .returned xr0.val ∧ Pst H w' pb s wr ∧ Calm H w w') := by
  obtain ⟨kind, tx, prev, next, key, ⟨oh, od⟩, ⟨nh, nd⟩, co, mA, mn, mc, mem, kA, kn, kc, lks, rA, rn, rc, rows, dA, dn, dc, dirty, eA, en, ec, deeds, pA, pn, pc, past⟩ := x
  simp only at hk
  have z1 : (kind == 1) = false := by simp; omega
  have z2 : (kind == 2) = false := by simp; omega
  have z3 : (kind == 3) = false := by simp; omega
  have z4 : (kind == 4) = false := by simp; omega
  have z5 : (kind == 5) = false := by simp; omega
  have z6 : (kind == 6) = false := by simp; omega
  have z7 : (kind == 7) = false := by simp; omega
  have z8 : (kind == 8) = false := by simp; omega
  have z9 : (kind == 9) = false := by simp; omega
  have z10 : (kind == 10) = false := by simp; omega
  clear hk
  unfold Xr.val
  simp only
  obtain ⟨r, hrr⟩ : ∃ r, w.heap.size = r := ⟨_, rfl⟩
  obtain ⟨W1, hW1⟩ : ∃ W1, W1 = (w.alloc (.cells #[.int .i64 kind, .int .i64 tx, .int .i64 prev, .int .i64 next, .string key, .bool oh, .string od, .bool nh, .string nd, .int .i64 co, .slice mA mn mc, .slice kA kn kc, .slice rA rn rc, .slice dA dn dc, .slice eA en ec, .slice pA pn pc] 30)).alloc (.cells #[.int .i64 0, .int .i64 0, .int .i64 0, .int .i64 0, .string ⟨#[]⟩, .bool false, .string ⟨#[]⟩, .bool false, .string ⟨#[]⟩, .int .i64 0, .slice none 0 0, .slice none 0 0, .slice none 0 0, .slice none 0 0, .slice none 0 0, .slice none 0 0] 30) := ⟨_, rfl⟩
  have HB : Hid (Below w.heap.size w W1) := Lib.hid (by rw [hW1]; exact ((Below.refl _ _).alloc (Nat.le_refl _) _).alloc (by simp) _)
  have HV : Hid (Bk W1 r 30 #[.int .i64 kind, .int .i64 tx, .int .i64 prev, .int .i64 next, .string key, .bool oh, .string od, .bool nh, .string nd, .int .i64 co, .slice mA mn mc, .slice kA kn kc, .slice rA rn rc, .slice dA dn dc, .slice eA en ec, .slice pA pn pc]) := Lib.hid (by rw [hW1, ← hrr]; exact (Bk.new w _ _).bel ((Below.refl _ _).alloc (Nat.le_refl _) _) (by simp))
  have HRS : Hid (Bk W1 (r + 1) 30 #[.int .i64 0, .int .i64 0, .int .i64 0, .int .i64 0, .string ⟨#[]⟩, .bool false, .string ⟨#[]⟩, .bool false, .string ⟨#[]⟩, .int .i64 0, .slice none 0 0, .slice none 0 0, .slice none 0 0, .slice none 0 0, .slice none 0 0, .slice none 0 0]) := Lib.hid (by
    rw [hW1, ← hrr]
    have := Bk.new (w.alloc (.cells #[.int .i64 kind, .int .i64 tx, .int .i64 prev, .int .i64 next, .string key, .bool oh, .string od, .bool nh, .string nd, .int .i64 co, .slice mA mn mc, .slice kA kn kc, .slice rA rn rc, .slice dA dn dc, .slice eA en ec, .slice pA pn pc] 30)) 30 #[.int .i64 0, .int .i64 0, .int .i64 0, .int .i64 0, .string ⟨#[]⟩, .bool false, .string ⟨#[]⟩, .bool false, .string ⟨#[]⟩, .int .i64 0, .slice none 0 0, .slice none 0 0, .slice none 0 0, .slice none 0 0, .slice none 0 0, .slice none 0 0]
    rw [World.size_alloc] at this
    exact this)
  have HLOW := Lib.hid h.low
  have HRR := Lib.hid hrr
  have HW := Lib.hid hW1
  have k0 : W1.cell? ⟨r, 0, none⟩ = some (.int .i64 kind) := HV.out.cell 0
  have P0 := Lib.hid (h.keeps (Keeps.of_below HB.out))
  clear h hW1
  go_enter Try.func34, Try.ntmps34
  go_upto_region 1 with fail
  (try rw [hrr])
  rw [← HW.out]
  clear HW hrr
  have RB := HRS
  have F : Hid (Pst H (W1.setRow (r + 1) #[.int .i64 0, .int .i64 0, .int .i64 0, .int .i64 0, .string ⟨#[]⟩, .bool false, .string ⟨#[]⟩, .bool false, .string ⟨#[]⟩, .int .i64 0, .slice none 0 0, .slice none 0 0, .slice none 0 0, .slice none 0 0, .slice none 0 0, .slice none 0 0]) pb s wr ∧ Calm H w (W1.setRow (r + 1) #[.int .i64 0, .int .i64 0, .int .i64 0, .int .i64 0, .string ⟨#[]⟩, .bool false, .string ⟨#[]⟩, .bool false, .string ⟨#[]⟩, .int .i64 0, .slice none 0 0, .slice none 0 0, .slice none 0 0, .slice none 0 0, .slice none 0 0, .slice none 0 0])) := Lib.hid (P0.out.row RB.out rfl (by have := HRR.out; omega) (Calm.of_below HB.out) _)
  have RF := Lib.hid (RB.out.rowp #[.int .i64 0, .int .i64 0, .int .i64 0, .int .i64 0, .string ⟨#[]⟩, .bool false, .string ⟨#[]⟩, .bool false, .string ⟨#[]⟩, .int .i64 0, .slice none 0 0, .slice none 0 0, .slice none 0 0, .slice none 0 0, .slice none 0 0, .slice none 0 0])
  go_wp2_with (refine wpList_store_row rfl 30 _ _ rfl (r + 1) #[.int .i64 0, .int .i64 0, .int .i64 0, .int .i64 0, .string ⟨#[]⟩, .bool false, .string ⟨#[]⟩, .bool false, .string ⟨#[]⟩, .int .i64 0, .slice none 0 0, .slice none 0 0, .slice none 0 0, .slice none 0 0, .slice none 0 0, .slice none 0 0] rfl rfl 30 _ RB.out inf_rec rfl (rec_one _ (by simp [Value.oneCell'])) ?_; simp only [Act.put])
  (try simp only [Exit.inBlock, Exit.then])
  refine bodyPost_ret (results_cell_row rfl _ _ (r + 1) 30 _ (0, 0) _ rfl RF.out Try.underlying30 rfl inf_rec) rfl ?_
  exact ⟨rfl, F.out⟩
end
end Go.Proofs.Ytfldcddbmikfiaa

/- what rec passes on of a record, whatever its kind. -/
namespace Go.Proofs.Ytfldcddbmikfiaa
open Go.RowKit
section
variable {H pb : Nat} {w : World}
theorem fieldsAll_any [Inhabited Prop] (s : Ps) (wr : Bool) (x : Xr) (h : Pst H w pb s wr) (hx : XrIn H w x) (hk : 1 ≤ x.kind ∧ x.kind ≤ 10) (hr : s.room 10000000) :
    Calls Try.prog 34 #[.pointer (some ⟨pb, 0, none⟩), x.val] w (RetV (kindSp x.kind) (VR H) x.read H pb s wr w) := by
  have hr' := hr.mono (kindSp_cost x.kind)
  have hc : x.kind = 1 ∨ x.kind = 2 ∨ x.kind = 3 ∨ x.kind = 4 ∨ x.kind = 5 ∨ x.kind = 6 ∨ x.kind = 7 ∨ x.kind = 8 ∨ x.kind = 9 ∨ x.kind = 10 := by omega
  rcases hc with e | e | e | e | e | e | e | e | e | e
  · have q : kindSp x.kind = spU := by rw [e]; rfl
    rw [q] at hr' ⊢; exact fieldsU_any s wr x h hx e hr'
  · have q : kindSp x.kind = spC := by rw [e]; rfl
    rw [q] at hr' ⊢; exact fieldsC_any s wr x h hx e hr'
  · have q : kindSp x.kind = spP := by rw [e]; rfl
    rw [q] at hr' ⊢; exact fieldsP_any s wr x h hx e hr'
  · have q : kindSp x.kind = spE 4 := by rw [e]; rfl
    rw [q] at hr' ⊢; exact fieldsE4_any s wr x h hx e hr'
  · have q : kindSp x.kind = spE 5 := by rw [e]; rfl
    rw [q] at hr' ⊢; exact fieldsE5_any s wr x h hx e hr'
  · have q : kindSp x.kind = spE 6 := by rw [e]; rfl
    rw [q] at hr' ⊢; exact fieldsE6_any s wr x h hx e hr'
  · have q : kindSp x.kind = spB := by rw [e]; rfl
    rw [q] at hr' ⊢; exact fieldsB_any s wr x h hx e hr'
  · have q : kindSp x.kind = spK := by rw [e]; rfl
    rw [q] at hr' ⊢; exact fieldsK_any s wr x h hx e hr'
  · have q : kindSp x.kind = spD := by rw [e]; rfl
    rw [q] at hr' ⊢; exact fieldsD_any s wr x h hx e hr'
  · have q : kindSp x.kind = spF := by rw [e]; rfl
    rw [q] at hr' ⊢; exact fieldsF_any s wr x h hx e hr'
end
end Go.Proofs.Ytfldcddbmikfiaa
