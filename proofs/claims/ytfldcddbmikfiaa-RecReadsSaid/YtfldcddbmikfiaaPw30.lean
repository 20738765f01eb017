/- What it says: contracts and plain mathematics that the laws' walks use, 30 of 34: each part's own remark says what; no condition. -/
import Derived.Test.YtfldcddbmikfiaaPw23
import Derived.Test.YtfldcddbmikfiaaPw29

set_option linter.unusedSimpArgs false
set_option linter.unusedVariables false
set_option linter.deprecated false
set_option linter.unusedSectionVars false
set_option linter.all false

/- trothref07.only keeps of a record the fields of its kind. -/
namespace Go.Proofs.Ytfldcddbmikfiaa
open Go.RowKit
/-- The fields of its kind alone, in the same memory. -/
def onlyX : Xr → Xr
  | ⟨kind, tx, prev, next, key, ⟨oh, od⟩, ⟨nh, nd⟩, co, mA, mn, mc, mem, kA, kn, kc, lks, rA, rn, rc, rows, dA, dn, dc, dirty, eA, en, ec, deeds, pA, pn, pc, past⟩ => if kind = 1 then ⟨kind, tx, prev, 0, key, ⟨oh, od⟩, ⟨nh, nd⟩, 0, none, 0, 0, [], none, 0, 0, [], none, 0, 0, [], none, 0, 0, [], none, 0, 0, [], none, 0, 0, []⟩ else if kind = 2 then ⟨kind, tx, prev, next, key, ⟨false, ⟨#[]⟩⟩, ⟨nh, nd⟩, 0, none, 0, 0, [], none, 0, 0, [], none, 0, 0, [], none, 0, 0, [], none, 0, 0, [], none, 0, 0, []⟩ else if kind = 3 then ⟨kind, tx, prev, 0, ⟨#[]⟩, ⟨false, ⟨#[]⟩⟩, ⟨false, ⟨#[]⟩⟩, co, mA, mn, mc, mem, kA, kn, kc, lks, none, 0, 0, [], none, 0, 0, [], none, 0, 0, [], none, 0, 0, []⟩ else if kind = 4 ∨ kind = 5 ∨ kind = 6 then ⟨kind, tx, prev, 0, ⟨#[]⟩, ⟨false, ⟨#[]⟩⟩, ⟨false, ⟨#[]⟩⟩, 0, none, 0, 0, [], none, 0, 0, [], none, 0, 0, [], none, 0, 0, [], none, 0, 0, [], none, 0, 0, []⟩ else if kind = 7 then ⟨kind, 0, 0, 0, ⟨#[]⟩, ⟨false, ⟨#[]⟩⟩, ⟨false, ⟨#[]⟩⟩, 0, none, 0, 0, [], none, 0, 0, [], none, 0, 0, [], none, 0, 0, [], none, 0, 0, [], none, 0, 0, []⟩ else if kind = 8 then ⟨kind, 0, 0, 0, ⟨#[]⟩, ⟨false, ⟨#[]⟩⟩, ⟨false, ⟨#[]⟩⟩, 0, none, 0, 0, [], none, 0, 0, [], rA, rn, rc, rows, dA, dn, dc, dirty, eA, en, ec, deeds, pA, pn, pc, past⟩ else if kind = 9 then ⟨kind, tx, 0, 0, ⟨#[]⟩, ⟨false, ⟨#[]⟩⟩, ⟨false, ⟨#[]⟩⟩, 0, mA, mn, mc, mem, none, 0, 0, [], none, 0, 0, [], none, 0, 0, [], none, 0, 0, [], none, 0, 0, []⟩ else ⟨kind, tx, 0, 0, ⟨#[]⟩, ⟨false, ⟨#[]⟩⟩, ⟨false, ⟨#[]⟩⟩, 0, none, 0, 0, [], none, 0, 0, [], none, 0, 0, [], none, 0, 0, [], none, 0, 0, [], none, 0, 0, []⟩
theorem onlyX_in (x : Xr) (H : Nat) (w : World) (h : XrIn H w x) : XrIn H w (onlyX x) := by
  obtain ⟨kind, tx, prev, next, key, ⟨oh, od⟩, ⟨nh, nd⟩, co, mA, mn, mc, mem, kA, kn, kc, lks, rA, rn, rc, rows, dA, dn, dc, dirty, eA, en, ec, deeds, pA, pn, pc, past⟩ := x
  have nI : Sl elI H w none 0 0 [] := Sl.nil _ _ _
  have nL : Sl elL H w none 0 0 [] := Sl.nil _ _ _
  have nR : Sl elR H w none 0 0 [] := Sl.nil _ _ _
  have nD : Sl elD H w none 0 0 [] := Sl.nil _ _ _
  have nE : Sl elE H w none 0 0 [] := Sl.nil _ _ _
  have z : i64 0 := by unfold i64; omega
  unfold onlyX
  simp only
  split
  · exact ⟨h.kind, h.tx, h.prev, z, Nat.zero_le _, Nat.zero_le _, Nat.zero_le _, z, nI, nL, nR, nD, nE, nI⟩
  split
  · exact ⟨h.kind, h.tx, h.prev, h.next, Nat.zero_le _, Nat.zero_le _, Nat.zero_le _, z, nI, nL, nR, nD, nE, nI⟩
  split
  · exact ⟨h.kind, h.tx, h.prev, z, Nat.zero_le _, Nat.zero_le _, Nat.zero_le _, h.co, h.mem, h.lks, nR, nD, nE, nI⟩
  split
  · exact ⟨h.kind, h.tx, h.prev, z, Nat.zero_le _, Nat.zero_le _, Nat.zero_le _, z, nI, nL, nR, nD, nE, nI⟩
  split
  · exact ⟨h.kind, z, z, z, Nat.zero_le _, Nat.zero_le _, Nat.zero_le _, z, nI, nL, nR, nD, nE, nI⟩
  split
  · exact ⟨h.kind, z, z, z, Nat.zero_le _, Nat.zero_le _, Nat.zero_le _, z, nI, nL, h.rows, h.dirty, h.deeds, h.past⟩
  split
  · exact ⟨h.kind, h.tx, z, z, Nat.zero_le _, Nat.zero_le _, Nat.zero_le _, z, h.mem, nL, nR, nD, nE, nI⟩
  exact ⟨h.kind, h.tx, z, z, Nat.zero_le _, Nat.zero_le _, Nat.zero_le _, z, nI, nL, nR, nD, nE, nI⟩
theorem onlyX_read (x : Xr) (h : 1 ≤ x.kind ∧ x.kind ≤ 10) : (onlyX x).read = onlyRc x.read := by
  obtain ⟨kind, tx, prev, next, key, ⟨oh, od⟩, ⟨nh, nd⟩, co, mA, mn, mc, mem, kA, kn, kc, lks, rA, rn, rc, rows, dA, dn, dc, dirty, eA, en, ec, deeds, pA, pn, pc, past⟩ := x
  simp only at h
  obtain q | q | q | q | q | q | q | q | q | q : kind = 1 ∨ kind = 2 ∨ kind = 3 ∨ kind = 4 ∨ kind = 5 ∨ kind = 6 ∨ kind = 7 ∨ kind = 8 ∨ kind = 9 ∨ kind = 10 := by omega
  all_goals (subst q; rfl)
set_option maxRecDepth 100000 in
set_option maxHeartbeats 16000000 in
theorem only_any (x : Xr) (w : World) (hk : 1 ≤ x.kind ∧ x.kind ≤ 10) : Calls Try.prog 24 #[x.val] w (Ret (onlyX x).val w) := by
  obtain ⟨kind, tx, prev, next, key, ⟨oh, od⟩, ⟨nh, nd⟩, co, mA, mn, mc, mem, kA, kn, kc, lks, rA, rn, rc, rows, dA, dn, dc, dirty, eA, en, ec, deeds, pA, pn, pc, past⟩ := x
  unfold onlyX Xr.val
  simp only at hk ⊢
  obtain ⟨r, hrr⟩ : ∃ r, w.heap.size = r := ⟨_, rfl⟩
  have rec_one0 : Value.oneCell' (.string ⟨#[]⟩) = true := rfl
  obtain ⟨W, hW⟩ : ∃ W, W = ((w.alloc (.cells #[.int .i64 kind, .int .i64 tx, .int .i64 prev, .int .i64 next, .string key, .bool oh, .string od, .bool nh, .string nd, .int .i64 co, .slice mA mn mc, .slice kA kn kc, .slice rA rn rc, .slice dA dn dc, .slice eA en ec, .slice pA pn pc] 30)).alloc (.cells #[.int .i64 0, .int .i64 0, .int .i64 0, .int .i64 0, .string ⟨#[]⟩, .bool false, .string ⟨#[]⟩, .bool false, .string ⟨#[]⟩, .int .i64 0, .slice none 0 0, .slice none 0 0, .slice none 0 0, .slice none 0 0, .slice none 0 0, .slice none 0 0] 30)).alloc (.cells #[.int .i64 kind, .int .i64 0, .int .i64 0, .int .i64 0, .string ⟨#[]⟩, .bool false, .string ⟨#[]⟩, .bool false, .string ⟨#[]⟩, .int .i64 0, .slice none 0 0, .slice none 0 0, .slice none 0 0, .slice none 0 0, .slice none 0 0, .slice none 0 0] 30) := ⟨_, rfl⟩
  have VW : Hid (Bk W r 30 #[.int .i64 kind, .int .i64 tx, .int .i64 prev, .int .i64 next, .string key, .bool oh, .string od, .bool nh, .string nd, .int .i64 co, .slice mA mn mc, .slice kA kn kc, .slice rA rn rc, .slice dA dn dc, .slice eA en ec, .slice pA pn pc]) := Lib.hid (by rw [hW, ← hrr]; exact ((Bk.new w _ _).bel (((Below.refl _ _).alloc (Nat.le_refl _) _)) (by rw [World.size_alloc]; omega)).bel ((Below.refl _ _).alloc (Nat.le_refl _) _) (by rw [World.size_alloc, World.size_alloc]; omega))
  have RW : Hid (Bk W (r + 1) 30 #[.int .i64 0, .int .i64 0, .int .i64 0, .int .i64 0, .string ⟨#[]⟩, .bool false, .string ⟨#[]⟩, .bool false, .string ⟨#[]⟩, .int .i64 0, .slice none 0 0, .slice none 0 0, .slice none 0 0, .slice none 0 0, .slice none 0 0, .slice none 0 0]) := Lib.hid (by
    rw [hW, ← hrr]
    have := Bk.new (w.alloc (.cells #[.int .i64 kind, .int .i64 tx, .int .i64 prev, .int .i64 next, .string key, .bool oh, .string od, .bool nh, .string nd, .int .i64 co, .slice mA mn mc, .slice kA kn kc, .slice rA rn rc, .slice dA dn dc, .slice eA en ec, .slice pA pn pc] 30)) 30 #[.int .i64 0, .int .i64 0, .int .i64 0, .int .i64 0, .string ⟨#[]⟩, .bool false, .string ⟨#[]⟩, .bool false, .string ⟨#[]⟩, .int .i64 0, .slice none 0 0, .slice none 0 0, .slice none 0 0, .slice none 0 0, .slice none 0 0, .slice none 0 0]
    rw [World.size_alloc] at this
    exact this.bel ((Below.refl _ _).alloc (Nat.le_refl _) _) (by rw [World.size_alloc, World.size_alloc]; omega))
  have ZW : Hid (Bk W (r + 2) 30 #[.int .i64 kind, .int .i64 0, .int .i64 0, .int .i64 0, .string ⟨#[]⟩, .bool false, .string ⟨#[]⟩, .bool false, .string ⟨#[]⟩, .int .i64 0, .slice none 0 0, .slice none 0 0, .slice none 0 0, .slice none 0 0, .slice none 0 0, .slice none 0 0]) := Lib.hid (by
    rw [hW, ← hrr]
    have := Bk.new ((w.alloc (.cells #[.int .i64 kind, .int .i64 tx, .int .i64 prev, .int .i64 next, .string key, .bool oh, .string od, .bool nh, .string nd, .int .i64 co, .slice mA mn mc, .slice kA kn kc, .slice rA rn rc, .slice dA dn dc, .slice eA en ec, .slice pA pn pc] 30)).alloc (.cells #[.int .i64 0, .int .i64 0, .int .i64 0, .int .i64 0, .string ⟨#[]⟩, .bool false, .string ⟨#[]⟩, .bool false, .string ⟨#[]⟩, .int .i64 0, .slice none 0 0, .slice none 0 0, .slice none 0 0, .slice none 0 0, .slice none 0 0, .slice none 0 0] 30)) 30 #[.int .i64 kind, .int .i64 0, .int .i64 0, .int .i64 0, .string ⟨#[]⟩, .bool false, .string ⟨#[]⟩, .bool false, .string ⟨#[]⟩, .int .i64 0, .slice none 0 0, .slice none 0 0, .slice none 0 0, .slice none 0 0, .slice none 0 0, .slice none 0 0]
    rw [World.size_alloc, World.size_alloc] at this
    exact this)
  have BW : Hid (Below w.heap.size w W) := Lib.hid (by rw [hW]; exact (((Below.refl _ _).alloc (Nat.le_refl _) _).alloc (by rw [World.size_alloc]; omega) _).alloc (by rw [World.size_alloc, World.size_alloc]; omega) _)
  have RR := Lib.hid hrr
  have HW := Lib.hid hW
  have c0 : (w.alloc (.cells #[.int .i64 kind, .int .i64 tx, .int .i64 prev, .int .i64 next, .string key, .bool oh, .string od, .bool nh, .string nd, .int .i64 co, .slice mA mn mc, .slice kA kn kc, .slice rA rn rc, .slice dA dn dc, .slice eA en ec, .slice pA pn pc] 30)).cell? ⟨w.heap.size, 0, none⟩ = some (.int .i64 kind) := (Bk.new w _ _).cell 0
  clear hW
  go_enter Try.func24, Try.ntmps24
  go_upto_region 2 with (first
    | (refine wpList_store_new rfl (W := (w.alloc (.cells #[.int .i64 kind, .int .i64 tx, .int .i64 prev, .int .i64 next, .string key, .bool oh, .string od, .bool nh, .string nd, .int .i64 co, .slice mA mn mc, .slice kA kn kc, .slice rA rn rc, .slice dA dn dc, .slice eA en ec, .slice pA pn pc] 30)).alloc (.cells #[.int .i64 0, .int .i64 0, .int .i64 0, .int .i64 0, .string ⟨#[]⟩, .bool false, .string ⟨#[]⟩, .bool false, .string ⟨#[]⟩, .int .i64 0, .slice none 0 0, .slice none 0 0, .slice none 0 0, .slice none 0 0, .slice none 0 0, .slice none 0 0] 30)) rfl (c := #[.int .i64 0, .int .i64 0, .int .i64 0, .int .i64 0, .string ⟨#[]⟩, .bool false, .string ⟨#[]⟩, .bool false, .string ⟨#[]⟩, .int .i64 0, .slice none 0 0, .slice none 0 0, .slice none 0 0, .slice none 0 0, .slice none 0 0, .slice none 0 0]) (c' := #[.int .i64 kind, .int .i64 0, .int .i64 0, .int .i64 0, .string ⟨#[]⟩, .bool false, .string ⟨#[]⟩, .bool false, .string ⟨#[]⟩, .int .i64 0, .slice none 0 0, .slice none 0 0, .slice none 0 0, .slice none 0 0, .slice none 0 0, .slice none 0 0]) rfl (by simp) rfl inf_rec rfl rfl ?_; simp only [Act.put]))
  (try rw [hrr])
  rw [← HW.out]
  clear HW hrr c0
  have k0 : W.cell? ⟨r, 0, none⟩ = some (.int .i64 kind) := VW.out.cell 0
  by_cases k1 : kind = 1
  · rw [if_pos k1]
    subst k1
    have c1 : W.cell? ⟨r, 1, none⟩ = some (.int .i64 tx) := VW.out.cell 1
    have z1 : W.cell? ⟨r + 2, 1, none⟩ = some (.int .i64 0) := ZW.out.cell 1
    have y1 : W.frozen? ⟨r + 2, 1, none⟩ = false := ZW.out.frz 1
    obtain ⟨W', hW'⟩ : ∃ U, U = W.setCell ⟨r + 2, 1, none⟩ (.int .i64 tx) := ⟨_, rfl⟩
    have VW' : Hid (Bk W' r 30 #[.int .i64 1, .int .i64 tx, .int .i64 prev, .int .i64 next, .string key, .bool oh, .string od, .bool nh, .string nd, .int .i64 co, .slice mA mn mc, .slice kA kn kc, .slice rA rn rc, .slice dA dn dc, .slice eA en ec, .slice pA pn pc]) := Lib.hid (by rw [hW']; exact setCell_bk VW.out ⟨r + 2, 1, none⟩ (.int .i64 tx) (by show r ≠ r + 2; omega))
    have RW' : Hid (Bk W' (r + 1) 30 #[.int .i64 0, .int .i64 0, .int .i64 0, .int .i64 0, .string ⟨#[]⟩, .bool false, .string ⟨#[]⟩, .bool false, .string ⟨#[]⟩, .int .i64 0, .slice none 0 0, .slice none 0 0, .slice none 0 0, .slice none 0 0, .slice none 0 0, .slice none 0 0]) := Lib.hid (by rw [hW']; exact setCell_bk RW.out ⟨r + 2, 1, none⟩ (.int .i64 tx) (by show r + 1 ≠ r + 2; omega))
    have ZW' : Hid (Bk W' (r + 2) 30 #[.int .i64 1, .int .i64 tx, .int .i64 0, .int .i64 0, .string ⟨#[]⟩, .bool false, .string ⟨#[]⟩, .bool false, .string ⟨#[]⟩, .int .i64 0, .slice none 0 0, .slice none 0 0, .slice none 0 0, .slice none 0 0, .slice none 0 0, .slice none 0 0]) := Lib.hid (by rw [hW']; have := ZW.out.setc 1 (.int .i64 tx); simpa using this)
    have BW' : Hid (Below w.heap.size w W') := Lib.hid (by rw [hW']; exact BW.out.setCell (p := ⟨r + 2, 1, none⟩) (by show w.heap.size ≤ r + 2; have := RR.out; omega) (.int .i64 tx))
    have HW' := Lib.hid hW'
    clear hW' VW ZW BW RW
    go_upto_region 5 with (first | fail)
    (try simp only [Nat.zero_add, Nat.add_assoc, Nat.reduceAdd])
    rw [← (show W' = W.setCell ⟨r + 2, 1, none⟩ (.int .i64 tx) from HW'.out)]
    clear HW' c1 z1 y1
    have c2 : W'.cell? ⟨r, 2, none⟩ = some (.int .i64 prev) := VW'.out.cell 2
    have z2 : W'.cell? ⟨r + 2, 2, none⟩ = some (.int .i64 0) := ZW'.out.cell 2
    have y2 : W'.frozen? ⟨r + 2, 2, none⟩ = false := ZW'.out.frz 2
    obtain ⟨W'', hW''⟩ : ∃ U, U = W'.setCell ⟨r + 2, 2, none⟩ (.int .i64 prev) := ⟨_, rfl⟩
    have VW'' : Hid (Bk W'' r 30 #[.int .i64 1, .int .i64 tx, .int .i64 prev, .int .i64 next, .string key, .bool oh, .string od, .bool nh, .string nd, .int .i64 co, .slice mA mn mc, .slice kA kn kc, .slice rA rn rc, .slice dA dn dc, .slice eA en ec, .slice pA pn pc]) := Lib.hid (by rw [hW'']; exact setCell_bk VW'.out ⟨r + 2, 2, none⟩ (.int .i64 prev) (by show r ≠ r + 2; omega))
    have RW'' : Hid (Bk W'' (r + 1) 30 #[.int .i64 0, .int .i64 0, .int .i64 0, .int .i64 0, .string ⟨#[]⟩, .bool false, .string ⟨#[]⟩, .bool false, .string ⟨#[]⟩, .int .i64 0, .slice none 0 0, .slice none 0 0, .slice none 0 0, .slice none 0 0, .slice none 0 0, .slice none 0 0]) := Lib.hid (by rw [hW'']; exact setCell_bk RW'.out ⟨r + 2, 2, none⟩ (.int .i64 prev) (by show r + 1 ≠ r + 2; omega))
    have ZW'' : Hid (Bk W'' (r + 2) 30 #[.int .i64 1, .int .i64 tx, .int .i64 prev, .int .i64 0, .string ⟨#[]⟩, .bool false, .string ⟨#[]⟩, .bool false, .string ⟨#[]⟩, .int .i64 0, .slice none 0 0, .slice none 0 0, .slice none 0 0, .slice none 0 0, .slice none 0 0, .slice none 0 0]) := Lib.hid (by rw [hW'']; have := ZW'.out.setc 2 (.int .i64 prev); simpa using this)
    have BW'' : Hid (Below w.heap.size w W'') := Lib.hid (by rw [hW'']; exact BW'.out.setCell (p := ⟨r + 2, 2, none⟩) (by show w.heap.size ≤ r + 2; have := RR.out; omega) (.int .i64 prev))
    have HW'' := Lib.hid hW''
    clear hW'' VW' ZW' BW' RW'
    go_upto_region 6 with (first | fail)
    (try simp only [Nat.zero_add, Nat.add_assoc, Nat.reduceAdd])
    rw [← (show W'' = W'.setCell ⟨r + 2, 2, none⟩ (.int .i64 prev) from HW''.out)]
    clear HW'' c2 z2 y2
    have c4 : W''.cell? ⟨r, 4, none⟩ = some (.string key) := VW''.out.cell 4
    have z4 : W''.cell? ⟨r + 2, 4, none⟩ = some (.string ⟨#[]⟩) := ZW''.out.cell 4
    have y4 : W''.frozen? ⟨r + 2, 4, none⟩ = false := ZW''.out.frz 4
    obtain ⟨W''', hW'''⟩ : ∃ U, U = W''.setCell ⟨r + 2, 4, none⟩ (.string key) := ⟨_, rfl⟩
    have VW''' : Hid (Bk W''' r 30 #[.int .i64 1, .int .i64 tx, .int .i64 prev, .int .i64 next, .string key, .bool oh, .string od, .bool nh, .string nd, .int .i64 co, .slice mA mn mc, .slice kA kn kc, .slice rA rn rc, .slice dA dn dc, .slice eA en ec, .slice pA pn pc]) := Lib.hid (by rw [hW''']; exact setCell_bk VW''.out ⟨r + 2, 4, none⟩ (.string key) (by show r ≠ r + 2; omega))
    have RW''' : Hid (Bk W''' (r + 1) 30 #[.int .i64 0, .int .i64 0, .int .i64 0, .int .i64 0, .string ⟨#[]⟩, .bool false, .string ⟨#[]⟩, .bool false, .string ⟨#[]⟩, .int .i64 0, .slice none 0 0, .slice none 0 0, .slice none 0 0, .slice none 0 0, .slice none 0 0, .slice none 0 0]) := Lib.hid (by rw [hW''']; exact setCell_bk RW''.out ⟨r + 2, 4, none⟩ (.string key) (by show r + 1 ≠ r + 2; omega))
    have ZW''' : Hid (Bk W''' (r + 2) 30 #[.int .i64 1, .int .i64 tx, .int .i64 prev, .int .i64 0, .string key, .bool false, .string ⟨#[]⟩, .bool false, .string ⟨#[]⟩, .int .i64 0, .slice none 0 0, .slice none 0 0, .slice none 0 0, .slice none 0 0, .slice none 0 0, .slice none 0 0]) := Lib.hid (by rw [hW''']; have := ZW''.out.setc 4 (.string key); simpa using this)
    have BW''' : Hid (Below w.heap.size w W''') := Lib.hid (by rw [hW''']; exact BW''.out.setCell (p := ⟨r + 2, 4, none⟩) (by show w.heap.size ≤ r + 2; have := RR.out; omega) (.string key))
    have HW''' := Lib.hid hW'''
    clear hW''' VW'' ZW'' BW'' RW''
    go_upto_region 7 with (first | fail)
    (try simp only [Nat.zero_add, Nat.add_assoc, Nat.reduceAdd])
    rw [← (show W''' = W''.setCell ⟨r + 2, 4, none⟩ (.string key) from HW'''.out)]
    clear HW''' c4 z4 y4
    have c5 : W'''.cell? ⟨r, 5, none⟩ = some (.bool oh) := VW'''.out.cell 5
    have z5 : W'''.cell? ⟨r + 2, 5, none⟩ = some (.bool false) := ZW'''.out.cell 5
    have y5 : W'''.frozen? ⟨r + 2, 5, none⟩ = false := ZW'''.out.frz 5
    have c6 : W'''.cell? ⟨r, 6, none⟩ = some (.string od) := VW'''.out.cell 6
    have z6 : W'''.cell? ⟨r + 2, 6, none⟩ = some (.string ⟨#[]⟩) := ZW'''.out.cell 6
    have y6 : W'''.frozen? ⟨r + 2, 6, none⟩ = false := ZW'''.out.frz 6
    obtain ⟨W'''', hW''''⟩ : ∃ U, U = (W'''.setCell ⟨r + 2, 5, none⟩ (.bool oh)).setCell ⟨r + 2, 6, none⟩ (.string od) := ⟨_, rfl⟩
    have VW'''' : Hid (Bk W'''' r 30 #[.int .i64 1, .int .i64 tx, .int .i64 prev, .int .i64 next, .string key, .bool oh, .string od, .bool nh, .string nd, .int .i64 co, .slice mA mn mc, .slice kA kn kc, .slice rA rn rc, .slice dA dn dc, .slice eA en ec, .slice pA pn pc]) := Lib.hid (by rw [hW'''']; exact setCell_bk (setCell_bk VW'''.out ⟨r + 2, 5, none⟩ (.bool oh) (by show r ≠ r + 2; omega)) ⟨r + 2, 6, none⟩ (.string od) (by show r ≠ r + 2; omega))
    have RW'''' : Hid (Bk W'''' (r + 1) 30 #[.int .i64 0, .int .i64 0, .int .i64 0, .int .i64 0, .string ⟨#[]⟩, .bool false, .string ⟨#[]⟩, .bool false, .string ⟨#[]⟩, .int .i64 0, .slice none 0 0, .slice none 0 0, .slice none 0 0, .slice none 0 0, .slice none 0 0, .slice none 0 0]) := Lib.hid (by rw [hW'''']; exact setCell_bk (setCell_bk RW'''.out ⟨r + 2, 5, none⟩ (.bool oh) (by show r + 1 ≠ r + 2; omega)) ⟨r + 2, 6, none⟩ (.string od) (by show r + 1 ≠ r + 2; omega))
    have ZW'''' : Hid (Bk W'''' (r + 2) 30 #[.int .i64 1, .int .i64 tx, .int .i64 prev, .int .i64 0, .string key, .bool oh, .string od, .bool false, .string ⟨#[]⟩, .int .i64 0, .slice none 0 0, .slice none 0 0, .slice none 0 0, .slice none 0 0, .slice none 0 0, .slice none 0 0]) := Lib.hid (by rw [hW'''']; have := (ZW'''.out.setc 5 (.bool oh)).setc 6 (.string od); simpa using this)
    have BW'''' : Hid (Below w.heap.size w W'''') := Lib.hid (by rw [hW'''']; exact (BW'''.out.setCell (p := ⟨r + 2, 5, none⟩) (by show w.heap.size ≤ r + 2; have := RR.out; omega) (.bool oh)).setCell (p := ⟨r + 2, 6, none⟩) (by show w.heap.size ≤ r + 2; have := RR.out; omega) (.string od))
    have HW'''' := Lib.hid hW''''
    clear hW'''' VW''' ZW''' BW''' RW'''
    go_upto_region 8 with (first | fail)
    (try simp only [Nat.zero_add, Nat.add_assoc, Nat.reduceAdd])
    rw [← (show W'''' = (W'''.setCell ⟨r + 2, 5, none⟩ (.bool oh)).setCell ⟨r + 2, 6, none⟩ (.string od) from HW''''.out)]
    clear HW'''' c5 z5 y5 c6 z6 y6
    have c7 : W''''.cell? ⟨r, 7, none⟩ = some (.bool nh) := VW''''.out.cell 7
    have z7 : W''''.cell? ⟨r + 2, 7, none⟩ = some (.bool false) := ZW''''.out.cell 7
    have y7 : W''''.frozen? ⟨r + 2, 7, none⟩ = false := ZW''''.out.frz 7
    have c8 : W''''.cell? ⟨r, 8, none⟩ = some (.string nd) := VW''''.out.cell 8
    have z8 : W''''.cell? ⟨r + 2, 8, none⟩ = some (.string ⟨#[]⟩) := ZW''''.out.cell 8
    have y8 : W''''.frozen? ⟨r + 2, 8, none⟩ = false := ZW''''.out.frz 8
    obtain ⟨W''''', hW'''''⟩ : ∃ U, U = (W''''.setCell ⟨r + 2, 7, none⟩ (.bool nh)).setCell ⟨r + 2, 8, none⟩ (.string nd) := ⟨_, rfl⟩
    have VW''''' : Hid (Bk W''''' r 30 #[.int .i64 1, .int .i64 tx, .int .i64 prev, .int .i64 next, .string key, .bool oh, .string od, .bool nh, .string nd, .int .i64 co, .slice mA mn mc, .slice kA kn kc, .slice rA rn rc, .slice dA dn dc, .slice eA en ec, .slice pA pn pc]) := Lib.hid (by rw [hW''''']; exact setCell_bk (setCell_bk VW''''.out ⟨r + 2, 7, none⟩ (.bool nh) (by show r ≠ r + 2; omega)) ⟨r + 2, 8, none⟩ (.string nd) (by show r ≠ r + 2; omega))
    have RW''''' : Hid (Bk W''''' (r + 1) 30 #[.int .i64 0, .int .i64 0, .int .i64 0, .int .i64 0, .string ⟨#[]⟩, .bool false, .string ⟨#[]⟩, .bool false, .string ⟨#[]⟩, .int .i64 0, .slice none 0 0, .slice none 0 0, .slice none 0 0, .slice none 0 0, .slice none 0 0, .slice none 0 0]) := Lib.hid (by rw [hW''''']; exact setCell_bk (setCell_bk RW''''.out ⟨r + 2, 7, none⟩ (.bool nh) (by show r + 1 ≠ r + 2; omega)) ⟨r + 2, 8, none⟩ (.string nd) (by show r + 1 ≠ r + 2; omega))
    have ZW''''' : Hid (Bk W''''' (r + 2) 30 #[.int .i64 1, .int .i64 tx, .int .i64 prev, .int .i64 0, .string key, .bool oh, .string od, .bool nh, .string nd, .int .i64 0, .slice none 0 0, .slice none 0 0, .slice none 0 0, .slice none 0 0, .slice none 0 0, .slice none 0 0]) := Lib.hid (by rw [hW''''']; have := (ZW''''.out.setc 7 (.bool nh)).setc 8 (.string nd); simpa using this)
    have BW''''' : Hid (Below w.heap.size w W''''') := Lib.hid (by rw [hW''''']; exact (BW''''.out.setCell (p := ⟨r + 2, 7, none⟩) (by show w.heap.size ≤ r + 2; have := RR.out; omega) (.bool nh)).setCell (p := ⟨r + 2, 8, none⟩) (by show w.heap.size ≤ r + 2; have := RR.out; omega) (.string nd))
    have HW''''' := Lib.hid hW'''''
    clear hW''''' VW'''' ZW'''' BW'''' RW''''
    go_upto_region 36 with (first | fail)
    (try simp only [Nat.zero_add, Nat.add_assoc, Nat.reduceAdd])
    rw [← (show W''''' = (W''''.setCell ⟨r + 2, 7, none⟩ (.bool nh)).setCell ⟨r + 2, 8, none⟩ (.string nd) from HW'''''.out)]
    clear HW''''' c7 z7 y7 c8 z8 y8
    have RB := Lib.hid (RW'''''.out.rowp #[.int .i64 1, .int .i64 tx, .int .i64 prev, .int .i64 0, .string key, .bool oh, .string od, .bool nh, .string nd, .int .i64 0, .slice none 0 0, .slice none 0 0, .slice none 0 0, .slice none 0 0, .slice none 0 0, .slice none 0 0])
    have BF := Lib.hid (BW'''''.out.grown (grown_setRow W''''' (r + 1) #[.int .i64 1, .int .i64 tx, .int .i64 prev, .int .i64 0, .string key, .bool oh, .string od, .bool nh, .string nd, .int .i64 0, .slice none 0 0, .slice none 0 0, .slice none 0 0, .slice none 0 0, .slice none 0 0, .slice none 0 0]) (by have := VW'''''.out.lt; have := RR.out; omega) (fun q hq => by injection hq with hq; have := RR.out; omega))
    go_wp2_with (first
      | (refine wpList_load_row rfl 30 _ rfl (r + 2) rfl 30 _ (0, 0) _ ZW'''''.out Try.underlying30 rfl inf_rec ?_)
      | (refine wpList_store_row rfl 30 _ _ rfl (r + 1) #[.int .i64 1, .int .i64 tx, .int .i64 prev, .int .i64 0, .string key, .bool oh, .string od, .bool nh, .string nd, .int .i64 0, .slice none 0 0, .slice none 0 0, .slice none 0 0, .slice none 0 0, .slice none 0 0, .slice none 0 0] rfl rfl 30 _ RW'''''.out inf_rec rfl (rec_one _ (by simp [Value.oneCell'])) ?_; simp only [Act.put]))
    (try simp only [Exit.inBlock, Exit.then])
    refine bodyPost_ret (results_cell_row rfl _ _ (r + 1) 30 _ (0, 0) _ rfl RB.out Try.underlying30 rfl inf_rec) rfl ?_
    exact ⟨rfl, BF.out⟩
  rw [if_neg k1]
  have e1 : (kind == 1) = false := by simpa using k1
  by_cases k2 : kind = 2
  · rw [if_pos k2]
    subst k2
    have c1 : W.cell? ⟨r, 1, none⟩ = some (.int .i64 tx) := VW.out.cell 1
    have z1 : W.cell? ⟨r + 2, 1, none⟩ = some (.int .i64 0) := ZW.out.cell 1
    have y1 : W.frozen? ⟨r + 2, 1, none⟩ = false := ZW.out.frz 1
    obtain ⟨W', hW'⟩ : ∃ U, U = W.setCell ⟨r + 2, 1, none⟩ (.int .i64 tx) := ⟨_, rfl⟩
    have VW' : Hid (Bk W' r 30 #[.int .i64 2, .int .i64 tx, .int .i64 prev, .int .i64 next, .string key, .bool oh, .string od, .bool nh, .string nd, .int .i64 co, .slice mA mn mc, .slice kA kn kc, .slice rA rn rc, .slice dA dn dc, .slice eA en ec, .slice pA pn pc]) := Lib.hid (by rw [hW']; exact setCell_bk VW.out ⟨r + 2, 1, none⟩ (.int .i64 tx) (by show r ≠ r + 2; omega))
    have RW' : Hid (Bk W' (r + 1) 30 #[.int .i64 0, .int .i64 0, .int .i64 0, .int .i64 0, .string ⟨#[]⟩, .bool false, .string ⟨#[]⟩, .bool false, .string ⟨#[]⟩, .int .i64 0, .slice none 0 0, .slice none 0 0, .slice none 0 0, .slice none 0 0, .slice none 0 0, .slice none 0 0]) := Lib.hid (by rw [hW']; exact setCell_bk RW.out ⟨r + 2, 1, none⟩ (.int .i64 tx) (by show r + 1 ≠ r + 2; omega))
    have ZW' : Hid (Bk W' (r + 2) 30 #[.int .i64 2, .int .i64 tx, .int .i64 0, .int .i64 0, .string ⟨#[]⟩, .bool false, .string ⟨#[]⟩, .bool false, .string ⟨#[]⟩, .int .i64 0, .slice none 0 0, .slice none 0 0, .slice none 0 0, .slice none 0 0, .slice none 0 0, .slice none 0 0]) := Lib.hid (by rw [hW']; have := ZW.out.setc 1 (.int .i64 tx); simpa using this)
    have BW' : Hid (Below w.heap.size w W') := Lib.hid (by rw [hW']; exact BW.out.setCell (p := ⟨r + 2, 1, none⟩) (by show w.heap.size ≤ r + 2; have := RR.out; omega) (.int .i64 tx))
    have HW' := Lib.hid hW'
    clear hW' VW ZW BW RW
    go_upto_region 11 with (first | fail)
    (try simp only [Nat.zero_add, Nat.add_assoc, Nat.reduceAdd])
    rw [← (show W' = W.setCell ⟨r + 2, 1, none⟩ (.int .i64 tx) from HW'.out)]
    clear HW' c1 z1 y1
    have c2 : W'.cell? ⟨r, 2, none⟩ = some (.int .i64 prev) := VW'.out.cell 2
    have z2 : W'.cell? ⟨r + 2, 2, none⟩ = some (.int .i64 0) := ZW'.out.cell 2
    have y2 : W'.frozen? ⟨r + 2, 2, none⟩ = false := ZW'.out.frz 2
    obtain ⟨W'', hW''⟩ : ∃ U, U = W'.setCell ⟨r + 2, 2, none⟩ (.int .i64 prev) := ⟨_, rfl⟩
    have VW'' : Hid (Bk W'' r 30 #[.int .i64 2, .int .i64 tx, .int .i64 prev, .int .i64 next, .string key, .bool oh, .string od, .bool nh, .string nd, .int .i64 co, .slice mA mn mc, .slice kA kn kc, .slice rA rn rc, .slice dA dn dc, .slice eA en ec, .slice pA pn pc]) := Lib.hid (by rw [hW'']; exact setCell_bk VW'.out ⟨r + 2, 2, none⟩ (.int .i64 prev) (by show r ≠ r + 2; omega))
    have RW'' : Hid (Bk W'' (r + 1) 30 #[.int .i64 0, .int .i64 0, .int .i64 0, .int .i64 0, .string ⟨#[]⟩, .bool false, .string ⟨#[]⟩, .bool false, .string ⟨#[]⟩, .int .i64 0, .slice none 0 0, .slice none 0 0, .slice none 0 0, .slice none 0 0, .slice none 0 0, .slice none 0 0]) := Lib.hid (by rw [hW'']; exact setCell_bk RW'.out ⟨r + 2, 2, none⟩ (.int .i64 prev) (by show r + 1 ≠ r + 2; omega))
    have ZW'' : Hid (Bk W'' (r + 2) 30 #[.int .i64 2, .int .i64 tx, .int .i64 prev, .int .i64 0, .string ⟨#[]⟩, .bool false, .string ⟨#[]⟩, .bool false, .string ⟨#[]⟩, .int .i64 0, .slice none 0 0, .slice none 0 0, .slice none 0 0, .slice none 0 0, .slice none 0 0, .slice none 0 0]) := Lib.hid (by rw [hW'']; have := ZW'.out.setc 2 (.int .i64 prev); simpa using this)
    have BW'' : Hid (Below w.heap.size w W'') := Lib.hid (by rw [hW'']; exact BW'.out.setCell (p := ⟨r + 2, 2, none⟩) (by show w.heap.size ≤ r + 2; have := RR.out; omega) (.int .i64 prev))
    have HW'' := Lib.hid hW''
    clear hW'' VW' ZW' BW' RW'
    go_upto_region 12 with (first | fail)
    (try simp only [Nat.zero_add, Nat.add_assoc, Nat.reduceAdd])
    rw [← (show W'' = W'.setCell ⟨r + 2, 2, none⟩ (.int .i64 prev) from HW''.out)]
    clear HW'' c2 z2 y2
    have c3 : W''.cell? ⟨r, 3, none⟩ = some (.int .i64 next) := VW''.out.cell 3
    have z3 : W''.cell? ⟨r + 2, 3, none⟩ = some (.int .i64 0) := ZW''.out.cell 3
    have y3 : W''.frozen? ⟨r + 2, 3, none⟩ = false := ZW''.out.frz 3
    obtain ⟨W''', hW'''⟩ : ∃ U, U = W''.setCell ⟨r + 2, 3, none⟩ (.int .i64 next) := ⟨_, rfl⟩
    have VW''' : Hid (Bk W''' r 30 #[.int .i64 2, .int .i64 tx, .int .i64 prev, .int .i64 next, .string key, .bool oh, .string od, .bool nh, .string nd, .int .i64 co, .slice mA mn mc, .slice kA kn kc, .slice rA rn rc, .slice dA dn dc, .slice eA en ec, .slice pA pn pc]) := Lib.hid (by rw [hW''']; exact setCell_bk VW''.out ⟨r + 2, 3, none⟩ (.int .i64 next) (by show r ≠ r + 2; omega))
    have RW''' : Hid (Bk W''' (r + 1) 30 #[.int .i64 0, .int .i64 0, .int .i64 0, .int .i64 0, .string ⟨#[]⟩, .bool false, .string ⟨#[]⟩, .bool false, .string ⟨#[]⟩, .int .i64 0, .slice none 0 0, .slice none 0 0, .slice none 0 0, .slice none 0 0, .slice none 0 0, .slice none 0 0]) := Lib.hid (by rw [hW''']; exact setCell_bk RW''.out ⟨r + 2, 3, none⟩ (.int .i64 next) (by show r + 1 ≠ r + 2; omega))
    have ZW''' : Hid (Bk W''' (r + 2) 30 #[.int .i64 2, .int .i64 tx, .int .i64 prev, .int .i64 next, .string ⟨#[]⟩, .bool false, .string ⟨#[]⟩, .bool false, .string ⟨#[]⟩, .int .i64 0, .slice none 0 0, .slice none 0 0, .slice none 0 0, .slice none 0 0, .slice none 0 0, .slice none 0 0]) := Lib.hid (by rw [hW''']; have := ZW''.out.setc 3 (.int .i64 next); simpa using this)
    have BW''' : Hid (Below w.heap.size w W''') := Lib.hid (by rw [hW''']; exact BW''.out.setCell (p := ⟨r + 2, 3, none⟩) (by show w.heap.size ≤ r + 2; have := RR.out; omega) (.int .i64 next))
    have HW''' := Lib.hid hW'''
    clear hW''' VW'' ZW'' BW'' RW''
    go_upto_region 13 with (first | fail)
    (try simp only [Nat.zero_add, Nat.add_assoc, Nat.reduceAdd])
    rw [← (show W''' = W''.setCell ⟨r + 2, 3, none⟩ (.int .i64 next) from HW'''.out)]
    clear HW''' c3 z3 y3
    have c4 : W'''.cell? ⟨r, 4, none⟩ = some (.string key) := VW'''.out.cell 4
    have z4 : W'''.cell? ⟨r + 2, 4, none⟩ = some (.string ⟨#[]⟩) := ZW'''.out.cell 4
    have y4 : W'''.frozen? ⟨r + 2, 4, none⟩ = false := ZW'''.out.frz 4
    obtain ⟨W'''', hW''''⟩ : ∃ U, U = W'''.setCell ⟨r + 2, 4, none⟩ (.string key) := ⟨_, rfl⟩
    have VW'''' : Hid (Bk W'''' r 30 #[.int .i64 2, .int .i64 tx, .int .i64 prev, .int .i64 next, .string key, .bool oh, .string od, .bool nh, .string nd, .int .i64 co, .slice mA mn mc, .slice kA kn kc, .slice rA rn rc, .slice dA dn dc, .slice eA en ec, .slice pA pn pc]) := Lib.hid (by rw [hW'''']; exact setCell_bk VW'''.out ⟨r + 2, 4, none⟩ (.string key) (by show r ≠ r + 2; omega))
    have RW'''' : Hid (Bk W'''' (r + 1) 30 #[.int .i64 0, .int .i64 0, .int .i64 0, .int .i64 0, .string ⟨#[]⟩, .bool false, .string ⟨#[]⟩, .bool false, .string ⟨#[]⟩, .int .i64 0, .slice none 0 0, .slice none 0 0, .slice none 0 0, .slice none 0 0, .slice none 0 0, .slice none 0 0]) := Lib.hid (by rw [hW'''']; exact setCell_bk RW'''.out ⟨r + 2, 4, none⟩ (.string key) (by show r + 1 ≠ r + 2; omega))
    have ZW'''' : Hid (Bk W'''' (r + 2) 30 #[.int .i64 2, .int .i64 tx, .int .i64 prev, .int .i64 next, .string key, .bool false, .string ⟨#[]⟩, .bool false, .string ⟨#[]⟩, .int .i64 0, .slice none 0 0, .slice none 0 0, .slice none 0 0, .slice none 0 0, .slice none 0 0, .slice none 0 0]) := Lib.hid (by rw [hW'''']; have := ZW'''.out.setc 4 (.string key); simpa using this)
    have BW'''' : Hid (Below w.heap.size w W'''') := Lib.hid (by rw [hW'''']; exact BW'''.out.setCell (p := ⟨r + 2, 4, none⟩) (by show w.heap.size ≤ r + 2; have := RR.out; omega) (.string key))
    have HW'''' := Lib.hid hW''''
    clear hW'''' VW''' ZW''' BW''' RW'''
    go_upto_region 14 with (first | fail)
    (try simp only [Nat.zero_add, Nat.add_assoc, Nat.reduceAdd])
    rw [← (show W'''' = W'''.setCell ⟨r + 2, 4, none⟩ (.string key) from HW''''.out)]
    clear HW'''' c4 z4 y4
    have c7 : W''''.cell? ⟨r, 7, none⟩ = some (.bool nh) := VW''''.out.cell 7
    have z7 : W''''.cell? ⟨r + 2, 7, none⟩ = some (.bool false) := ZW''''.out.cell 7
    have y7 : W''''.frozen? ⟨r + 2, 7, none⟩ = false := ZW''''.out.frz 7
    have c8 : W''''.cell? ⟨r, 8, none⟩ = some (.string nd) := VW''''.out.cell 8
    have z8 : W''''.cell? ⟨r + 2, 8, none⟩ = some (.string ⟨#[]⟩) := ZW''''.out.cell 8
    have y8 : W''''.frozen? ⟨r + 2, 8, none⟩ = false := ZW''''.out.frz 8
    obtain ⟨W''''', hW'''''⟩ : ∃ U, U = (W''''.setCell ⟨r + 2, 7, none⟩ (.bool nh)).setCell ⟨r + 2, 8, none⟩ (.string nd) := ⟨_, rfl⟩
    have VW''''' : Hid (Bk W''''' r 30 #[.int .i64 2, .int .i64 tx, .int .i64 prev, .int .i64 next, .string key, .bool oh, .string od, .bool nh, .string nd, .int .i64 co, .slice mA mn mc, .slice kA kn kc, .slice rA rn rc, .slice dA dn dc, .slice eA en ec, .slice pA pn pc]) := Lib.hid (by rw [hW''''']; exact setCell_bk (setCell_bk VW''''.out ⟨r + 2, 7, none⟩ (.bool nh) (by show r ≠ r + 2; omega)) ⟨r + 2, 8, none⟩ (.string nd) (by show r ≠ r + 2; omega))
    have RW''''' : Hid (Bk W''''' (r + 1) 30 #[.int .i64 0, .int .i64 0, .int .i64 0, .int .i64 0, .string ⟨#[]⟩, .bool false, .string ⟨#[]⟩, .bool false, .string ⟨#[]⟩, .int .i64 0, .slice none 0 0, .slice none 0 0, .slice none 0 0, .slice none 0 0, .slice none 0 0, .slice none 0 0]) := Lib.hid (by rw [hW''''']; exact setCell_bk (setCell_bk RW''''.out ⟨r + 2, 7, none⟩ (.bool nh) (by show r + 1 ≠ r + 2; omega)) ⟨r + 2, 8, none⟩ (.string nd) (by show r + 1 ≠ r + 2; omega))
    have ZW''''' : Hid (Bk W''''' (r + 2) 30 #[.int .i64 2, .int .i64 tx, .int .i64 prev, .int .i64 next, .string key, .bool false, .string ⟨#[]⟩, .bool nh, .string nd, .int .i64 0, .slice none 0 0, .slice none 0 0, .slice none 0 0, .slice none 0 0, .slice none 0 0, .slice none 0 0]) := Lib.hid (by rw [hW''''']; have := (ZW''''.out.setc 7 (.bool nh)).setc 8 (.string nd); simpa using this)
    have BW''''' : Hid (Below w.heap.size w W''''') := Lib.hid (by rw [hW''''']; exact (BW''''.out.setCell (p := ⟨r + 2, 7, none⟩) (by show w.heap.size ≤ r + 2; have := RR.out; omega) (.bool nh)).setCell (p := ⟨r + 2, 8, none⟩) (by show w.heap.size ≤ r + 2; have := RR.out; omega) (.string nd))
    have HW''''' := Lib.hid hW'''''
    clear hW''''' VW'''' ZW'''' BW'''' RW''''
    go_upto_region 36 with (first | fail)
    (try simp only [Nat.zero_add, Nat.add_assoc, Nat.reduceAdd])
    rw [← (show W''''' = (W''''.setCell ⟨r + 2, 7, none⟩ (.bool nh)).setCell ⟨r + 2, 8, none⟩ (.string nd) from HW'''''.out)]
    clear HW''''' c7 z7 y7 c8 z8 y8
    have RB := Lib.hid (RW'''''.out.rowp #[.int .i64 2, .int .i64 tx, .int .i64 prev, .int .i64 next, .string key, .bool false, .string ⟨#[]⟩, .bool nh, .string nd, .int .i64 0, .slice none 0 0, .slice none 0 0, .slice none 0 0, .slice none 0 0, .slice none 0 0, .slice none 0 0])
    have BF := Lib.hid (BW'''''.out.grown (grown_setRow W''''' (r + 1) #[.int .i64 2, .int .i64 tx, .int .i64 prev, .int .i64 next, .string key, .bool false, .string ⟨#[]⟩, .bool nh, .string nd, .int .i64 0, .slice none 0 0, .slice none 0 0, .slice none 0 0, .slice none 0 0, .slice none 0 0, .slice none 0 0]) (by have := VW'''''.out.lt; have := RR.out; omega) (fun q hq => by injection hq with hq; have := RR.out; omega))
    go_wp2_with (first
      | (refine wpList_load_row rfl 30 _ rfl (r + 2) rfl 30 _ (0, 0) _ ZW'''''.out Try.underlying30 rfl inf_rec ?_)
      | (refine wpList_store_row rfl 30 _ _ rfl (r + 1) #[.int .i64 2, .int .i64 tx, .int .i64 prev, .int .i64 next, .string key, .bool false, .string ⟨#[]⟩, .bool nh, .string nd, .int .i64 0, .slice none 0 0, .slice none 0 0, .slice none 0 0, .slice none 0 0, .slice none 0 0, .slice none 0 0] rfl rfl 30 _ RW'''''.out inf_rec rfl (rec_one _ (by simp [Value.oneCell'])) ?_; simp only [Act.put]))
    (try simp only [Exit.inBlock, Exit.then])
    refine bodyPost_ret (results_cell_row rfl _ _ (r + 1) 30 _ (0, 0) _ rfl RB.out Try.underlying30 rfl inf_rec) rfl ?_
    exact ⟨rfl, BF.out⟩
  rw [if_neg k2]
  have e2 : (kind == 2) = false := by simpa using k2
  by_cases k3 : kind = 3
  · rw [if_pos k3]
    subst k3
    have c1 : W.cell? ⟨r, 1, none⟩ = some (.int .i64 tx) := VW.out.cell 1
    have z1 : W.cell? ⟨r + 2, 1, none⟩ = some (.int .i64 0) := ZW.out.cell 1
    have y1 : W.frozen? ⟨r + 2, 1, none⟩ = false := ZW.out.frz 1
    obtain ⟨W', hW'⟩ : ∃ U, U = W.setCell ⟨r + 2, 1, none⟩ (.int .i64 tx) := ⟨_, rfl⟩
    have VW' : Hid (Bk W' r 30 #[.int .i64 3, .int .i64 tx, .int .i64 prev, .int .i64 next, .string key, .bool oh, .string od, .bool nh, .string nd, .int .i64 co, .slice mA mn mc, .slice kA kn kc, .slice rA rn rc, .slice dA dn dc, .slice eA en ec, .slice pA pn pc]) := Lib.hid (by rw [hW']; exact setCell_bk VW.out ⟨r + 2, 1, none⟩ (.int .i64 tx) (by show r ≠ r + 2; omega))
    have RW' : Hid (Bk W' (r + 1) 30 #[.int .i64 0, .int .i64 0, .int .i64 0, .int .i64 0, .string ⟨#[]⟩, .bool false, .string ⟨#[]⟩, .bool false, .string ⟨#[]⟩, .int .i64 0, .slice none 0 0, .slice none 0 0, .slice none 0 0, .slice none 0 0, .slice none 0 0, .slice none 0 0]) := Lib.hid (by rw [hW']; exact setCell_bk RW.out ⟨r + 2, 1, none⟩ (.int .i64 tx) (by show r + 1 ≠ r + 2; omega))
    have ZW' : Hid (Bk W' (r + 2) 30 #[.int .i64 3, .int .i64 tx, .int .i64 0, .int .i64 0, .string ⟨#[]⟩, .bool false, .string ⟨#[]⟩, .bool false, .string ⟨#[]⟩, .int .i64 0, .slice none 0 0, .slice none 0 0, .slice none 0 0, .slice none 0 0, .slice none 0 0, .slice none 0 0]) := Lib.hid (by rw [hW']; have := ZW.out.setc 1 (.int .i64 tx); simpa using this)
    have BW' : Hid (Below w.heap.size w W') := Lib.hid (by rw [hW']; exact BW.out.setCell (p := ⟨r + 2, 1, none⟩) (by show w.heap.size ≤ r + 2; have := RR.out; omega) (.int .i64 tx))
    have HW' := Lib.hid hW'
    clear hW' VW ZW BW RW
    go_upto_region 17 with (first | fail)
    (try simp only [Nat.zero_add, Nat.add_assoc, Nat.reduceAdd])
    rw [← (show W' = W.setCell ⟨r + 2, 1, none⟩ (.int .i64 tx) from HW'.out)]
    clear HW' c1 z1 y1
    have c2 : W'.cell? ⟨r, 2, none⟩ = some (.int .i64 prev) := VW'.out.cell 2
    have z2 : W'.cell? ⟨r + 2, 2, none⟩ = some (.int .i64 0) := ZW'.out.cell 2
    have y2 : W'.frozen? ⟨r + 2, 2, none⟩ = false := ZW'.out.frz 2
    obtain ⟨W'', hW''⟩ : ∃ U, U = W'.setCell ⟨r + 2, 2, none⟩ (.int .i64 prev) := ⟨_, rfl⟩
    have VW'' : Hid (Bk W'' r 30 #[.int .i64 3, .int .i64 tx, .int .i64 prev, .int .i64 next, .string key, .bool oh, .string od, .bool nh, .string nd, .int .i64 co, .slice mA mn mc, .slice kA kn kc, .slice rA rn rc, .slice dA dn dc, .slice eA en ec, .slice pA pn pc]) := Lib.hid (by rw [hW'']; exact setCell_bk VW'.out ⟨r + 2, 2, none⟩ (.int .i64 prev) (by show r ≠ r + 2; omega))
    have RW'' : Hid (Bk W'' (r + 1) 30 #[.int .i64 0, .int .i64 0, .int .i64 0, .int .i64 0, .string ⟨#[]⟩, .bool false, .string ⟨#[]⟩, .bool false, .string ⟨#[]⟩, .int .i64 0, .slice none 0 0, .slice none 0 0, .slice none 0 0, .slice none 0 0, .slice none 0 0, .slice none 0 0]) := Lib.hid (by rw [hW'']; exact setCell_bk RW'.out ⟨r + 2, 2, none⟩ (.int .i64 prev) (by show r + 1 ≠ r + 2; omega))
    have ZW'' : Hid (Bk W'' (r + 2) 30 #[.int .i64 3, .int .i64 tx, .int .i64 prev, .int .i64 0, .string ⟨#[]⟩, .bool false, .string ⟨#[]⟩, .bool false, .string ⟨#[]⟩, .int .i64 0, .slice none 0 0, .slice none 0 0, .slice none 0 0, .slice none 0 0, .slice none 0 0, .slice none 0 0]) := Lib.hid (by rw [hW'']; have := ZW'.out.setc 2 (.int .i64 prev); simpa using this)
    have BW'' : Hid (Below w.heap.size w W'') := Lib.hid (by rw [hW'']; exact BW'.out.setCell (p := ⟨r + 2, 2, none⟩) (by show w.heap.size ≤ r + 2; have := RR.out; omega) (.int .i64 prev))
    have HW'' := Lib.hid hW''
    clear hW'' VW' ZW' BW' RW'
    go_upto_region 18 with (first | fail)
    (try simp only [Nat.zero_add, Nat.add_assoc, Nat.reduceAdd])
    rw [← (show W'' = W'.setCell ⟨r + 2, 2, none⟩ (.int .i64 prev) from HW''.out)]
    clear HW'' c2 z2 y2
    have c9 : W''.cell? ⟨r, 9, none⟩ = some (.int .i64 co) := VW''.out.cell 9
    have z9 : W''.cell? ⟨r + 2, 9, none⟩ = some (.int .i64 0) := ZW''.out.cell 9
    have y9 : W''.frozen? ⟨r + 2, 9, none⟩ = false := ZW''.out.frz 9
    obtain ⟨W''', hW'''⟩ : ∃ U, U = W''.setCell ⟨r + 2, 9, none⟩ (.int .i64 co) := ⟨_, rfl⟩
    have VW''' : Hid (Bk W''' r 30 #[.int .i64 3, .int .i64 tx, .int .i64 prev, .int .i64 next, .string key, .bool oh, .string od, .bool nh, .string nd, .int .i64 co, .slice mA mn mc, .slice kA kn kc, .slice rA rn rc, .slice dA dn dc, .slice eA en ec, .slice pA pn pc]) := Lib.hid (by rw [hW''']; exact setCell_bk VW''.out ⟨r + 2, 9, none⟩ (.int .i64 co) (by show r ≠ r + 2; omega))
    have RW''' : Hid (Bk W''' (r + 1) 30 #[.int .i64 0, .int .i64 0, .int .i64 0, .int .i64 0, .string ⟨#[]⟩, .bool false, .string ⟨#[]⟩, .bool false, .string ⟨#[]⟩, .int .i64 0, .slice none 0 0, .slice none 0 0, .slice none 0 0, .slice none 0 0, .slice none 0 0, .slice none 0 0]) := Lib.hid (by rw [hW''']; exact setCell_bk RW''.out ⟨r + 2, 9, none⟩ (.int .i64 co) (by show r + 1 ≠ r + 2; omega))
    have ZW''' : Hid (Bk W''' (r + 2) 30 #[.int .i64 3, .int .i64 tx, .int .i64 prev, .int .i64 0, .string ⟨#[]⟩, .bool false, .string ⟨#[]⟩, .bool false, .string ⟨#[]⟩, .int .i64 co, .slice none 0 0, .slice none 0 0, .slice none 0 0, .slice none 0 0, .slice none 0 0, .slice none 0 0]) := Lib.hid (by rw [hW''']; have := ZW''.out.setc 9 (.int .i64 co); simpa using this)
    have BW''' : Hid (Below w.heap.size w W''') := Lib.hid (by rw [hW''']; exact BW''.out.setCell (p := ⟨r + 2, 9, none⟩) (by show w.heap.size ≤ r + 2; have := RR.out; omega) (.int .i64 co))
    have HW''' := Lib.hid hW'''
    clear hW''' VW'' ZW'' BW'' RW''
    go_upto_region 19 with (first | fail)
    (try simp only [Nat.zero_add, Nat.add_assoc, Nat.reduceAdd])
    rw [← (show W''' = W''.setCell ⟨r + 2, 9, none⟩ (.int .i64 co) from HW'''.out)]
    clear HW''' c9 z9 y9
    have c10 : W'''.cell? ⟨r, 10, none⟩ = some (.slice mA mn mc) := VW'''.out.cell 10
    have z10 : W'''.cell? ⟨r + 2, 10, none⟩ = some (.slice none 0 0) := ZW'''.out.cell 10
    have y10 : W'''.frozen? ⟨r + 2, 10, none⟩ = false := ZW'''.out.frz 10
    obtain ⟨W'''', hW''''⟩ : ∃ U, U = W'''.setCell ⟨r + 2, 10, none⟩ (.slice mA mn mc) := ⟨_, rfl⟩
    have VW'''' : Hid (Bk W'''' r 30 #[.int .i64 3, .int .i64 tx, .int .i64 prev, .int .i64 next, .string key, .bool oh, .string od, .bool nh, .string nd, .int .i64 co, .slice mA mn mc, .slice kA kn kc, .slice rA rn rc, .slice dA dn dc, .slice eA en ec, .slice pA pn pc]) := Lib.hid (by rw [hW'''']; exact setCell_bk VW'''.out ⟨r + 2, 10, none⟩ (.slice mA mn mc) (by show r ≠ r + 2; omega))
    have RW'''' : Hid (Bk W'''' (r + 1) 30 #[.int .i64 0, .int .i64 0, .int .i64 0, .int .i64 0, .string ⟨#[]⟩, .bool false, .string ⟨#[]⟩, .bool false, .string ⟨#[]⟩, .int .i64 0, .slice none 0 0, .slice none 0 0, .slice none 0 0, .slice none 0 0, .slice none 0 0, .slice none 0 0]) := Lib.hid (by rw [hW'''']; exact setCell_bk RW'''.out ⟨r + 2, 10, none⟩ (.slice mA mn mc) (by show r + 1 ≠ r + 2; omega))
    have ZW'''' : Hid (Bk W'''' (r + 2) 30 #[.int .i64 3, .int .i64 tx, .int .i64 prev, .int .i64 0, .string ⟨#[]⟩, .bool false, .string ⟨#[]⟩, .bool false, .string ⟨#[]⟩, .int .i64 co, .slice mA mn mc, .slice none 0 0, .slice none 0 0, .slice none 0 0, .slice none 0 0, .slice none 0 0]) := Lib.hid (by rw [hW'''']; have := ZW'''.out.setc 10 (.slice mA mn mc); simpa using this)
    have BW'''' : Hid (Below w.heap.size w W'''') := Lib.hid (by rw [hW'''']; exact BW'''.out.setCell (p := ⟨r + 2, 10, none⟩) (by show w.heap.size ≤ r + 2; have := RR.out; omega) (.slice mA mn mc))
    have HW'''' := Lib.hid hW''''
    clear hW'''' VW''' ZW''' BW''' RW'''
    go_upto_region 20 with (first | fail)
    (try simp only [Nat.zero_add, Nat.add_assoc, Nat.reduceAdd])
    rw [← (show W'''' = W'''.setCell ⟨r + 2, 10, none⟩ (.slice mA mn mc) from HW''''.out)]
    clear HW'''' c10 z10 y10
    have c11 : W''''.cell? ⟨r, 11, none⟩ = some (.slice kA kn kc) := VW''''.out.cell 11
    have z11 : W''''.cell? ⟨r + 2, 11, none⟩ = some (.slice none 0 0) := ZW''''.out.cell 11
    have y11 : W''''.frozen? ⟨r + 2, 11, none⟩ = false := ZW''''.out.frz 11
    obtain ⟨W''''', hW'''''⟩ : ∃ U, U = W''''.setCell ⟨r + 2, 11, none⟩ (.slice kA kn kc) := ⟨_, rfl⟩
    have VW''''' : Hid (Bk W''''' r 30 #[.int .i64 3, .int .i64 tx, .int .i64 prev, .int .i64 next, .string key, .bool oh, .string od, .bool nh, .string nd, .int .i64 co, .slice mA mn mc, .slice kA kn kc, .slice rA rn rc, .slice dA dn dc, .slice eA en ec, .slice pA pn pc]) := Lib.hid (by rw [hW''''']; exact setCell_bk VW''''.out ⟨r + 2, 11, none⟩ (.slice kA kn kc) (by show r ≠ r + 2; omega))
    have RW''''' : Hid (Bk W''''' (r + 1) 30 #[.int .i64 0, .int .i64 0, .int .i64 0, .int .i64 0, .string ⟨#[]⟩, .bool false, .string ⟨#[]⟩, .bool false, .string ⟨#[]⟩, .int .i64 0, .slice none 0 0, .slice none 0 0, .slice none 0 0, .slice none 0 0, .slice none 0 0, .slice none 0 0]) := Lib.hid (by rw [hW''''']; exact setCell_bk RW''''.out ⟨r + 2, 11, none⟩ (.slice kA kn kc) (by show r + 1 ≠ r + 2; omega))
    have ZW''''' : Hid (Bk W''''' (r + 2) 30 #[.int .i64 3, .int .i64 tx, .int .i64 prev, .int .i64 0, .string ⟨#[]⟩, .bool false, .string ⟨#[]⟩, .bool false, .string ⟨#[]⟩, .int .i64 co, .slice mA mn mc, .slice kA kn kc, .slice none 0 0, .slice none 0 0, .slice none 0 0, .slice none 0 0]) := Lib.hid (by rw [hW''''']; have := ZW''''.out.setc 11 (.slice kA kn kc); simpa using this)
    have BW''''' : Hid (Below w.heap.size w W''''') := Lib.hid (by rw [hW''''']; exact BW''''.out.setCell (p := ⟨r + 2, 11, none⟩) (by show w.heap.size ≤ r + 2; have := RR.out; omega) (.slice kA kn kc))
    have HW''''' := Lib.hid hW'''''
    clear hW''''' VW'''' ZW'''' BW'''' RW''''
    go_upto_region 36 with (first | fail)
    (try simp only [Nat.zero_add, Nat.add_assoc, Nat.reduceAdd])
    rw [← (show W''''' = W''''.setCell ⟨r + 2, 11, none⟩ (.slice kA kn kc) from HW'''''.out)]
    clear HW''''' c11 z11 y11
    have RB := Lib.hid (RW'''''.out.rowp #[.int .i64 3, .int .i64 tx, .int .i64 prev, .int .i64 0, .string ⟨#[]⟩, .bool false, .string ⟨#[]⟩, .bool false, .string ⟨#[]⟩, .int .i64 co, .slice mA mn mc, .slice kA kn kc, .slice none 0 0, .slice none 0 0, .slice none 0 0, .slice none 0 0])
    have BF := Lib.hid (BW'''''.out.grown (grown_setRow W''''' (r + 1) #[.int .i64 3, .int .i64 tx, .int .i64 prev, .int .i64 0, .string ⟨#[]⟩, .bool false, .string ⟨#[]⟩, .bool false, .string ⟨#[]⟩, .int .i64 co, .slice mA mn mc, .slice kA kn kc, .slice none 0 0, .slice none 0 0, .slice none 0 0, .slice none 0 0]) (by have := VW'''''.out.lt; have := RR.out; omega) (fun q hq => by injection hq with hq; have := RR.out; omega))
    go_wp2_with (first
      | (refine wpList_load_row rfl 30 _ rfl (r + 2) rfl 30 _ (0, 0) _ ZW'''''.out Try.underlying30 rfl inf_rec ?_)
      | (refine wpList_store_row rfl 30 _ _ rfl (r + 1) #[.int .i64 3, .int .i64 tx, .int .i64 prev, .int .i64 0, .string ⟨#[]⟩, .bool false, .string ⟨#[]⟩, .bool false, .string ⟨#[]⟩, .int .i64 co, .slice mA mn mc, .slice kA kn kc, .slice none 0 0, .slice none 0 0, .slice none 0 0, .slice none 0 0] rfl rfl 30 _ RW'''''.out inf_rec rfl (rec_one _ (by simp [Value.oneCell'])) ?_; simp only [Act.put]))
    (try simp only [Exit.inBlock, Exit.then])
    refine bodyPost_ret (results_cell_row rfl _ _ (r + 1) 30 _ (0, 0) _ rfl RB.out Try.underlying30 rfl inf_rec) rfl ?_
    exact ⟨rfl, BF.out⟩
  rw [if_neg k3]
  have e3 : (kind == 3) = false := by simpa using k3
  by_cases k4 : kind = 4 ∨ kind = 5 ∨ kind = 6
  · rw [if_pos k4]
    rcases k4 with rfl | rfl | rfl
    · have c1 : W.cell? ⟨r, 1, none⟩ = some (.int .i64 tx) := VW.out.cell 1
      have z1 : W.cell? ⟨r + 2, 1, none⟩ = some (.int .i64 0) := ZW.out.cell 1
      have y1 : W.frozen? ⟨r + 2, 1, none⟩ = false := ZW.out.frz 1
      obtain ⟨W', hW'⟩ : ∃ U, U = W.setCell ⟨r + 2, 1, none⟩ (.int .i64 tx) := ⟨_, rfl⟩
      have VW' : Hid (Bk W' r 30 #[.int .i64 4, .int .i64 tx, .int .i64 prev, .int .i64 next, .string key, .bool oh, .string od, .bool nh, .string nd, .int .i64 co, .slice mA mn mc, .slice kA kn kc, .slice rA rn rc, .slice dA dn dc, .slice eA en ec, .slice pA pn pc]) := Lib.hid (by rw [hW']; exact setCell_bk VW.out ⟨r + 2, 1, none⟩ (.int .i64 tx) (by show r ≠ r + 2; omega))
      have RW' : Hid (Bk W' (r + 1) 30 #[.int .i64 0, .int .i64 0, .int .i64 0, .int .i64 0, .string ⟨#[]⟩, .bool false, .string ⟨#[]⟩, .bool false, .string ⟨#[]⟩, .int .i64 0, .slice none 0 0, .slice none 0 0, .slice none 0 0, .slice none 0 0, .slice none 0 0, .slice none 0 0]) := Lib.hid (by rw [hW']; exact setCell_bk RW.out ⟨r + 2, 1, none⟩ (.int .i64 tx) (by show r + 1 ≠ r + 2; omega))
      have ZW' : Hid (Bk W' (r + 2) 30 #[.int .i64 4, .int .i64 tx, .int .i64 0, .int .i64 0, .string ⟨#[]⟩, .bool false, .string ⟨#[]⟩, .bool false, .string ⟨#[]⟩, .int .i64 0, .slice none 0 0, .slice none 0 0, .slice none 0 0, .slice none 0 0, .slice none 0 0, .slice none 0 0]) := Lib.hid (by rw [hW']; have := ZW.out.setc 1 (.int .i64 tx); simpa using this)
      have BW' : Hid (Below w.heap.size w W') := Lib.hid (by rw [hW']; exact BW.out.setCell (p := ⟨r + 2, 1, none⟩) (by show w.heap.size ≤ r + 2; have := RR.out; omega) (.int .i64 tx))
      have HW' := Lib.hid hW'
      clear hW' VW ZW BW RW
      go_upto_region 25 with (first | fail)
      (try simp only [Nat.zero_add, Nat.add_assoc, Nat.reduceAdd])
      rw [← (show W' = W.setCell ⟨r + 2, 1, none⟩ (.int .i64 tx) from HW'.out)]
      clear HW' c1 z1 y1
      have c2 : W'.cell? ⟨r, 2, none⟩ = some (.int .i64 prev) := VW'.out.cell 2
      have z2 : W'.cell? ⟨r + 2, 2, none⟩ = some (.int .i64 0) := ZW'.out.cell 2
      have y2 : W'.frozen? ⟨r + 2, 2, none⟩ = false := ZW'.out.frz 2
      obtain ⟨W'', hW''⟩ : ∃ U, U = W'.setCell ⟨r + 2, 2, none⟩ (.int .i64 prev) := ⟨_, rfl⟩
      have VW'' : Hid (Bk W'' r 30 #[.int .i64 4, .int .i64 tx, .int .i64 prev, .int .i64 next, .string key, .bool oh, .string od, .bool nh, .string nd, .int .i64 co, .slice mA mn mc, .slice kA kn kc, .slice rA rn rc, .slice dA dn dc, .slice eA en ec, .slice pA pn pc]) := Lib.hid (by rw [hW'']; exact setCell_bk VW'.out ⟨r + 2, 2, none⟩ (.int .i64 prev) (by show r ≠ r + 2; omega))
      have RW'' : Hid (Bk W'' (r + 1) 30 #[.int .i64 0, .int .i64 0, .int .i64 0, .int .i64 0, .string ⟨#[]⟩, .bool false, .string ⟨#[]⟩, .bool false, .string ⟨#[]⟩, .int .i64 0, .slice none 0 0, .slice none 0 0, .slice none 0 0, .slice none 0 0, .slice none 0 0, .slice none 0 0]) := Lib.hid (by rw [hW'']; exact setCell_bk RW'.out ⟨r + 2, 2, none⟩ (.int .i64 prev) (by show r + 1 ≠ r + 2; omega))
      have ZW'' : Hid (Bk W'' (r + 2) 30 #[.int .i64 4, .int .i64 tx, .int .i64 prev, .int .i64 0, .string ⟨#[]⟩, .bool false, .string ⟨#[]⟩, .bool false, .string ⟨#[]⟩, .int .i64 0, .slice none 0 0, .slice none 0 0, .slice none 0 0, .slice none 0 0, .slice none 0 0, .slice none 0 0]) := Lib.hid (by rw [hW'']; have := ZW'.out.setc 2 (.int .i64 prev); simpa using this)
      have BW'' : Hid (Below w.heap.size w W'') := Lib.hid (by rw [hW'']; exact BW'.out.setCell (p := ⟨r + 2, 2, none⟩) (by show w.heap.size ≤ r + 2; have := RR.out; omega) (.int .i64 prev))
      have HW'' := Lib.hid hW''
      clear hW'' VW' ZW' BW' RW'
      go_upto_region 36 with (first | fail)
      (try simp only [Nat.zero_add, Nat.add_assoc, Nat.reduceAdd])
      rw [← (show W'' = W'.setCell ⟨r + 2, 2, none⟩ (.int .i64 prev) from HW''.out)]
      clear HW'' c2 z2 y2
      have RB := Lib.hid (RW''.out.rowp #[.int .i64 4, .int .i64 tx, .int .i64 prev, .int .i64 0, .string ⟨#[]⟩, .bool false, .string ⟨#[]⟩, .bool false, .string ⟨#[]⟩, .int .i64 0, .slice none 0 0, .slice none 0 0, .slice none 0 0, .slice none 0 0, .slice none 0 0, .slice none 0 0])
      have BF := Lib.hid (BW''.out.grown (grown_setRow W'' (r + 1) #[.int .i64 4, .int .i64 tx, .int .i64 prev, .int .i64 0, .string ⟨#[]⟩, .bool false, .string ⟨#[]⟩, .bool false, .string ⟨#[]⟩, .int .i64 0, .slice none 0 0, .slice none 0 0, .slice none 0 0, .slice none 0 0, .slice none 0 0, .slice none 0 0]) (by have := VW''.out.lt; have := RR.out; omega) (fun q hq => by injection hq with hq; have := RR.out; omega))
      go_wp2_with (first
        | (refine wpList_load_row rfl 30 _ rfl (r + 2) rfl 30 _ (0, 0) _ ZW''.out Try.underlying30 rfl inf_rec ?_)
        | (refine wpList_store_row rfl 30 _ _ rfl (r + 1) #[.int .i64 4, .int .i64 tx, .int .i64 prev, .int .i64 0, .string ⟨#[]⟩, .bool false, .string ⟨#[]⟩, .bool false, .string ⟨#[]⟩, .int .i64 0, .slice none 0 0, .slice none 0 0, .slice none 0 0, .slice none 0 0, .slice none 0 0, .slice none 0 0] rfl rfl 30 _ RW''.out inf_rec rfl (rec_one _ (by simp [Value.oneCell'])) ?_; simp only [Act.put]))
      (try simp only [Exit.inBlock, Exit.then])
      refine bodyPost_ret (results_cell_row rfl _ _ (r + 1) 30 _ (0, 0) _ rfl RB.out Try.underlying30 rfl inf_rec) rfl ?_
      exact ⟨rfl, BF.out⟩
    · have c1 : W.cell? ⟨r, 1, none⟩ = some (.int .i64 tx) := VW.out.cell 1
      have z1 : W.cell? ⟨r + 2, 1, none⟩ = some (.int .i64 0) := ZW.out.cell 1
      have y1 : W.frozen? ⟨r + 2, 1, none⟩ = false := ZW.out.frz 1
      obtain ⟨W', hW'⟩ : ∃ U, U = W.setCell ⟨r + 2, 1, none⟩ (.int .i64 tx) := ⟨_, rfl⟩
      have VW' : Hid (Bk W' r 30 #[.int .i64 5, .int .i64 tx, .int .i64 prev, .int .i64 next, .string key, .bool oh, .string od, .bool nh, .string nd, .int .i64 co, .slice mA mn mc, .slice kA kn kc, .slice rA rn rc, .slice dA dn dc, .slice eA en ec, .slice pA pn pc]) := Lib.hid (by rw [hW']; exact setCell_bk VW.out ⟨r + 2, 1, none⟩ (.int .i64 tx) (by show r ≠ r + 2; omega))
      have RW' : Hid (Bk W' (r + 1) 30 #[.int .i64 0, .int .i64 0, .int .i64 0, .int .i64 0, .string ⟨#[]⟩, .bool false, .string ⟨#[]⟩, .bool false, .string ⟨#[]⟩, .int .i64 0, .slice none 0 0, .slice none 0 0, .slice none 0 0, .slice none 0 0, .slice none 0 0, .slice none 0 0]) := Lib.hid (by rw [hW']; exact setCell_bk RW.out ⟨r + 2, 1, none⟩ (.int .i64 tx) (by show r + 1 ≠ r + 2; omega))
      have ZW' : Hid (Bk W' (r + 2) 30 #[.int .i64 5, .int .i64 tx, .int .i64 0, .int .i64 0, .string ⟨#[]⟩, .bool false, .string ⟨#[]⟩, .bool false, .string ⟨#[]⟩, .int .i64 0, .slice none 0 0, .slice none 0 0, .slice none 0 0, .slice none 0 0, .slice none 0 0, .slice none 0 0]) := Lib.hid (by rw [hW']; have := ZW.out.setc 1 (.int .i64 tx); simpa using this)
      have BW' : Hid (Below w.heap.size w W') := Lib.hid (by rw [hW']; exact BW.out.setCell (p := ⟨r + 2, 1, none⟩) (by show w.heap.size ≤ r + 2; have := RR.out; omega) (.int .i64 tx))
      have HW' := Lib.hid hW'
      clear hW' VW ZW BW RW
      go_upto_region 25 with (first | fail)
      (try simp only [Nat.zero_add, Nat.add_assoc, Nat.reduceAdd])
      rw [← (show W' = W.setCell ⟨r + 2, 1, none⟩ (.int .i64 tx) from HW'.out)]
      clear HW' c1 z1 y1
      have c2 : W'.cell? ⟨r, 2, none⟩ = some (.int .i64 prev) := VW'.out.cell 2
      have z2 : W'.cell? ⟨r + 2, 2, none⟩ = some (.int .i64 0) := ZW'.out.cell 2
      have y2 : W'.frozen? ⟨r + 2, 2, none⟩ = false := ZW'.out.frz 2
      obtain ⟨W'', hW''⟩ : ∃ U, U = W'.setCell ⟨r + 2, 2, none⟩ (.int .i64 prev) := ⟨_, rfl⟩
      have VW'' : Hid (Bk W'' r 30 #[.int .i64 5, .int .i64 tx, .int .i64 prev, .int .i64 next, .string key, .bool oh, .string od, .bool nh, .string nd, .int .i64 co, .slice mA mn mc, .slice kA kn kc, .slice rA rn rc, .slice dA dn dc, .slice eA en ec, .slice pA pn pc]) := Lib.hid (by rw [hW'']; exact setCell_bk VW'.out ⟨r + 2, 2, none⟩ (.int .i64 prev) (by show r ≠ r + 2; omega))
      have RW'' : Hid (Bk W'' (r + 1) 30 #[.int .i64 0, .int .i64 0, .int .i64 0, .int .i64 0, .string ⟨#[]⟩, .bool false, .string ⟨#[]⟩, .bool false, .string ⟨#[]⟩, .int .i64 0, .slice none 0 0, .slice none 0 0, .slice none 0 0, .slice none 0 0, .slice none 0 0, .slice none 0 0]) := Lib.hid (by rw [hW'']; exact setCell_bk RW'.out ⟨r + 2, 2, none⟩ (.int .i64 prev) (by show r + 1 ≠ r + 2; omega))
      have ZW'' : Hid (Bk W'' (r + 2) 30 #[.int .i64 5, .int .i64 tx, .int .i64 prev, .int .i64 0, .string ⟨#[]⟩, .bool false, .string ⟨#[]⟩, .bool false, .string ⟨#[]⟩, .int .i64 0, .slice none 0 0, .slice none 0 0, .slice none 0 0, .slice none 0 0, .slice none 0 0, .slice none 0 0]) := Lib.hid (by rw [hW'']; have := ZW'.out.setc 2 (.int .i64 prev); simpa using this)
      have BW'' : Hid (Below w.heap.size w W'') := Lib.hid (by rw [hW'']; exact BW'.out.setCell (p := ⟨r + 2, 2, none⟩) (by show w.heap.size ≤ r + 2; have := RR.out; omega) (.int .i64 prev))
      have HW'' := Lib.hid hW''
      clear hW'' VW' ZW' BW' RW'
      go_upto_region 36 with (first | fail)
      (try simp only [Nat.zero_add, Nat.add_assoc, Nat.reduceAdd])
      rw [← (show W'' = W'.setCell ⟨r + 2, 2, none⟩ (.int .i64 prev) from HW''.out)]
      clear HW'' c2 z2 y2
      have RB := Lib.hid (RW''.out.rowp #[.int .i64 5, .int .i64 tx, .int .i64 prev, .int .i64 0, .string ⟨#[]⟩, .bool false, .string ⟨#[]⟩, .bool false, .string ⟨#[]⟩, .int .i64 0, .slice none 0 0, .slice none 0 0, .slice none 0 0, .slice none 0 0, .slice none 0 0, .slice none 0 0])
      have BF := Lib.hid (BW''.out.grown (grown_setRow W'' (r + 1) #[.int .i64 5, .int .i64 tx, .int .i64 prev, .int .i64 0, .string ⟨#[]⟩, .bool false, .string ⟨#[]⟩, .bool false, .string ⟨#[]⟩, .int .i64 0, .slice none 0 0, .slice none 0 0, .slice none 0 0, .slice none 0 0, .slice none 0 0, .slice none 0 0]) (by have := VW''.out.lt; have := RR.out; omega) (fun q hq => by injection hq with hq; have := RR.out; omega))
      go_wp2_with (first
        | (refine wpList_load_row rfl 30 _ rfl (r + 2) rfl 30 _ (0, 0) _ ZW''.out Try.underlying30 rfl inf_rec ?_)
        | (refine wpList_store_row rfl 30 _ _ rfl (r + 1) #[.int .i64 5, .int .i64 tx, .int .i64 prev, .int .i64 0, .string ⟨#[]⟩, .bool false, .string ⟨#[]⟩, .bool false, .string ⟨#[]⟩, .int .i64 0, .slice none 0 0, .slice none 0 0, .slice none 0 0, .slice none 0 0, .slice none 0 0, .slice none 0 0] rfl rfl 30 _ RW''.out inf_rec rfl (rec_one _ (by simp [Value.oneCell'])) ?_; simp only [Act.put]))
      (try simp only [Exit.inBlock, Exit.then])
      refine bodyPost_ret (results_cell_row rfl _ _ (r + 1) 30 _ (0, 0) _ rfl RB.out Try.underlying30 rfl inf_rec) rfl ?_
      exact ⟨rfl, BF.out⟩
    · have c1 : W.cell? ⟨r, 1, none⟩ = some (.int .i64 tx) := VW.out.cell 1
      have z1 : W.cell? ⟨r + 2, 1, none⟩ = some (.int .i64 0) := ZW.out.cell 1
      have y1 : W.frozen? ⟨r + 2, 1, none⟩ = false := ZW.out.frz 1
      obtain ⟨W', hW'⟩ : ∃ U, U = W.setCell ⟨r + 2, 1, none⟩ (.int .i64 tx) := ⟨_, rfl⟩
      have VW' : Hid (Bk W' r 30 #[.int .i64 6, .int .i64 tx, .int .i64 prev, .int .i64 next, .string key, .bool oh, .string od, .bool nh, .string nd, .int .i64 co, .slice mA mn mc, .slice kA kn kc, .slice rA rn rc, .slice dA dn dc, .slice eA en ec, .slice pA pn pc]) := Lib.hid (by rw [hW']; exact setCell_bk VW.out ⟨r + 2, 1, none⟩ (.int .i64 tx) (by show r ≠ r + 2; omega))
      have RW' : Hid (Bk W' (r + 1) 30 #[.int .i64 0, .int .i64 0, .int .i64 0, .int .i64 0, .string ⟨#[]⟩, .bool false, .string ⟨#[]⟩, .bool false, .string ⟨#[]⟩, .int .i64 0, .slice none 0 0, .slice none 0 0, .slice none 0 0, .slice none 0 0, .slice none 0 0, .slice none 0 0]) := Lib.hid (by rw [hW']; exact setCell_bk RW.out ⟨r + 2, 1, none⟩ (.int .i64 tx) (by show r + 1 ≠ r + 2; omega))
      have ZW' : Hid (Bk W' (r + 2) 30 #[.int .i64 6, .int .i64 tx, .int .i64 0, .int .i64 0, .string ⟨#[]⟩, .bool false, .string ⟨#[]⟩, .bool false, .string ⟨#[]⟩, .int .i64 0, .slice none 0 0, .slice none 0 0, .slice none 0 0, .slice none 0 0, .slice none 0 0, .slice none 0 0]) := Lib.hid (by rw [hW']; have := ZW.out.setc 1 (.int .i64 tx); simpa using this)
      have BW' : Hid (Below w.heap.size w W') := Lib.hid (by rw [hW']; exact BW.out.setCell (p := ⟨r + 2, 1, none⟩) (by show w.heap.size ≤ r + 2; have := RR.out; omega) (.int .i64 tx))
      have HW' := Lib.hid hW'
      clear hW' VW ZW BW RW
      go_upto_region 25 with (first | fail)
      (try simp only [Nat.zero_add, Nat.add_assoc, Nat.reduceAdd])
      rw [← (show W' = W.setCell ⟨r + 2, 1, none⟩ (.int .i64 tx) from HW'.out)]
      clear HW' c1 z1 y1
      have c2 : W'.cell? ⟨r, 2, none⟩ = some (.int .i64 prev) := VW'.out.cell 2
      have z2 : W'.cell? ⟨r + 2, 2, none⟩ = some (.int .i64 0) := ZW'.out.cell 2
      have y2 : W'.frozen? ⟨r + 2, 2, none⟩ = false := ZW'.out.frz 2
      obtain ⟨W'', hW''⟩ : ∃ U, U = W'.setCell ⟨r + 2, 2, none⟩ (.int .i64 prev) := ⟨_, rfl⟩
      have VW'' : Hid (Bk W'' r 30 #[.int .i64 6, .int .i64 tx, .int .i64 prev, .int .i64 next, .string key, .bool oh, .string od, .bool nh, .string nd, .int .i64 co, .slice mA mn mc, .slice kA kn kc, .slice rA rn rc, .slice dA dn dc, .slice eA en ec, .slice pA pn pc]) := Lib.hid (by rw [hW'']; exact setCell_bk VW'.out ⟨r + 2, 2, none⟩ (.int .i64 prev) (by show r ≠ r + 2; omega))
      have RW'' : Hid (Bk W'' (r + 1) 30 #[.int .i64 0, .int .i64 0, .int .i64 0, .int .i64 0, .string ⟨#[]⟩, .bool false, .string ⟨#[]⟩, .bool false, .string ⟨#[]⟩, .int .i64 0, .slice none 0 0, .slice none 0 0, .slice none 0 0, .slice none 0 0, .slice none 0 0, .slice none 0 0]) := Lib.hid (by rw [hW'']; exact setCell_bk RW'.out ⟨r + 2, 2, none⟩ (.int .i64 prev) (by show r + 1 ≠ r + 2; omega))
      have ZW'' : Hid (Bk W'' (r + 2) 30 #[.int .i64 6, .int .i64 tx, .int .i64 prev, .int .i64 0, .string ⟨#[]⟩, .bool false, .string ⟨#[]⟩, .bool false, .string ⟨#[]⟩, .int .i64 0, .slice none 0 0, .slice none 0 0, .slice none 0 0, .slice none 0 0, .slice none 0 0, .slice none 0 0]) := Lib.hid (by rw [hW'']; have := ZW'.out.setc 2 (.int .i64 prev); simpa using this)
      have BW'' : Hid (Below w.heap.size w W'') := Lib.hid (by rw [hW'']; exact BW'.out.setCell (p := ⟨r + 2, 2, none⟩) (by show w.heap.size ≤ r + 2; have := RR.out; omega) (.int .i64 prev))
      have HW'' := Lib.hid hW''
      clear hW'' VW' ZW' BW' RW'
      go_upto_region 36 with (first | fail)
      (try simp only [Nat.zero_add, Nat.add_assoc, Nat.reduceAdd])
      rw [← (show W'' = W'.setCell ⟨r + 2, 2, none⟩ (.int .i64 prev) from HW''.out)]
      clear HW'' c2 z2 y2
      have RB := Lib.hid (RW''.out.rowp #[.int .i64 6, .int .i64 tx, .int .i64 prev, .int .i64 0, .string ⟨#[]⟩, .bool false, .string ⟨#[]⟩, .bool false, .string ⟨#[]⟩, .int .i64 0, .slice none 0 0, .slice none 0 0, .slice none 0 0, .slice none 0 0, .slice none 0 0, .slice none 0 0])
      have BF := Lib.hid (BW''.out.grown (grown_setRow W'' (r + 1) #[.int .i64 6, .int .i64 tx, .int .i64 prev, .int .i64 0, .string ⟨#[]⟩, .bool false, .string ⟨#[]⟩, .bool false, .string ⟨#[]⟩, .int .i64 0, .slice none 0 0, .slice none 0 0, .slice none 0 0, .slice none 0 0, .slice none 0 0, .slice none 0 0]) (by have := VW''.out.lt; have := RR.out; omega) (fun q hq => by injection hq with hq; have := RR.out; omega))
      go_wp2_with (first
        | (refine wpList_load_row rfl 30 _ rfl (r + 2) rfl 30 _ (0, 0) _ ZW''.out Try.underlying30 rfl inf_rec ?_)
        | (refine wpList_store_row rfl 30 _ _ rfl (r + 1) #[.int .i64 6, .int .i64 tx, .int .i64 prev, .int .i64 0, .string ⟨#[]⟩, .bool false, .string ⟨#[]⟩, .bool false, .string ⟨#[]⟩, .int .i64 0, .slice none 0 0, .slice none 0 0, .slice none 0 0, .slice none 0 0, .slice none 0 0, .slice none 0 0] rfl rfl 30 _ RW''.out inf_rec rfl (rec_one _ (by simp [Value.oneCell'])) ?_; simp only [Act.put]))
      (try simp only [Exit.inBlock, Exit.then])
      refine bodyPost_ret (results_cell_row rfl _ _ (r + 1) 30 _ (0, 0) _ rfl RB.out Try.underlying30 rfl inf_rec) rfl ?_
      exact ⟨rfl, BF.out⟩
  rw [if_neg k4]
  have e4 : (kind == 4) = false := by simp; omega
  have e5 : (kind == 5) = false := by simp; omega
  have e6 : (kind == 6) = false := by simp; omega
  by_cases k7 : kind = 7
  · rw [if_pos k7]
    subst k7
    have RB := Lib.hid (RW.out.rowp #[.int .i64 7, .int .i64 0, .int .i64 0, .int .i64 0, .string ⟨#[]⟩, .bool false, .string ⟨#[]⟩, .bool false, .string ⟨#[]⟩, .int .i64 0, .slice none 0 0, .slice none 0 0, .slice none 0 0, .slice none 0 0, .slice none 0 0, .slice none 0 0])
    have BF := Lib.hid (BW.out.grown (grown_setRow W (r + 1) #[.int .i64 7, .int .i64 0, .int .i64 0, .int .i64 0, .string ⟨#[]⟩, .bool false, .string ⟨#[]⟩, .bool false, .string ⟨#[]⟩, .int .i64 0, .slice none 0 0, .slice none 0 0, .slice none 0 0, .slice none 0 0, .slice none 0 0, .slice none 0 0]) (by have := VW.out.lt; have := RR.out; omega) (fun q hq => by injection hq with hq; have := RR.out; omega))
    go_wp2_with (first
      | (refine wpList_load_row rfl 30 _ rfl (r + 2) rfl 30 _ (0, 0) _ ZW.out Try.underlying30 rfl inf_rec ?_)
      | (refine wpList_store_row rfl 30 _ _ rfl (r + 1) #[.int .i64 7, .int .i64 0, .int .i64 0, .int .i64 0, .string ⟨#[]⟩, .bool false, .string ⟨#[]⟩, .bool false, .string ⟨#[]⟩, .int .i64 0, .slice none 0 0, .slice none 0 0, .slice none 0 0, .slice none 0 0, .slice none 0 0, .slice none 0 0] rfl rfl 30 _ RW.out inf_rec rfl (rec_one _ (by simp [Value.oneCell'])) ?_; simp only [Act.put]))
    (try simp only [Exit.inBlock, Exit.then])
    refine bodyPost_ret (results_cell_row rfl _ _ (r + 1) 30 _ (0, 0) _ rfl RB.out Try.underlying30 rfl inf_rec) rfl ?_
    exact ⟨rfl, BF.out⟩
  rw [if_neg k7]
  by_cases k8 : kind = 8
  · rw [if_pos k8]
    subst k8
    have c12 : W.cell? ⟨r, 12, none⟩ = some (.slice rA rn rc) := VW.out.cell 12
    have z12 : W.cell? ⟨r + 2, 12, none⟩ = some (.slice none 0 0) := ZW.out.cell 12
    have y12 : W.frozen? ⟨r + 2, 12, none⟩ = false := ZW.out.frz 12
    obtain ⟨W', hW'⟩ : ∃ U, U = W.setCell ⟨r + 2, 12, none⟩ (.slice rA rn rc) := ⟨_, rfl⟩
    have VW' : Hid (Bk W' r 30 #[.int .i64 8, .int .i64 tx, .int .i64 prev, .int .i64 next, .string key, .bool oh, .string od, .bool nh, .string nd, .int .i64 co, .slice mA mn mc, .slice kA kn kc, .slice rA rn rc, .slice dA dn dc, .slice eA en ec, .slice pA pn pc]) := Lib.hid (by rw [hW']; exact setCell_bk VW.out ⟨r + 2, 12, none⟩ (.slice rA rn rc) (by show r ≠ r + 2; omega))
    have RW' : Hid (Bk W' (r + 1) 30 #[.int .i64 0, .int .i64 0, .int .i64 0, .int .i64 0, .string ⟨#[]⟩, .bool false, .string ⟨#[]⟩, .bool false, .string ⟨#[]⟩, .int .i64 0, .slice none 0 0, .slice none 0 0, .slice none 0 0, .slice none 0 0, .slice none 0 0, .slice none 0 0]) := Lib.hid (by rw [hW']; exact setCell_bk RW.out ⟨r + 2, 12, none⟩ (.slice rA rn rc) (by show r + 1 ≠ r + 2; omega))
    have ZW' : Hid (Bk W' (r + 2) 30 #[.int .i64 8, .int .i64 0, .int .i64 0, .int .i64 0, .string ⟨#[]⟩, .bool false, .string ⟨#[]⟩, .bool false, .string ⟨#[]⟩, .int .i64 0, .slice none 0 0, .slice none 0 0, .slice rA rn rc, .slice none 0 0, .slice none 0 0, .slice none 0 0]) := Lib.hid (by rw [hW']; have := ZW.out.setc 12 (.slice rA rn rc); simpa using this)
    have BW' : Hid (Below w.heap.size w W') := Lib.hid (by rw [hW']; exact BW.out.setCell (p := ⟨r + 2, 12, none⟩) (by show w.heap.size ≤ r + 2; have := RR.out; omega) (.slice rA rn rc))
    have HW' := Lib.hid hW'
    clear hW' VW ZW BW RW
    go_upto_region 28 with (first | fail)
    (try simp only [Nat.zero_add, Nat.add_assoc, Nat.reduceAdd])
    rw [← (show W' = W.setCell ⟨r + 2, 12, none⟩ (.slice rA rn rc) from HW'.out)]
    clear HW' c12 z12 y12
    have c13 : W'.cell? ⟨r, 13, none⟩ = some (.slice dA dn dc) := VW'.out.cell 13
    have z13 : W'.cell? ⟨r + 2, 13, none⟩ = some (.slice none 0 0) := ZW'.out.cell 13
    have y13 : W'.frozen? ⟨r + 2, 13, none⟩ = false := ZW'.out.frz 13
    obtain ⟨W'', hW''⟩ : ∃ U, U = W'.setCell ⟨r + 2, 13, none⟩ (.slice dA dn dc) := ⟨_, rfl⟩
    have VW'' : Hid (Bk W'' r 30 #[.int .i64 8, .int .i64 tx, .int .i64 prev, .int .i64 next, .string key, .bool oh, .string od, .bool nh, .string nd, .int .i64 co, .slice mA mn mc, .slice kA kn kc, .slice rA rn rc, .slice dA dn dc, .slice eA en ec, .slice pA pn pc]) := Lib.hid (by rw [hW'']; exact setCell_bk VW'.out ⟨r + 2, 13, none⟩ (.slice dA dn dc) (by show r ≠ r + 2; omega))
    have RW'' : Hid (Bk W'' (r + 1) 30 #[.int .i64 0, .int .i64 0, .int .i64 0, .int .i64 0, .string ⟨#[]⟩, .bool false, .string ⟨#[]⟩, .bool false, .string ⟨#[]⟩, .int .i64 0, .slice none 0 0, .slice none 0 0, .slice none 0 0, .slice none 0 0, .slice none 0 0, .slice none 0 0]) := Lib.hid (by rw [hW'']; exact setCell_bk RW'.out ⟨r + 2, 13, none⟩ (.slice dA dn dc) (by show r + 1 ≠ r + 2; omega))
    have ZW'' : Hid (Bk W'' (r + 2) 30 #[.int .i64 8, .int .i64 0, .int .i64 0, .int .i64 0, .string ⟨#[]⟩, .bool false, .string ⟨#[]⟩, .bool false, .string ⟨#[]⟩, .int .i64 0, .slice none 0 0, .slice none 0 0, .slice rA rn rc, .slice dA dn dc, .slice none 0 0, .slice none 0 0]) := Lib.hid (by rw [hW'']; have := ZW'.out.setc 13 (.slice dA dn dc); simpa using this)
    have BW'' : Hid (Below w.heap.size w W'') := Lib.hid (by rw [hW'']; exact BW'.out.setCell (p := ⟨r + 2, 13, none⟩) (by show w.heap.size ≤ r + 2; have := RR.out; omega) (.slice dA dn dc))
    have HW'' := Lib.hid hW''
    clear hW'' VW' ZW' BW' RW'
    go_upto_region 29 with (first | fail)
    (try simp only [Nat.zero_add, Nat.add_assoc, Nat.reduceAdd])
    rw [← (show W'' = W'.setCell ⟨r + 2, 13, none⟩ (.slice dA dn dc) from HW''.out)]
    clear HW'' c13 z13 y13
    have c14 : W''.cell? ⟨r, 14, none⟩ = some (.slice eA en ec) := VW''.out.cell 14
    have z14 : W''.cell? ⟨r + 2, 14, none⟩ = some (.slice none 0 0) := ZW''.out.cell 14
    have y14 : W''.frozen? ⟨r + 2, 14, none⟩ = false := ZW''.out.frz 14
    obtain ⟨W''', hW'''⟩ : ∃ U, U = W''.setCell ⟨r + 2, 14, none⟩ (.slice eA en ec) := ⟨_, rfl⟩
    have VW''' : Hid (Bk W''' r 30 #[.int .i64 8, .int .i64 tx, .int .i64 prev, .int .i64 next, .string key, .bool oh, .string od, .bool nh, .string nd, .int .i64 co, .slice mA mn mc, .slice kA kn kc, .slice rA rn rc, .slice dA dn dc, .slice eA en ec, .slice pA pn pc]) := Lib.hid (by rw [hW''']; exact setCell_bk VW''.out ⟨r + 2, 14, none⟩ (.slice eA en ec) (by show r ≠ r + 2; omega))
    have RW''' : Hid (Bk W''' (r + 1) 30 #[.int .i64 0, .int .i64 0, .int .i64 0, .int .i64 0, .string ⟨#[]⟩, .bool false, .string ⟨#[]⟩, .bool false, .string ⟨#[]⟩, .int .i64 0, .slice none 0 0, .slice none 0 0, .slice none 0 0, .slice none 0 0, .slice none 0 0, .slice none 0 0]) := Lib.hid (by rw [hW''']; exact setCell_bk RW''.out ⟨r + 2, 14, none⟩ (.slice eA en ec) (by show r + 1 ≠ r + 2; omega))
    have ZW''' : Hid (Bk W''' (r + 2) 30 #[.int .i64 8, .int .i64 0, .int .i64 0, .int .i64 0, .string ⟨#[]⟩, .bool false, .string ⟨#[]⟩, .bool false, .string ⟨#[]⟩, .int .i64 0, .slice none 0 0, .slice none 0 0, .slice rA rn rc, .slice dA dn dc, .slice eA en ec, .slice none 0 0]) := Lib.hid (by rw [hW''']; have := ZW''.out.setc 14 (.slice eA en ec); simpa using this)
    have BW''' : Hid (Below w.heap.size w W''') := Lib.hid (by rw [hW''']; exact BW''.out.setCell (p := ⟨r + 2, 14, none⟩) (by show w.heap.size ≤ r + 2; have := RR.out; omega) (.slice eA en ec))
    have HW''' := Lib.hid hW'''
    clear hW''' VW'' ZW'' BW'' RW''
    go_upto_region 30 with (first | fail)
    (try simp only [Nat.zero_add, Nat.add_assoc, Nat.reduceAdd])
    rw [← (show W''' = W''.setCell ⟨r + 2, 14, none⟩ (.slice eA en ec) from HW'''.out)]
    clear HW''' c14 z14 y14
    have c15 : W'''.cell? ⟨r, 15, none⟩ = some (.slice pA pn pc) := VW'''.out.cell 15
    have z15 : W'''.cell? ⟨r + 2, 15, none⟩ = some (.slice none 0 0) := ZW'''.out.cell 15
    have y15 : W'''.frozen? ⟨r + 2, 15, none⟩ = false := ZW'''.out.frz 15
    obtain ⟨W'''', hW''''⟩ : ∃ U, U = W'''.setCell ⟨r + 2, 15, none⟩ (.slice pA pn pc) := ⟨_, rfl⟩
    have VW'''' : Hid (Bk W'''' r 30 #[.int .i64 8, .int .i64 tx, .int .i64 prev, .int .i64 next, .string key, .bool oh, .string od, .bool nh, .string nd, .int .i64 co, .slice mA mn mc, .slice kA kn kc, .slice rA rn rc, .slice dA dn dc, .slice eA en ec, .slice pA pn pc]) := Lib.hid (by rw [hW'''']; exact setCell_bk VW'''.out ⟨r + 2, 15, none⟩ (.slice pA pn pc) (by show r ≠ r + 2; omega))
    have RW'''' : Hid (Bk W'''' (r + 1) 30 #[.int .i64 0, .int .i64 0, .int .i64 0, .int .i64 0, .string ⟨#[]⟩, .bool false, .string ⟨#[]⟩, .bool false, .string ⟨#[]⟩, .int .i64 0, .slice none 0 0, .slice none 0 0, .slice none 0 0, .slice none 0 0, .slice none 0 0, .slice none 0 0]) := Lib.hid (by rw [hW'''']; exact setCell_bk RW'''.out ⟨r + 2, 15, none⟩ (.slice pA pn pc) (by show r + 1 ≠ r + 2; omega))
    have ZW'''' : Hid (Bk W'''' (r + 2) 30 #[.int .i64 8, .int .i64 0, .int .i64 0, .int .i64 0, .string ⟨#[]⟩, .bool false, .string ⟨#[]⟩, .bool false, .string ⟨#[]⟩, .int .i64 0, .slice none 0 0, .slice none 0 0, .slice rA rn rc, .slice dA dn dc, .slice eA en ec, .slice pA pn pc]) := Lib.hid (by rw [hW'''']; have := ZW'''.out.setc 15 (.slice pA pn pc); simpa using this)
    have BW'''' : Hid (Below w.heap.size w W'''') := Lib.hid (by rw [hW'''']; exact BW'''.out.setCell (p := ⟨r + 2, 15, none⟩) (by show w.heap.size ≤ r + 2; have := RR.out; omega) (.slice pA pn pc))
    have HW'''' := Lib.hid hW''''
    clear hW'''' VW''' ZW''' BW''' RW'''
    go_upto_region 36 with (first | fail)
    (try simp only [Nat.zero_add, Nat.add_assoc, Nat.reduceAdd])
    rw [← (show W'''' = W'''.setCell ⟨r + 2, 15, none⟩ (.slice pA pn pc) from HW''''.out)]
    clear HW'''' c15 z15 y15
    have RB := Lib.hid (RW''''.out.rowp #[.int .i64 8, .int .i64 0, .int .i64 0, .int .i64 0, .string ⟨#[]⟩, .bool false, .string ⟨#[]⟩, .bool false, .string ⟨#[]⟩, .int .i64 0, .slice none 0 0, .slice none 0 0, .slice rA rn rc, .slice dA dn dc, .slice eA en ec, .slice pA pn pc])
    have BF := Lib.hid (BW''''.out.grown (grown_setRow W'''' (r + 1) #[.int .i64 8, .int .i64 0, .int .i64 0, .int .i64 0, .string ⟨#[]⟩, .bool false, .string ⟨#[]⟩, .bool false, .string ⟨#[]⟩, .int .i64 0, .slice none 0 0, .slice none 0 0, .slice rA rn rc, .slice dA dn dc, .slice eA en ec, .slice pA pn pc]) (by have := VW''''.out.lt; have := RR.out; omega) (fun q hq => by injection hq with hq; have := RR.out; omega))
    go_wp2_with (first
      | (refine wpList_load_row rfl 30 _ rfl (r + 2) rfl 30 _ (0, 0) _ ZW''''.out Try.underlying30 rfl inf_rec ?_)
      | (refine wpList_store_row rfl 30 _ _ rfl (r + 1) #[.int .i64 8, .int .i64 0, .int .i64 0, .int .i64 0, .string ⟨#[]⟩, .bool false, .string ⟨#[]⟩, .bool false, .string ⟨#[]⟩, .int .i64 0, .slice none 0 0, .slice none 0 0, .slice rA rn rc, .slice dA dn dc, .slice eA en ec, .slice pA pn pc] rfl rfl 30 _ RW''''.out inf_rec rfl (rec_one _ (by simp [Value.oneCell'])) ?_; simp only [Act.put]))
    (try simp only [Exit.inBlock, Exit.then])
    refine bodyPost_ret (results_cell_row rfl _ _ (r + 1) 30 _ (0, 0) _ rfl RB.out Try.underlying30 rfl inf_rec) rfl ?_
    exact ⟨rfl, BF.out⟩
  rw [if_neg k8]
  have e8 : (kind == 8) = false := by simpa using k8
  by_cases k9 : kind = 9
  · rw [if_pos k9]
    subst k9
    have c1 : W.cell? ⟨r, 1, none⟩ = some (.int .i64 tx) := VW.out.cell 1
    have z1 : W.cell? ⟨r + 2, 1, none⟩ = some (.int .i64 0) := ZW.out.cell 1
    have y1 : W.frozen? ⟨r + 2, 1, none⟩ = false := ZW.out.frz 1
    obtain ⟨W', hW'⟩ : ∃ U, U = W.setCell ⟨r + 2, 1, none⟩ (.int .i64 tx) := ⟨_, rfl⟩
    have VW' : Hid (Bk W' r 30 #[.int .i64 9, .int .i64 tx, .int .i64 prev, .int .i64 next, .string key, .bool oh, .string od, .bool nh, .string nd, .int .i64 co, .slice mA mn mc, .slice kA kn kc, .slice rA rn rc, .slice dA dn dc, .slice eA en ec, .slice pA pn pc]) := Lib.hid (by rw [hW']; exact setCell_bk VW.out ⟨r + 2, 1, none⟩ (.int .i64 tx) (by show r ≠ r + 2; omega))
    have RW' : Hid (Bk W' (r + 1) 30 #[.int .i64 0, .int .i64 0, .int .i64 0, .int .i64 0, .string ⟨#[]⟩, .bool false, .string ⟨#[]⟩, .bool false, .string ⟨#[]⟩, .int .i64 0, .slice none 0 0, .slice none 0 0, .slice none 0 0, .slice none 0 0, .slice none 0 0, .slice none 0 0]) := Lib.hid (by rw [hW']; exact setCell_bk RW.out ⟨r + 2, 1, none⟩ (.int .i64 tx) (by show r + 1 ≠ r + 2; omega))
    have ZW' : Hid (Bk W' (r + 2) 30 #[.int .i64 9, .int .i64 tx, .int .i64 0, .int .i64 0, .string ⟨#[]⟩, .bool false, .string ⟨#[]⟩, .bool false, .string ⟨#[]⟩, .int .i64 0, .slice none 0 0, .slice none 0 0, .slice none 0 0, .slice none 0 0, .slice none 0 0, .slice none 0 0]) := Lib.hid (by rw [hW']; have := ZW.out.setc 1 (.int .i64 tx); simpa using this)
    have BW' : Hid (Below w.heap.size w W') := Lib.hid (by rw [hW']; exact BW.out.setCell (p := ⟨r + 2, 1, none⟩) (by show w.heap.size ≤ r + 2; have := RR.out; omega) (.int .i64 tx))
    have HW' := Lib.hid hW'
    clear hW' VW ZW BW RW
    go_upto_region 33 with (first | fail)
    (try simp only [Nat.zero_add, Nat.add_assoc, Nat.reduceAdd])
    rw [← (show W' = W.setCell ⟨r + 2, 1, none⟩ (.int .i64 tx) from HW'.out)]
    clear HW' c1 z1 y1
    have c10 : W'.cell? ⟨r, 10, none⟩ = some (.slice mA mn mc) := VW'.out.cell 10
    have z10 : W'.cell? ⟨r + 2, 10, none⟩ = some (.slice none 0 0) := ZW'.out.cell 10
    have y10 : W'.frozen? ⟨r + 2, 10, none⟩ = false := ZW'.out.frz 10
    obtain ⟨W'', hW''⟩ : ∃ U, U = W'.setCell ⟨r + 2, 10, none⟩ (.slice mA mn mc) := ⟨_, rfl⟩
    have VW'' : Hid (Bk W'' r 30 #[.int .i64 9, .int .i64 tx, .int .i64 prev, .int .i64 next, .string key, .bool oh, .string od, .bool nh, .string nd, .int .i64 co, .slice mA mn mc, .slice kA kn kc, .slice rA rn rc, .slice dA dn dc, .slice eA en ec, .slice pA pn pc]) := Lib.hid (by rw [hW'']; exact setCell_bk VW'.out ⟨r + 2, 10, none⟩ (.slice mA mn mc) (by show r ≠ r + 2; omega))
    have RW'' : Hid (Bk W'' (r + 1) 30 #[.int .i64 0, .int .i64 0, .int .i64 0, .int .i64 0, .string ⟨#[]⟩, .bool false, .string ⟨#[]⟩, .bool false, .string ⟨#[]⟩, .int .i64 0, .slice none 0 0, .slice none 0 0, .slice none 0 0, .slice none 0 0, .slice none 0 0, .slice none 0 0]) := Lib.hid (by rw [hW'']; exact setCell_bk RW'.out ⟨r + 2, 10, none⟩ (.slice mA mn mc) (by show r + 1 ≠ r + 2; omega))
    have ZW'' : Hid (Bk W'' (r + 2) 30 #[.int .i64 9, .int .i64 tx, .int .i64 0, .int .i64 0, .string ⟨#[]⟩, .bool false, .string ⟨#[]⟩, .bool false, .string ⟨#[]⟩, .int .i64 0, .slice mA mn mc, .slice none 0 0, .slice none 0 0, .slice none 0 0, .slice none 0 0, .slice none 0 0]) := Lib.hid (by rw [hW'']; have := ZW'.out.setc 10 (.slice mA mn mc); simpa using this)
    have BW'' : Hid (Below w.heap.size w W'') := Lib.hid (by rw [hW'']; exact BW'.out.setCell (p := ⟨r + 2, 10, none⟩) (by show w.heap.size ≤ r + 2; have := RR.out; omega) (.slice mA mn mc))
    have HW'' := Lib.hid hW''
    clear hW'' VW' ZW' BW' RW'
    go_upto_region 36 with (first | fail)
    (try simp only [Nat.zero_add, Nat.add_assoc, Nat.reduceAdd])
    rw [← (show W'' = W'.setCell ⟨r + 2, 10, none⟩ (.slice mA mn mc) from HW''.out)]
    clear HW'' c10 z10 y10
    have RB := Lib.hid (RW''.out.rowp #[.int .i64 9, .int .i64 tx, .int .i64 0, .int .i64 0, .string ⟨#[]⟩, .bool false, .string ⟨#[]⟩, .bool false, .string ⟨#[]⟩, .int .i64 0, .slice mA mn mc, .slice none 0 0, .slice none 0 0, .slice none 0 0, .slice none 0 0, .slice none 0 0])
    have BF := Lib.hid (BW''.out.grown (grown_setRow W'' (r + 1) #[.int .i64 9, .int .i64 tx, .int .i64 0, .int .i64 0, .string ⟨#[]⟩, .bool false, .string ⟨#[]⟩, .bool false, .string ⟨#[]⟩, .int .i64 0, .slice mA mn mc, .slice none 0 0, .slice none 0 0, .slice none 0 0, .slice none 0 0, .slice none 0 0]) (by have := VW''.out.lt; have := RR.out; omega) (fun q hq => by injection hq with hq; have := RR.out; omega))
    go_wp2_with (first
      | (refine wpList_load_row rfl 30 _ rfl (r + 2) rfl 30 _ (0, 0) _ ZW''.out Try.underlying30 rfl inf_rec ?_)
      | (refine wpList_store_row rfl 30 _ _ rfl (r + 1) #[.int .i64 9, .int .i64 tx, .int .i64 0, .int .i64 0, .string ⟨#[]⟩, .bool false, .string ⟨#[]⟩, .bool false, .string ⟨#[]⟩, .int .i64 0, .slice mA mn mc, .slice none 0 0, .slice none 0 0, .slice none 0 0, .slice none 0 0, .slice none 0 0] rfl rfl 30 _ RW''.out inf_rec rfl (rec_one _ (by simp [Value.oneCell'])) ?_; simp only [Act.put]))
    (try simp only [Exit.inBlock, Exit.then])
    refine bodyPost_ret (results_cell_row rfl _ _ (r + 1) 30 _ (0, 0) _ rfl RB.out Try.underlying30 rfl inf_rec) rfl ?_
    exact ⟨rfl, BF.out⟩
  rw [if_neg k9]
  have e9 : (kind == 9) = false := by simpa using k9
  obtain rfl : kind = 10 := by omega
  have c1 : W.cell? ⟨r, 1, none⟩ = some (.int .i64 tx) := VW.out.cell 1
  have z1 : W.cell? ⟨r + 2, 1, none⟩ = some (.int .i64 0) := ZW.out.cell 1
  have y1 : W.frozen? ⟨r + 2, 1, none⟩ = false := ZW.out.frz 1
  obtain ⟨W', hW'⟩ : ∃ U, U = W.setCell ⟨r + 2, 1, none⟩ (.int .i64 tx) := ⟨_, rfl⟩
  have VW' : Hid (Bk W' r 30 #[.int .i64 10, .int .i64 tx, .int .i64 prev, .int .i64 next, .string key, .bool oh, .string od, .bool nh, .string nd, .int .i64 co, .slice mA mn mc, .slice kA kn kc, .slice rA rn rc, .slice dA dn dc, .slice eA en ec, .slice pA pn pc]) := Lib.hid (by rw [hW']; exact setCell_bk VW.out ⟨r + 2, 1, none⟩ (.int .i64 tx) (by show r ≠ r + 2; omega))
  have RW' : Hid (Bk W' (r + 1) 30 #[.int .i64 0, .int .i64 0, .int .i64 0, .int .i64 0, .string ⟨#[]⟩, .bool false, .string ⟨#[]⟩, .bool false, .string ⟨#[]⟩, .int .i64 0, .slice none 0 0, .slice none 0 0, .slice none 0 0, .slice none 0 0, .slice none 0 0, .slice none 0 0]) := Lib.hid (by rw [hW']; exact setCell_bk RW.out ⟨r + 2, 1, none⟩ (.int .i64 tx) (by show r + 1 ≠ r + 2; omega))
  have ZW' : Hid (Bk W' (r + 2) 30 #[.int .i64 10, .int .i64 tx, .int .i64 0, .int .i64 0, .string ⟨#[]⟩, .bool false, .string ⟨#[]⟩, .bool false, .string ⟨#[]⟩, .int .i64 0, .slice none 0 0, .slice none 0 0, .slice none 0 0, .slice none 0 0, .slice none 0 0, .slice none 0 0]) := Lib.hid (by rw [hW']; have := ZW.out.setc 1 (.int .i64 tx); simpa using this)
  have BW' : Hid (Below w.heap.size w W') := Lib.hid (by rw [hW']; exact BW.out.setCell (p := ⟨r + 2, 1, none⟩) (by show w.heap.size ≤ r + 2; have := RR.out; omega) (.int .i64 tx))
  have HW' := Lib.hid hW'
  clear hW' VW ZW BW RW
  go_upto_region 36 with (first | fail)
  (try simp only [Nat.zero_add, Nat.add_assoc, Nat.reduceAdd])
  rw [← (show W' = W.setCell ⟨r + 2, 1, none⟩ (.int .i64 tx) from HW'.out)]
  clear HW' c1 z1 y1
  have RB := Lib.hid (RW'.out.rowp #[.int .i64 10, .int .i64 tx, .int .i64 0, .int .i64 0, .string ⟨#[]⟩, .bool false, .string ⟨#[]⟩, .bool false, .string ⟨#[]⟩, .int .i64 0, .slice none 0 0, .slice none 0 0, .slice none 0 0, .slice none 0 0, .slice none 0 0, .slice none 0 0])
  have BF := Lib.hid (BW'.out.grown (grown_setRow W' (r + 1) #[.int .i64 10, .int .i64 tx, .int .i64 0, .int .i64 0, .string ⟨#[]⟩, .bool false, .string ⟨#[]⟩, .bool false, .string ⟨#[]⟩, .int .i64 0, .slice none 0 0, .slice none 0 0, .slice none 0 0, .slice none 0 0, .slice none 0 0, .slice none 0 0]) (by have := VW'.out.lt; have := RR.out; omega) (fun q hq => by injection hq with hq; have := RR.out; omega))
  go_wp2_with (first
    | (refine wpList_load_row rfl 30 _ rfl (r + 2) rfl 30 _ (0, 0) _ ZW'.out Try.underlying30 rfl inf_rec ?_)
    | (refine wpList_store_row rfl 30 _ _ rfl (r + 1) #[.int .i64 10, .int .i64 tx, .int .i64 0, .int .i64 0, .string ⟨#[]⟩, .bool false, .string ⟨#[]⟩, .bool false, .string ⟨#[]⟩, .int .i64 0, .slice none 0 0, .slice none 0 0, .slice none 0 0, .slice none 0 0, .slice none 0 0, .slice none 0 0] rfl rfl 30 _ RW'.out inf_rec rfl (rec_one _ (by simp [Value.oneCell'])) ?_; simp only [Act.put]))
  (try simp only [Exit.inBlock, Exit.then])
  refine bodyPost_ret (results_cell_row rfl _ _ (r + 1) 30 _ (0, 0) _ rfl RB.out Try.underlying30 rfl inf_rec) rfl ?_
  exact ⟨rfl, BF.out⟩
end Go.Proofs.Ytfldcddbmikfiaa
