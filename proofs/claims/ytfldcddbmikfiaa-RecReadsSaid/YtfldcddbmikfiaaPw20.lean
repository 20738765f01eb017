/- What it says: contracts and plain mathematics that the laws' walks use, 20 of 34: each part's own remark says what; no condition. -/
import Derived.Test.YtfldcddbmikfiaaPw5

set_option linter.unusedSimpArgs false
set_option linter.unusedVariables false
set_option linter.deprecated false
set_option linter.unusedSectionVars false
set_option linter.all false

/- rec.isSame, where thing number 9 is another one. -/
namespace Go.Proofs.Ytfldcddbmikfiaa
open Go.RowKit
set_option maxRecDepth 100000 in
set_option maxHeartbeats 4000000 in
theorem isSame_9 (x y : Xr) (w : World) (h : x.tx = y.tx ∧ x.prev = y.prev ∧ x.next = y.next ∧ x.key = y.key ∧ x.old.has = y.old.has ∧ x.old.data = y.old.data ∧ x.new.has = y.new.has ∧ x.new.data = y.new.data ∧ x.co = y.co) (hne : ((x.mn : Int) == (y.mn : Int)) = false) :
    Calls Try.prog 46 #[x.val, y.val] w (fun e w' => e = .returned (.bool false) ∧ Below w.heap.size w w') := by
  obtain ⟨kind, tx, prev, next, key, ⟨oh, od⟩, ⟨nh, nd⟩, co, mA, mn, mc, mem, kA, kn, kc, lks, rA, rn, rc, rows, dA, dn, dc, dirty, eA, en, ec, deeds, pA, pn, pc, past⟩ := x
  obtain ⟨kind', tx', prev', next', key', ⟨oh', od'⟩, ⟨nh', nd'⟩, co', mA', mn', mc', mem', kA', kn', kc', lks', rA', rn', rc', rows', dA', dn', dc', dirty', eA', en', ec', deeds', pA', pn', pc', past'⟩ := y
  simp only at h hne
  obtain ⟨h0, h1, h2, h3, h4, h5, h6, h7, h8⟩ := h
  subst h0 h1 h2 h3 h4 h5 h6 h7 h8
  unfold Xr.val
  simp only
  go_enter Try.func46, Try.ntmps46
  go_wp2_with fail
  go_ret
  exact ⟨rfl, ((Below.refl _ _).alloc (Nat.le_refl _) _).alloc (by simp) _⟩
end Go.Proofs.Ytfldcddbmikfiaa

/- rec.isSame, where thing number 10 is another one. -/
namespace Go.Proofs.Ytfldcddbmikfiaa
open Go.RowKit
set_option maxRecDepth 100000 in
set_option maxHeartbeats 4000000 in
theorem isSame_10 (x y : Xr) (w : World) (h : x.tx = y.tx ∧ x.prev = y.prev ∧ x.next = y.next ∧ x.key = y.key ∧ x.old.has = y.old.has ∧ x.old.data = y.old.data ∧ x.new.has = y.new.has ∧ x.new.data = y.new.data ∧ x.co = y.co ∧ x.mn = y.mn) (hne : ((x.kn : Int) == (y.kn : Int)) = false) :
    Calls Try.prog 46 #[x.val, y.val] w (fun e w' => e = .returned (.bool false) ∧ Below w.heap.size w w') := by
  obtain ⟨kind, tx, prev, next, key, ⟨oh, od⟩, ⟨nh, nd⟩, co, mA, mn, mc, mem, kA, kn, kc, lks, rA, rn, rc, rows, dA, dn, dc, dirty, eA, en, ec, deeds, pA, pn, pc, past⟩ := x
  obtain ⟨kind', tx', prev', next', key', ⟨oh', od'⟩, ⟨nh', nd'⟩, co', mA', mn', mc', mem', kA', kn', kc', lks', rA', rn', rc', rows', dA', dn', dc', dirty', eA', en', ec', deeds', pA', pn', pc', past'⟩ := y
  simp only at h hne
  obtain ⟨h0, h1, h2, h3, h4, h5, h6, h7, h8, h9⟩ := h
  subst h0 h1 h2 h3 h4 h5 h6 h7 h8 h9
  unfold Xr.val
  simp only
  go_enter Try.func46, Try.ntmps46
  go_wp2_with fail
  go_ret
  exact ⟨rfl, ((Below.refl _ _).alloc (Nat.le_refl _) _).alloc (by simp) _⟩
end Go.Proofs.Ytfldcddbmikfiaa

/- rec.isSame, where thing number 11 is another one. -/
namespace Go.Proofs.Ytfldcddbmikfiaa
open Go.RowKit
set_option maxRecDepth 100000 in
set_option maxHeartbeats 4000000 in
theorem isSame_11 (x y : Xr) (w : World) (h : x.tx = y.tx ∧ x.prev = y.prev ∧ x.next = y.next ∧ x.key = y.key ∧ x.old.has = y.old.has ∧ x.old.data = y.old.data ∧ x.new.has = y.new.has ∧ x.new.data = y.new.data ∧ x.co = y.co ∧ x.mn = y.mn ∧ x.kn = y.kn) (hne : ((x.rn : Int) == (y.rn : Int)) = false) :
    Calls Try.prog 46 #[x.val, y.val] w (fun e w' => e = .returned (.bool false) ∧ Below w.heap.size w w') := by
  obtain ⟨kind, tx, prev, next, key, ⟨oh, od⟩, ⟨nh, nd⟩, co, mA, mn, mc, mem, kA, kn, kc, lks, rA, rn, rc, rows, dA, dn, dc, dirty, eA, en, ec, deeds, pA, pn, pc, past⟩ := x
  obtain ⟨kind', tx', prev', next', key', ⟨oh', od'⟩, ⟨nh', nd'⟩, co', mA', mn', mc', mem', kA', kn', kc', lks', rA', rn', rc', rows', dA', dn', dc', dirty', eA', en', ec', deeds', pA', pn', pc', past'⟩ := y
  simp only at h hne
  obtain ⟨h0, h1, h2, h3, h4, h5, h6, h7, h8, h9, h10⟩ := h
  subst h0 h1 h2 h3 h4 h5 h6 h7 h8 h9 h10
  unfold Xr.val
  simp only
  go_enter Try.func46, Try.ntmps46
  go_wp2_with fail
  go_ret
  exact ⟨rfl, ((Below.refl _ _).alloc (Nat.le_refl _) _).alloc (by simp) _⟩
end Go.Proofs.Ytfldcddbmikfiaa

/- rec.isSame, where thing number 12 is another one. -/
namespace Go.Proofs.Ytfldcddbmikfiaa
open Go.RowKit
set_option maxRecDepth 100000 in
set_option maxHeartbeats 4000000 in
theorem isSame_12 (x y : Xr) (w : World) (h : x.tx = y.tx ∧ x.prev = y.prev ∧ x.next = y.next ∧ x.key = y.key ∧ x.old.has = y.old.has ∧ x.old.data = y.old.data ∧ x.new.has = y.new.has ∧ x.new.data = y.new.data ∧ x.co = y.co ∧ x.mn = y.mn ∧ x.kn = y.kn ∧ x.rn = y.rn) (hne : ((x.dn : Int) == (y.dn : Int)) = false) :
    Calls Try.prog 46 #[x.val, y.val] w (fun e w' => e = .returned (.bool false) ∧ Below w.heap.size w w') := by
  obtain ⟨kind, tx, prev, next, key, ⟨oh, od⟩, ⟨nh, nd⟩, co, mA, mn, mc, mem, kA, kn, kc, lks, rA, rn, rc, rows, dA, dn, dc, dirty, eA, en, ec, deeds, pA, pn, pc, past⟩ := x
  obtain ⟨kind', tx', prev', next', key', ⟨oh', od'⟩, ⟨nh', nd'⟩, co', mA', mn', mc', mem', kA', kn', kc', lks', rA', rn', rc', rows', dA', dn', dc', dirty', eA', en', ec', deeds', pA', pn', pc', past'⟩ := y
  simp only at h hne
  obtain ⟨h0, h1, h2, h3, h4, h5, h6, h7, h8, h9, h10, h11⟩ := h
  subst h0 h1 h2 h3 h4 h5 h6 h7 h8 h9 h10 h11
  unfold Xr.val
  simp only
  go_enter Try.func46, Try.ntmps46
  go_wp2_with fail
  go_ret
  exact ⟨rfl, ((Below.refl _ _).alloc (Nat.le_refl _) _).alloc (by simp) _⟩
end Go.Proofs.Ytfldcddbmikfiaa

/- rec.isSame, where thing number 13 is another one. -/
namespace Go.Proofs.Ytfldcddbmikfiaa
open Go.RowKit
set_option maxRecDepth 100000 in
set_option maxHeartbeats 4000000 in
theorem isSame_13 (x y : Xr) (w : World) (h : x.tx = y.tx ∧ x.prev = y.prev ∧ x.next = y.next ∧ x.key = y.key ∧ x.old.has = y.old.has ∧ x.old.data = y.old.data ∧ x.new.has = y.new.has ∧ x.new.data = y.new.data ∧ x.co = y.co ∧ x.mn = y.mn ∧ x.kn = y.kn ∧ x.rn = y.rn ∧ x.dn = y.dn) (hne : ((x.en : Int) == (y.en : Int)) = false) :
    Calls Try.prog 46 #[x.val, y.val] w (fun e w' => e = .returned (.bool false) ∧ Below w.heap.size w w') := by
  obtain ⟨kind, tx, prev, next, key, ⟨oh, od⟩, ⟨nh, nd⟩, co, mA, mn, mc, mem, kA, kn, kc, lks, rA, rn, rc, rows, dA, dn, dc, dirty, eA, en, ec, deeds, pA, pn, pc, past⟩ := x
  obtain ⟨kind', tx', prev', next', key', ⟨oh', od'⟩, ⟨nh', nd'⟩, co', mA', mn', mc', mem', kA', kn', kc', lks', rA', rn', rc', rows', dA', dn', dc', dirty', eA', en', ec', deeds', pA', pn', pc', past'⟩ := y
  simp only at h hne
  obtain ⟨h0, h1, h2, h3, h4, h5, h6, h7, h8, h9, h10, h11, h12⟩ := h
  subst h0 h1 h2 h3 h4 h5 h6 h7 h8 h9 h10 h11 h12
  unfold Xr.val
  simp only
  go_enter Try.func46, Try.ntmps46
  go_wp2_with fail
  go_ret
  exact ⟨rfl, ((Below.refl _ _).alloc (Nat.le_refl _) _).alloc (by simp) _⟩
end Go.Proofs.Ytfldcddbmikfiaa

/- rec.isSame, where thing number 14 is another one. -/
namespace Go.Proofs.Ytfldcddbmikfiaa
open Go.RowKit
set_option maxRecDepth 100000 in
set_option maxHeartbeats 4000000 in
theorem isSame_14 (x y : Xr) (w : World) (h : x.tx = y.tx ∧ x.prev = y.prev ∧ x.next = y.next ∧ x.key = y.key ∧ x.old.has = y.old.has ∧ x.old.data = y.old.data ∧ x.new.has = y.new.has ∧ x.new.data = y.new.data ∧ x.co = y.co ∧ x.mn = y.mn ∧ x.kn = y.kn ∧ x.rn = y.rn ∧ x.dn = y.dn ∧ x.en = y.en) (hne : ((x.pn : Int) == (y.pn : Int)) = false) :
    Calls Try.prog 46 #[x.val, y.val] w (fun e w' => e = .returned (.bool false) ∧ Below w.heap.size w w') := by
  obtain ⟨kind, tx, prev, next, key, ⟨oh, od⟩, ⟨nh, nd⟩, co, mA, mn, mc, mem, kA, kn, kc, lks, rA, rn, rc, rows, dA, dn, dc, dirty, eA, en, ec, deeds, pA, pn, pc, past⟩ := x
  obtain ⟨kind', tx', prev', next', key', ⟨oh', od'⟩, ⟨nh', nd'⟩, co', mA', mn', mc', mem', kA', kn', kc', lks', rA', rn', rc', rows', dA', dn', dc', dirty', eA', en', ec', deeds', pA', pn', pc', past'⟩ := y
  simp only at h hne
  obtain ⟨h0, h1, h2, h3, h4, h5, h6, h7, h8, h9, h10, h11, h12, h13⟩ := h
  subst h0 h1 h2 h3 h4 h5 h6 h7 h8 h9 h10 h11 h12 h13
  unfold Xr.val
  simp only
  go_enter Try.func46, Try.ntmps46
  go_wp2_with fail
  go_ret
  exact ⟨rfl, ((Below.refl _ _).alloc (Nat.le_refl _) _).alloc (by simp) _⟩
end Go.Proofs.Ytfldcddbmikfiaa

/- rec.isSame, where all is the same. -/
namespace Go.Proofs.Ytfldcddbmikfiaa
open Go.RowKit
set_option maxRecDepth 100000 in
set_option maxHeartbeats 4000000 in
theorem isSame_15 (x y : Xr) (w : World) (h : x.tx = y.tx ∧ x.prev = y.prev ∧ x.next = y.next ∧ x.key = y.key ∧ x.old.has = y.old.has ∧ x.old.data = y.old.data ∧ x.new.has = y.new.has ∧ x.new.data = y.new.data ∧ x.co = y.co ∧ x.mn = y.mn ∧ x.kn = y.kn ∧ x.rn = y.rn ∧ x.dn = y.dn ∧ x.en = y.en ∧ x.pn = y.pn) :
    Calls Try.prog 46 #[x.val, y.val] w (fun e w' => e = .returned (.bool true) ∧ Below w.heap.size w w') := by
  obtain ⟨kind, tx, prev, next, key, ⟨oh, od⟩, ⟨nh, nd⟩, co, mA, mn, mc, mem, kA, kn, kc, lks, rA, rn, rc, rows, dA, dn, dc, dirty, eA, en, ec, deeds, pA, pn, pc, past⟩ := x
  obtain ⟨kind', tx', prev', next', key', ⟨oh', od'⟩, ⟨nh', nd'⟩, co', mA', mn', mc', mem', kA', kn', kc', lks', rA', rn', rc', rows', dA', dn', dc', dirty', eA', en', ec', deeds', pA', pn', pc', past'⟩ := y
  simp only at h
  obtain ⟨h0, h1, h2, h3, h4, h5, h6, h7, h8, h9, h10, h11, h12, h13, h14⟩ := h
  subst h0 h1 h2 h3 h4 h5 h6 h7 h8 h9 h10 h11 h12 h13 h14
  unfold Xr.val
  simp only
  go_enter Try.func46, Try.ntmps46
  go_wp2_with fail
  go_ret
  exact ⟨rfl, ((Below.refl _ _).alloc (Nat.le_refl _) _).alloc (by simp) _⟩
end Go.Proofs.Ytfldcddbmikfiaa
