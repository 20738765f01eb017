/- What it says: contracts and plain mathematics that the laws' walks use, 18 of 34: each part's own remark says what; no condition. -/
import Derived.Test.YtfldcddbmikfiaaPw5

set_option linter.unusedSimpArgs false
set_option linter.unusedVariables false
set_option linter.deprecated false
set_option linter.unusedSectionVars false
set_option linter.all false

/- rec.isSame, where thing number 5 is another one. -/
namespace Go.Proofs.Ytfldcddbmikfiaa
open Go.RowKit
set_option maxRecDepth 100000 in
set_option maxHeartbeats 4000000 in
theorem isSame_5 (x y : Xr) (w : World) (h : x.tx = y.tx ∧ x.prev = y.prev ∧ x.next = y.next ∧ x.key = y.key ∧ x.old.has = y.old.has) (hne : (x.old.data.toList == y.old.data.toList) = false) :
    Calls Try.prog 46 #[x.val, y.val] w (fun e w' => e = .returned (.bool false) ∧ Below w.heap.size w w') := by
  obtain ⟨kind, tx, prev, next, key, ⟨oh, od⟩, ⟨nh, nd⟩, co, mA, mn, mc, mem, kA, kn, kc, lks, rA, rn, rc, rows, dA, dn, dc, dirty, eA, en, ec, deeds, pA, pn, pc, past⟩ := x
  obtain ⟨kind', tx', prev', next', key', ⟨oh', od'⟩, ⟨nh', nd'⟩, co', mA', mn', mc', mem', kA', kn', kc', lks', rA', rn', rc', rows', dA', dn', dc', dirty', eA', en', ec', deeds', pA', pn', pc', past'⟩ := y
  simp only at h hne
  obtain ⟨h0, h1, h2, h3, h4⟩ := h
  subst h0 h1 h2 h3 h4
  unfold Xr.val
  simp only
  go_enter Try.func46, Try.ntmps46
  go_wp2_with fail
  go_ret
  exact ⟨rfl, ((Below.refl _ _).alloc (Nat.le_refl _) _).alloc (by simp) _⟩
end Go.Proofs.Ytfldcddbmikfiaa

/- rec.isSame, where thing number 6 is another one. -/
namespace Go.Proofs.Ytfldcddbmikfiaa
open Go.RowKit
set_option maxRecDepth 100000 in
set_option maxHeartbeats 4000000 in
theorem isSame_6 (x y : Xr) (w : World) (h : x.tx = y.tx ∧ x.prev = y.prev ∧ x.next = y.next ∧ x.key = y.key ∧ x.old.has = y.old.has ∧ x.old.data = y.old.data) (hne : (x.new.has == y.new.has) = false) :
    Calls Try.prog 46 #[x.val, y.val] w (fun e w' => e = .returned (.bool false) ∧ Below w.heap.size w w') := by
  obtain ⟨kind, tx, prev, next, key, ⟨oh, od⟩, ⟨nh, nd⟩, co, mA, mn, mc, mem, kA, kn, kc, lks, rA, rn, rc, rows, dA, dn, dc, dirty, eA, en, ec, deeds, pA, pn, pc, past⟩ := x
  obtain ⟨kind', tx', prev', next', key', ⟨oh', od'⟩, ⟨nh', nd'⟩, co', mA', mn', mc', mem', kA', kn', kc', lks', rA', rn', rc', rows', dA', dn', dc', dirty', eA', en', ec', deeds', pA', pn', pc', past'⟩ := y
  simp only at h hne
  obtain ⟨h0, h1, h2, h3, h4, h5⟩ := h
  subst h0 h1 h2 h3 h4 h5
  unfold Xr.val
  simp only
  go_enter Try.func46, Try.ntmps46
  go_wp2_with fail
  go_ret
  exact ⟨rfl, ((Below.refl _ _).alloc (Nat.le_refl _) _).alloc (by simp) _⟩
end Go.Proofs.Ytfldcddbmikfiaa
