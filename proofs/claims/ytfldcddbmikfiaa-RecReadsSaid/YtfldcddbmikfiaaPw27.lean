/- What it says: contracts and plain mathematics that the laws' walks use, 27 of 34: each part's own remark says what; no condition. -/
import Derived.Test.YtfldcddbmikfiaaPw24
import Derived.Test.YtfldcddbmikfiaaPw26

set_option linter.unusedSimpArgs false
set_option linter.unusedVariables false
set_option linter.deprecated false
set_option linter.unusedSectionVars false
set_option linter.all false

/- trothref07.sameLists says no where two lists' lengths differ, or Past; Same answers true just of records that read as the same, where their lists are the same or differ so. -/
namespace Go.Proofs.Ytfldcddbmikfiaa
open Go.RowKit
set_option maxRecDepth 100000 in
set_option maxHeartbeats 8000000 in
theorem sameLists_no (x y : Xr) (H H' : Nat) (w : World) (hx : XrIn H w x) (hy : XrIn H' w y) (hne : ¬ (x.rn = y.rn ∧ x.dn = y.dn ∧ x.en = y.en ∧ x.past = y.past)) :
    Calls Try.prog 45 #[x.val, y.val] w (fun e w' => e = .returned (.bool false) ∧ Below w.heap.size w w') := by
  obtain ⟨kind, tx, prev, next, key, ⟨oh, od⟩, ⟨nh, nd⟩, co, mA, mn, mc, mem, kA, kn, kc, lks, rA, rn, rc, rows, dA, dn, dc, dirty, eA, en, ec, deeds, pA, pn, pc, past⟩ := x
  obtain ⟨kind', tx', prev', next', key', ⟨oh', od'⟩, ⟨nh', nd'⟩, co', mA', mn', mc', mem', kA', kn', kc', lks', rA', rn', rc', rows', dA', dn', dc', dirty', eA', en', ec', deeds', pA', pn', pc', past'⟩ := y
  simp only at hne
  unfold Xr.val
  simp only
  obtain ⟨r, hrr⟩ : ∃ r, w.heap.size = r := ⟨_, rfl⟩
  obtain ⟨W1, hW1⟩ : ∃ W1, W1 = (w.alloc (.cells #[.int .i64 kind, .int .i64 tx, .int .i64 prev, .int .i64 next, .string key, .bool oh, .string od, .bool nh, .string nd, .int .i64 co, .slice mA mn mc, .slice kA kn kc, .slice rA rn rc, .slice dA dn dc, .slice eA en ec, .slice pA pn pc] 30)).alloc (.cells #[.int .i64 kind', .int .i64 tx', .int .i64 prev', .int .i64 next', .string key', .bool oh', .string od', .bool nh', .string nd', .int .i64 co', .slice mA' mn' mc', .slice kA' kn' kc', .slice rA' rn' rc', .slice dA' dn' dc', .slice eA' en' ec', .slice pA' pn' pc'] 30) := ⟨_, rfl⟩
  have hb : Below w.heap.size w W1 := by rw [hW1]; exact ((Below.refl _ _).alloc (Nat.le_refl _) _).alloc (by simp) _
  have V0 : Bk W1 r 30 #[.int .i64 kind, .int .i64 tx, .int .i64 prev, .int .i64 next, .string key, .bool oh, .string od, .bool nh, .string nd, .int .i64 co, .slice mA mn mc, .slice kA kn kc, .slice rA rn rc, .slice dA dn dc, .slice eA en ec, .slice pA pn pc] := by rw [hW1, ← hrr]; exact (Bk.new w _ _).bel ((Below.refl _ _).alloc (Nat.le_refl _) _) (by simp)
  have V1 : Bk W1 (r + 1) 30 #[.int .i64 kind', .int .i64 tx', .int .i64 prev', .int .i64 next', .string key', .bool oh', .string od', .bool nh', .string nd', .int .i64 co', .slice mA' mn' mc', .slice kA' kn' kc', .slice rA' rn' rc', .slice dA' dn' dc', .slice eA' en' ec', .slice pA' pn' pc'] := by
    rw [hW1, ← hrr]
    have := Bk.new (w.alloc (.cells #[.int .i64 kind, .int .i64 tx, .int .i64 prev, .int .i64 next, .string key, .bool oh, .string od, .bool nh, .string nd, .int .i64 co, .slice mA mn mc, .slice kA kn kc, .slice rA rn rc, .slice dA dn dc, .slice eA en ec, .slice pA pn pc] 30)) 30 #[.int .i64 kind', .int .i64 tx', .int .i64 prev', .int .i64 next', .string key', .bool oh', .string od', .bool nh', .string nd', .int .i64 co', .slice mA' mn' mc', .slice kA' kn' kc', .slice rA' rn' rc', .slice dA' dn' dc', .slice eA' en' ec', .slice pA' pn' pc']
    rw [World.size_alloc] at this
    exact this
  have CP := Lib.hid (refInts_any pA pn pc pA' pn' pc' H H' past past' W1 (hx.past.calm (Calm.of_below hb)) (hy.past.calm (Calm.of_below hb)))
  have a12 : W1.cell? ⟨r, 12, none⟩ = some (.slice rA rn rc) := V0.cell 12
  have a13 : W1.cell? ⟨r, 13, none⟩ = some (.slice dA dn dc) := V0.cell 13
  have a14 : W1.cell? ⟨r, 14, none⟩ = some (.slice eA en ec) := V0.cell 14
  have a15 : W1.cell? ⟨r, 15, none⟩ = some (.slice pA pn pc) := V0.cell 15
  have b12 : W1.cell? ⟨r + 1, 12, none⟩ = some (.slice rA' rn' rc') := V1.cell 12
  have b13 : W1.cell? ⟨r + 1, 13, none⟩ = some (.slice dA' dn' dc') := V1.cell 13
  have b14 : W1.cell? ⟨r + 1, 14, none⟩ = some (.slice eA' en' ec') := V1.cell 14
  have b15 : W1.cell? ⟨r + 1, 15, none⟩ = some (.slice pA' pn' pc') := V1.cell 15
  have R0 : Hid (∀ m, Below w.heap.size w (W1.drewN m)) := Lib.hid (fun m => below_drewN hb m)
  have R1 : Hid (Below w.heap.size w W1) := Lib.hid hb
  have HNE := Lib.hid hne
  have HW := Lib.hid hW1
  clear hx hy hb hW1 V0 V1 hne
  go_enter Try.func45, Try.ntmps45
  go_upto_region 1 with fail
  (try rw [hrr])
  rw [← HW.out]
  clear HW hrr
  by_cases h1 : rn = rn'
  rotate_left
  · have q1 : ((rn : Int) != (rn' : Int)) = true := by simp; omega
    clear CP R0 HNE h1
    go_wp2_with fail
    go_ret
    exact ⟨rfl, R1.out⟩
  subst h1
  by_cases h2 : dn = dn'
  rotate_left
  · have q1 : ((dn : Int) != (dn' : Int)) = true := by simp; omega
    clear CP R0 HNE h2
    go_wp2_with fail
    go_ret
    exact ⟨rfl, R1.out⟩
  subst h2
  by_cases h3 : en = en'
  rotate_left
  · have q1 : ((en : Int) != (en' : Int)) = true := by simp; omega
    clear CP R0 HNE h3
    go_wp2_with fail
    go_ret
    exact ⟨rfl, R1.out⟩
  subst h3
  have HNP : Hid (¬ past = past') := Lib.hid (fun q => HNE.out ⟨rfl, rfl, rfl, q⟩)
  clear HNE
  go_wp2_with fail
  refine CP.out.mono ?_
  rintro e w2 ⟨b, rfl, hb, m, rfl⟩
  cases b with
  | true => exact absurd (hb.1 rfl) HNP.out
  | false =>
    clear CP hb HNP R1
    go_wp2_with fail
    go_ret
    exact ⟨rfl, R0.out m⟩


set_option maxRecDepth 100000 in
set_option maxHeartbeats 16000000 in
theorem same7_any (x y : Xr) (H H' : Nat) (w : World) (hx : XrIn H w x) (hy : XrIn H' w y) (hor : (x.rows.map Xw.row = y.rows.map Xw.row ∧ x.dirty = y.dirty ∧ x.deeds.map Xd.deed = y.deeds.map Xd.deed ∧ x.past = y.past) ∨ ¬ (x.rn = y.rn ∧ x.dn = y.dn ∧ x.en = y.en ∧ x.past = y.past)) :
    Calls Try.prog 16 #[x.val, y.val] w (RetBB (x.read = y.read) w) := by
  have hlst : ¬ (x.rn = y.rn ∧ x.dn = y.dn ∧ x.en = y.en ∧ x.past = y.past) → ¬ (x.read = y.read) := fun q e => q ⟨by
    have := congrArg (fun r : Rc => r.rows.length) e
    have e' : (x.rows.map Xw.row).length = (y.rows.map Xw.row).length := this
    rw [List.length_map, List.length_map, hx.rows.len, hy.rows.len] at e'; exact e', by rw [← hx.dirty.len, ← hy.dirty.len]; exact congrArg (fun r : Rc => r.dirty.length) e, by
    have := congrArg (fun r : Rc => r.deeds.length) e
    have e' : (x.deeds.map Xd.deed).length = (y.deeds.map Xd.deed).length := this
    rw [List.length_map, List.length_map, hx.deeds.len, hy.deeds.len] at e'; exact e', congrArg Rc.past e⟩
  obtain ⟨b, hbq⟩ : ∃ b : Bool, (b = true → (x.rows.map Xw.row = y.rows.map Xw.row ∧ x.dirty = y.dirty ∧ x.deeds.map Xd.deed = y.deeds.map Xd.deed ∧ x.past = y.past)) ∧ (b = false → ¬ (x.rn = y.rn ∧ x.dn = y.dn ∧ x.en = y.en ∧ x.past = y.past)) := by
    rcases hor with q | q
    · exact ⟨true, fun _ => q, fun z => nomatch z⟩
    · exact ⟨false, fun z => (nomatch z), fun _ => q⟩
  obtain ⟨X, hX⟩ : ∃ X, X = x := ⟨_, rfl⟩
  obtain ⟨Y, hY⟩ : ∃ Y, Y = y := ⟨_, rfl⟩
  have CS : ∀ W, Below w.heap.size w W → Calls Try.prog 45 #[X.val, Y.val] W (fun e w' => e = .returned (.bool b) ∧ Below W.heap.size W w') := fun W hb => by
    subst hX hY
    cases b with
    | true =>
      obtain ⟨e1, e2, e3, e4⟩ := hbq.1 rfl
      exact sameLists_yes _ _ H H' W (hx.calm (Calm.of_below hb)) (hy.calm (Calm.of_below hb)) e1 e2 e3 e4
    | false => exact sameLists_no _ _ H H' W (hx.calm (Calm.of_below hb)) (hy.calm (Calm.of_below hb)) (hbq.2 rfl)
  obtain ⟨kind, tx, prev, next, key, ⟨oh, od⟩, ⟨nh, nd⟩, co, mA, mn, mc, mem, kA, kn, kc, lks, rA, rn, rc, rows, dA, dn, dc, dirty, eA, en, ec, deeds, pA, pn, pc, past⟩ := x
  obtain ⟨kind', tx', prev', next', key', ⟨oh', od'⟩, ⟨nh', nd'⟩, co', mA', mn', mc', mem', kA', kn', kc', lks', rA', rn', rc', rows', dA', dn', dc', dirty', eA', en', ec', deeds', pA', pn', pc', past'⟩ := y
  have HNL : Hid (b = false → ¬ (Xr.read ⟨kind, tx, prev, next, key, ⟨oh, od⟩, ⟨nh, nd⟩, co, mA, mn, mc, mem, kA, kn, kc, lks, rA, rn, rc, rows, dA, dn, dc, dirty, eA, en, ec, deeds, pA, pn, pc, past⟩ = Xr.read ⟨kind', tx', prev', next', key', ⟨oh', od'⟩, ⟨nh', nd'⟩, co', mA', mn', mc', mem', kA', kn', kc', lks', rA', rn', rc', rows', dA', dn', dc', dirty', eA', en', ec', deeds', pA', pn', pc', past'⟩)) := Lib.hid (fun q => hlst (hbq.2 q))
  have HYL := Lib.hid hbq.1
  simp only at HYL
  clear hlst hor hbq
  rw [hX, hY] at CS
  clear hX hY
  unfold Xr.val at CS ⊢
  unfold Xr.read at HNL ⊢
  simp only at CS HNL ⊢
  obtain ⟨C, hC⟩ : ∃ C : Array Value, C = #[.int .i64 kind, .int .i64 tx, .int .i64 prev, .int .i64 next, .string key, .bool oh, .string od, .bool nh, .string nd, .int .i64 co, .slice mA mn mc, .slice kA kn kc, .slice rA rn rc, .slice dA dn dc, .slice eA en ec, .slice pA pn pc] := ⟨_, rfl⟩
  obtain ⟨D, hD⟩ : ∃ D : Array Value, D = #[.int .i64 kind', .int .i64 tx', .int .i64 prev', .int .i64 next', .string key', .bool oh', .string od', .bool nh', .string nd', .int .i64 co', .slice mA' mn' mc', .slice kA' kn' kc', .slice rA' rn' rc', .slice dA' dn' dc', .slice eA' en' ec', .slice pA' pn' pc'] := ⟨_, rfl⟩
  rw [← hC, ← hD] at CS
  obtain ⟨r, hrr⟩ : ∃ r, w.heap.size = r := ⟨_, rfl⟩
  obtain ⟨W1, hW1⟩ : ∃ W1, W1 = (w.alloc (.cells #[.int .i64 kind, .int .i64 tx, .int .i64 prev, .int .i64 next, .string key, .bool oh, .string od, .bool nh, .string nd, .int .i64 co, .slice mA mn mc, .slice kA kn kc, .slice rA rn rc, .slice dA dn dc, .slice eA en ec, .slice pA pn pc] 30)).alloc (.cells #[.int .i64 kind', .int .i64 tx', .int .i64 prev', .int .i64 next', .string key', .bool oh', .string od', .bool nh', .string nd', .int .i64 co', .slice mA' mn' mc', .slice kA' kn' kc', .slice rA' rn' rc', .slice dA' dn' dc', .slice eA' en' ec', .slice pA' pn' pc'] 30) := ⟨_, rfl⟩
  have hb : Below w.heap.size w W1 := by rw [hW1]; exact ((Below.refl _ _).alloc (Nat.le_refl _) _).alloc (by simp) _
  have V0 : Bk W1 r 30 C := by rw [hW1, hC, ← hrr]; exact (Bk.new w _ _).bel ((Below.refl _ _).alloc (Nat.le_refl _) _) (by simp)
  have V1 : Bk W1 (r + 1) 30 D := by
    rw [hW1, hD, ← hrr]
    have := Bk.new (w.alloc (.cells #[.int .i64 kind, .int .i64 tx, .int .i64 prev, .int .i64 next, .string key, .bool oh, .string od, .bool nh, .string nd, .int .i64 co, .slice mA mn mc, .slice kA kn kc, .slice rA rn rc, .slice dA dn dc, .slice eA en ec, .slice pA pn pc] 30)) 30 #[.int .i64 kind', .int .i64 tx', .int .i64 prev', .int .i64 next', .string key', .bool oh', .string od', .bool nh', .string nd', .int .i64 co', .slice mA' mn' mc', .slice kA' kn' kc', .slice rA' rn' rc', .slice dA' dn' dc', .slice eA' en' ec', .slice pA' pn' pc']
    rw [World.size_alloc] at this
    exact this
  have a0 : W1.cell? ⟨r, 0, none⟩ = some (.int .i64 kind) := by rw [V0.cell 0, hC]; rfl
  have a1 : W1.cell? ⟨r, 1, none⟩ = some (.int .i64 tx) := by rw [V0.cell 1, hC]; rfl
  have a2 : W1.cell? ⟨r, 2, none⟩ = some (.int .i64 prev) := by rw [V0.cell 2, hC]; rfl
  have a3 : W1.cell? ⟨r, 3, none⟩ = some (.int .i64 next) := by rw [V0.cell 3, hC]; rfl
  have a4 : W1.cell? ⟨r, 4, none⟩ = some (.string key) := by rw [V0.cell 4, hC]; rfl
  have a5 : W1.cell? ⟨r, 5, none⟩ = some (.bool oh) := by rw [V0.cell 5, hC]; rfl
  have a6 : W1.cell? ⟨r, 6, none⟩ = some (.string od) := by rw [V0.cell 6, hC]; rfl
  have a7 : W1.cell? ⟨r, 7, none⟩ = some (.bool nh) := by rw [V0.cell 7, hC]; rfl
  have a8 : W1.cell? ⟨r, 8, none⟩ = some (.string nd) := by rw [V0.cell 8, hC]; rfl
  have a9 : W1.cell? ⟨r, 9, none⟩ = some (.int .i64 co) := by rw [V0.cell 9, hC]; rfl
  have a10 : W1.cell? ⟨r, 10, none⟩ = some (.slice mA mn mc) := by rw [V0.cell 10, hC]; rfl
  have a11 : W1.cell? ⟨r, 11, none⟩ = some (.slice kA kn kc) := by rw [V0.cell 11, hC]; rfl
  have b0 : W1.cell? ⟨r + 1, 0, none⟩ = some (.int .i64 kind') := by rw [V1.cell 0, hD]; rfl
  have b1 : W1.cell? ⟨r + 1, 1, none⟩ = some (.int .i64 tx') := by rw [V1.cell 1, hD]; rfl
  have b2 : W1.cell? ⟨r + 1, 2, none⟩ = some (.int .i64 prev') := by rw [V1.cell 2, hD]; rfl
  have b3 : W1.cell? ⟨r + 1, 3, none⟩ = some (.int .i64 next') := by rw [V1.cell 3, hD]; rfl
  have b4 : W1.cell? ⟨r + 1, 4, none⟩ = some (.string key') := by rw [V1.cell 4, hD]; rfl
  have b5 : W1.cell? ⟨r + 1, 5, none⟩ = some (.bool oh') := by rw [V1.cell 5, hD]; rfl
  have b6 : W1.cell? ⟨r + 1, 6, none⟩ = some (.string od') := by rw [V1.cell 6, hD]; rfl
  have b7 : W1.cell? ⟨r + 1, 7, none⟩ = some (.bool nh') := by rw [V1.cell 7, hD]; rfl
  have b8 : W1.cell? ⟨r + 1, 8, none⟩ = some (.string nd') := by rw [V1.cell 8, hD]; rfl
  have b9 : W1.cell? ⟨r + 1, 9, none⟩ = some (.int .i64 co') := by rw [V1.cell 9, hD]; rfl
  have b10 : W1.cell? ⟨r + 1, 10, none⟩ = some (.slice mA' mn' mc') := by rw [V1.cell 10, hD]; rfl
  have b11 : W1.cell? ⟨r + 1, 11, none⟩ = some (.slice kA' kn' kc') := by rw [V1.cell 11, hD]; rfl
  have CI := Lib.hid (refInts_any mA mn mc mA' mn' mc' H H' mem mem' W1 (hx.mem.calm (Calm.of_below hb)) (hy.mem.calm (Calm.of_below hb)))
  have CL := Lib.hid (fun m => refSameLks_any kA kn kc kA' kn' kc' H H' lks lks' (W1.drewN m) ((hx.lks.calm (Calm.of_below hb)).calm (calm_drewN H W1 m)) ((hy.lks.calm (Calm.of_below hb)).calm (calm_drewN H' W1 m)))
  have HCS : Hid (C.size = 16 ∧ D.size = 16) := Lib.hid ⟨by rw [hC]; rfl, by rw [hD]; rfl⟩
  have CSS := Lib.hid CS
  have HV := Lib.hid (And.intro V0 V1)
  have HB := Lib.hid hb
  have HW := Lib.hid hW1
  have NO2 : Hid (¬ ((⟨kind, tx, prev, next, key, ⟨oh, od⟩, ⟨nh, nd⟩, co, mem, lks, rows.map Xw.row, dirty, deeds.map Xd.deed, past⟩ : Rc) = ⟨kind', tx', prev', next', key', ⟨oh', od'⟩, ⟨nh', nd'⟩, co', mem', lks', rows'.map Xw.row, dirty', deeds'.map Xd.deed, past'⟩) → ∀ W, Below w.heap.size w W → RetBB ((⟨kind, tx, prev, next, key, ⟨oh, od⟩, ⟨nh, nd⟩, co, mem, lks, rows.map Xw.row, dirty, deeds.map Xd.deed, past⟩ : Rc) = ⟨kind', tx', prev', next', key', ⟨oh', od'⟩, ⟨nh', nd'⟩, co', mem', lks', rows'.map Xw.row, dirty', deeds'.map Xd.deed, past'⟩) w (.returned (.bool false)) W) := Lib.hid (fun q W hw => RetBB.of ⟨(fun z => nomatch z), fun z => absurd z q⟩ hw)
  have NO : Hid (¬ ((⟨kind, tx, prev, next, key, ⟨oh, od⟩, ⟨nh, nd⟩, co, mem, lks, rows.map Xw.row, dirty, deeds.map Xd.deed, past⟩ : Rc) = ⟨kind', tx', prev', next', key', ⟨oh', od'⟩, ⟨nh', nd'⟩, co', mem', lks', rows'.map Xw.row, dirty', deeds'.map Xd.deed, past'⟩) → ∀ m, RetBB ((⟨kind, tx, prev, next, key, ⟨oh, od⟩, ⟨nh, nd⟩, co, mem, lks, rows.map Xw.row, dirty, deeds.map Xd.deed, past⟩ : Rc) = ⟨kind', tx', prev', next', key', ⟨oh', od'⟩, ⟨nh', nd'⟩, co', mem', lks', rows'.map Xw.row, dirty', deeds'.map Xd.deed, past'⟩) w (.returned (.bool false)) (W1.drewN m)) := Lib.hid (fun q m => NO2.out q _ (below_drewN hb m))
  have NO1 : Hid (¬ ((⟨kind, tx, prev, next, key, ⟨oh, od⟩, ⟨nh, nd⟩, co, mem, lks, rows.map Xw.row, dirty, deeds.map Xd.deed, past⟩ : Rc) = ⟨kind', tx', prev', next', key', ⟨oh', od'⟩, ⟨nh', nd'⟩, co', mem', lks', rows'.map Xw.row, dirty', deeds'.map Xd.deed, past'⟩) → RetBB ((⟨kind, tx, prev, next, key, ⟨oh, od⟩, ⟨nh, nd⟩, co, mem, lks, rows.map Xw.row, dirty, deeds.map Xd.deed, past⟩ : Rc) = ⟨kind', tx', prev', next', key', ⟨oh', od'⟩, ⟨nh', nd'⟩, co', mem', lks', rows'.map Xw.row, dirty', deeds'.map Xd.deed, past'⟩) w (.returned (.bool false)) W1) := Lib.hid (fun q => NO2.out q _ hb)
  have YES : Hid (((⟨kind, tx, prev, next, key, ⟨oh, od⟩, ⟨nh, nd⟩, co, mem, lks, rows.map Xw.row, dirty, deeds.map Xd.deed, past⟩ : Rc) = ⟨kind', tx', prev', next', key', ⟨oh', od'⟩, ⟨nh', nd'⟩, co', mem', lks', rows'.map Xw.row, dirty', deeds'.map Xd.deed, past'⟩) → ∀ W, Below w.heap.size w W → RetBB ((⟨kind, tx, prev, next, key, ⟨oh, od⟩, ⟨nh, nd⟩, co, mem, lks, rows.map Xw.row, dirty, deeds.map Xd.deed, past⟩ : Rc) = ⟨kind', tx', prev', next', key', ⟨oh', od'⟩, ⟨nh', nd'⟩, co', mem', lks', rows'.map Xw.row, dirty', deeds'.map Xd.deed, past'⟩) w (.returned (.bool true)) W) := Lib.hid (fun q W hw => RetBB.of ⟨fun _ => q, fun _ => rfl⟩ hw)
  clear hx hy hb hW1 V0 V1 CS hC hD
  go_enter Try.func16, Try.ntmps16
  go_upto_region 1 with fail
  (try rw [hrr])
  rw [← HW.out]
  clear HW hrr
  by_cases h_kind : kind = kind'
  rotate_left
  · have R := Lib.hid (NO1.out (fun q => h_kind (congrArg Rc.kind q)))
    have hne : (kind == kind') = false := by simpa using h_kind
    clear NO NO1 NO2 YES CI CL CSS h_kind
    go_wp2_with fail
    go_ret
    exact R.out
  subst h_kind
  by_cases h_tx : tx = tx'
  rotate_left
  · have R := Lib.hid (NO1.out (fun q => h_tx (congrArg Rc.tx q)))
    have hne : (tx == tx') = false := by simpa using h_tx
    clear NO NO1 NO2 YES CI CL CSS h_tx
    go_wp2_with fail
    go_ret
    exact R.out
  subst h_tx
  by_cases h_prev : prev = prev'
  rotate_left
  · have R := Lib.hid (NO1.out (fun q => h_prev (congrArg Rc.prev q)))
    have hne : (prev == prev') = false := by simpa using h_prev
    clear NO NO1 NO2 YES CI CL CSS h_prev
    go_wp2_with fail
    go_ret
    exact R.out
  subst h_prev
  by_cases h_next : next = next'
  rotate_left
  · have R := Lib.hid (NO1.out (fun q => h_next (congrArg Rc.next q)))
    have hne : (next == next') = false := by simpa using h_next
    clear NO NO1 NO2 YES CI CL CSS h_next
    go_wp2_with fail
    go_ret
    exact R.out
  subst h_next
  by_cases h_key : key = key'
  rotate_left
  · have R := Lib.hid (NO1.out (fun q => h_key (congrArg Rc.key q)))
    have hne := ba_list h_key
    clear NO NO1 NO2 YES CI CL CSS h_key
    go_wp2_with fail
    go_ret
    exact R.out
  subst h_key
  by_cases h_o : oh = oh'
  rotate_left
  · have R := Lib.hid (NO1.out (fun q => h_o (congrArg (fun r : Rc => r.old.has) q)))
    clear NO NO1 NO2 YES CI CL CSS HYL HNL
    cases oh <;> cases oh' <;> first
      | exact absurd rfl h_o
      | (clear h_o
         go_wp2_with fail
         go_ret
         exact R.out)
  subst h_o
  by_cases h_o : od = od'
  rotate_left
  · have R := Lib.hid (NO1.out (fun q => h_o (congrArg (fun r : Rc => r.old.data) q)))
    have hne := ba_list h_o
    clear NO NO1 NO2 YES CI CL CSS HYL HNL h_o
    go_wp2_with fail
    go_ret
    exact R.out
  subst h_o
  by_cases h_n : nh = nh'
  rotate_left
  · have R := Lib.hid (NO1.out (fun q => h_n (congrArg (fun r : Rc => r.new.has) q)))
    clear NO NO1 NO2 YES CI CL CSS HYL HNL
    cases nh <;> cases nh' <;> first
      | exact absurd rfl h_n
      | (clear h_n
         go_wp2_with fail
         go_ret
         exact R.out)
  subst h_n
  by_cases h_n : nd = nd'
  rotate_left
  · have R := Lib.hid (NO1.out (fun q => h_n (congrArg (fun r : Rc => r.new.data) q)))
    have hne := ba_list h_n
    clear NO NO1 NO2 YES CI CL CSS HYL HNL h_n
    go_wp2_with fail
    go_ret
    exact R.out
  subst h_n
  by_cases h_co : co = co'
  rotate_left
  · have R := Lib.hid (NO1.out (fun q => h_co (congrArg Rc.co q)))
    have hne : (co == co') = false := by simpa using h_co
    clear NO NO1 NO2 YES CI CL CSS h_co
    go_wp2_with fail
    go_ret
    exact R.out
  subst h_co
  go_wp2_with fail
  refine CI.out.mono ?_
  rintro e w2 ⟨c, rfl, hb, m, rfl⟩
  cases c with
  | false =>
    have R := Lib.hid (NO.out (fun q => by have := hb.2 (congrArg Rc.mem q); cases this) m)
    clear NO NO1 NO2 YES CI CL hb CSS
    go_wp2_with fail
    go_ret
    exact R.out
  | true =>
    have hm := hb.1 rfl
    subst hm
    clear hb
    go_wp2_with fail
    refine (CL.out m).mono ?_
    rintro e w3 ⟨c, rfl, hb, m2, rfl⟩
    cases c with
    | false =>
      have R := Lib.hid (NO.out (fun q => by have := hb.2 (congrArg Rc.lks q); cases this) (m + m2))
      clear NO NO1 NO2 YES CI CL hb CSS
      go_wp2_with fail
      go_ret
      first | exact R.out | (rw [World.drewN_drewN]; exact R.out)
    | true =>
      have hm := hb.1 rfl
      subst hm
      clear hb
      have HBM : Hid (Below w.heap.size w (W1.drewN (m + m2))) := Lib.hid (below_drewN HB.out _)
      have CT := Lib.hid (CSS.out (W1.drewN (m + m2)) HBM.out)
      have V0 : Hid (Bk (W1.drewN (m + m2)) r 30 C) := Lib.hid HV.out.1
      have V1 : Hid (Bk (W1.drewN (m + m2)) (r + 1) 30 D) := Lib.hid HV.out.2
      go_wp2_with (first
        | (refine wpList_load_row_g rfl 30 _ rfl r rfl 30 _ (0, 0) _ V0.out Try.underlying30 rfl (by rw [HCS.out.1]; exact inf_rec) ?_)
        | (refine wpList_load_row_g rfl 30 _ rfl (r + 1) rfl 30 _ (0, 0) _ V1.out Try.underlying30 rfl (by rw [HCS.out.2]; exact inf_rec) ?_))
      refine CT.out.mono ?_
      rintro e w4 ⟨rfl, hb4⟩
      have BB := HBM.out.trans (hb4.mono HBM.out.size)
      cases b with
      | true =>
        obtain ⟨e1, e2, e3, e4⟩ := HYL.out rfl
        have R := Lib.hid (YES.out (by rw [e1, e2, e3, e4]) _ BB)
        clear hb4 BB e1 e2 e3 e4 NO NO1 NO2 YES CI CL CSS CT HYL HNL
        go_wp2_with fail
        go_ret
        exact R.out
      | false =>
        have R := Lib.hid (NO2.out (HNL.out rfl) _ BB)
        clear hb4 BB NO NO1 NO2 YES CI CL CSS CT HYL HNL
        go_wp2_with fail
        go_ret
        exact R.out
end Go.Proofs.Ytfldcddbmikfiaa
