/- What it says: contracts and plain mathematics that the laws' walks use, 24 of 24: each part's own remark says what; no condition. -/
import Derived.Test.YtpaknpemkmhapaaPk1
import Derived.Test.YtpaknpemkmhapaaPk6
import Derived.Test.YtpaknpemkmhapaaPk15
import Derived.Test.YtpaknpemkmhapaaPk23
import Derived.Test.YtpaknpemkmhapaaRows
import Derived.ProofKit
import Derived.OpenShut
import Derived.ShutString
import Derived.ChangeOld
import Derived.SizedLaws
import Derived.Deep.Slices
import Derived.Lib.SmallJoins
import Derived.ChangeArms

set_option linter.unusedSimpArgs false
set_option linter.unusedVariables false
set_option linter.deprecated false
set_option linter.unusedSectionVars false
set_option linter.all false

/- trothref07.Same says yes of records that read as the same. -/
namespace Go.Proofs.Ytpaknpemkmhapaa
open Go.RowKit
set_option maxRecDepth 100000 in
set_option maxHeartbeats 16000000 in
theorem same7_yes (x y : Xr) (H H' : Nat) (w : World) (hx : XrIn H w x) (hy : XrIn H' w y) (e : x.read = y.read) :
    Calls Try.prog 19 #[x.val, y.val] w (fun e w' => e = .returned (.bool true) ∧ Below w.heap.size w w') := by
  have e1 := congrArg Rc.rows e
  have e2 := congrArg Rc.dirty e
  have e3 := congrArg Rc.deeds e
  have e4 := congrArg Rc.past e
  obtain ⟨X, hX⟩ : ∃ X, X = x := ⟨_, rfl⟩
  obtain ⟨Y, hY⟩ : ∃ Y, Y = y := ⟨_, rfl⟩
  have CS : ∀ W, Below w.heap.size w W → Calls Try.prog 48 #[X.val, Y.val] W (fun e w' => e = .returned (.bool true) ∧ Below W.heap.size W w') := fun W hb => by
    subst hX hY
    exact sameLists_yes _ _ H H' W (hx.calm (Calm.of_below hb)) (hy.calm (Calm.of_below hb)) e1 e2 e3 e4
  obtain ⟨kind, tx, prev, next, key, ⟨oh, od⟩, ⟨nh, nd⟩, co, mA, mn, mc, mem, kA, kn, kc, lks, rA, rn, rc, rows, dA, dn, dc, dirty, eA, en, ec, deeds, pA, pn, pc, past⟩ := x
  obtain ⟨kind', tx', prev', next', key', ⟨oh', od'⟩, ⟨nh', nd'⟩, co', mA', mn', mc', mem', kA', kn', kc', lks', rA', rn', rc', rows', dA', dn', dc', dirty', eA', en', ec', deeds', pA', pn', pc', past'⟩ := y
  obtain rfl : kind = kind' := congrArg Rc.kind e
  obtain rfl : tx = tx' := congrArg Rc.tx e
  obtain rfl : prev = prev' := congrArg Rc.prev e
  obtain rfl : next = next' := congrArg Rc.next e
  obtain rfl : key = key' := congrArg Rc.key e
  obtain rfl : oh = oh' := congrArg (fun r : Rc => r.old.has) e
  obtain rfl : od = od' := congrArg (fun r : Rc => r.old.data) e
  obtain rfl : nh = nh' := congrArg (fun r : Rc => r.new.has) e
  obtain rfl : nd = nd' := congrArg (fun r : Rc => r.new.data) e
  obtain rfl : co = co' := congrArg Rc.co e
  obtain rfl : mem = mem' := congrArg Rc.mem e
  obtain rfl : lks = lks' := congrArg Rc.lks e
  clear e e1 e2 e3 e4
  rw [hX, hY] at CS
  clear hX hY
  unfold Xr.val at CS ⊢
  simp only at CS ⊢
  obtain ⟨C, hC⟩ : ∃ C : Array Value, C = #[.int .i64 kind, .int .i64 tx, .int .i64 prev, .int .i64 next, .string key, .bool oh, .string od, .bool nh, .string nd, .int .i64 co, .slice mA mn mc, .slice kA kn kc, .slice rA rn rc, .slice dA dn dc, .slice eA en ec, .slice pA pn pc] := ⟨_, rfl⟩
  obtain ⟨D, hD⟩ : ∃ D : Array Value, D = #[.int .i64 kind, .int .i64 tx, .int .i64 prev, .int .i64 next, .string key, .bool oh, .string od, .bool nh, .string nd, .int .i64 co, .slice mA' mn' mc', .slice kA' kn' kc', .slice rA' rn' rc', .slice dA' dn' dc', .slice eA' en' ec', .slice pA' pn' pc'] := ⟨_, rfl⟩
  rw [← hC, ← hD] at CS
  obtain ⟨r, hrr⟩ : ∃ r, w.heap.size = r := ⟨_, rfl⟩
  obtain ⟨W1, hW1⟩ : ∃ W1, W1 = (w.alloc (.cells #[.int .i64 kind, .int .i64 tx, .int .i64 prev, .int .i64 next, .string key, .bool oh, .string od, .bool nh, .string nd, .int .i64 co, .slice mA mn mc, .slice kA kn kc, .slice rA rn rc, .slice dA dn dc, .slice eA en ec, .slice pA pn pc] 30)).alloc (.cells #[.int .i64 kind, .int .i64 tx, .int .i64 prev, .int .i64 next, .string key, .bool oh, .string od, .bool nh, .string nd, .int .i64 co, .slice mA' mn' mc', .slice kA' kn' kc', .slice rA' rn' rc', .slice dA' dn' dc', .slice eA' en' ec', .slice pA' pn' pc'] 30) := ⟨_, rfl⟩
  have hb : Below w.heap.size w W1 := by rw [hW1]; exact ((Below.refl _ _).alloc (Nat.le_refl _) _).alloc (by simp) _
  have V0 : Bk W1 r 30 C := by rw [hW1, hC, ← hrr]; exact (Bk.new w _ _).bel ((Below.refl _ _).alloc (Nat.le_refl _) _) (by simp)
  have V1 : Bk W1 (r + 1) 30 D := by
    rw [hW1, hD, ← hrr]
    have := Bk.new (w.alloc (.cells #[.int .i64 kind, .int .i64 tx, .int .i64 prev, .int .i64 next, .string key, .bool oh, .string od, .bool nh, .string nd, .int .i64 co, .slice mA mn mc, .slice kA kn kc, .slice rA rn rc, .slice dA dn dc, .slice eA en ec, .slice pA pn pc] 30)) 30 #[.int .i64 kind, .int .i64 tx, .int .i64 prev, .int .i64 next, .string key, .bool oh, .string od, .bool nh, .string nd, .int .i64 co, .slice mA' mn' mc', .slice kA' kn' kc', .slice rA' rn' rc', .slice dA' dn' dc', .slice eA' en' ec', .slice pA' pn' pc']
    rw [World.size_alloc] at this
    exact this
  have a0 : W1.cell? ⟨r, 0, none⟩ = some (.int .i64 kind) := by rw [V0.cell 0, hC]; rfl
  have a1 : W1.cell? ⟨r, 1, none⟩ = some (.int .i64 tx) := by rw [V0.cell 1, hC]; rfl
  have a2 : W1.cell? ⟨r, 2, none⟩ = some (.int .i64 prev) := by rw [V0.cell 2, hC]; rfl
  have a3 : W1.cell? ⟨r, 3, none⟩ = some (.int .i64 next) := by rw [V0.cell 3, hC]; rfl
  have a4 : W1.cell? ⟨r, 4, none⟩ = some (.string key) := by rw [V0.cell 4, hC]; rfl
  have a5 : W1.cell? ⟨r, 5, none⟩ = some (.bool oh) := by rw [V0.cell 5, hC]; rfl
  have a6 : W1.cell? ⟨r, 6, none⟩ = some (.string od) := by rw [V0.cell 6, hC]; rfl
  have a7 : W1.cell? ⟨r, 7, none⟩ = some (.bool nh) := by rw [V0.cell 7, hC]; rfl
  have a8 : W1.cell? ⟨r, 8, none⟩ = some (.string nd) := by rw [V0.cell 8, hC]; rfl
  have a9 : W1.cell? ⟨r, 9, none⟩ = some (.int .i64 co) := by rw [V0.cell 9, hC]; rfl
  have a10 : W1.cell? ⟨r, 10, none⟩ = some (.slice mA mn mc) := by rw [V0.cell 10, hC]; rfl
  have a11 : W1.cell? ⟨r, 11, none⟩ = some (.slice kA kn kc) := by rw [V0.cell 11, hC]; rfl
  have b0 : W1.cell? ⟨r + 1, 0, none⟩ = some (.int .i64 kind) := by rw [V1.cell 0, hD]; rfl
  have b1 : W1.cell? ⟨r + 1, 1, none⟩ = some (.int .i64 tx) := by rw [V1.cell 1, hD]; rfl
  have b2 : W1.cell? ⟨r + 1, 2, none⟩ = some (.int .i64 prev) := by rw [V1.cell 2, hD]; rfl
  have b3 : W1.cell? ⟨r + 1, 3, none⟩ = some (.int .i64 next) := by rw [V1.cell 3, hD]; rfl
  have b4 : W1.cell? ⟨r + 1, 4, none⟩ = some (.string key) := by rw [V1.cell 4, hD]; rfl
  have b5 : W1.cell? ⟨r + 1, 5, none⟩ = some (.bool oh) := by rw [V1.cell 5, hD]; rfl
  have b6 : W1.cell? ⟨r + 1, 6, none⟩ = some (.string od) := by rw [V1.cell 6, hD]; rfl
  have b7 : W1.cell? ⟨r + 1, 7, none⟩ = some (.bool nh) := by rw [V1.cell 7, hD]; rfl
  have b8 : W1.cell? ⟨r + 1, 8, none⟩ = some (.string nd) := by rw [V1.cell 8, hD]; rfl
  have b9 : W1.cell? ⟨r + 1, 9, none⟩ = some (.int .i64 co) := by rw [V1.cell 9, hD]; rfl
  have b10 : W1.cell? ⟨r + 1, 10, none⟩ = some (.slice mA' mn' mc') := by rw [V1.cell 10, hD]; rfl
  have b11 : W1.cell? ⟨r + 1, 11, none⟩ = some (.slice kA' kn' kc') := by rw [V1.cell 11, hD]; rfl
  have CI := Lib.hid (sameInts_yes mA mn mc mA' mn' mc' H H' mem W1 (hx.mem.calm (Calm.of_below hb)) (hy.mem.calm (Calm.of_below hb)))
  have CL := Lib.hid (fun m => sameLocks_yes kA kn kc kA' kn' kc' H H' lks (W1.drewN m) ((hx.lks.calm (Calm.of_below hb)).calm (calm_drewN H W1 m)) ((hy.lks.calm (Calm.of_below hb)).calm (calm_drewN H' W1 m)))
  have HCS : Hid (C.size = 16 ∧ D.size = 16) := Lib.hid ⟨by rw [hC]; rfl, by rw [hD]; rfl⟩
  have CSS := Lib.hid CS
  have HV := Lib.hid (And.intro V0 V1)
  have HB := Lib.hid hb
  have HW := Lib.hid hW1
  clear hx hy hb hW1 V0 V1 CS hC hD
  go_enter Try.func19, Try.ntmps19
  go_upto_region 1 with fail
  (try rw [hrr])
  rw [← HW.out]
  clear HW hrr
  go_wp2_with fail
  refine CI.out.mono ?_
  rintro e w2 ⟨rfl, m, rfl⟩
  go_wp2_with fail
  refine (CL.out m).mono ?_
  rintro e w3 ⟨rfl, m2, rfl⟩
  have HBM : Hid (Below w.heap.size w (W1.drewN (m + m2))) := Lib.hid (below_drewN HB.out _)
  have CT := Lib.hid (CSS.out (W1.drewN (m + m2)) HBM.out)
  have V0 : Hid (Bk (W1.drewN (m + m2)) r 30 C) := Lib.hid HV.out.1
  have V1 : Hid (Bk (W1.drewN (m + m2)) (r + 1) 30 D) := Lib.hid HV.out.2
  go_wp2_with (first
    | (refine wpList_load_row_g rfl 30 _ rfl r rfl 30 _ (0, 0) _ V0.out Try.underlying30 rfl (by rw [HCS.out.1]; exact inf_rec) ?_)
    | (refine wpList_load_row_g rfl 30 _ rfl (r + 1) rfl 30 _ (0, 0) _ V1.out Try.underlying30 rfl (by rw [HCS.out.2]; exact inf_rec) ?_))
  refine CT.out.mono ?_
  rintro e w4 ⟨rfl, hb4⟩
  have R := Lib.hid (HBM.out.trans (hb4.mono HBM.out.size))
  clear hb4
  go_wp2_with fail
  go_ret
  exact ⟨rfl, R.out⟩
end Go.Proofs.Ytpaknpemkmhapaa

/- what a row's step wants of arguments that are numbers or slices of bytes: how they read, and how long they are. No condition. -/
namespace Go.Proofs.Ytpaknpemkmhapaa
open Go.ChangeShapes Go.WideShapes Go.ChangeAt Go.RowKit

theorem own_knob : ownKnob Try.prog.godebug = none := by kernel_rfl
theorem laidOut : laidOutB Try.prog = true := by kernel_rfl

theorem u64_nat {x : Int} (h : (Lit.int .u64 x).wf = true) : ∃ m : Nat, x = m ∧ m < 18446744073709551616 := by
  simp [Lit.wf, IntKind.min, IntKind.max, IntKind.signed, IntKind.bits] at h
  exact ⟨x.toNat, by omega, by omega⟩

theorem u32_nat {x : Int} (h : (Lit.int .u32 x).wf = true) : ∃ m : Nat, x = m ∧ m < 4294967296 := by
  simp [Lit.wf, IntKind.min, IntKind.max, IntKind.signed, IntKind.bits] at h
  exact ⟨x.toNat, by omega, by omega⟩

theorem i64_bd {x : Int} (h : (Lit.int .i64 x).wf = true) : -9223372036854775808 ≤ x ∧ x ≤ 9223372036854775807 := by
  simp [Lit.wf, IntKind.min, IntKind.max, IntKind.signed, IntKind.bits] at h
  exact ⟨by omega, by omega⟩

theorem u8_bd {x : Int} (h : (Lit.int .u8 x).wf = true) : 0 ≤ x ∧ x < 256 := by
  simp [Lit.wf, IntKind.min, IntKind.max, IntKind.signed, IntKind.bits] at h
  exact ⟨by omega, by omega⟩

theorem bytes8 : Try.prog.bytesOf 5 = 1 := by kernel_rfl
theorem cells8 : Try.prog.cellsOf 5 = 1 := by kernel_rfl

section
variable {H : Type} {enc : TypeId × Value → H} {W : World}

theorem open_bytes {a : Option Addr} {n c : Nat} {d : DataW H} {p : List MemPlace} (h : DataW.Trod enc Try.prog W 0 (fun _ => true) true 33 (.slice a n c) d p) :
    ∃ l, Byt W a n c l ∧ (n = 0 ∨ ∃ el sp, d = .slice el sp ∧ el.length = n) := by
  obtain ⟨fuel, hf⟩ := h
  rcases open_ints Try.underlying33 Try.underlying5 cells8 hf with ⟨hcs, _⟩ | ⟨x, len, cap, zs, hcs, _, hl, hm, hz, hx, hcell, hwz⟩
  · simp [Value.cells] at hcs
    obtain ⟨rfl, rfl, rfl⟩ := hcs
    exact ⟨[], Byt.nil W, .inl rfl⟩
  · simp [Value.cells] at hcs
    obtain ⟨rfl, rfl, rfl⟩ := hcs
    simp only [Prod.mk.injEq] at hx
    have hzl : zs.length = c := by simpa using hz
    refine ⟨zs.take n, ⟨by simp; omega, hl, hm, fun y hy => u8_bd (hwz y (List.mem_of_mem_take hy)), (fun h => nomatch h), fun hn => ?_⟩, .inr ⟨_, _, hx.1, by simp [lits]; omega⟩⟩
    obtain ⟨g, off, spot⟩ := x
    have hspot : spot = none := by simpa [Addr.add] using World.cell?_spot (hcell 0 (by omega))
    subst hspot
    refine ⟨g, off, rfl, fun i hi => ?_⟩
    have h1 := hcell i (by omega)
    have hadd : (⟨g, off, none⟩ : Addr).add i = ⟨g, off + i, none⟩ := by unfold Addr.add; split <;> simp_all
    rw [hadd] at h1
    rw [h1]
    congr 2
    simp [List.getD, hi]

theorem bytes_reach {ts : List TypeId} {ds : List (DataW H)} (h : (DataW.weightsEach Try.prog ts ds).all (· ≤ reachBytes) = true) {j : Nat} {d : DataW H} {n : Nat} (ht : ts[j]? = some 33) (hd : ds[j]? = some d)
    (e : n = 0 ∨ ∃ el sp, d = .slice el sp ∧ el.length = n) : n ≤ 140737488351232 := by
  rcases e with rfl | ⟨el, sp, rfl, hn⟩
  · omega
  · have := sized_slice h ht hd Try.underlying33
    rw [bytes8] at this
    simp only [reachBytes] at this
    omega
end
end Go.Proofs.Ytpaknpemkmhapaa

/- a log record as it comes in: what it reads as. -/
namespace Go.Proofs.Ytpaknpemkmhapaa
open Go.RowKit Go.ChangeShapes Go.WideShapes Go.ChangeAt

theorem lst_of {α : Type} (d : α) (P : Nat → α → Prop) : ∀ n : Nat, (∀ i, i < n → ∃ x, P i x) → ∃ l : List α, l.length = n ∧ ∀ i, i < n → P i (l.getD i d)
  | 0, _ => ⟨[], rfl, fun i hi => absurd hi (by omega)⟩
  | n + 1, h => by
    obtain ⟨l, hl, hp⟩ := lst_of d P n (fun i hi => h i (by omega))
    obtain ⟨x, hx⟩ := h n (by omega)
    refine ⟨l ++ [x], by simp [hl], fun i hi => ?_⟩
    by_cases he : i < n
    · have := hp i he
      have e : (l ++ [x]).getD i d = l.getD i d := by simp [List.getD, List.getElem?_append_left (show i < l.length by omega)]
      rwa [e]
    · obtain rfl : i = n := by omega
      have : (l ++ [x]).getD l.length d = x := by simp
      rw [hl] at this
      rw [this]
      exact hx

section
variable {H : Type} {enc : TypeId × Value → H} {W : World}

theorem open_sl {α : Type} [Inhabited α] (E : El α) {sl : TypeId} (ht : Try.prog.underlying sl = some (.slice E.ty)) (hc : Try.prog.cellsOf E.ty = E.size)
    (each : ∀ k cs x, cs.length = E.size → DataW.trod enc Try.prog W 0 (fun _ => true) true k E.ty cs = some x → ∃ a, E.inn W.heap.size W a ∧ cs = E.cells a)
    {k : Nat} {v : Value} {x : DataW H × List MemPlace} (hf : DataW.trod enc Try.prog W 0 (fun _ => true) true k sl [v] = some x) : ∃ A n c l, v = .slice A n c ∧ Sl E W.heap.size W A n c l := by
  rcases Go.Deep.open_slice ht hf with ⟨hcs, _⟩ | ⟨a, n, c, m, k, D, Pl, hcs, _, hl, hm, hmm, _, hx⟩
  · obtain rfl : v = .slice none 0 0 := by simpa using hcs
    exact ⟨none, 0, 0, [], rfl, Sl.nil E _ W⟩
  · obtain rfl : v = .slice (some a) n c := by simpa using hcs
    have hmc : m = c := by simpa using hmm
    subst hmc
    have ex : ∀ i, i < n → ∃ y : α, E.inn W.heap.size W y ∧ ∀ j v, (E.cells y)[j]? = some v → W.cell? ((a.add (i * E.size)).add j) = some v := by
      intro i hi
      obtain ⟨cs', hcc, ht'⟩ := hx i (by omega)
      rw [hc] at hcc
      obtain ⟨_, hcl, hat⟩ := World.cells?_some hcc
      obtain ⟨y, hy, rfl⟩ := each _ _ _ hcl ht'
      refine ⟨y, hy, fun j v hv => ?_⟩
      have hj : j < E.size := by rw [← E.len y]; exact (List.getElem?_eq_some_iff.1 hv).1
      rw [hat j hj]
      exact hv
    obtain ⟨ys, hlen, hys⟩ := lst_of (default : α) _ n ex
    refine ⟨some a, n, m, ys, rfl, hlen, hl, hm, (fun h => nomatch h), fun y hy => ?_, fun hn => ?_⟩
    · obtain ⟨i, hi, rfl⟩ := List.getElem_of_mem hy
      have := (hys i (by omega)).1
      rwa [List.getD_eq_getElem?_getD, List.getElem?_eq_getElem hi] at this
    · obtain ⟨g, off, spot⟩ := a
      have hpos : ∀ i, i < n → ∃ v, (E.cells (ys.getD i default))[0]? = some v := fun i _ => ⟨_, List.getElem?_eq_getElem (by rw [E.len]; exact E.pos)⟩
      have hspot : spot = none := by
        obtain ⟨v, hv⟩ := hpos 0 hn
        have := (hys 0 hn).2 0 _ hv
        have h2 := World.cell?_spot this
        simpa [Addr.add] using h2
      subst hspot
      have hadd : ∀ i j : Nat, ((⟨g, off, none⟩ : Addr).add i).add j = ⟨g, off + i + j, none⟩ := by
        intro i j
        by_cases hi : i = 0 <;> by_cases hj : j = 0 <;> simp [Addr.add, hi, hj]
      have hgl : g < W.heap.size := by
        obtain ⟨v, hv⟩ := hpos 0 hn
        have := (hys 0 hn).2 0 _ hv
        rw [hadd] at this
        exact World.block_lt_of_cell? W _ this
      refine ⟨g, off, rfl, ⟨hgl, .inl hgl⟩, fun i hi j v hv => ?_⟩
      have := (hys i hi).2 j v hv
      rwa [hadd] at this

theorem co_int : Try.prog.cellsOf 3 = 1 := by kernel_rfl
theorem co_str : Try.prog.cellsOf 9 = 1 := by kernel_rfl
theorem co_bool : Try.prog.cellsOf 4 = 1 := by kernel_rfl
theorem co_val : Try.prog.cellsOf 23 = 2 := by kernel_rfl
theorem co_lock : Try.prog.cellsOf 50 = 2 := by kernel_rfl
theorem co_row : Try.prog.cellsOf 52 = 8 := by kernel_rfl
theorem co_dirty : Try.prog.cellsOf 90 = 2 := by kernel_rfl
theorem co_deed : Try.prog.cellsOf 54 = 2 := by kernel_rfl
theorem co_rec : Try.prog.cellsOf 30 = 16 := by kernel_rfl
theorem co_ints : Try.prog.cellsOf 24 = 1 := by kernel_rfl
theorem co_locks : Try.prog.cellsOf 25 = 1 := by kernel_rfl
theorem co_rows : Try.prog.cellsOf 26 = 1 := by kernel_rfl
theorem co_dirties : Try.prog.cellsOf 27 = 1 := by kernel_rfl
theorem co_deeds : Try.prog.cellsOf 28 = 1 := by kernel_rfl

abbrev Trd (enc : TypeId × Value → H) (W : World) (k : Nat) (t : TypeId) (cs : List Value) (x : DataW H × List MemPlace) : Prop := DataW.trod enc Try.prog W 0 (fun _ => true) true k t cs = some x
theorem op_int {k : Nat} {v : Value} {x : DataW H × List MemPlace} (h : Trd enc W k 3 [v] x) : ∃ z, v = .int .i64 z ∧ i64 z := by
  obtain ⟨z, e, _, w⟩ := DataW.trod_int Try.underlying3 h
  simp at e
  exact ⟨z, e, wf_i64 w⟩
theorem op_str {k : Nat} {v : Value} {x : DataW H × List MemPlace} (h : Trd enc W k 9 [v] x) : ∃ s : ByteArray, v = .string s := by
  obtain ⟨s, e, _⟩ := DataW.trod_string Try.underlying9 h
  simp at e
  exact ⟨s, e⟩
theorem op_bool {k : Nat} {v : Value} {x : DataW H × List MemPlace} (h : Trd enc W k 4 [v] x) : ∃ b, v = .bool b := by
  obtain ⟨b, e, _⟩ := DataW.trod_bool Try.underlying4 h
  simp at e
  exact ⟨b, e⟩
theorem op_ints {k : Nat} {v : Value} {x : DataW H × List MemPlace} (h : Trd enc W k 24 [v] x) : ∃ A n c l, v = .slice A n c ∧ Sl elI W.heap.size W A n c l :=
  open_sl elI Try.underlying24 co_int (fun k cs x hl h => by
    match cs, hl with
    | [v], _ =>
      obtain ⟨z, rfl, hz⟩ := op_int h
      exact ⟨z, hz, rfl⟩) h
theorem op_locks {k : Nat} {v : Value} {x : DataW H × List MemPlace} (h : Trd enc W k 25 [v] x) : ∃ A n c l, v = .slice A n c ∧ Sl elL W.heap.size W A n c l :=
  open_sl elL Try.underlying25 co_lock (fun k cs x hl h => by
    match cs, hl with
    | [v0, v1], _ =>
      obtain ⟨xs, k', _, _, _, hxl, hfld⟩ := DataW.trod_struct Try.underlying50 h
      match xs, hxl with
      | [x0, x1], _ =>
        have f0 : Trd enc W k' 9 (List.take (Try.prog.cellsOf 9) [v0, v1]) x0 := hfld 0 _ rfl
        have f1 : Trd enc W k' 4 (List.take (Try.prog.cellsOf 4) [v1]) x1 := hfld 1 _ rfl
        rw [co_str] at f0
        rw [co_bool] at f1
        obtain ⟨s, rfl⟩ := op_str f0
        obtain ⟨b, rfl⟩ := op_bool f1
        exact ⟨⟨s, b⟩, Nat.zero_le _, rfl⟩) h
theorem op_dirty {k : Nat} {v : Value} {x : DataW H × List MemPlace} (h : Trd enc W k 27 [v] x) : ∃ A n c l, v = .slice A n c ∧ Sl elD W.heap.size W A n c l :=
  open_sl elD Try.underlying27 co_dirty (fun k cs x hl h => by
    match cs, hl with
    | [v0, v1], _ =>
      obtain ⟨xs, k', _, _, _, hxl, hfld⟩ := DataW.trod_struct Try.underlying90 h
      match xs, hxl with
      | [x0, x1], _ =>
        have f0 : Trd enc W k' 3 (List.take (Try.prog.cellsOf 3) [v0, v1]) x0 := hfld 0 _ rfl
        have f1 : Trd enc W k' 3 (List.take (Try.prog.cellsOf 3) [v1]) x1 := hfld 1 _ rfl
        rw [co_int] at f0 f1
        obtain ⟨a, rfl, ha⟩ := op_int f0
        obtain ⟨b, rfl, hb⟩ := op_int f1
        exact ⟨⟨a, b⟩, ⟨ha, hb⟩, rfl⟩) h
theorem op_deeds {k : Nat} {v : Value} {x : DataW H × List MemPlace} (h : Trd enc W k 28 [v] x) : ∃ A n c l, v = .slice A n c ∧ Sl elE W.heap.size W A n c l :=
  open_sl elE Try.underlying28 co_deed (fun k cs x hl h => by
    match cs, hl with
    | [v0, v1], _ =>
      obtain ⟨xs, k', _, _, _, hxl, hfld⟩ := DataW.trod_struct Try.underlying54 h
      match xs, hxl with
      | [x0, x1], _ =>
        have f0 : Trd enc W k' 3 (List.take (Try.prog.cellsOf 3) [v0, v1]) x0 := hfld 0 _ rfl
        have f1 : Trd enc W k' 24 (List.take (Try.prog.cellsOf 24) [v1]) x1 := hfld 1 _ rfl
        rw [co_int] at f0
        rw [co_ints] at f1
        obtain ⟨a, rfl, ha⟩ := op_int f0
        obtain ⟨A, n, c, l, rfl, hb⟩ := op_ints f1
        exact ⟨⟨a, A, n, c, l⟩, ⟨ha, hb⟩, rfl⟩) h
set_option maxRecDepth 100000 in
theorem op_rows {k : Nat} {v : Value} {x : DataW H × List MemPlace} (h : Trd enc W k 26 [v] x) : ∃ A n c l, v = .slice A n c ∧ Sl elR W.heap.size W A n c l :=
  open_sl elR Try.underlying26 co_row (fun k cs x hl h => by
    match cs, hl with
    | [v0, v1, v2, v3, v4, v5, v6, v7], _ =>
      obtain ⟨xs, k', _, _, _, hxl, hfld⟩ := DataW.trod_struct Try.underlying52 h
      match xs, hxl with
      | [x0, x1, x2, x3, x4, x5, x6, x7], _ =>
        have f0 : Trd enc W k' 3 (List.take (Try.prog.cellsOf 3) [v0, v1, v2, v3, v4, v5, v6, v7]) x0 := hfld 0 _ rfl
        have f1 : Trd enc W k' 3 (List.take (Try.prog.cellsOf 3) [v1, v2, v3, v4, v5, v6, v7]) x1 := hfld 1 _ rfl
        have f2 : Trd enc W k' 3 (List.take (Try.prog.cellsOf 3) [v2, v3, v4, v5, v6, v7]) x2 := hfld 2 _ rfl
        have f3 : Trd enc W k' 3 (List.take (Try.prog.cellsOf 3) [v3, v4, v5, v6, v7]) x3 := hfld 3 _ rfl
        have f4 : Trd enc W k' 3 (List.take (Try.prog.cellsOf 3) [v4, v5, v6, v7]) x4 := hfld 4 _ rfl
        have f5 : Trd enc W k' 3 (List.take (Try.prog.cellsOf 3) [v5, v6, v7]) x5 := hfld 5 _ rfl
        have f6 : Trd enc W k' 24 (List.take (Try.prog.cellsOf 24) [v6, v7]) x6 := hfld 6 _ rfl
        have f7 : Trd enc W k' 25 (List.take (Try.prog.cellsOf 25) [v7]) x7 := hfld 7 _ rfl
        rw [co_int] at f0 f1 f2 f3 f4 f5
        rw [co_ints] at f6
        rw [co_locks] at f7
        obtain ⟨z0, rfl, h0⟩ := op_int f0
        obtain ⟨z1, rfl, h1⟩ := op_int f1
        obtain ⟨z2, rfl, h2⟩ := op_int f2
        obtain ⟨z3, rfl, h3⟩ := op_int f3
        obtain ⟨z4, rfl, h4⟩ := op_int f4
        obtain ⟨z5, rfl, h5⟩ := op_int f5
        obtain ⟨A, n, c, l, rfl, h6⟩ := op_ints f6
        obtain ⟨B, m, d, l', rfl, h7⟩ := op_locks f7
        exact ⟨⟨z0, z1, z2, z3, z4, z5, A, n, c, l, B, m, d, l'⟩, ⟨h0, h1, h2, h3, h4, h5, h6, h7⟩, rfl⟩) h
theorem op_val {k : Nat} {v0 v1 : Value} {x : DataW H × List MemPlace} (h : Trd enc W k 23 [v0, v1] x) : ∃ v : Vl, v0 = .bool v.has ∧ v1 = .string v.data := by
  obtain ⟨xs, k', _, _, _, hxl, hfld⟩ := DataW.trod_struct Try.underlying23 h
  match xs, hxl with
  | [x0, x1], _ =>
    have f0 : Trd enc W k' 4 (List.take (Try.prog.cellsOf 4) [v0, v1]) x0 := hfld 0 _ rfl
    have f1 : Trd enc W k' 9 (List.take (Try.prog.cellsOf 9) [v1]) x1 := hfld 1 _ rfl
    rw [co_bool] at f0
    rw [co_str] at f1
    obtain ⟨b, rfl⟩ := op_bool f0
    obtain ⟨s, rfl⟩ := op_str f1
    exact ⟨⟨b, s⟩, rfl, rfl⟩

set_option maxRecDepth 100000 in
set_option maxHeartbeats 1000000 in
theorem open_rec16 {k : Nat} {v0 v1 v2 v3 v4 v5 v6 v7 v8 v9 v10 v11 v12 v13 v14 v15 : Value} {x : DataW H × List MemPlace} (h : Trd enc W k 30 [v0, v1, v2, v3, v4, v5, v6, v7, v8, v9, v10, v11, v12, v13, v14, v15] x) :
    ∃ r : Xr, .agg #[v0, v1, v2, v3, v4, v5, v6, v7, v8, v9, v10, v11, v12, v13, v14, v15] = r.val ∧ XrIn W.heap.size W r := by
  obtain ⟨xs, k', _, _, _, hxl, hfld⟩ := DataW.trod_struct Try.underlying30 h
  match xs, hxl with
  | [x0, x1, x2, x3, x4, x5, x6, x7, x8, x9, x10, x11, x12, x13], _ =>
    have f0 : Trd enc W k' 3 (List.take (Try.prog.cellsOf 3) [v0, v1, v2, v3, v4, v5, v6, v7, v8, v9, v10, v11, v12, v13, v14, v15]) x0 := hfld 0 _ rfl
    have f1 : Trd enc W k' 3 (List.take (Try.prog.cellsOf 3) [v1, v2, v3, v4, v5, v6, v7, v8, v9, v10, v11, v12, v13, v14, v15]) x1 := hfld 1 _ rfl
    have f2 : Trd enc W k' 3 (List.take (Try.prog.cellsOf 3) [v2, v3, v4, v5, v6, v7, v8, v9, v10, v11, v12, v13, v14, v15]) x2 := hfld 2 _ rfl
    have f3 : Trd enc W k' 3 (List.take (Try.prog.cellsOf 3) [v3, v4, v5, v6, v7, v8, v9, v10, v11, v12, v13, v14, v15]) x3 := hfld 3 _ rfl
    have f4 : Trd enc W k' 9 (List.take (Try.prog.cellsOf 9) [v4, v5, v6, v7, v8, v9, v10, v11, v12, v13, v14, v15]) x4 := hfld 4 _ rfl
    have f5 : Trd enc W k' 23 (List.take (Try.prog.cellsOf 23) [v5, v6, v7, v8, v9, v10, v11, v12, v13, v14, v15]) x5 := hfld 5 _ rfl
    have f6 : Trd enc W k' 23 (List.take (Try.prog.cellsOf 23) [v7, v8, v9, v10, v11, v12, v13, v14, v15]) x6 := hfld 6 _ rfl
    have f7 : Trd enc W k' 3 (List.take (Try.prog.cellsOf 3) [v9, v10, v11, v12, v13, v14, v15]) x7 := hfld 7 _ rfl
    have f8 : Trd enc W k' 24 (List.take (Try.prog.cellsOf 24) [v10, v11, v12, v13, v14, v15]) x8 := hfld 8 _ rfl
    have f9 : Trd enc W k' 25 (List.take (Try.prog.cellsOf 25) [v11, v12, v13, v14, v15]) x9 := hfld 9 _ rfl
    have f10 : Trd enc W k' 26 (List.take (Try.prog.cellsOf 26) [v12, v13, v14, v15]) x10 := hfld 10 _ rfl
    have f11 : Trd enc W k' 27 (List.take (Try.prog.cellsOf 27) [v13, v14, v15]) x11 := hfld 11 _ rfl
    have f12 : Trd enc W k' 28 (List.take (Try.prog.cellsOf 28) [v14, v15]) x12 := hfld 12 _ rfl
    have f13 : Trd enc W k' 24 (List.take (Try.prog.cellsOf 24) [v15]) x13 := hfld 13 _ rfl
    rw [co_int] at f0 f1 f2 f3 f7
    rw [co_str] at f4
    rw [co_val] at f5 f6
    rw [co_ints] at f8 f13
    rw [co_locks] at f9
    rw [co_rows] at f10
    rw [co_dirties] at f11
    rw [co_deeds] at f12
    obtain ⟨z0, rfl, h0⟩ := op_int f0
    obtain ⟨z1, rfl, h1⟩ := op_int f1
    obtain ⟨z2, rfl, h2⟩ := op_int f2
    obtain ⟨z3, rfl, h3⟩ := op_int f3
    obtain ⟨s, rfl⟩ := op_str f4
    obtain ⟨a, rfl, rfl⟩ := op_val f5
    obtain ⟨b, rfl, rfl⟩ := op_val f6
    obtain ⟨z7, rfl, h7⟩ := op_int f7
    obtain ⟨A1, n1, c1, l1, rfl, h8⟩ := op_ints f8
    obtain ⟨A2, n2, c2, l2, rfl, h9⟩ := op_locks f9
    obtain ⟨A3, n3, c3, l3, rfl, h10⟩ := op_rows f10
    obtain ⟨A4, n4, c4, l4, rfl, h11⟩ := op_dirty f11
    obtain ⟨A5, n5, c5, l5, rfl, h12⟩ := op_deeds f12
    obtain ⟨A6, n6, c6, l6, rfl, h13⟩ := op_ints f13
    exact ⟨⟨z0, z1, z2, z3, s, a, b, z7, A1, n1, c1, l1, A2, n2, c2, l2, A3, n3, c3, l3, A4, n4, c4, l4, A5, n5, c5, l5, A6, n6, c6, l6⟩, rfl, h0, h1, h2, h3, Nat.zero_le _, Nat.zero_le _, Nat.zero_le _, h7, h8, h9, h10, h11, h12, h13⟩

set_option maxRecDepth 100000 in
theorem open_rec {r : Reach} {b0 : Nat} {v : Value} {d : DataW H} {p : List MemPlace} (hv : Value.okWide Try.prog W r b0 30 v) (h : DataW.Trod enc Try.prog W 0 (fun _ => true) true 30 v d p) :
    ∃ x : Xr, v = x.val ∧ XrIn W.heap.size W x := by
  obtain ⟨cs, rfl, hsz⟩ := okWide_struct Try.underlying30 hv
  rw [co_rec] at hsz
  obtain ⟨fuel, hf⟩ := h
  obtain ⟨l⟩ := cs
  match l, hsz with
  | [v0, v1, v2, v3, v4, v5, v6, v7, v8, v9, v10, v11, v12, v13, v14, v15], _ => exact open_rec16 hf
end
end Go.Proofs.Ytpaknpemkmhapaa
