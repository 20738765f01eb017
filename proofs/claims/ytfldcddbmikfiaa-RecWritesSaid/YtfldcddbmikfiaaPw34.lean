/- What it says: contracts and plain mathematics that the laws' walks use, 34 of 34: each part's own remark says what; no condition. -/
import Derived.Test.YtfldcddbmikfiaaPw1
import Derived.Test.YtfldcddbmikfiaaPw6
import Derived.Test.YtfldcddbmikfiaaPw15
import Derived.Test.YtfldcddbmikfiaaPw22
import Derived.Test.YtfldcddbmikfiaaPw31
import Derived.Test.YtfldcddbmikfiaaPw33
import Derived.Test.YtfldcddbmikfiaaRows
import Derived.ProofKit
import Derived.OpenShut
import Derived.ShutString
import Derived.ChangeOld
import Derived.SizedLaws
import Derived.Deep.Slices
import Derived.Lib.SmallJoins
import Derived.ChangeArms

set_option linter.unusedSimpArgs false
set_option linter.unusedVariables false
set_option linter.deprecated false
set_option linter.unusedSectionVars false
set_option linter.all false

/- trothref07.Encode answers the document's bytes, or its error, of any record that isn't great. -/
namespace Go.Proofs.Ytfldcddbmikfiaa
open Go.RowKit

theorem only_cases {r : Rc} (h : onlyRc r = r) (hk : 1 ≤ r.kind ∧ r.kind ≤ 10) :
    (r.kind ≠ 8 → r.rows = [] ∧ r.deeds = []) ∧ (r.kind ≠ 1 → r.kind ≠ 2 → r.key = ByteArray.empty ∧ r.old = vl0 ∧ r.new = vl0) ∧ (r.kind = 7 ∨ r.kind = 8 ∨ r.kind = 1 ∨ r.kind = 2 → r.lks = []) := by
  have e1 := congrArg Rc.rows h
  have e2 := congrArg Rc.deeds h
  have e3 := congrArg Rc.key h
  have e4 := congrArg Rc.old h
  have e5 := congrArg Rc.new h
  have e6 := congrArg Rc.lks h
  unfold onlyRc at e1 e2 e3 e4 e5 e6
  refine ⟨fun q => ⟨?_, ?_⟩, fun q1 q2 => ⟨?_, ?_, ?_⟩, fun q => ?_⟩
  · split at e1 <;> (try split at e1) <;> (try split at e1) <;> (try split at e1) <;> (try split at e1) <;> (try split at e1) <;> (try split at e1) <;> first | exact e1.symm | (exfalso; omega)
  · split at e2 <;> (try split at e2) <;> (try split at e2) <;> (try split at e2) <;> (try split at e2) <;> (try split at e2) <;> (try split at e2) <;> first | exact e2.symm | (exfalso; omega)
  · split at e3 <;> (try split at e3) <;> (try split at e3) <;> (try split at e3) <;> (try split at e3) <;> (try split at e3) <;> (try split at e3) <;> first | exact e3.symm | (exfalso; omega)
  · split at e4 <;> (try split at e4) <;> (try split at e4) <;> (try split at e4) <;> (try split at e4) <;> (try split at e4) <;> (try split at e4) <;> first | exact e4.symm | (exfalso; omega)
  · split at e5 <;> (try split at e5) <;> (try split at e5) <;> (try split at e5) <;> (try split at e5) <;> (try split at e5) <;> (try split at e5) <;> first | exact e5.symm | (exfalso; omega)
  · split at e6 <;> (try split at e6) <;> (try split at e6) <;> (try split at e6) <;> (try split at e6) <;> (try split at e6) <;> (try split at e6) <;> first | exact e6.symm | (exfalso; omega)

theorem vlOk_small {v : Vl} (h : vlOk v) : v.data.size ≤ 32 := by
  unfold vlOk at h
  split at h
  · omega
  · rw [h]; decide

theorem fewR_of {H : Nat} {w : World} {x : Xr} (hx : XrIn H w x) (hg : NotGreat x) (hok : x.read.ok) : FewR x := by
  obtain ⟨o1, o2, o3⟩ := only_cases hok.only hok.kind
  obtain ⟨i1, i2⟩ := hg.inn
  have hlk : ∀ {l : List Lk}, lksOk l → ∀ k ∈ l, k.key.size ≤ 1000 := fun h k hk => by have := (rises_all h.2 k hk).2; omega
  refine ⟨⟨by have := hg.rn; omega, by have := hg.dn; omega, by have := hg.en; omega, by have := hg.pn; omega, fun z hz => ?_, fun z hz => ?_⟩, ?_, ?_, ?_, by have := hg.mn; omega, by have := hg.kn; omega, ?_⟩
  · obtain ⟨i, hi, rfl⟩ := List.getElem_of_mem hz
    have hin : i < x.rn := by rw [← hx.rows.len]; exact hi
    have e : x.rows.getD i default = x.rows[i] := by rw [List.getD_eq_getElem?_getD, List.getElem?_eq_getElem hi]; rfl
    obtain ⟨j1, j2⟩ := i1 i hin
    rw [e] at j1 j2
    refine ⟨by omega, by omega, ?_⟩
    by_cases hk : x.read.kind = 8
    · have hr := rises_all (hok.check hk).1.2 (Xw.row x.rows[i]) (List.mem_map.2 ⟨_, hz, rfl⟩)
      exact hlk hr.2.2.2.2.2.2.2
    · have := (o1 hk).1
      have h0 : x.rows = [] := List.map_eq_nil_iff.1 this
      rw [h0] at hi
      simp at hi
  · obtain ⟨i, hi, rfl⟩ := List.getElem_of_mem hz
    have hin : i < x.en := by rw [← hx.deeds.len]; exact hi
    have e : x.deeds.getD i default = x.deeds[i] := by rw [List.getD_eq_getElem?_getD, List.getElem?_eq_getElem hi]; rfl
    have j := i2 i hin
    rw [e] at j
    omega
  · by_cases hk : x.read.kind = 1 ∨ x.read.kind = 2
    · have := (hok.vals hk).1.2
      have e : x.read.key = x.key := rfl
      rw [e] at this
      omega
    · have := (o2 (by omega) (by omega)).1
      have e : x.read.key = x.key := rfl
      rw [e] at this
      rw [this]; decide
  · by_cases hk : x.read.kind = 1 ∨ x.read.kind = 2
    · have := vlOk_small (hok.vals hk).2.1
      have e : x.read.old = x.old := rfl
      rw [e] at this
      omega
    · have := (o2 (by omega) (by omega)).2.1
      have e : x.read.old = x.old := rfl
      rw [e] at this
      rw [this]; decide
  · by_cases hk : x.read.kind = 1 ∨ x.read.kind = 2
    · have := vlOk_small (hok.vals hk).2.2
      have e : x.read.new = x.new := rfl
      rw [e] at this
      omega
    · have := (o2 (by omega) (by omega)).2.2
      have e : x.read.new = x.new := rfl
      rw [e] at this
      rw [this]; decide
  · by_cases hk : x.read.kind = 7 ∨ x.read.kind = 8 ∨ x.read.kind = 1 ∨ x.read.kind = 2
    · have := o3 hk
      have e : x.read.lks = x.lks := rfl
      rw [e] at this
      intro k hk
      rw [this] at hk
      cases hk
    · have := (hok.rest (by omega) (by omega) (by omega) (by omega)).2.2
      exact hlk this

/-- The document's bytes, and its error. -/
theorem rEnc7_any {H : Nat} (x : Xr) (w : World) (hx : XrIn H w x) (hH : H ≤ w.heap.size) (hg : NotGreat x) :
    Calls Try.prog 9 #[x.val] w (RetByt2 (encB x.read) .i64 (encE x.read) w) := by
  by_cases hok : x.read.ok
  · have CM : ∀ W, Below w.heap.size w W → Calls Try.prog 11 #[x.val] W (fun e w' => e = .returned (.bool true) ∧ Below W.heap.size W w') := fun W hb =>
      (may7_any x H W (hx.calm (Calm.of_below hb))).mono fun e w' ⟨b, he, hb, hbel⟩ => ⟨by rw [he, hb.2 hok], hbel⟩
    refine (rEnc7_yes x H w hx hH (fewR_of hx hg hok) hok.kind CM).mono fun e w' h => ?_
    rcases h with ⟨hl, he, hb⟩ | ⟨hl, A, n, c, he, ho, hr, hb⟩
    · have e1 : encE x.read = 12 := encE_long hok hl
      have e2 : encB x.read = [] := by unfold encB; rw [if_neg (by rw [e1]; simp)]
      rw [e1, e2]
      exact ⟨none, 0, 0, he, Byt.nil _, hb⟩
    · have e1 : encE x.read = 0 := encE_ok hok (by omega)
      have e2 : encB x.read = rcL x.read := by unfold encB; rw [if_pos e1]
      rw [e1, e2]
      exact ⟨A, n, c, he, Byt.of_own ho hr, hb⟩
  · have CM : ∀ W, Below w.heap.size w W → Calls Try.prog 11 #[x.val] W (fun e w' => e = .returned (.bool false) ∧ Below W.heap.size W w') := fun W hb =>
      (may7_any x H W (hx.calm (Calm.of_below hb))).mono fun e w' ⟨b, he, hb, hbel⟩ => ⟨by
        cases b with
        | true => exact absurd (hb.1 rfl) hok
        | false => exact he, hbel⟩
    refine (rEnc7_no x w CM).mono fun e w' ⟨he, hb⟩ => ?_
    have e1 : encE x.read = 1 := encE_no hok
    have e2 : encB x.read = [] := by unfold encB; rw [if_neg (by rw [e1]; simp)]
    rw [e1, e2]
    exact ⟨none, 0, 0, he, Byt.nil _, hb⟩
end Go.Proofs.Ytfldcddbmikfiaa

/- what a row's step wants of arguments that are numbers or slices of bytes: how they read, and how long they are. No condition. -/
namespace Go.Proofs.Ytfldcddbmikfiaa
open Go.ChangeShapes Go.WideShapes Go.ChangeAt Go.RowKit

theorem own_knob : ownKnob Try.prog.godebug = none := by kernel_rfl
theorem laidOut : laidOutB Try.prog = true := by kernel_rfl

theorem u64_nat {x : Int} (h : (Lit.int .u64 x).wf = true) : ∃ m : Nat, x = m ∧ m < 18446744073709551616 := by
  simp [Lit.wf, IntKind.min, IntKind.max, IntKind.signed, IntKind.bits] at h
  exact ⟨x.toNat, by omega, by omega⟩

theorem u32_nat {x : Int} (h : (Lit.int .u32 x).wf = true) : ∃ m : Nat, x = m ∧ m < 4294967296 := by
  simp [Lit.wf, IntKind.min, IntKind.max, IntKind.signed, IntKind.bits] at h
  exact ⟨x.toNat, by omega, by omega⟩

theorem i64_bd {x : Int} (h : (Lit.int .i64 x).wf = true) : -9223372036854775808 ≤ x ∧ x ≤ 9223372036854775807 := by
  simp [Lit.wf, IntKind.min, IntKind.max, IntKind.signed, IntKind.bits] at h
  exact ⟨by omega, by omega⟩

theorem u8_bd {x : Int} (h : (Lit.int .u8 x).wf = true) : 0 ≤ x ∧ x < 256 := by
  simp [Lit.wf, IntKind.min, IntKind.max, IntKind.signed, IntKind.bits] at h
  exact ⟨by omega, by omega⟩

theorem bytes8 : Try.prog.bytesOf 5 = 1 := by kernel_rfl
theorem cells8 : Try.prog.cellsOf 5 = 1 := by kernel_rfl

section
variable {H : Type} {enc : TypeId × Value → H} {W : World}

theorem open_bytes {a : Option Addr} {n c : Nat} {d : DataW H} {p : List MemPlace} (h : DataW.Trod enc Try.prog W 0 (fun _ => true) true 33 (.slice a n c) d p) :
    ∃ l, Byt W a n c l ∧ (n = 0 ∨ ∃ el sp, d = .slice el sp ∧ el.length = n) := by
  obtain ⟨fuel, hf⟩ := h
  rcases open_ints Try.underlying33 Try.underlying5 cells8 hf with ⟨hcs, _⟩ | ⟨x, len, cap, zs, hcs, _, hl, hm, hz, hx, hcell, hwz⟩
  · simp [Value.cells] at hcs
    obtain ⟨rfl, rfl, rfl⟩ := hcs
    exact ⟨[], Byt.nil W, .inl rfl⟩
  · simp [Value.cells] at hcs
    obtain ⟨rfl, rfl, rfl⟩ := hcs
    simp only [Prod.mk.injEq] at hx
    have hzl : zs.length = c := by simpa using hz
    refine ⟨zs.take n, ⟨by simp; omega, hl, hm, fun y hy => u8_bd (hwz y (List.mem_of_mem_take hy)), (fun h => nomatch h), fun hn => ?_⟩, .inr ⟨_, _, hx.1, by simp [lits]; omega⟩⟩
    obtain ⟨g, off, spot⟩ := x
    have hspot : spot = none := by simpa [Addr.add] using World.cell?_spot (hcell 0 (by omega))
    subst hspot
    refine ⟨g, off, rfl, fun i hi => ?_⟩
    have h1 := hcell i (by omega)
    have hadd : (⟨g, off, none⟩ : Addr).add i = ⟨g, off + i, none⟩ := by unfold Addr.add; split <;> simp_all
    rw [hadd] at h1
    rw [h1]
    congr 2
    simp [List.getD, hi]

theorem bytes_reach {ts : List TypeId} {ds : List (DataW H)} (h : (DataW.weightsEach Try.prog ts ds).all (· ≤ reachBytes) = true) {j : Nat} {d : DataW H} {n : Nat} (ht : ts[j]? = some 33) (hd : ds[j]? = some d)
    (e : n = 0 ∨ ∃ el sp, d = .slice el sp ∧ el.length = n) : n ≤ 140737488351232 := by
  rcases e with rfl | ⟨el, sp, rfl, hn⟩
  · omega
  · have := sized_slice h ht hd Try.underlying33
    rw [bytes8] at this
    simp only [reachBytes] at this
    omega
end
end Go.Proofs.Ytfldcddbmikfiaa

/- a log record as it comes in: what it reads as. -/
namespace Go.Proofs.Ytfldcddbmikfiaa
open Go.RowKit Go.ChangeShapes Go.WideShapes Go.ChangeAt

theorem lst_of {α : Type} (d : α) (P : Nat → α → Prop) : ∀ n : Nat, (∀ i, i < n → ∃ x, P i x) → ∃ l : List α, l.length = n ∧ ∀ i, i < n → P i (l.getD i d)
  | 0, _ => ⟨[], rfl, fun i hi => absurd hi (by omega)⟩
  | n + 1, h => by
    obtain ⟨l, hl, hp⟩ := lst_of d P n (fun i hi => h i (by omega))
    obtain ⟨x, hx⟩ := h n (by omega)
    refine ⟨l ++ [x], by simp [hl], fun i hi => ?_⟩
    by_cases he : i < n
    · have := hp i he
      have e : (l ++ [x]).getD i d = l.getD i d := by simp [List.getD, List.getElem?_append_left (show i < l.length by omega)]
      rwa [e]
    · obtain rfl : i = n := by omega
      have : (l ++ [x]).getD l.length d = x := by simp
      rw [hl] at this
      rw [this]
      exact hx

section
variable {H : Type} {enc : TypeId × Value → H} {W : World}

theorem open_sl {α : Type} [Inhabited α] (E : El α) {sl : TypeId} (ht : Try.prog.underlying sl = some (.slice E.ty)) (hc : Try.prog.cellsOf E.ty = E.size)
    (each : ∀ k cs x, cs.length = E.size → DataW.trod enc Try.prog W 0 (fun _ => true) true k E.ty cs = some x → ∃ a, E.inn W.heap.size W a ∧ cs = E.cells a)
    {k : Nat} {v : Value} {x : DataW H × List MemPlace} (hf : DataW.trod enc Try.prog W 0 (fun _ => true) true k sl [v] = some x) : ∃ A n c l, v = .slice A n c ∧ Sl E W.heap.size W A n c l := by
  rcases Go.Deep.open_slice ht hf with ⟨hcs, _⟩ | ⟨a, n, c, m, k, D, Pl, hcs, _, hl, hm, hmm, _, hx⟩
  · obtain rfl : v = .slice none 0 0 := by simpa using hcs
    exact ⟨none, 0, 0, [], rfl, Sl.nil E _ W⟩
  · obtain rfl : v = .slice (some a) n c := by simpa using hcs
    have hmc : m = c := by simpa using hmm
    subst hmc
    have ex : ∀ i, i < n → ∃ y : α, E.inn W.heap.size W y ∧ ∀ j v, (E.cells y)[j]? = some v → W.cell? ((a.add (i * E.size)).add j) = some v := by
      intro i hi
      obtain ⟨cs', hcc, ht'⟩ := hx i (by omega)
      rw [hc] at hcc
      obtain ⟨_, hcl, hat⟩ := World.cells?_some hcc
      obtain ⟨y, hy, rfl⟩ := each _ _ _ hcl ht'
      refine ⟨y, hy, fun j v hv => ?_⟩
      have hj : j < E.size := by rw [← E.len y]; exact (List.getElem?_eq_some_iff.1 hv).1
      rw [hat j hj]
      exact hv
    obtain ⟨ys, hlen, hys⟩ := lst_of (default : α) _ n ex
    refine ⟨some a, n, m, ys, rfl, hlen, hl, hm, (fun h => nomatch h), fun y hy => ?_, fun hn => ?_⟩
    · obtain ⟨i, hi, rfl⟩ := List.getElem_of_mem hy
      have := (hys i (by omega)).1
      rwa [List.getD_eq_getElem?_getD, List.getElem?_eq_getElem hi] at this
    · obtain ⟨g, off, spot⟩ := a
      have hpos : ∀ i, i < n → ∃ v, (E.cells (ys.getD i default))[0]? = some v := fun i _ => ⟨_, List.getElem?_eq_getElem (by rw [E.len]; exact E.pos)⟩
      have hspot : spot = none := by
        obtain ⟨v, hv⟩ := hpos 0 hn
        have := (hys 0 hn).2 0 _ hv
        have h2 := World.cell?_spot this
        simpa [Addr.add] using h2
      subst hspot
      have hadd : ∀ i j : Nat, ((⟨g, off, none⟩ : Addr).add i).add j = ⟨g, off + i + j, none⟩ := by
        intro i j
        by_cases hi : i = 0 <;> by_cases hj : j = 0 <;> simp [Addr.add, hi, hj]
      have hgl : g < W.heap.size := by
        obtain ⟨v, hv⟩ := hpos 0 hn
        have := (hys 0 hn).2 0 _ hv
        rw [hadd] at this
        exact World.block_lt_of_cell? W _ this
      refine ⟨g, off, rfl, ⟨hgl, .inl trivial, .inl hgl⟩, fun i hi j v hv => ?_⟩
      have := (hys i hi).2 j v hv
      rwa [hadd] at this

theorem co_int : Try.prog.cellsOf 3 = 1 := by kernel_rfl
theorem co_str : Try.prog.cellsOf 9 = 1 := by kernel_rfl
theorem co_bool : Try.prog.cellsOf 4 = 1 := by kernel_rfl
theorem co_val : Try.prog.cellsOf 23 = 2 := by kernel_rfl
theorem co_lock : Try.prog.cellsOf 49 = 2 := by kernel_rfl
theorem co_row : Try.prog.cellsOf 51 = 8 := by kernel_rfl
theorem co_dirty : Try.prog.cellsOf 89 = 2 := by kernel_rfl
theorem co_deed : Try.prog.cellsOf 53 = 2 := by kernel_rfl
theorem co_rec : Try.prog.cellsOf 30 = 16 := by kernel_rfl
theorem co_ints : Try.prog.cellsOf 24 = 1 := by kernel_rfl
theorem co_locks : Try.prog.cellsOf 25 = 1 := by kernel_rfl
theorem co_rows : Try.prog.cellsOf 26 = 1 := by kernel_rfl
theorem co_dirties : Try.prog.cellsOf 27 = 1 := by kernel_rfl
theorem co_deeds : Try.prog.cellsOf 28 = 1 := by kernel_rfl

abbrev Trd (enc : TypeId × Value → H) (W : World) (k : Nat) (t : TypeId) (cs : List Value) (x : DataW H × List MemPlace) : Prop := DataW.trod enc Try.prog W 0 (fun _ => true) true k t cs = some x
theorem op_int {k : Nat} {v : Value} {x : DataW H × List MemPlace} (h : Trd enc W k 3 [v] x) : ∃ z, v = .int .i64 z ∧ i64 z := by
  obtain ⟨z, e, _, w⟩ := DataW.trod_int Try.underlying3 h
  simp at e
  exact ⟨z, e, wf_i64 w⟩
theorem op_str {k : Nat} {v : Value} {x : DataW H × List MemPlace} (h : Trd enc W k 9 [v] x) : ∃ s : ByteArray, v = .string s := by
  obtain ⟨s, e, _⟩ := DataW.trod_string Try.underlying9 h
  simp at e
  exact ⟨s, e⟩
theorem op_bool {k : Nat} {v : Value} {x : DataW H × List MemPlace} (h : Trd enc W k 4 [v] x) : ∃ b, v = .bool b := by
  obtain ⟨b, e, _⟩ := DataW.trod_bool Try.underlying4 h
  simp at e
  exact ⟨b, e⟩
theorem op_ints {k : Nat} {v : Value} {x : DataW H × List MemPlace} (h : Trd enc W k 24 [v] x) : ∃ A n c l, v = .slice A n c ∧ Sl elI W.heap.size W A n c l :=
  open_sl elI Try.underlying24 co_int (fun k cs x hl h => by
    match cs, hl with
    | [v], _ =>
      obtain ⟨z, rfl, hz⟩ := op_int h
      exact ⟨z, hz, rfl⟩) h
theorem op_locks {k : Nat} {v : Value} {x : DataW H × List MemPlace} (h : Trd enc W k 25 [v] x) : ∃ A n c l, v = .slice A n c ∧ Sl elL W.heap.size W A n c l :=
  open_sl elL Try.underlying25 co_lock (fun k cs x hl h => by
    match cs, hl with
    | [v0, v1], _ =>
      obtain ⟨xs, k', _, _, _, hxl, hfld⟩ := DataW.trod_struct Try.underlying49 h
      match xs, hxl with
      | [x0, x1], _ =>
        have f0 : Trd enc W k' 9 (List.take (Try.prog.cellsOf 9) [v0, v1]) x0 := hfld 0 _ rfl
        have f1 : Trd enc W k' 4 (List.take (Try.prog.cellsOf 4) [v1]) x1 := hfld 1 _ rfl
        rw [co_str] at f0
        rw [co_bool] at f1
        obtain ⟨s, rfl⟩ := op_str f0
        obtain ⟨b, rfl⟩ := op_bool f1
        exact ⟨⟨s, b⟩, Nat.zero_le _, rfl⟩) h
theorem op_dirty {k : Nat} {v : Value} {x : DataW H × List MemPlace} (h : Trd enc W k 27 [v] x) : ∃ A n c l, v = .slice A n c ∧ Sl elD W.heap.size W A n c l :=
  open_sl elD Try.underlying27 co_dirty (fun k cs x hl h => by
    match cs, hl with
    | [v0, v1], _ =>
      obtain ⟨xs, k', _, _, _, hxl, hfld⟩ := DataW.trod_struct Try.underlying89 h
      match xs, hxl with
      | [x0, x1], _ =>
        have f0 : Trd enc W k' 3 (List.take (Try.prog.cellsOf 3) [v0, v1]) x0 := hfld 0 _ rfl
        have f1 : Trd enc W k' 3 (List.take (Try.prog.cellsOf 3) [v1]) x1 := hfld 1 _ rfl
        rw [co_int] at f0 f1
        obtain ⟨a, rfl, ha⟩ := op_int f0
        obtain ⟨b, rfl, hb⟩ := op_int f1
        exact ⟨⟨a, b⟩, ⟨ha, hb⟩, rfl⟩) h
theorem op_deeds {k : Nat} {v : Value} {x : DataW H × List MemPlace} (h : Trd enc W k 28 [v] x) : ∃ A n c l, v = .slice A n c ∧ Sl elE W.heap.size W A n c l :=
  open_sl elE Try.underlying28 co_deed (fun k cs x hl h => by
    match cs, hl with
    | [v0, v1], _ =>
      obtain ⟨xs, k', _, _, _, hxl, hfld⟩ := DataW.trod_struct Try.underlying53 h
      match xs, hxl with
      | [x0, x1], _ =>
        have f0 : Trd enc W k' 3 (List.take (Try.prog.cellsOf 3) [v0, v1]) x0 := hfld 0 _ rfl
        have f1 : Trd enc W k' 24 (List.take (Try.prog.cellsOf 24) [v1]) x1 := hfld 1 _ rfl
        rw [co_int] at f0
        rw [co_ints] at f1
        obtain ⟨a, rfl, ha⟩ := op_int f0
        obtain ⟨A, n, c, l, rfl, hb⟩ := op_ints f1
        exact ⟨⟨a, A, n, c, l⟩, ⟨ha, hb⟩, rfl⟩) h
set_option maxRecDepth 100000 in
theorem op_rows {k : Nat} {v : Value} {x : DataW H × List MemPlace} (h : Trd enc W k 26 [v] x) : ∃ A n c l, v = .slice A n c ∧ Sl elR W.heap.size W A n c l :=
  open_sl elR Try.underlying26 co_row (fun k cs x hl h => by
    match cs, hl with
    | [v0, v1, v2, v3, v4, v5, v6, v7], _ =>
      obtain ⟨xs, k', _, _, _, hxl, hfld⟩ := DataW.trod_struct Try.underlying51 h
      match xs, hxl with
      | [x0, x1, x2, x3, x4, x5, x6, x7], _ =>
        have f0 : Trd enc W k' 3 (List.take (Try.prog.cellsOf 3) [v0, v1, v2, v3, v4, v5, v6, v7]) x0 := hfld 0 _ rfl
        have f1 : Trd enc W k' 3 (List.take (Try.prog.cellsOf 3) [v1, v2, v3, v4, v5, v6, v7]) x1 := hfld 1 _ rfl
        have f2 : Trd enc W k' 3 (List.take (Try.prog.cellsOf 3) [v2, v3, v4, v5, v6, v7]) x2 := hfld 2 _ rfl
        have f3 : Trd enc W k' 3 (List.take (Try.prog.cellsOf 3) [v3, v4, v5, v6, v7]) x3 := hfld 3 _ rfl
        have f4 : Trd enc W k' 3 (List.take (Try.prog.cellsOf 3) [v4, v5, v6, v7]) x4 := hfld 4 _ rfl
        have f5 : Trd enc W k' 3 (List.take (Try.prog.cellsOf 3) [v5, v6, v7]) x5 := hfld 5 _ rfl
        have f6 : Trd enc W k' 24 (List.take (Try.prog.cellsOf 24) [v6, v7]) x6 := hfld 6 _ rfl
        have f7 : Trd enc W k' 25 (List.take (Try.prog.cellsOf 25) [v7]) x7 := hfld 7 _ rfl
        rw [co_int] at f0 f1 f2 f3 f4 f5
        rw [co_ints] at f6
        rw [co_locks] at f7
        obtain ⟨z0, rfl, h0⟩ := op_int f0
        obtain ⟨z1, rfl, h1⟩ := op_int f1
        obtain ⟨z2, rfl, h2⟩ := op_int f2
        obtain ⟨z3, rfl, h3⟩ := op_int f3
        obtain ⟨z4, rfl, h4⟩ := op_int f4
        obtain ⟨z5, rfl, h5⟩ := op_int f5
        obtain ⟨A, n, c, l, rfl, h6⟩ := op_ints f6
        obtain ⟨B, m, d, l', rfl, h7⟩ := op_locks f7
        exact ⟨⟨z0, z1, z2, z3, z4, z5, A, n, c, l, B, m, d, l'⟩, ⟨h0, h1, h2, h3, h4, h5, h6, h7⟩, rfl⟩) h
theorem op_val {k : Nat} {v0 v1 : Value} {x : DataW H × List MemPlace} (h : Trd enc W k 23 [v0, v1] x) : ∃ v : Vl, v0 = .bool v.has ∧ v1 = .string v.data := by
  obtain ⟨xs, k', _, _, _, hxl, hfld⟩ := DataW.trod_struct Try.underlying23 h
  match xs, hxl with
  | [x0, x1], _ =>
    have f0 : Trd enc W k' 4 (List.take (Try.prog.cellsOf 4) [v0, v1]) x0 := hfld 0 _ rfl
    have f1 : Trd enc W k' 9 (List.take (Try.prog.cellsOf 9) [v1]) x1 := hfld 1 _ rfl
    rw [co_bool] at f0
    rw [co_str] at f1
    obtain ⟨b, rfl⟩ := op_bool f0
    obtain ⟨s, rfl⟩ := op_str f1
    exact ⟨⟨b, s⟩, rfl, rfl⟩

set_option maxRecDepth 100000 in
set_option maxHeartbeats 1000000 in
theorem open_rec16 {k : Nat} {v0 v1 v2 v3 v4 v5 v6 v7 v8 v9 v10 v11 v12 v13 v14 v15 : Value} {x : DataW H × List MemPlace} (h : Trd enc W k 30 [v0, v1, v2, v3, v4, v5, v6, v7, v8, v9, v10, v11, v12, v13, v14, v15] x) :
    ∃ r : Xr, .agg #[v0, v1, v2, v3, v4, v5, v6, v7, v8, v9, v10, v11, v12, v13, v14, v15] = r.val ∧ XrIn W.heap.size W r := by
  obtain ⟨xs, k', _, _, _, hxl, hfld⟩ := DataW.trod_struct Try.underlying30 h
  match xs, hxl with
  | [x0, x1, x2, x3, x4, x5, x6, x7, x8, x9, x10, x11, x12, x13], _ =>
    have f0 : Trd enc W k' 3 (List.take (Try.prog.cellsOf 3) [v0, v1, v2, v3, v4, v5, v6, v7, v8, v9, v10, v11, v12, v13, v14, v15]) x0 := hfld 0 _ rfl
    have f1 : Trd enc W k' 3 (List.take (Try.prog.cellsOf 3) [v1, v2, v3, v4, v5, v6, v7, v8, v9, v10, v11, v12, v13, v14, v15]) x1 := hfld 1 _ rfl
    have f2 : Trd enc W k' 3 (List.take (Try.prog.cellsOf 3) [v2, v3, v4, v5, v6, v7, v8, v9, v10, v11, v12, v13, v14, v15]) x2 := hfld 2 _ rfl
    have f3 : Trd enc W k' 3 (List.take (Try.prog.cellsOf 3) [v3, v4, v5, v6, v7, v8, v9, v10, v11, v12, v13, v14, v15]) x3 := hfld 3 _ rfl
    have f4 : Trd enc W k' 9 (List.take (Try.prog.cellsOf 9) [v4, v5, v6, v7, v8, v9, v10, v11, v12, v13, v14, v15]) x4 := hfld 4 _ rfl
    have f5 : Trd enc W k' 23 (List.take (Try.prog.cellsOf 23) [v5, v6, v7, v8, v9, v10, v11, v12, v13, v14, v15]) x5 := hfld 5 _ rfl
    have f6 : Trd enc W k' 23 (List.take (Try.prog.cellsOf 23) [v7, v8, v9, v10, v11, v12, v13, v14, v15]) x6 := hfld 6 _ rfl
    have f7 : Trd enc W k' 3 (List.take (Try.prog.cellsOf 3) [v9, v10, v11, v12, v13, v14, v15]) x7 := hfld 7 _ rfl
    have f8 : Trd enc W k' 24 (List.take (Try.prog.cellsOf 24) [v10, v11, v12, v13, v14, v15]) x8 := hfld 8 _ rfl
    have f9 : Trd enc W k' 25 (List.take (Try.prog.cellsOf 25) [v11, v12, v13, v14, v15]) x9 := hfld 9 _ rfl
    have f10 : Trd enc W k' 26 (List.take (Try.prog.cellsOf 26) [v12, v13, v14, v15]) x10 := hfld 10 _ rfl
    have f11 : Trd enc W k' 27 (List.take (Try.prog.cellsOf 27) [v13, v14, v15]) x11 := hfld 11 _ rfl
    have f12 : Trd enc W k' 28 (List.take (Try.prog.cellsOf 28) [v14, v15]) x12 := hfld 12 _ rfl
    have f13 : Trd enc W k' 24 (List.take (Try.prog.cellsOf 24) [v15]) x13 := hfld 13 _ rfl
    rw [co_int] at f0 f1 f2 f3 f7
    rw [co_str] at f4
    rw [co_val] at f5 f6
    rw [co_ints] at f8 f13
    rw [co_locks] at f9
    rw [co_rows] at f10
    rw [co_dirties] at f11
    rw [co_deeds] at f12
    obtain ⟨z0, rfl, h0⟩ := op_int f0
    obtain ⟨z1, rfl, h1⟩ := op_int f1
    obtain ⟨z2, rfl, h2⟩ := op_int f2
    obtain ⟨z3, rfl, h3⟩ := op_int f3
    obtain ⟨s, rfl⟩ := op_str f4
    obtain ⟨a, rfl, rfl⟩ := op_val f5
    obtain ⟨b, rfl, rfl⟩ := op_val f6
    obtain ⟨z7, rfl, h7⟩ := op_int f7
    obtain ⟨A1, n1, c1, l1, rfl, h8⟩ := op_ints f8
    obtain ⟨A2, n2, c2, l2, rfl, h9⟩ := op_locks f9
    obtain ⟨A3, n3, c3, l3, rfl, h10⟩ := op_rows f10
    obtain ⟨A4, n4, c4, l4, rfl, h11⟩ := op_dirty f11
    obtain ⟨A5, n5, c5, l5, rfl, h12⟩ := op_deeds f12
    obtain ⟨A6, n6, c6, l6, rfl, h13⟩ := op_ints f13
    exact ⟨⟨z0, z1, z2, z3, s, a, b, z7, A1, n1, c1, l1, A2, n2, c2, l2, A3, n3, c3, l3, A4, n4, c4, l4, A5, n5, c5, l5, A6, n6, c6, l6⟩, rfl, h0, h1, h2, h3, Nat.zero_le _, Nat.zero_le _, Nat.zero_le _, h7, h8, h9, h10, h11, h12, h13⟩

set_option maxRecDepth 100000 in
theorem open_rec {r : Reach} {b0 : Nat} {v : Value} {d : DataW H} {p : List MemPlace} (hv : Value.okWide Try.prog W r b0 30 v) (h : DataW.Trod enc Try.prog W 0 (fun _ => true) true 30 v d p) :
    ∃ x : Xr, v = x.val ∧ XrIn W.heap.size W x := by
  obtain ⟨cs, rfl, hsz⟩ := okWide_struct Try.underlying30 hv
  rw [co_rec] at hsz
  obtain ⟨fuel, hf⟩ := h
  obtain ⟨l⟩ := cs
  match l, hsz with
  | [v0, v1, v2, v3, v4, v5, v6, v7, v8, v9, v10, v11, v12, v13, v14, v15], _ => exact open_rec16 hf
end
end Go.Proofs.Ytfldcddbmikfiaa
