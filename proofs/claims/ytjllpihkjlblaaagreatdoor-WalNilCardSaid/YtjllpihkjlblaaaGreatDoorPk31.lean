/- What it says: contracts and plain mathematics that the laws' walks use, 31 of 32: each part's own remark says what; no condition. -/
import Derived.Test.YtjllpihkjlblaaaGreatDoorPk27
import Derived.Test.YtjllpihkjlblaaaGreatDoorPk29
import Derived.Test.YtjllpihkjlblaaaGreatDoorPk30

set_option linter.unusedSimpArgs false
set_option linter.unusedVariables false
set_option linter.deprecated false
set_option linter.unusedSectionVars false
set_option linter.all false
namespace Go.Proofs.YtjllpihkjlblaaaGreatDoor

/- what Save, a fuse, a crash and Load make of the plain disk of two sectors, where all was synchronized. No program is named. -/
section
open Go.RowKit
structure Mst (s : St) (k : Nat) : Prop where
  num : s.num = 2
  left : s.left = -1
  gone : s.gone = false
  pend : s.pend = []
  syncs : s.syncs ≤ k
def secN (m : Ms) : Nat := (m.gen % 2).toNat
theorem secN_lt (m : Ms) : secN m < 2 := by unfold secN; omega
theorem secN_int {m : Ms} : ((secN m : Nat) : Int) = m.gen % 2 := by unfold secN; omega
def msL (s : St) (m : Ms) : List Int := putL s (secN m) (bodyM m)
section
variable {s : St} {k : Nat} {m : Ms}
theorem msL_sec (h : m.ok) : Sec (msL s m) := putL_sec (by have := bodyM_len h.fits; omega) (bodyM_rng m)
theorem Mst.mono {j : Nat} (h : Mst s k) (hj : k ≤ j) : Mst s j := ⟨h.num, h.left, h.gone, h.pend, Nat.le_trans h.syncs hj⟩
theorem Mst.rd (h : Mst s k) (n : Nat) (hn : n < 2) : s.rErr n = 0 ∧ s.rBytes n = s.syn n := by
  have e : s.rErr n = 0 := by
    unfold St.rErr
    rw [if_neg (by rw [h.num]; omega), if_neg (by rw [h.gone]; simp)]
  refine ⟨e, ?_⟩
  unfold St.rBytes
  rw [if_pos e, now_nothing h.pend]
  rfl
theorem Mst.load (h : Mst s k) : loadR0 s.rBytes s.rErr = loadM (s.syn 0) (s.syn 1) ∧ loadE0 s.rBytes s.rErr = lostE (loadM (s.syn 0) (s.syn 1)) := by
  have h0 : s.rErr 0 = 0 ∧ s.rBytes 0 = s.syn 0 := h.rd 0 (by omega)
  have h1 : s.rErr 1 = 0 ∧ s.rBytes 1 = s.syn 1 := h.rd 1 (by omega)
  refine ⟨?_, ?_⟩
  · unfold loadR0
    rw [if_neg (by rw [h0.1]; simp), if_neg (by rw [h1.1]; simp), h0.2, h1.2]
  · unfold loadE0
    rw [if_neg (by rw [h0.1]; simp), if_neg (by rw [h1.1]; simp), h0.2, h1.2]
theorem Mst.fuse_neg (h : Mst s k) {f : Int} (hf : f < 0) : s.fuse f = s := by
  have e : max f (-1) = -1 := by omega
  have hl := h.left
  unfold St.fuse
  rw [e, ← hl]
theorem fuse_rd (h : Mst s k) (f : Int) (n : Nat) (hn : n < 2) : (s.fuse f).rErr n = 0 ∧ (s.fuse f).rBytes n = s.syn n := by
  have e : (s.fuse f).rErr n = 0 := by
    unfold St.rErr
    rw [if_neg (by show ¬ ((n : Int) < 0 ∨ (s.num : Int) ≤ n); rw [h.num]; omega), if_neg (by show ¬ s.gone = true; rw [h.gone]; simp)]
  refine ⟨e, ?_⟩
  unfold St.rBytes
  rw [if_pos e]
  have hp : (s.fuse f).pend = [] := h.pend
  rw [now_nothing hp]
  rfl
theorem fuse_left (f : Int) : (s.fuse f).left = max f (-1) := rfl
theorem fuse_put (h : Mst s k) (hm : m.ok) (f : Int) : putE (s.fuse f) (m.gen % 2) (bodyM m) = (if (s.fuse f).can then 0 else 40) ∧ putS (s.fuse f) (m.gen % 2) (bodyM m) = (if (s.fuse f).can then (s.fuse f).wrote (secN m) (msL s m) else (s.fuse f).step) := by
  have hn := secN_lt m
  obtain ⟨h1, h2⟩ := fuse_rd h f (secN m) hn
  have hl : (msL s m).length = 256 := (msL_sec (s := s) hm).1
  have hb : ¬ 254 < (bodyM m).length := by have := bodyM_len hm.fits; omega
  have e : ¬ (((secN m : Nat) : Int) < 0 ∨ ((s.fuse f).num : Int) ≤ (secN m : Nat)) := by show ¬ (_ ∨ (s.num : Int) ≤ _); rw [h.num]; omega
  rw [← secN_int]
  refine ⟨?_, ?_⟩
  · unfold putE
    rw [if_neg hb, if_neg (by rw [h1]; simp), h2]
    show (s.fuse f).wErr _ (msL s m) = _
    unfold St.wErr
    rw [if_neg e, if_neg (by rw [hl]; simp)]
  · unfold putS
    rw [if_neg hb, if_neg (by rw [h1]; simp), h2]
    show (s.fuse f).write _ (msL s m) = _
    unfold St.write
    rw [if_neg e, if_neg (by rw [hl]; simp)]
    rfl
theorem fuse_can (h : Mst s k) (f : Int) : (s.fuse f).can = !(max f (-1) == 0) := by
  unfold St.can
  show (!s.gone && !(max f (-1) == 0)) = _
  rw [h.gone]
  rfl
theorem fuse_step (h : Mst s k) {f : Int} (hf : f ≠ 0) : (s.fuse f).step.left = (if 0 < f then f - 1 else -1) ∧ (s.fuse f).step.gone = false ∧ (s.fuse f).step.syn = s.syn ∧ (s.fuse f).step.num = 2 ∧ (s.fuse f).step.syncs = s.syncs := by
  have hg : ¬ (s.fuse f).gone = true := by show ¬ s.gone = true; rw [h.gone]; simp
  have hg' : (s.fuse f).gone = false := h.gone
  refine ⟨?_, ?_, by rw [St.step_syn]; rfl, by rw [St.step_num]; exact h.num, by rw [St.step_syncs]; rfl⟩
  · unfold St.step
    rw [if_neg hg, if_neg (by rw [fuse_left]; omega)]
    by_cases h0 : 0 < f
    · rw [if_pos (by rw [fuse_left]; omega), if_pos h0]
      show max f (-1) - 1 = _
      omega
    · rw [if_neg (by rw [fuse_left]; omega), if_neg h0]
      show max f (-1) = _
      omega
  · unfold St.step
    rw [if_neg hg, if_neg (by rw [fuse_left]; omega)]
    split
    · exact hg'
    · exact hg'
theorem save_more (h : Mst s k) (hm : m.ok) {f : Int} (h0 : f ≠ 0) (h1 : f ≠ 1) : saveE (s.fuse f) m = 0 ∧ (saveS (s.fuse f) m).gone = false ∧ (saveS (s.fuse f) m).syn = upd s.syn (secN m) (msL s m) ∧ (f < 0 → Mst (saveS (s.fuse f) m) (k + 1)) ∧ (saveS (s.fuse f) m).syncs = s.syncs + 1 ∧ ∀ c, Mst ((saveS (s.fuse f) m).crash c) 0 ∧ ((saveS (s.fuse f) m).crash c).syn = upd s.syn (secN m) (msL s m) := by
  obtain ⟨p1, p2⟩ := fuse_put h hm f
  have hc : (s.fuse f).can = true := by
    rw [fuse_can h]
    have : (max f (-1) == 0) = false := by rw [beq_eq_false_iff_ne]; omega
    rw [this]; rfl
  rw [hc] at p1 p2
  rw [if_pos rfl] at p1 p2
  obtain ⟨q1, q2, q3, q4, q5⟩ := fuse_step h (f := f) h0
  obtain ⟨t, ht⟩ : ∃ t, (s.fuse f).wrote (secN m) (msL s m) = t := ⟨_, rfl⟩
  have g1 : t.left = (if 0 < f then f - 1 else -1) := by rw [← ht]; exact q1
  have g2 : t.gone = false := by rw [← ht]; exact q2
  have g3 : t.now = upd s.syn (secN m) (msL s m) := by
    rw [← ht, wrote_now, now_nothing (s := s.fuse f) h.pend]; rfl
  have g4 : t.num = 2 := by rw [← ht]; exact q4
  have g5 : t.syncs = s.syncs := by rw [← ht]; exact q5
  have hl : t.left ≠ 0 := by rw [g1]; split <;> omega
  have hc2 : t.can = true := by
    unfold St.can
    rw [g2]
    simp [hl]
  have e : saveS (s.fuse f) m = t.synced := by
    unfold saveS
    rw [if_neg (by simpa using hm), if_neg (by rw [p1]; simp), p2, ht]
    unfold St.sync
    rw [hc2, if_pos rfl]
  have hst : t.step.gone = false ∧ t.step.num = 2 ∧ (f < 0 → t.step.left = -1) := by
    refine ⟨?_, by rw [St.step_num]; exact g4, fun hf => ?_⟩
    · unfold St.step
      rw [if_neg (by rw [g2]; simp), if_neg hl]
      split
      · exact g2
      · exact g2
    · unfold St.step
      rw [if_neg (by rw [g2]; simp), if_neg hl, if_neg (by rw [g1, if_neg (by omega)]; omega), g1, if_neg (by omega)]
  refine ⟨?_, ?_, ?_, ?_, ?_, fun c => ?_⟩
  · unfold saveE
    rw [if_neg (by simpa using hm), if_neg (by rw [p1]; simp), p2, ht]
    unfold St.sErr
    rw [hc2, if_pos rfl]
  · rw [e]; exact hst.1
  · rw [e]; exact g3
  · intro hf
    rw [e]
    exact ⟨hst.2.1, hst.2.2 hf, hst.1, rfl, by show t.syncs + 1 ≤ k + 1; rw [g5]; have := h.syncs; omega⟩
  · rw [e]; show t.syncs + 1 = _; rw [g5]
  · rw [e]
    exact ⟨⟨hst.2.1, rfl, rfl, rfl, Nat.le_refl _⟩, by rw [← g3]; rfl⟩
theorem Mst.save (h : Mst s k) (hm : m.ok) : saveE s m = 0 ∧ (saveS s m).syn = upd s.syn (secN m) (msL s m) ∧ Mst (saveS s m) (k + 1) ∧ (saveS s m).syncs = s.syncs + 1 := by
  have e := h.fuse_neg (f := -1) (by omega)
  obtain ⟨a, _, b, c, d, _⟩ := save_more h hm (f := -1) (by omega) (by omega)
  rw [e] at a b c d
  exact ⟨a, b, c (by omega), d⟩
end
structure Lst (f : Nat → List Int) (last : Ms) : Prop where
  ok : last.ok
  it : recM (last.gen % 2) (f (secN last)) = last
  other : ∀ n : Nat, n < 2 → n ≠ secN last → (recM n (f n)).gen < last.gen
theorem Lst.load {f : Nat → List Int} {last : Ms} (h : Lst f last) : loadM (f 0) (f 1) = last ∧ lostE (loadM (f 0) (f 1)) = 0 := by
  have e : loadM (f 0) (f 1) = last := by
    have hi := h.it
    rw [← secN_int] at hi
    unfold loadM
    by_cases hz : secN last = 0
    · have h1 := h.other 1 (by omega) (by omega)
      rw [hz] at hi
      have hi' : recM 0 (f 0) = last := hi
      have h1' : (recM 1 (f 1)).gen < last.gen := h1
      rw [hi', if_neg (by omega)]
    · have hz : secN last = 1 := by have := secN_lt last; omega
      have h1 := h.other 0 (by omega) (by omega)
      rw [hz] at hi
      have hi' : recM 1 (f 1) = last := hi
      have h1' : (recM 0 (f 0)).gen < last.gen := h1
      rw [hi', if_pos h1']
  refine ⟨e, ?_⟩
  rw [e]
  unfold lostE
  rw [if_neg (by have := h.ok.gen; omega)]
theorem secN_next {a b : Ms} (h : b.gen = a.gen + 1) : secN b ≠ secN a := by unfold secN; omega
theorem Lst.next {f : Nat → List Int} {last m : Ms} (h : Lst f last) (hm : m.ok) (hg : m.gen = last.gen + 1) {X : List Int} (hX : recM (m.gen % 2) X = m) : Lst (upd f (secN m) X) m :=
  ⟨hm, by rw [upd_here]; exact hX, fun n hn hne => by
    rw [upd_ne _ _ hne]
    have e : n = secN last := by have := secN_next hg; have := secN_lt m; have := secN_lt last; omega
    rw [e, secN_int, h.it]
    omega⟩
theorem zeros_rec (n : Int) : recM n zeros = ms0 := recM_torn (openE_torn zeros_sec.1 (fun q => by
  have : zeros.getD 0 0 = 0 := rfl
  have := q.2.1
  omega))
theorem Lst.first {m : Ms} (hm : m.ok) {f : Nat → List Int} (hf : ∀ n, f n = zeros) {X : List Int} (hX : recM (m.gen % 2) X = m) : Lst (upd f (secN m) X) m :=
  ⟨hm, by rw [upd_here]; exact hX, fun n hn hne => by
    rw [upd_ne _ _ hne, hf, zeros_rec]
    have := hm.gen
    show (0 : Int) < _
    omega⟩
end

/- wal.Format; whether a ring may have so many sectors; the sheet that a sector contains. -/
section
open Go.RowKit
def cntB (z : Int) : Bool := decide (8 ≤ z ∧ z ≤ 1024)
set_option maxHeartbeats 1000000 in
theorem wgIsCount_any (z : Int) (w : World) : Calls Tryz.prog 44 #[.int .i64 z] w (Quiet (.bool (cntB z)) w) := by
  by_cases h1 : 8 ≤ z
  · have h1' : decide ((8 : Int) ≤ z) = true := decide_eq_true h1
    have e : cntB z = decide (z ≤ 1024) := by unfold cntB; simp [h1]
    rw [e]
    clear e
    go_enter Tryz.func44, Tryz.ntmps44
    go_wp2_with fail
    go_ret
    exact ⟨rfl, 0, rfl⟩
  · have h1' : decide ((8 : Int) ≤ z) = false := decide_eq_false h1
    have e : cntB z = false := by unfold cntB; simp [h1]
    rw [e]
    clear e
    go_enter Tryz.func44, Tryz.ntmps44
    go_wp2_with fail
    go_ret
    exact ⟨rfl, 0, rfl⟩
section
variable {B : Nat} {R : Res} {w : World} {d : Nat} {s : St}
def ringB (s : St) (z : Int) : Bool := decide (2 + z ≤ (s.num : Int))
set_option maxHeartbeats 1000000 in
theorem wgHasRing_any (h : Has B ((dsk d s).star R) w) (z : Int) (hz : -1000000 ≤ z ∧ z ≤ 1000000) : Calls Tryz.prog 45 #[.pointer (some ⟨d, 0, none⟩), .int .i64 z] w (Ret (.bool (ringB s z)) w) := by
  have C := Lib.hid (hasD_sectors h)
  have hn := (hasD_ok h).num
  obtain ⟨N, hN⟩ : ∃ N, s.num = N := ⟨_, rfl⟩
  have e : ringB s z = decide (2 + z ≤ (N : Int)) := by unfold ringB; rw [hN]
  rw [e]
  rw [hN] at C hn
  clear h e hN
  go_enter Tryz.func45, Tryz.ntmps45
  go_wp2_with fail
  refine C.out.mono ?_
  rintro e w1 ⟨rfl, rfl⟩
  go_wp2_with fail
  go_ret
  exact ⟨rfl, Below.refl _ _⟩
def msF : Ms := ⟨1, 0, 0, 1, 0⟩
theorem msF_ok : msF.ok := ⟨⟨by decide, by decide⟩, ⟨by decide, by decide⟩, ⟨by decide, by decide⟩, ⟨by decide, by decide⟩, ⟨by decide, by decide⟩⟩
theorem msF_v : msV msF = .agg #[.int .i64 1, .int .i64 0, .int .i64 0, .int .i64 1, .int .i64 0] := rfl
def fmtE (s : St) (z : Int) : Int := if cntB z = false then 1 else if ringB s z = false then 1 else saveE s msF
def fmtS (s : St) (z : Int) : St := if cntB z = false then s else if ringB s z = false then s else saveS s msF
set_option maxHeartbeats 2000000 in
theorem wgFormat_any (h : Has B ((dsk d s).star R) w) (hB : B ≤ w.heap.size) (z : Int) (hlim : s.pend.length < 999999) (hlim2 : s.syncs < 999999) :
    Calls Tryz.prog 40 #[.pointer (some ⟨d, 0, none⟩), .int .i64 z] w (RetHas (.int .i64 (fmtE s z)) B ((dsk d (fmtS s z)).star R) w) := by
  have H0 := Lib.hid h
  have HB := Lib.hid hB
  have CC := Lib.hid (wgIsCount_any z w)
  unfold fmtE fmtS
  cases hc : cntB z with
  | false =>
    rw [hc] at CC
    simp only [↓reduceIte]
    clear h hB hc
    go_enter Tryz.func40, Tryz.ntmps40
    go_wp2_with fail
    refine CC.out.mono ?_
    intro e w1 hq
    obtain ⟨rfl, b1⟩ := quiet_ret hq
    have R9 : Hid (RetHas (.int .i64 1) B ((dsk d s).star R) w (.returned (.int .i64 1)) w1) := Lib.hid ⟨rfl, H0.out.below b1, b1.mono HB.out⟩
    clear hq b1
    go_wp2_with fail
    go_ret
    exact R9.out
  | true =>
    rw [hc] at CC
    have hz : -1000000 ≤ z ∧ z ≤ 1000000 := by
      unfold cntB at hc
      have := of_decide_eq_true hc
      omega
    simp only [reduceCtorEq, ↓reduceIte]
    have CR := Lib.hid (fun w1 (hb : Below w.heap.size w w1) => wgHasRing_any (h.below hb) z hz)
    have CV := Lib.hid (fun w1 (hb : Below w.heap.size w w1) => save_any (h.below hb) (Nat.le_trans hB hb.size) msF msF_ok.fits hlim (by have := (putS_pend s (msF.gen % 2) (bodyM msF)).2; omega))
    rw [msF_v] at CV
    cases hr : ringB s z with
    | false =>
      rw [hr] at CR
      simp only [↓reduceIte]
      clear h hB hc hr CV
      go_enter Tryz.func40, Tryz.ntmps40
      go_wp2_with fail
      refine CC.out.mono ?_
      intro e w1 hq
      obtain ⟨rfl, b1⟩ := quiet_ret hq
      have CR1 := Lib.hid (CR.out w1 b1)
      have B1 := Lib.hid b1
      clear hq b1 CR
      go_wp2_with fail
      refine CR1.out.mono ?_
      rintro e w2 ⟨rfl, b2⟩
      have b02 : Below w.heap.size w w2 := B1.out.trans (b2.mono B1.out.size)
      have R9 : Hid (RetHas (.int .i64 1) B ((dsk d s).star R) w (.returned (.int .i64 1)) w2) := Lib.hid ⟨rfl, H0.out.below b02, b02.mono HB.out⟩
      clear b2 b02
      go_wp2_with fail
      go_ret
      exact R9.out
    | true =>
      rw [hr] at CR
      simp only [reduceCtorEq, ↓reduceIte]
      obtain ⟨se, hse⟩ : ∃ e, saveE s msF = e := ⟨_, rfl⟩
      obtain ⟨ss, hss⟩ : ∃ e, saveS s msF = e := ⟨_, rfl⟩
      rw [hse, hss] at CV ⊢
      clear h hB hc hr hse hss
      go_enter Tryz.func40, Tryz.ntmps40
      go_wp2_with fail
      refine CC.out.mono ?_
      intro e w1 hq
      obtain ⟨rfl, b1⟩ := quiet_ret hq
      have CR1 := Lib.hid (CR.out w1 b1)
      have B1 := Lib.hid b1
      clear hq b1 CR
      go_wp2_with fail
      refine CR1.out.mono ?_
      rintro e w2 ⟨rfl, b2⟩
      have b02 : Below w.heap.size w w2 := B1.out.trans (b2.mono B1.out.size)
      have CV2 := Lib.hid (CV.out w2 b02)
      have B2 := Lib.hid b02
      clear b2 b02 CV
      go_wp2_with fail
      refine CV2.out.mono ?_
      rintro e w3 ⟨rfl, h3, b3⟩
      have R9 : Hid (RetHas (.int .i64 se) B ((dsk d ss).star R) w (.returned (.int .i64 se)) w3) := Lib.hid ⟨rfl, h3, (B2.out.mono HB.out).trans b3⟩
      clear h3 b3 CV2
      go_wp2_with fail
      go_ret
      exact R9.out
end
theorem wgFormat_nil (z : Int) (w : World) : Calls Tryz.prog 40 #[.pointer none, .int .i64 z] w (Ret (.int .i64 (if cntB z = false then 1 else 2)) w) := by
  have CC := Lib.hid (wgIsCount_any z w)
  cases hc : cntB z with
  | false =>
    rw [hc] at CC
    rw [if_pos rfl]
    clear hc
    go_enter Tryz.func40, Tryz.ntmps40
    go_wp2_with fail
    refine CC.out.mono ?_
    intro e w1 hq
    obtain ⟨rfl, b1⟩ := quiet_ret hq
    have HB := Lib.hid b1
    clear hq b1
    go_wp2_with fail
    go_ret
    exact ⟨rfl, HB.out⟩
  | true =>
    rw [hc] at CC
    rw [if_neg (by decide)]
    clear hc
    go_enter Tryz.func40, Tryz.ntmps40
    go_wp2_with fail
    refine CC.out.mono ?_
    intro e w1 hq
    obtain ⟨rfl, b1⟩ := quiet_ret hq
    have HB := Lib.hid b1
    clear hq b1
    go_wp2_with fail
    go_ret
    exact ⟨rfl, HB.out⟩
end

/- sheetsOn and recordsIn where the ring's first sector isn't right. -/
section
open Go.RowKit
set_option maxRecDepth 100000 in
set_option maxHeartbeats 2000000 in
theorem wgSheetIn_bad (A : Option Addr) (n c : Nat) (l : List Int) (w : World) (h : Byt w A n c l) (he : openE l ≠ 0) : Calls Tryz.prog 90 #[.slice A n c] w (Ret (.tuple #[.agg #[.int .i64 0, .int .i64 0, .int .i64 0, .string ⟨#[]⟩], .bool false]) w) := by
  obtain ⟨r, hrr⟩ : ∃ r, w.heap.size = r := ⟨_, rfl⟩
  obtain ⟨W1, hW1⟩ : ∃ W1, W1 = w.alloc (.cells #[.int .i64 0, .int .i64 0, .int .i64 0, .string ⟨#[]⟩] 138) := ⟨_, rfl⟩
  have hb1 : Below w.heap.size w W1 := by rw [hW1]; exact (Below.refl _ _).alloc (Nat.le_refl _) _
  have HV : Hid (Bk W1 r 138 #[.int .i64 0, .int .i64 0, .int .i64 0, .string ⟨#[]⟩]) := Lib.hid (by rw [hW1, ← hrr]; exact Bk.new w _ _)
  have CO := Lib.hid (stOpen_any A n c l W1 (h.below hb1))
  have HB := Lib.hid hb1
  have HRR := Lib.hid hrr
  have HW := Lib.hid hW1
  obtain ⟨oe, hoe⟩ : ∃ e, openE l = e := ⟨_, rfl⟩
  unfold RetByt2 at CO
  rw [hoe] at CO he
  have he' : (oe != 0) = true := by simpa using he
  clear h hW1 hb1 hoe he
  go_enter Tryz.func90, Tryz.ntmps90
  go_upto_region 1 with fail
  (try rw [hrr])
  rw [← HW.out]
  clear HW hrr
  go_wp2_with fail
  refine CO.out.mono ?_
  rintro e w2 ⟨A2, n2, c2, rfl, _, b2⟩
  have V2 := Lib.hid (HV.out.later b2)
  have RB := Lib.hid (V2.out.rowp #[.int .i64 0, .int .i64 0, .int .i64 0, .string ⟨#[]⟩])
  have R : Hid (Ret (.tuple #[.agg #[.int .i64 0, .int .i64 0, .int .i64 0, .string ⟨#[]⟩], .bool false]) w (.returned (.tuple #[.agg #[.int .i64 0, .int .i64 0, .int .i64 0, .string ⟨#[]⟩], .bool false])) (w2.setRow r #[.int .i64 0, .int .i64 0, .int .i64 0, .string ⟨#[]⟩])) := Lib.hid ⟨rfl, below_setRow (HB.out.trans (b2.mono HB.out.size)) (by rw [HRR.out]; exact Nat.le_refl r) _⟩
  clear b2 CO
  go_wp2_with (refine wpList_store_row rfl 138 _ _ rfl r #[.int .i64 0, .int .i64 0, .int .i64 0, .string ⟨#[]⟩] rfl rfl 138 _ V2.out (by kernel_rfl) rfl (by simp [Value.oneCell']) ?_; simp only [Act.put])
  (try simp only [Exit.inBlock, Exit.then])
  refine bodyPost_ret (results_cellT rfl _ _ r 138 _ _ rfl RB.out Tryz.underlying138 rfl (by kernel_rfl)) rfl ?_
  exact R.out
section
variable {B : Nat} {R : Res} {w : World} {d : Nat} {s : St}
set_option maxRecDepth 100000 in
set_option maxHeartbeats 4000000 in
theorem wgRead1_bad (h : Has B ((dsk d s).star R) w) {qd qc qi qm qs : Nat} (hqd : w.cell? ⟨qd, 0, none⟩ = some (.pointer (some ⟨d, 0, none⟩))) {count : Int} (hqc : w.cell? ⟨qc, 0, none⟩ = some (.int .i64 count)) (pos : Int) (hp : sml pos) (hc : 1 ≤ count ∧ count ≤ 100000)
    (hrd : s.rErr (secOf pos count) = 0) (hno : openE (s.rBytes (secOf pos count)) ≠ 0) :
    Calls Tryz.prog 88 #[.int .i64 pos, .pointer (some ⟨qd, 0, none⟩), .pointer (some ⟨qc, 0, none⟩), .pointer (some ⟨qi, 0, none⟩), .pointer (some ⟨qm, 0, none⟩), .pointer (some ⟨qs, 0, none⟩)] w (Ret (.tuple #[.bool false, .int .i64 0]) w) := by
  have CSEC := Lib.hid (fun w' => wgSector_any pos count w' hp hc)
  have CRD := Lib.hid (fun w' (hb : Below w.heap.size w w') => hasD_read (h.below hb) (secOf pos count))
  rw [hrd] at CRD
  obtain ⟨sc, hsc⟩ : ∃ sc, secOf pos count = sc := ⟨_, rfl⟩
  rw [hsc] at CSEC CRD hno
  obtain ⟨l, hl⟩ : ∃ l, s.rBytes sc = l := ⟨_, rfl⟩
  rw [hl] at CRD hno
  have HNO := Lib.hid hno
  have KC : Hid (∀ w', Below w.heap.size w w' → w'.cell? ⟨qd, 0, none⟩ = some (.pointer (some ⟨d, 0, none⟩)) ∧ w'.cell? ⟨qc, 0, none⟩ = some (.int .i64 count)) := Lib.hid (fun w' hb => ⟨(hb.cell (World.block_lt_of_cell? w _ hqd)).trans hqd, (hb.cell (World.block_lt_of_cell? w _ hqc)).trans hqc⟩)
  have hS0 := KC.out w.drew (Below.refl _ _).drew
  clear h hrd hno hsc hl hqd hqc
  go_enter Tryz.func88, Tryz.ntmps88
  go_upto_region 1 with fail
  refine wp_region_noPanic ?_
  refine upto_start (fun w' => w'.cell? ⟨qd, 0, none⟩ = some (.pointer (some ⟨d, 0, none⟩)) ∧ w'.cell? ⟨qc, 0, none⟩ = some (.int .i64 count)) 9 (by kernel_rfl) ?_
  change Upto _ _ _ _ _ 10 _ _ _
  refine Upto.take (i := 0) (v := ?_) rfl (by kernel_rfl) (fun _ _ _ h => h) rfl (fun w' hS => ?_) hS0 ?_
  rotate_left
  · (try dsimp only at hS); go_split_ands; go_simp; (try with_reducible rfl)
  simp only [Act.put, List.setIfInBounds_toArray, List.set_cons_zero, List.set_cons_succ]
  refine Upto.take (i := 1) (v := ?_) rfl (by kernel_rfl) (fun _ _ _ h => h) rfl (fun w' hS => ?_) hS0 ?_
  rotate_left
  · (try dsimp only at hS); go_split_ands; go_simp; (try with_reducible rfl)
  simp only [Act.put, List.setIfInBounds_toArray, List.set_cons_zero, List.set_cons_succ]
  refine Upto.take (i := 2) (v := ?_) rfl (by kernel_rfl) (fun _ _ _ h => h) rfl (fun w' hS => ?_) hS0 ?_
  rotate_left
  · (try dsimp only at hS); go_split_ands; go_simp; (try with_reducible rfl)
  simp only [Act.put, List.setIfInBounds_toArray, List.set_cons_zero, List.set_cons_succ]
  refine Upto.law (i := 3) rfl (by kernel_rfl) rfl (fun K hK => ?_)
  refine wp_enter (f := 89) (args := #[.int .i64 pos, .int .i64 count]) (by go_simp; (try with_reducible rfl)) (CSEC.out _) ?_
  intro e w1 hq
  obtain ⟨rfl, b1⟩ := quiet_ret hq
  have B1 : Hid (Below w.heap.size w w1) := Lib.hid ((Below.refl _ _).drew.trans b1)
  have hS1 := KC.out w1 B1.out
  refine ⟨_, rfl, hK _ _ hS1 ?_⟩
  clear hK hS0 b1 hq CSEC
  simp only [Act.put, List.setIfInBounds_toArray, List.set_cons_zero, List.set_cons_succ]
  refine Upto.law (i := 4) rfl (by kernel_rfl) rfl (fun K hK => ?_)
  refine wp_enter (f := 86) (args := #[.pointer (some ⟨d, 0, none⟩), .int .i64 sc]) (by go_simp; (try with_reducible rfl)) (CRD.out w1 B1.out) ?_
  rintro e w2 ⟨A2, n2, c2, rfl, hby, _, b2⟩
  have B2 : Hid (Below w.heap.size w w2) := Lib.hid (B1.out.trans (b2.mono B1.out.size))
  have hS0 := KC.out w2 B2.out
  have CI := Lib.hid (wgSheetIn_bad A2 n2 c2 l w2 hby HNO.out)
  refine ⟨_, rfl, hK _ _ hS0 ?_⟩
  clear hK hS1 b2 hby CRD
  simp only [Act.put, List.setIfInBounds_toArray, List.set_cons_zero, List.set_cons_succ]
  refine Upto.take (i := 5) (v := ?_) rfl (by kernel_rfl) (fun _ _ _ h => h) rfl (fun w' hS => ?_) hS0 ?_
  rotate_left
  · (try dsimp only at hS); go_split_ands; go_simp; (try with_reducible rfl)
  simp only [Act.put, List.setIfInBounds_toArray, List.set_cons_zero, List.set_cons_succ]
  refine Upto.take (i := 6) (v := ?_) rfl (by kernel_rfl) (fun _ _ _ h => h) rfl (fun w' hS => ?_) hS0 ?_
  rotate_left
  · (try dsimp only at hS); go_split_ands; go_simp; (try with_reducible rfl)
  simp only [Act.put, List.setIfInBounds_toArray, List.set_cons_zero, List.set_cons_succ]
  refine Upto.take (i := 7) (v := ?_) rfl (by kernel_rfl) (fun _ _ _ h => h) rfl (fun w' hS => ?_) hS0 ?_
  rotate_left
  · (try dsimp only at hS); go_split_ands; go_simp; (try with_reducible rfl)
  simp only [Act.put, List.setIfInBounds_toArray, List.set_cons_zero, List.set_cons_succ]
  refine Upto.take (i := 8) (v := ?_) rfl (by kernel_rfl) (fun _ _ _ h => h) rfl (fun w' hS => ?_) hS0 ?_
  rotate_left
  · (try dsimp only at hS); go_split_ands; go_simp; (try with_reducible rfl)
  simp only [Act.put, List.setIfInBounds_toArray, List.set_cons_zero, List.set_cons_succ]
  refine Upto.tail rfl (by kernel_rfl) ?_
  simp only [List.drop_succ_cons, List.drop_zero]
  go_wp2_with fail
  refine NoPanic.normal ?_
  go_wp2_with fail
  refine CI.out.mono ?_
  rintro e w3 ⟨rfl, b3⟩
  have R9 : Hid (∀ c, Ret (.tuple #[.bool false, .int .i64 0]) w (.returned (.tuple #[.bool false, .int .i64 0])) (w3.alloc (.cells c 138))) := Lib.hid (fun c => ⟨rfl, by
    have b := B2.out.trans (b3.mono B2.out.size)
    exact b.alloc b.size _⟩)
  clear b3 CI hS0
  go_upto_region 5 with (refine wpList_store_new rfl (W := w3) rfl (c := #[.int .i64 0, .int .i64 0, .int .i64 0, .string ⟨#[]⟩]) (c' := #[.int .i64 0, .int .i64 0, .int .i64 0, .string ⟨#[]⟩]) rfl (by rfl) rfl (by kernel_rfl) rfl (by simp [Value.oneCell']) ?_; simp only [Act.put])
  go_wp2_with fail
  go_ret2
  exact R9.out _
set_option maxRecDepth 100000 in
set_option maxHeartbeats 4000000 in
theorem wgSheetsOn_bad (h : Has B ((dsk d s).star R) w) (m : Ms) (hm : sml m.first) (count : Int) (hc : 1 ≤ count ∧ count ≤ 100000) (hrd : s.rErr (secOf m.first count) = 0) (hno : openE (s.rBytes (secOf m.first count)) ≠ 0) :
    Calls Tryz.prog 47 #[.pointer (some ⟨d, 0, none⟩), .int .i64 count, msV m] w (Ret (.tuple #[.slice none 0 0, .int .i64 0]) w) := by
  obtain ⟨q, hq⟩ : ∃ q, w.heap.size = q := ⟨_, rfl⟩
  obtain ⟨W1, hW1⟩ : ∃ W1, W1 = ((w.alloc (.cells #[.pointer (some ⟨d, 0, none⟩)] 25)).alloc (.cells #[.int .i64 count] 3)).alloc (.cells (msC m) 93) := ⟨_, rfl⟩
  obtain ⟨W2, hW2⟩ : ∃ W2, W2 = (W1.alloc (.cells #[.slice none 0 0] 96)).alloc (.cells #[.int .i64 0] 3) := ⟨_, rfl⟩
  have b1 : Below w.heap.size w W1 := by
    rw [hW1]
    have b : Below w.heap.size w (w.alloc (.cells #[.pointer (some ⟨d, 0, none⟩)] 25)) := (Below.refl _ _).alloc (Nat.le_refl _) _
    exact (b.alloc b.size _).alloc (b.alloc b.size _).size _
  have b2 : Below W1.heap.size W1 W2 := by
    rw [hW2]
    have b : Below W1.heap.size W1 (W1.alloc (.cells #[.slice none 0 0] 96)) := (Below.refl _ _).alloc (Nat.le_refl _) _
    exact b.alloc b.size _
  have s1 : W1.heap.size = q + 3 := by rw [hW1]; simp [hq]
  have Vd : Bk W1 q 25 #[.pointer (some ⟨d, 0, none⟩)] := by
    rw [hW1, ← hq]
    exact ((Bk.new w _ _).later ((Below.refl _ _).alloc (Nat.le_refl _) _)).later ((Below.refl _ _).alloc (Nat.le_refl _) _)
  have Vc : Bk W1 (q + 1) 3 #[.int .i64 count] := by
    have e : q + 1 = (w.alloc (.cells #[.pointer (some ⟨d, 0, none⟩)] 25)).heap.size := by simp [hq]
    rw [hW1, e]
    exact (Bk.new _ _ _).later ((Below.refl _ _).alloc (Nat.le_refl _) _)
  have Vm : Bk W1 (q + 2) 93 (msC m) := by
    have e : q + 2 = ((w.alloc (.cells #[.pointer (some ⟨d, 0, none⟩)] 25)).alloc (.cells #[.int .i64 count] 3)).heap.size := by simp [hq]
    rw [hW1, e]
    exact Bk.new _ _ _
  have Vs : Bk W2 (q + 3) 96 #[.slice none 0 0] := by
    rw [hW2, ← s1]
    exact (Bk.new _ _ _).later ((Below.refl _ _).alloc (Nat.le_refl _) _)
  have b12 := b1.trans (b2.mono b1.size)
  have CR := Lib.hid (wgRead1_bad (qi := q + 3 + 1) (qm := q + 1 + 1) (qs := q + 3) (h.below b12) ((Vd.later b2).cell 0) ((Vc.later b2).cell 0) m.first hm hc hrd hno)
  have VC := Lib.hid ((Vc.later b2).cell 0)
  have VM := Lib.hid (show W2.cell? ⟨q + 2, 2, none⟩ = some (.int .i64 m.first) from (Vm.later b2).cell 2)
  have VS := Lib.hid (Vs.cell 0)
  have HB := Lib.hid b12
  have HW1 := Lib.hid hW1
  have HW2 := Lib.hid hW2
  have hq3 : q < W2.heap.size ∧ q + 3 < W2.heap.size := ⟨(Vd.later b2).lt, Vs.lt⟩
  have VSF := Lib.hid (fun w' (hb : Below W2.heap.size W2 w') => (hb.cell (p := ⟨q + 3, 0, none⟩) hq3.2).trans (Vs.cell 0))
  have emv : msV m = .agg (msC m) := rfl
  rw [emv]
  unfold sml at hm
  clear h hno hrd hW1 hW2 b1 b2 b12 Vd Vc Vm Vs emv
  go_enter Tryz.func47, Tryz.ntmps47
  go_upto_region 1 with fail
  (try simp only [World.size_alloc, hq])
  rw [← HW1.out]
  clear HW1
  go_upto_region 3 with fail
  (try simp only [World.size_alloc, s1])
  rw [← HW2.out]
  clear HW2
  have y1 := VC.out
  have y2 := VM.out
  go_wp2_with fail
  refine wp_loop_rounds 1 ?_
  rw [rounds_succ]
  go_wp2_with fail
  refine CR.out.mono ?_
  rintro e w3 ⟨rfl, b3⟩
  have y3 : w3.cell? ⟨q + 3, 0, none⟩ = some (.slice none 0 0) := VSF.out w3 b3
  have R9 : Hid (Ret (.tuple #[.slice none 0 0, .int .i64 0]) w (.returned (.tuple #[.slice none 0 0, .int .i64 0])) w3) := Lib.hid ⟨rfl, HB.out.trans (b3.mono HB.out.size)⟩
  clear b3 CR VSF y1 y2
  go_wp2_with fail
  go_ret2
  exact R9.out
end
set_option maxRecDepth 100000 in
set_option maxHeartbeats 2000000 in
theorem wgRecordsIn_none (first : Int) (w : World) (hT : Tab w) : Calls Tryz.prog 48 #[.slice none 0 0, .int .i64 first] w (Ret (.slice none 0 0) w) := by
  have CF := Lib.hid (find_any none 0 0 [] w (Shs.nil w) (by omega) (fun x hx => by cases hx) hT)
  clear hT
  go_enter Tryz.func48, Tryz.ntmps48
  go_wp2_with fail
  refine CF.out.mono ?_
  rintro e w1 ⟨A, n, c, rfl, _, hn, _, b1⟩
  have hn0 : n = 0 := by rw [← hn]; rfl
  subst hn0
  have R9 : Hid (Ret (.slice none 0 0) w (.returned (.slice none 0 0)) w1) := Lib.hid ⟨rfl, b1⟩
  clear hn b1 CF
  go_wp2_with fail
  refine wp_loop_rounds 1 ?_
  rw [rounds_succ]
  go_wp2_with fail
  go_ret
  exact R9.out
def opL0 (count : Int) (m : Ms) : Lg := ⟨count, ms0, [], m.first, [], 0, 0, false⟩
def opM (m : Ms) : Ms := ⟨m.gen + 1, m.inc + 1, m.first, m.lsn, m.chk⟩
section
variable {B : Nat} {R : Res} {w : World} {d : Nat} {s : St}
theorem lgR_new (h : Has B R w) (hB : B ≤ w.heap.size) (L : Lg) (hr : L.recs = []) (hw : L.wait = []) : Has B ((lgR w.heap.size d L).star R) (w.alloc (.cells (lgC d L (.slice none 0 0) (.slice none 0 0)) 103)) :=
  h.new hB ((Below.refl _ _).alloc (Nat.le_refl _) _) ⟨none, 0, 0, [], none, 0, 0, [], fun _ => False, ⟨Bk.new w _ _, World.ownsRow_nil _ _ _ _, by rw [hr]; rfl, rfl, fun x hx => (by cases hx), World.ownsRow_nil _ _ _ _, rfl, by rw [hw]; rfl, fun i hi => absurd hi (by omega), fun _ f => f.elim, ⟨Nat.le_refl _, (Bk.new w 103 (lgC d L (.slice none 0 0) (.slice none 0 0))).lt⟩, (fun k e => by cases e), (fun k e => by cases e), id, (fun k e => by cases e), (fun k e => by cases e), fun k f => f.2⟩⟩
theorem wgOpen_nil (z : Int) (w : World) : Calls Tryz.prog 14 #[.pointer none, .int .i64 z] w (Ret (.tuple #[.pointer none, .int .i64 2]) w) := by
  go_enter Tryz.func14, Tryz.ntmps14
  go_wp2_with fail
  go_ret2
  exact ⟨rfl, Below.refl _ _⟩
set_option maxHeartbeats 2000000 in
theorem wgOpen_small (h : Has B ((dsk d s).star R) w) (z : Int) (hno : cntB z = false ∨ ringB s z = false) : Calls Tryz.prog 14 #[.pointer (some ⟨d, 0, none⟩), .int .i64 z] w (Ret (.tuple #[.pointer none, .int .i64 1]) w) := by
  have CC := Lib.hid (wgIsCount_any z w)
  cases hc : cntB z with
  | false =>
    rw [hc] at CC
    clear h hc hno
    go_enter Tryz.func14, Tryz.ntmps14
    go_wp2_with fail
    refine CC.out.mono ?_
    intro e w1 hq
    obtain ⟨rfl, b1⟩ := quiet_ret hq
    have R9 : Hid (Ret (.tuple #[.pointer none, .int .i64 1]) w (.returned (.tuple #[.pointer none, .int .i64 1])) w1) := Lib.hid ⟨rfl, b1⟩
    clear hq b1
    go_wp2_with fail
    go_ret2
    exact R9.out
  | true =>
    rw [hc] at CC
    have hz : -1000000 ≤ z ∧ z ≤ 1000000 := by
      unfold cntB at hc
      have := of_decide_eq_true hc
      omega
    have hr : ringB s z = false := hno.resolve_left (by rw [hc]; decide)
    have CR := Lib.hid (fun w1 (hb : Below w.heap.size w w1) => wgHasRing_any (h.below hb) z hz)
    rw [hr] at CR
    clear h hc hno hr
    go_enter Tryz.func14, Tryz.ntmps14
    go_wp2_with fail
    refine CC.out.mono ?_
    intro e w1 hq
    obtain ⟨rfl, b1⟩ := quiet_ret hq
    have CR1 := Lib.hid (CR.out w1 b1)
    have B1 := Lib.hid b1
    clear hq b1 CR
    go_wp2_with fail
    refine CR1.out.mono ?_
    rintro e w2 ⟨rfl, b2⟩
    have R9 : Hid (Ret (.tuple #[.pointer none, .int .i64 1]) w (.returned (.tuple #[.pointer none, .int .i64 1])) w2) := Lib.hid ⟨rfl, B1.out.trans (b2.mono B1.out.size)⟩
    clear b2
    go_wp2_with fail
    go_ret2
    exact R9.out
theorem blkR_setc {g i : Nat} {t : TypeId} {cs : Array Value} {S : Res} {w : World} {u : Value} {cs' : Array Value} (h : Has B ((blkR g t cs).star S) w) (hB : B ≤ w.heap.size) (e : cs.setIfInBounds i u = cs') : Has B ((blkR g t cs').star S) (w.setCell ⟨g, i, none⟩ u) ∧ Below B w (w.setCell ⟨g, i, none⟩ u) := by
  obtain ⟨F, ⟨hb, hg, hl⟩, ht⟩ := h.turn1 hB
  refine ht (blkR g t cs') (w.setCell ⟨g, i, none⟩ u) ⟨⟨cells_bk hb e, .inl hg, fun k f => ?_⟩, Fr.setCell (a := ⟨g, i, none⟩) (Fr.refl F w) hg u⟩
  have e : (w.setCell ⟨g, i, none⟩ u).heap.size = w.heap.size := by simp [World.setCell]
  rw [e]
  rcases f with f | f
  · exact hl k f
  · have := f.2
    rw [e] at this
    exact this
theorem built_log (d : Nat) (z n : Int) : Tryz.prog.built 103 [(0, .pointer (some ⟨d, 0, none⟩)), (1, .int .i64 z), (3, .slice none 0 0), (4, .int .i64 n)] =
    some #[.pointer (some ⟨d, 0, none⟩), .int .i64 z, .int .i64 0, .int .i64 0, .int .i64 0, .int .i64 0, .int .i64 0, .slice none 0 0, .int .i64 n, .slice none 0 0, .int .i64 0, .int .i64 0, .bool false] := by kernel_rfl
def RetOp (d : Nat) (L : Lg) (s : St) (B : Nat) (R : Res) (w : World) (e : Ending) (w' : World) : Prop := ∃ b, e = .returned (.tuple #[.pointer (some ⟨b, 0, none⟩), .int .i64 0]) ∧ Has B ((lgR b d L).star ((dsk d s).star R)) w' ∧ Below B w w'
set_option maxRecDepth 100000 in
set_option maxHeartbeats 8000000 in
theorem wgOpen_none (h : Has B ((dsk d s).star R) w) (hB : B ≤ w.heap.size) (hT : Tab w) (z : Int) (hc : cntB z = true) (hr : ringB s z = true) (m : Ms) (hm : loadR0 s.rBytes s.rErr = m) (he : loadE0 s.rBytes s.rErr = 0) (hmf : sml m.gen ∧ sml m.inc ∧ sml m.first ∧ sml m.lsn ∧ sml m.chk)
    (hrd : s.rErr (secOf m.first z) = 0) (hno : openE (s.rBytes (secOf m.first z)) ≠ 0) (hlim : s.pend.length < 999999) (hlim2 : s.syncs < 999999) (hsv : saveE s (opM m) = 0) :
    Calls Tryz.prog 14 #[.pointer (some ⟨d, 0, none⟩), .int .i64 z] w (RetOp d { opL0 z m with m := opM m } (saveS s (opM m)) B R w) := by
  have hz : 8 ≤ z ∧ z ≤ 1024 := by unfold cntB at hc; exact of_decide_eq_true hc
  have H0 := Lib.hid h
  have HBB := Lib.hid hB
  have T0 := Lib.hid hT
  have CC := Lib.hid (wgIsCount_any z w)
  have CR := Lib.hid (fun w1 (hb : Below w.heap.size w w1) => wgHasRing_any (h.below hb) z (by omega))
  have CL := Lib.hid (fun w1 (hb : Below w.heap.size w w1) => load_any (h.below hb))
  have CS := Lib.hid (fun w1 (hb : Below w.heap.size w w1) => wgSheetsOn_bad (h.below hb) m hmf.2.2.1 z (by omega) hrd hno)
  have CN := Lib.hid (fun w1 (hb : Below w.heap.size w w1) => wgRecordsIn_none m.first w1 (hT.ret hb))
  rw [hc] at CC
  rw [hr] at CR
  rw [hm, he] at CL
  obtain ⟨hg, hi, hf, hl, hk⟩ := hmf
  unfold sml at hg hi hf hl hk
  have emv : msV m = .agg (msC m) := rfl
  rw [emv] at CL CS
  have HSV := Lib.hid hsv
  clear h hB hT hc hr hm he hrd hno emv hsv
  go_enter Tryz.func14, Tryz.ntmps14
  go_wp2_with fail
  refine CC.out.mono ?_
  intro e w1 hq
  obtain ⟨rfl, b1⟩ := quiet_ret hq
  have B1 := Lib.hid b1
  have C1 := Lib.hid (CR.out w1 b1)
  clear hq b1 CR CC
  go_wp2_with fail
  refine C1.out.mono ?_
  rintro e w2 ⟨rfl, b2⟩
  have B2 : Hid (Below w.heap.size w w2) := Lib.hid (B1.out.trans (b2.mono B1.out.size))
  have C2 := Lib.hid (CL.out w2 B2.out)
  clear b2 C1 CL
  go_wp2_with fail
  refine C2.out.mono ?_
  rintro e w3 ⟨rfl, b3⟩
  have B3 : Hid (Below w.heap.size w w3) := Lib.hid (B2.out.trans (b3.mono B2.out.size))
  obtain ⟨qm, hqm⟩ : ∃ q, w3.heap.size = q := ⟨_, rfl⟩
  obtain ⟨W4, hW4⟩ : ∃ W4, W4 = w3.alloc (.cells (msC m) 93) := ⟨_, rfl⟩
  have b4 : Below w3.heap.size w3 W4 := by rw [hW4]; exact (Below.refl _ _).alloc (Nat.le_refl _) _
  have B4 : Hid (Below w.heap.size w W4) := Lib.hid (B3.out.trans (b4.mono B3.out.size))
  have H4 : Hid (Has B ((blkR qm 93 (msC m)).star ((dsk d s).star R)) W4) := Lib.hid (by rw [hW4, ← hqm]; exact blkR_new _ _ (H0.out.below B3.out) (Nat.le_trans HBB.out B3.out.size))
  have V4 : Hid (Bk W4 qm 93 (msC m)) := Lib.hid (by rw [hW4, ← hqm]; exact Bk.new w3 _ _)
  have C4 := Lib.hid (CS.out W4 B4.out)
  have HW4 := Lib.hid hW4
  have HQM := Lib.hid hqm
  have hm1 : (msC m).all (·.oneCell') = true := by simp [msC, Value.oneCell']
  clear b3 C2 hW4 hqm b4 CS
  go_upto_region 6 with (refine wpList_store_new rfl (W := w3) rfl (c := #[.int .i64 0, .int .i64 0, .int .i64 0, .int .i64 0, .int .i64 0]) (c' := msC m) rfl (by first | rfl | (rw [HQM.out]; rfl)) rfl (by kernel_rfl) rfl hm1 ?_; simp only [Act.put])
  (try rw [HQM.out])
  rw [← HW4.out]
  clear HW4
  go_wp2_with (refine wpList_load_row rfl 93 _ rfl qm rfl 93 (msC m) (0, 0) _ V4.out Tryz.underlying93 rfl ms_info ?_; simp only [Act.put])
  refine C4.out.mono ?_
  rintro e w5 ⟨rfl, b5⟩
  have B5 : Hid (Below w.heap.size w w5) := Lib.hid (B4.out.trans (b5.mono B4.out.size))
  have V5 := Lib.hid (V4.out.later b5)
  have H5 := Lib.hid (H4.out.below b5)
  have y5 : w5.cell? ⟨qm, 2, none⟩ = some (.int .i64 m.first) := V5.out.cell 2
  clear b5 C4 V4
  have C5 := Lib.hid (CN.out w5.drew (B5.out.trans ((Below.refl _ _).drew.mono B5.out.size)))
  have hS0 : w5.drew.cell? ⟨qm, 2, none⟩ = some (.int .i64 m.first) := y5
  clear CN H4
  go_upto_region 11 with fail
  clear y5
  refine wp_region_noPanic ?_
  refine upto_start (fun w' => w'.cell? ⟨qm, 2, none⟩ = some (.int .i64 m.first)) 12 (by kernel_rfl) ?_
  change Upto _ _ _ _ _ 14 _ _ _
  refine Upto.take (i := 0) (v := ?_) rfl (by kernel_rfl) (fun _ _ _ h => h) rfl (fun w' hS => ?_) hS0 ?_
  rotate_left
  · (try dsimp only at hS); go_split_ands; go_simp; (try with_reducible rfl)
  simp only [Act.put, List.setIfInBounds_toArray, List.set_cons_zero, List.set_cons_succ]
  refine Upto.take (i := 1) (v := ?_) rfl (by kernel_rfl) (fun _ _ _ h => h) rfl (fun w' hS => ?_) hS0 ?_
  rotate_left
  · (try dsimp only at hS); go_split_ands; go_simp; (try with_reducible rfl)
  simp only [Act.put, List.setIfInBounds_toArray, List.set_cons_zero, List.set_cons_succ]
  refine Upto.take (i := 2) (v := ?_) rfl (by kernel_rfl) (fun _ _ _ h => h) rfl (fun w' hS => ?_) hS0 ?_
  rotate_left
  · (try dsimp only at hS); go_split_ands; go_simp; (try with_reducible rfl)
  simp only [Act.put, List.setIfInBounds_toArray, List.set_cons_zero, List.set_cons_succ]
  refine Upto.take (i := 3) (v := ?_) rfl (by kernel_rfl) (fun _ _ _ h => h) rfl (fun w' hS => ?_) hS0 ?_
  rotate_left
  · (try dsimp only at hS); go_split_ands; go_simp; (try with_reducible rfl)
  simp only [Act.put, List.setIfInBounds_toArray, List.set_cons_zero, List.set_cons_succ]
  refine Upto.take (i := 4) (v := ?_) rfl (by kernel_rfl) (fun _ _ _ h => h) rfl (fun w' hS => ?_) hS0 ?_
  rotate_left
  · (try dsimp only at hS); go_split_ands; go_simp; (try with_reducible rfl)
  simp only [Act.put, List.setIfInBounds_toArray, List.set_cons_zero, List.set_cons_succ]
  refine Upto.take (i := 6) (v := ?_) rfl (by kernel_rfl) (fun _ _ _ h => h) rfl (fun w' hS => ?_) hS0 ?_
  rotate_left
  · (try dsimp only at hS); go_split_ands; go_simp; (try with_reducible rfl)
  simp only [Act.put, List.setIfInBounds_toArray, List.set_cons_zero, List.set_cons_succ]
  refine Upto.take (i := 7) (v := ?_) rfl (by kernel_rfl) (fun _ _ _ h => h) rfl (fun w' hS => ?_) hS0 ?_
  rotate_left
  · (try dsimp only at hS); go_split_ands; go_simp; (try with_reducible rfl)
  simp only [Act.put, List.setIfInBounds_toArray, List.set_cons_zero, List.set_cons_succ]
  refine Upto.take (i := 8) (v := ?_) rfl (by kernel_rfl) (fun _ _ _ h => h) rfl (fun w' hS => ?_) hS0 ?_
  rotate_left
  · (try dsimp only at hS); go_split_ands; go_simp; (try with_reducible rfl)
  simp only [Act.put, List.setIfInBounds_toArray, List.set_cons_zero, List.set_cons_succ]
  refine Upto.take (i := 9) (v := ?_) rfl (by kernel_rfl) (fun _ _ _ h => h) rfl (fun w' hS => ?_) hS0 ?_
  rotate_left
  · (try dsimp only at hS); go_split_ands; go_simp; (try with_reducible rfl)
  simp only [Act.put, List.setIfInBounds_toArray, List.set_cons_zero, List.set_cons_succ]
  refine Upto.take (i := 10) (v := .int .i64 m.first) rfl (by kernel_rfl) (fun _ _ _ h => h) rfl (fun w' hS => by go_simp; exact IntWalk.i64_in _ (by omega)) hS0 ?_
  simp only [Act.put, List.setIfInBounds_toArray, List.set_cons_zero, List.set_cons_succ]
  refine Upto.law (i := 5) rfl (by kernel_rfl) rfl (fun K hK => ?_)
  refine wp_enter (f := 48) (args := #[.slice none 0 0, .int .i64 m.first]) (by go_simp; (try with_reducible rfl)) (C5.out) ?_
  rintro e w6 ⟨rfl, b6⟩
  have b56 : Below w5.heap.size w5 w6 := (Below.refl _ _).drew.trans b6
  have H6 := Lib.hid (H5.out.below b56)
  have B6 : Hid (Below w.heap.size w w6) := Lib.hid (B5.out.trans (b56.mono B5.out.size))
  have hS1 : w6.cell? ⟨qm, 2, none⟩ = some (.int .i64 m.first) := (V5.out.later b56).cell 2
  refine ⟨_, rfl, hK _ _ hS1 ?_⟩
  clear hK hS0 b6 b56 C5 H5
  simp only [Act.put, List.setIfInBounds_toArray, List.set_cons_zero, List.set_cons_succ]
  refine Upto.take (i := 11) rfl (by kernel_rfl) (fun _ _ _ h => h) rfl (fun w' hS => exec_build rfl [(0, .pointer (some ⟨d, 0, none⟩)), (1, .int .i64 z), (3, .slice none 0 0), (4, .int .i64 m.first)] (by rfl) (built_log d z m.first)) hS1 ?_
  simp only [Act.put, List.setIfInBounds_toArray, List.set_cons_zero, List.set_cons_succ]
  refine Upto.tail rfl (by kernel_rfl) ?_
  simp only [List.drop_succ_cons, List.drop_zero]
  obtain ⟨bl, hbl⟩ : ∃ bl, w6.heap.size = bl := ⟨_, rfl⟩
  obtain ⟨W7, hW7⟩ : ∃ W7, W7 = w6.alloc (.cells #[.pointer (some ⟨d, 0, none⟩), .int .i64 z, .int .i64 0, .int .i64 0, .int .i64 0, .int .i64 0, .int .i64 0, .slice none 0 0, .int .i64 m.first, .slice none 0 0, .int .i64 0, .int .i64 0, .bool false] 103) := ⟨_, rfl⟩
  have hB6 : B ≤ w6.heap.size := Nat.le_trans HBB.out B6.out.size
  have h7 : Has B ((lgR bl d (opL0 z m)).star ((blkR qm 93 (msC m)).star ((dsk d s).star R))) W7 := by rw [hW7, ← hbl]; exact lgR_new (L := opL0 z m) (d := d) H6.out hB6 rfl rfl
  have b7 : Below w6.heap.size w6 W7 := by rw [hW7]; exact (Below.refl _ _).alloc (Nat.le_refl _) _
  have B7 : Hid (Below B w W7 ∧ B ≤ W7.heap.size) := Lib.hid ⟨(B6.out.mono HBB.out).trans (b7.mono hB6), Nat.le_trans hB6 b7.size⟩
  have t8 := blkR_setc (i := 0) (u := .int .i64 (m.gen + 1)) (cs' := #[.int .i64 (m.gen + 1), .int .i64 m.inc, .int .i64 m.first, .int .i64 m.lsn, .int .i64 m.chk]) h7.swap B7.out.2 rfl
  obtain ⟨w8, hw8⟩ : ∃ w8, w8 = W7.setCell ⟨qm, 0, none⟩ (.int .i64 (m.gen + 1)) := ⟨_, rfl⟩
  rw [← hw8] at t8
  have hB8 : B ≤ w8.heap.size := Nat.le_trans B7.out.2 t8.2.size
  have t9 := blkR_setc (i := 1) (u := .int .i64 (m.inc + 1)) (cs' := msC (opM m)) t8.1 hB8 rfl
  obtain ⟨w9, hw9⟩ : ∃ w9, w9 = w8.setCell ⟨qm, 1, none⟩ (.int .i64 (m.inc + 1)) := ⟨_, rfl⟩
  rw [← hw9] at t9
  have hB9 : B ≤ w9.heap.size := Nat.le_trans hB8 t9.2.size
  have V7 : Bk W7 qm 93 (msC m) := by obtain ⟨F, hF⟩ := h7.swap.fst.ex; exact hF.1
  have V8 : Bk w8 qm 93 #[.int .i64 (m.gen + 1), .int .i64 m.inc, .int .i64 m.first, .int .i64 m.lsn, .int .i64 m.chk] := by obtain ⟨F, hF⟩ := t8.1.fst.ex; exact hF.1
  have V9 : Hid (Bk w9 qm 93 (msC (opM m))) := Lib.hid (by obtain ⟨F, hF⟩ := t9.1.fst.ex; exact hF.1)
  have z0 : W7.cell? ⟨qm, 0, none⟩ = some (.int .i64 m.gen) := V7.cell 0
  have f0 : W7.frozen? ⟨qm, 0, none⟩ = false := V7.frz 0
  have z1 : w8.cell? ⟨qm, 1, none⟩ = some (.int .i64 m.inc) := V8.cell 1
  have f1 : w8.frozen? ⟨qm, 1, none⟩ = false := V8.frz 1
  have CV := Lib.hid (wgSave_any t9.1.in3 hB9 (opM m) (fun k => by
    match k with
    | 0 => show _ ≤ m.gen + 1 ∧ m.gen + 1 ≤ _; omega
    | 1 => show _ ≤ m.inc + 1 ∧ m.inc + 1 ≤ _; omega
    | 2 => show _ ≤ m.first ∧ m.first ≤ _; omega
    | 3 => show _ ≤ m.lsn ∧ m.lsn ≤ _; omega
    | _ + 4 => show _ ≤ m.chk ∧ m.chk ≤ _; omega) hlim (by have := (putS_pend s ((opM m).gen % 2) (bodyM (opM m))).2; omega))
  rw [HSV.out] at CV
  have emv : msV (opM m) = .agg (msC (opM m)) := rfl
  have es : (opL0 z m).saved 0 (opM m) = { opL0 z m with m := opM m } := if_pos rfl
  rw [emv, es] at CV
  have B9 : Hid (Below B w w9) := Lib.hid ((B7.out.1.trans t8.2).trans t9.2)
  have HW7 := Lib.hid hW7
  have HW8 := Lib.hid hw8
  have HW9 := Lib.hid hw9
  obtain ⟨C9, hC9⟩ : ∃ C, msC (opM m) = C := ⟨_, rfl⟩
  have HC9 : Hid (C9.size = 5) := Lib.hid (by rw [← hC9]; rfl)
  rw [hC9] at V9 CV
  clear hS1 h7 b7 t8 t9 V7 V8 hW7 hw8 hw9 emv es hC9 H6 V5 H0 T0 B6 hm1
  go_wp2_with fail
  refine NoPanic.normal ?_
  (try rw [hbl])
  rw [← HW7.out]
  clear HW7
  go_upto_region 13 with fail
  rw [← HW8.out]
  clear HW8 z0 f0
  go_upto_region 14 with fail
  rw [← HW9.out]
  clear HW9 z1 f1
  go_wp2_with (refine wpList_load_row rfl 93 _ rfl qm rfl 93 C9 (0, 0) _ V9.out Tryz.underlying93 rfl (by rw [HC9.out]; exact ms_info) ?_; simp only [Act.put])
  refine CV.out.mono ?_
  rintro e w10 ⟨rfl, h10, b10⟩
  have R9 : Hid (RetOp d { opL0 z m with m := opM m } (saveS s (opM m)) B R w (.returned (.tuple #[.pointer (some ⟨bl, 0, none⟩), .int .i64 0])) w10) := Lib.hid ⟨bl, rfl, h10.out3, B9.out.trans b10⟩
  clear h10 b10 CV
  go_wp2_with fail
  go_ret2
  exact R9.out
end
end

/- a plain disk on which the power stays: what Put, sheets' writing, Sync and Save make of it; a log's master on a new disk. No program is named. -/
section
open Go.RowKit
structure Up (s : St) : Prop where
  left : s.left = -1
  gone : s.gone = false
section
variable {s : St}
theorem Up.can (h : Up s) : s.can = true := by unfold St.can; rw [h.left, h.gone]; rfl
theorem Up.step (h : Up s) : s.step = s := by
  unfold St.step
  rw [if_neg (by rw [h.gone]; simp), if_neg (by rw [h.left]; omega), if_neg (by rw [h.left]; omega)]
theorem Up.rd (h : Up s) {n : Int} (hn : 0 ≤ n ∧ n < (s.num : Int)) : s.rErr n = 0 := by
  unfold St.rErr
  rw [if_neg (by omega), if_neg (by rw [h.gone]; simp)]
theorem Up.put (h : Up s) {n : Int} (hn : 0 ≤ n ∧ n < (s.num : Int)) {p : List Int} (hl : p.length ≤ 254) (hr : ∀ x ∈ p, 0 ≤ x ∧ x < 256) :
    putE s n p = 0 ∧ putS s n p = { s with pend := s.pend ++ [(n.toNat, wrapL (nextOf (s.rBytes n)) p)] } := by
  have e0 := h.rd hn
  have hw : (wrapL (nextOf (s.rBytes n)) p).length = 256 := (wrapL_sec (by have := nextOf_rng (s.rBytes n); omega) hr hl).1
  refine ⟨?_, ?_⟩
  · unfold putE
    rw [if_neg (by omega), if_neg (by rw [e0]; simp)]
    unfold St.wErr
    rw [if_neg (by omega), if_neg (by rw [hw]; simp), if_pos h.can]
  · unfold putS
    rw [if_neg (by omega), if_neg (by rw [e0]; simp)]
    unfold St.write
    rw [if_neg (by omega), if_neg (by rw [hw]; simp), if_pos h.can]
    unfold St.wrote
    rw [h.step]
theorem Up.sync (h : Up s) : s.sErr = 0 ∧ s.sync = { s with syn := s.now, pend := [], syncs := s.syncs + 1 } := by
  refine ⟨by unfold St.sErr; rw [if_pos h.can], ?_⟩
  unfold St.sync
  rw [if_pos h.can]
  unfold St.synced
  rw [h.step]
theorem Up.save (h : Up s) {m : Ms} (hm : m.ok) (hN : 2 ≤ s.num) : saveE s m = 0 ∧ Up (saveS s m) ∧ (saveS s m).num = s.num ∧ (saveS s m).pend = [] ∧ (saveS s m).syncs = s.syncs + 1 := by
  have hl : (bodyM m).length ≤ 254 := by have := bodyM_len hm.fits; omega
  obtain ⟨p1, p2⟩ := h.put (n := m.gen % 2) (by omega) hl (bodyM_rng m)
  have hu : Up (putS s (m.gen % 2) (bodyM m)) := by rw [p2]; exact ⟨h.left, h.gone⟩
  obtain ⟨q1, q2⟩ := hu.sync
  have e1 : saveE s m = 0 := by unfold saveE; rw [if_neg (by simpa using hm), if_neg (by rw [p1]; simp), q1]
  have e2 : saveS s m = { putS s (m.gen % 2) (bodyM m) with syn := (putS s (m.gen % 2) (bodyM m)).now, pend := [], syncs := (putS s (m.gen % 2) (bodyM m)).syncs + 1 } := by unfold saveS; rw [if_neg (by simpa using hm), if_neg (by rw [p1]; simp), q2]
  rw [e2, p2]
  exact ⟨e1, ⟨h.left, h.gone⟩, rfl, rfl, rfl⟩
theorem wrAll_up : ∀ (l : List Sh) (s : St) (c : Int), Up s → 1 ≤ c → c + 2 ≤ (s.num : Int) → (∀ x ∈ l, storP x) → (wrAll c s l).2 = 0 ∧ Up (wrAll c s l).1 ∧ (wrAll c s l).1.num = s.num ∧ (wrAll c s l).1.pend = [] ∧ (wrAll c s l).1.syncs = s.syncs + 1
  | [], s, c, h, _, _, _ => by
    obtain ⟨q1, q2⟩ := h.sync
    unfold wrAll
    simp only
    rw [q1, q2]
    exact ⟨rfl, ⟨h.left, h.gone⟩, rfl, rfl, rfl⟩
  | x :: r, s, c, h, h1, h2, hx => by
    have hst := hx x (by simp)
    have hr : ∀ y ∈ encS x, 0 ≤ y ∧ y < 256 := encS_rng hst
    have hl : (encS x).length ≤ 254 := by rw [encS_len]; have := hst.2.2.1; omega
    have hm : 0 ≤ x.pos % c ∧ x.pos % c < c := ⟨Int.emod_nonneg _ (by omega), Int.emod_lt_of_pos _ (by omega)⟩
    obtain ⟨p1, p2⟩ := h.put (n := secOf x.pos c) (by unfold secOf; omega) hl hr
    have hu : Up (putS s (secOf x.pos c) (encS x)) := by rw [p2]; exact ⟨h.left, h.gone⟩
    have ih := wrAll_up r (putS s (secOf x.pos c) (encS x)) c hu h1 (by rw [p2]; exact h2) (fun y hy => hx y (by simp [hy]))
    unfold wrAll
    rw [if_neg (by rw [p1]; simp)]
    refine ⟨ih.1, ih.2.1, ?_, ih.2.2.2.1, ?_⟩
    · rw [ih.2.2.1, p2]
    · rw [ih.2.2.2.2, p2]
end
theorem new_up (n : Nat) : Up (St.new n) := ⟨rfl, rfl⟩
theorem fmt_load {N : Nat} (hN : 2 ≤ N) : loadR0 (saveS (St.new N) msF).rBytes (saveS (St.new N) msF).rErr = msF ∧ loadE0 (saveS (St.new N) msF).rBytes (saveS (St.new N) msF).rErr = 0 ∧ (∀ n : Int, 2 ≤ n → n < (N : Int) → (saveS (St.new N) msF).rErr n = 0 ∧ openE ((saveS (St.new N) msF).rBytes n) ≠ 0) := by
  obtain ⟨s1, hs1⟩ : ∃ s1, s1 = saveS (St.new N) msF := ⟨_, rfl⟩
  obtain ⟨e1, hu, hnum, hp, _⟩ := (new_up N).save msF_ok hN
  have hl : (bodyM msF).length ≤ 254 := by have := bodyM_len msF_ok.fits; omega
  obtain ⟨p1, p2⟩ := (new_up N).put (n := msF.gen % 2) (by show 0 ≤ (1 : Int) % 2 ∧ (1 : Int) % 2 < (N : Int); omega) hl (bodyM_rng msF)
  have hu2 : Up (putS (St.new N) (msF.gen % 2) (bodyM msF)) := by rw [p2]; exact ⟨rfl, rfl⟩
  obtain ⟨q1, q2⟩ := hu2.sync
  have e2 : saveS (St.new N) msF = { putS (St.new N) (msF.gen % 2) (bodyM msF) with syn := (putS (St.new N) (msF.gen % 2) (bodyM msF)).now, pend := [], syncs := (putS (St.new N) (msF.gen % 2) (bodyM msF)).syncs + 1 } := by
    unfold saveS; rw [if_neg (by simpa using msF_ok), if_neg (by rw [p1]; simp), q2]
  rw [← hs1] at hu hnum hp e2 ⊢
  obtain ⟨X, hX⟩ : ∃ X, X = wrapL (nextOf ((St.new N).rBytes (msF.gen % 2))) (bodyM msF) := ⟨_, rfl⟩
  have hsyn : s1.syn = upd (fun _ => zeros) (secN msF) X := by
    rw [e2, p2, ← hX]
    rfl
  have hrec : recM (msF.gen % 2) X = msF := by rw [hX]; exact recM_wrap msF_ok (nextOf_rng _)
  have hL : Lst s1.syn msF := by rw [hsyn]; exact Lst.first msF_ok (fun _ => rfl) hrec
  obtain ⟨l1, l2⟩ := hL.load
  have hrd : ∀ n : Int, 0 ≤ n → n < (N : Int) → s1.rErr n = 0 ∧ s1.rBytes n = s1.syn n.toNat := fun n h0 h1 => by
    have e := hu.rd (n := n) ⟨h0, by rw [hnum]; exact h1⟩
    refine ⟨e, ?_⟩
    unfold St.rBytes
    rw [if_pos e, now_nothing hp]
  have h0 := hrd 0 (by omega) (by omega)
  have h1 := hrd 1 (by omega) (by omega)
  refine ⟨?_, ?_, fun n hn hn2 => ?_⟩
  · unfold loadR0
    rw [if_neg (by rw [h0.1]; simp), if_neg (by rw [h1.1]; simp), h0.2, h1.2]
    exact l1
  · unfold loadE0
    rw [if_neg (by rw [h0.1]; simp), if_neg (by rw [h1.1]; simp), h0.2, h1.2]
    exact l2
  · have hq := hrd n (by omega) hn2
    refine ⟨hq.1, ?_⟩
    rw [hq.2, hsyn, upd_ne _ _ (by show n.toNat ≠ 1; omega)]
    rw [openE_torn zeros_sec.1 (fun q => by
      have : zeros.getD 0 0 = 0 := rfl
      have := q.2.1
      omega)]
    decide
end

/- the statements' one and made: a small record, and an empty log on a new disk. -/
section
open Go.RowKit
def xOne (tx : Int) : Xr := ⟨6, tx, 0, 0, ⟨#[]⟩, ⟨false, ⟨#[]⟩⟩, ⟨false, ⟨#[]⟩⟩, 0, none, 0, 0, [], none, 0, 0, [], none, 0, 0, [], none, 0, 0, [], none, 0, 0, [], none, 0, 0, []⟩
theorem xOne_in (tx : Int) (H : Nat) (w : World) (h : i64 tx) : XrIn H w (xOne tx) :=
  ⟨i64_of _ rfl, h, i64_of _ rfl, i64_of _ rfl, Nat.zero_le _, Nat.zero_le _, Nat.zero_le _, i64_of _ rfl, Sl.nil _ _ _, Sl.nil _ _ _, Sl.nil _ _ _, Sl.nil _ _ _, Sl.nil _ _ _, Sl.nil _ _ _⟩
theorem num_oneE (n : Nat) (h : n < 128) : numL (n : Int) = [(n : Int)] := by
  rw [numL_nat]
  unfold shortL
  rw [show n / 128 = 0 by omega, hiD_zero]
  simp; omega
theorem xOne_rc (tx : Nat) (h : tx < 128) : rcL (xOne tx).read = [6, (tx : Int), 0] := by
  show numL ((6 : Nat) : Int) ++ (numL ((tx : Nat) : Int) ++ numL ((0 : Nat) : Int)) = _
  rw [num_oneE 6 (by omega), num_oneE tx h, num_oneE 0 (by omega)]
  rfl
theorem xOne_ok (tx : Nat) (h : 1 ≤ tx ∧ tx < 128) : (xOne tx).read.ok := (ok_iff _).1 ⟨⟨by show (1 : Int) ≤ 6; decide, by show (6 : Int) ≤ 10; decide⟩, by
  show (spE 6).ok (xOne tx).read
  exact ⟨⟨by show (1 : Int) ≤ (tx : Int); omega, by show (tx : Int) ≤ 1099511627776; omega⟩, ⟨by show (0 : Int) ≤ 0; decide, by show (0 : Int) ≤ 1099511627776; decide⟩⟩, rfl⟩
theorem xOne_encE (tx : Nat) (h : 1 ≤ tx ∧ tx < 128) : encE (xOne tx).read = 0 := encE_ok (xOne_ok tx h) (by rw [xOne_rc tx h.2]; show ¬ 4096 < 3; decide)
theorem xOne_seal (tx : Nat) (h : tx < 128) : (sealL (rcL (xOne tx).read)).length = 8 := by
  rw [xOne_rc tx h, sealL_len]
  unfold textL
  rw [List.length_append]
  have := num_oneE 3 (by omega)
  rw [numL_nat] at this
  show (shortL 3).length + 3 + 4 = 8
  rw [this]
  rfl
set_option maxRecDepth 100000 in
set_option maxHeartbeats 1000000 in
theorem one_any (tx : Int) (w : World) : Calls Tryz.prog 34 #[.int .i64 tx] w (Ret (xOne tx).val w) := by
  obtain ⟨r, hrr⟩ : ∃ r, w.heap.size = r := ⟨_, rfl⟩
  obtain ⟨W1, hW1⟩ : ∃ W1, W1 = w.alloc (.cells xr0.cells 39) := ⟨_, rfl⟩
  have hb1 : Below w.heap.size w W1 := by rw [hW1]; exact (Below.refl _ _).alloc (Nat.le_refl _) _
  have HV : Hid (Bk W1 r 39 xr0.cells) := Lib.hid (by rw [hW1, ← hrr]; exact Bk.new w _ _)
  have HW := Lib.hid (show W1 = w.alloc (.cells #[.int .i64 0, .int .i64 0, .int .i64 0, .int .i64 0, .string ⟨#[]⟩, .bool false, .string ⟨#[]⟩, .bool false, .string ⟨#[]⟩, .int .i64 0, .slice none 0 0, .slice none 0 0, .slice none 0 0, .slice none 0 0, .slice none 0 0, .slice none 0 0] 39) from hW1)
  have RB := Lib.hid (HV.out.rowp (xOne tx).cells)
  have R : Hid (Ret (xOne tx).val w (.returned (.agg (xOne tx).cells)) (W1.setRow r (xOne tx).cells)) := Lib.hid ⟨by rw [Xr.val_eq], below_setRow hb1 (by rw [hrr]; exact Nat.le_refl r) _⟩
  clear hW1 hb1
  go_enter Tryz.func34, Tryz.ntmps34
  go_upto_region 1 with fail
  (try rw [hrr])
  rw [← HW.out]
  clear HW hrr
  go_wp2_with (refine wpList_store_row rfl 39 _ _ rfl r (xOne tx).cells rfl (by rfl) 39 _ HV.out inf_rec rfl (Xr.cells_one _) ?_; simp only [Act.put])
  (try simp only [Exit.inBlock, Exit.then])
  refine bodyPost_ret (results_cell_row rfl _ _ r 39 (xOne tx).cells (0, 0) _ rfl RB.out Tryz.underlying39 rfl inf_rec) rfl ?_
  exact R.out
def lgMade (z : Int) : Lg := { opL0 z msF with m := opM msF }
structure Made (z : Int) (s : St) : Prop where
  up : Up s
  num : (s.num : Int) = 2 + z
  pend : s.pend = []
  syncs : s.syncs = 2
def RetMade (z : Int) (B : Nat) (R : Res) (w : World) (e : Ending) (w' : World) : Prop :=
  ∃ d b s, e = .returned (.tuple #[.pointer (some ⟨d, 0, none⟩), .pointer (some ⟨b, 0, none⟩)]) ∧ Made z s ∧ Has B ((lgR b d (lgMade z)).star ((dsk d s).star R)) w' ∧ Below B w w'
theorem opM_ok : (opM msF).ok := ⟨⟨by decide, by decide⟩, ⟨by decide, by decide⟩, ⟨by decide, by decide⟩, ⟨by decide, by decide⟩, ⟨by decide, by decide⟩⟩
set_option maxRecDepth 100000 in
set_option maxHeartbeats 4000000 in
theorem made_any {B : Nat} {R : Res} {w : World} (h : Has B R w) (hB : B ≤ w.heap.size) (hg : 0 < B) (hT : Tab w) (z : Int) (hz : 8 ≤ z ∧ z ≤ 1000) : Calls Tryz.prog 11 #[.int .i64 z] w (RetMade z B R w) := by
  obtain ⟨N, hN⟩ : ∃ N : Nat, (N : Int) = 2 + z := ⟨(2 + z).toNat, by omega⟩
  have CN := Lib.hid (hasD_new h hB N (by omega))
  have hzm : max z 0 = z := by omega
  rw [hN] at CN
  obtain ⟨a1, a2, a3, a4, a5⟩ := (new_up N).save msF_ok (by show 2 ≤ N; omega)
  obtain ⟨l1, l2, l3⟩ := fmt_load (N := N) (by omega)
  have hc : cntB z = true := by unfold cntB; exact decide_eq_true (by omega)
  have hr : ∀ s : St, s.num = N → ringB s z = true := fun s hs => by unfold ringB; rw [hs]; exact decide_eq_true (by omega)
  have ef : fmtE (St.new N) z = 0 := by unfold fmtE; rw [hc, hr _ rfl]; exact a1
  have es : fmtS (St.new N) z = saveS (St.new N) msF := by unfold fmtS; rw [hc, hr _ rfl]; rfl
  have hsec : secOf msF.first z = 2 := by show 2 + (0 : Int) % z = 2; rw [Int.zero_emod]; rfl
  obtain ⟨b1, b2, b3, b4, b5⟩ := a2.save opM_ok (by rw [a3]; show 2 ≤ N; omega)
  have CF := Lib.hid (fun (w1 : World) (d : Nat) (h1 : Has B ((dsk d (St.new N)).star R) w1) (hB1 : B ≤ w1.heap.size) => wgFormat_any h1 hB1 z (by show 0 < 999999; omega) (by show 0 < 999999; omega))
  rw [ef, es] at CF
  have CO := Lib.hid (fun (w1 : World) (d : Nat) (h1 : Has B ((dsk d (saveS (St.new N) msF)).star R) w1) (hB1 : B ≤ w1.heap.size) (hT1 : Tab w1) => wgOpen_none h1 hB1 hT1 z hc (hr _ a3) msF l1 l2 (by unfold sml; decide) (by rw [hsec]; exact (l3 2 (by omega) (by omega)).1) (by rw [hsec]; exact (l3 2 (by omega) (by omega)).2) (by rw [a4]; show 0 < 999999; omega) (by rw [a5]; show 1 < 999999; omega) b1)
  have HM : Hid (Made z (saveS (saveS (St.new N) msF) (opM msF))) := Lib.hid ⟨b2, by rw [b3, a3]; exact hN, b4, by rw [b5, a5]; rfl⟩
  have HT := Lib.hid hT
  have HBB := Lib.hid hB
  obtain ⟨s1, hs1⟩ : ∃ s1, saveS (St.new N) msF = s1 := ⟨_, rfl⟩
  rw [hs1] at CF CO HM
  obtain ⟨s2, hs2⟩ : ∃ s2, saveS s1 (opM msF) = s2 := ⟨_, rfl⟩
  rw [hs2] at CO HM
  clear h hT hB a1 a2 a3 a4 a5 l1 l2 l3 hc hr ef es hsec b1 b2 b3 b4 b5 hs1 hs2
  go_enter Tryz.func11, Tryz.ntmps11
  go_wp2_with fail
  refine CN.out.mono ?_
  rintro e w1 ⟨d, rfl, h1, b1⟩
  have hB1 : B ≤ w1.heap.size := Nat.le_trans HBB.out b1.size
  have T1 := HT.out.ret b1
  have B1 : Hid (Below B w w1) := Lib.hid (b1.mono HBB.out)
  have CF1 := Lib.hid (CF.out w1 d h1 hB1)
  have HT1 := Lib.hid T1
  clear h1 b1 T1 CN CF
  go_wp2_with fail
  refine CF1.out.mono ?_
  rintro e w2 ⟨rfl, h2, b2⟩
  have hB2 : B ≤ w2.heap.size := Nat.le_trans hB1 b2.size
  have CO2 := Lib.hid (CO.out w2 d h2 hB2 (HT1.out.below b2 hg))
  have B2 : Hid (Below B w w2) := Lib.hid (B1.out.trans b2)
  clear h2 b2 CF1 CO
  go_wp2_with fail
  refine CO2.out.mono ?_
  rintro e w3 ⟨b, rfl, h3, b3⟩
  have R9 : Hid (RetMade z B R w (.returned (.tuple #[.pointer (some ⟨d, 0, none⟩), .pointer (some ⟨b, 0, none⟩)])) w3) := Lib.hid ⟨d, b, s2, rfl, HM.out, h3, B2.out.trans b3⟩
  clear h3 b3 CO2
  go_wp2_with fail
  go_ret2
  exact R9.out
end
end Go.Proofs.YtjllpihkjlblaaaGreatDoor
