/- What it says: contracts and plain mathematics that the laws' walks use, 3 of 10: each part's own remark says what; no condition. -/
import Derived.Test.YtomhofppcogojaaPs1
import Derived.Test.YtomhofppcogojaaPs2
import Derived.Deep.AppendLies
import Derived.Laws.BytesArg
import Derived.Lib.ConvBytes
import Derived.Lib.AppendStr
import Derived.Lib.Strings
import Derived.Below
import Derived.Test.YtomhofppcogojaaRows
import Derived.Deep.QuietTactic
import Derived.BigQuiet
import Derived.Laws.Build

set_option linter.unusedSimpArgs false
set_option linter.unusedVariables false
set_option linter.deprecated false
set_option linter.unusedSectionVars false
set_option linter.all false

/- a disk among other things in memory: what each call answers, what becomes of the disk, and that the other things stay. -/
namespace Go.Proofs.Ytomhofppcogojaa
open Go.RowKit

/-- Nothing. -/
def emp : Res where
  is w F := ∀ k, F k → k < w.heap.size
  lt _ _ h := h
  keep _ _ _ h hs _ := fun k f => Nat.lt_of_lt_of_le (h k f) hs
theorem Has.emp (B : Nat) (w : World) : Has B emp w := ⟨fun _ => False, fun _ f => f.elim, fun _ f => f.elim⟩

theorem Has.sw {B : Nat} {R S T : Res} {w : World} (h : Has B (R.star (S.star T)) w) : Has B (S.star (T.star R)) w := h.comm.assoc
theorem Has.wsBack {B : Nat} {R S T : Res} {w : World} (h : Has B (S.star (T.star R)) w) : Has B (R.star (S.star T)) w := h.assoc'.comm

theorem Has.map2 {B : Nat} {R S S' : Res} {w : World} (h : Has B (R.star S) w) (hm : ∀ F, S.is w F → S'.is w F) : Has B (R.star S') w := by
  obtain ⟨F, ⟨F1, F2, h1, h2, h3, h4, h5, h6⟩, h7⟩ := h
  exact ⟨F, ⟨F1, F2, h1, hm F2 h2, h3, h4, h5, h6⟩, h7⟩
theorem Has.swap {B : Nat} {R S T : Res} {w : World} (h : Has B (R.star (S.star T)) w) : Has B (S.star (R.star T)) w := h.sw.map2 (fun _ => Res.star_comm)

/-- A block known whole. -/
def blkR (g : Nat) (t : TypeId) (cs : Array Value) : Res where
  is w F := Bk w g t cs ∧ F g ∧ ∀ k, F k → k < w.heap.size
  lt _ _ h := h.2.2
  keep w w' F := fun h hs hk => ⟨h.1.eq (hk g h.2.1), h.2.1, fun k f => Nat.lt_of_lt_of_le (h.2.2 k f) hs⟩

theorem blkR_new {B : Nat} {S : Res} {w : World} (t : TypeId) (cs : Array Value) (h : Has B S w) (hB : B ≤ w.heap.size) : Has B ((blkR w.heap.size t cs).star S) (w.alloc (.cells cs t)) :=
  h.new hB ((Below.refl _ _).alloc (Nat.le_refl _) _) ⟨Bk.new w t cs, ⟨Nat.le_refl _, (Bk.new w t cs).lt⟩, fun _ f => f.2⟩

/-- A call answers v; R is there behind it; below B nothing is turned. -/
def RetHas (v : Value) (B : Nat) (R : Res) (w : World) (e : Ending) (w' : World) : Prop := e = .returned v ∧ Has B R w' ∧ Below B w w'

section
variable {B : Nat} {R : Res} {w0 w : World} {b : Nat} {s : St}

/-- The bytes that are written lie in memory that is new, or elder than all of the things. -/
theorem hasD_writeO (h : Has B ((dsk b s).star R) w0) (hb : Below w0.heap.size w0 w) (hB : B ≤ w0.heap.size) {A : Option Addr} {m c : Nat} {l : List Int} (hl : Byt w A m c l) (hA : ∀ k, (Value.slice A m c).ownBlock = some k → w0.heap.size ≤ k ∨ k < B)
    (n : Int) (hn : -9223372036854775808 ≤ n ∧ n ≤ 9223372036854775807) (hlim : s.pend.length < 999999) :
    Calls Try.prog 19 #[.pointer (some ⟨b, 0, none⟩), .int .i64 n, .slice A m c] w (RetHas (.int .i64 (s.wErr n l)) B ((dsk b (s.write n l)).star R) w) := by
  have hBw : B ≤ w.heap.size := Nat.le_trans hB hb.size
  have hlen := hl.len
  have hw := h.below hb
  obtain ⟨F0, hF0, hF0B⟩ := h
  obtain ⟨F, hF, hturn⟩ := Res.star_turn hF0
  have hF' : (dsk b s).is w F := (dsk b s).keep w0 w F hF hb.size (fun k f => hb.block k ((dsk b s).lt w0 F hF k f))
  have hkeep : ((dsk b s).star R).is w F0 := ((dsk b s).star R).keep w0 w F0 hF0 hb.size (fun k f => hb.block k (((dsk b s).star R).lt w0 F0 hF0 k f))
  clear hturn
  obtain ⟨F1, F2, a1, a2, a3, a4, a5, a6⟩ := hkeep
  have hF1 : ∀ k, F1 k → k < w0.heap.size := fun k f => ((dsk b s).star R).lt w0 F0 hF0 k (a4 k f)
  have hnot : ∀ k, (Value.slice A m c).ownBlock = some k → ¬ F1 k := fun k hk f => by have := hA k hk; have := hF1 k f; have := hF0B k (a4 k f); omega
  have done : ∀ s' w', Turn (dsk b s') F1 w w' → Has B ((dsk b s').star R) w' ∧ Below B w w' := by
    intro s' w' t
    have hh : ((dsk b s).star R).is w F0 := ⟨F1, F2, a1, a2, a3, a4, a5, a6⟩
    have key : Turn ((dsk b s').star R) F0 w w' := by
      obtain ⟨t1, t2⟩ := t
      refine ⟨⟨grow F1 w w', F2, t1, R.keep w w' F2 a2 t2.size (fun k f => t2.block k (R.lt w F2 a2 k f) (fun g => a3 k g f)), ?_, ?_, fun k f => .inl (a5 k f), ?_⟩, t2.mono a4⟩
      · intro k f g
        rcases f with f | f
        · exact a3 k f g
        · have := R.lt w F2 a2 k g; omega
      · intro k f
        rcases f with f | f
        · exact .inl (a4 k f)
        · exact .inr f
      · intro k f
        rcases f with f | f
        · exact Nat.lt_of_lt_of_le (a6 k f) t2.size
        · exact f.2
    refine ⟨⟨_, key.1, fun k f => ?_⟩, key.2.below hBw hF0B⟩
    rcases f with f | f
    · exact hF0B k f
    · omega
  obtain ⟨mb, A1, c1, hd⟩ := a1
  by_cases h1 : n < 0 ∨ (s.num : Int) ≤ n
  · have e1 : s.wErr n l = 1 := by unfold St.wErr; rw [if_pos h1]
    have e2 : s.write n l = s := by unfold St.write; rw [if_pos h1]
    rw [e1, e2]
    exact (write_bad w F1 b mb A1 c1 s hd n h1 _).mono fun e w' ⟨he, ht⟩ => ⟨he, done s w' ht⟩
  · obtain ⟨j, rfl⟩ := Int.eq_ofNat_of_zero_le (show 0 ≤ n by omega)
    have hj : j < s.num := by omega
    by_cases h2 : m = 256
    · subst h2
      by_cases h3 : s.can = true
      · have e1 : s.wErr j l = 0 := by unfold St.wErr; rw [if_neg h1, if_neg (by omega), if_pos h3]
        have e2 : s.write j l = s.wrote j l := by unfold St.write; rw [if_neg h1, if_neg (by omega), if_pos h3]; rfl
        rw [e1, e2]
        exact (write_made w F1 b mb A1 c1 s hd j hj A c l hl hnot h3 hlim).mono fun e w' ⟨he, ht⟩ => ⟨he, done _ w' ht⟩
      · have h3' : s.can = false := by simpa using h3
        have e1 : s.wErr j l = 40 := by unfold St.wErr; rw [if_neg h1, if_neg (by omega), if_neg h3]
        have e2 : s.write j l = s.step := by unfold St.write; rw [if_neg h1, if_neg (by omega), if_neg h3]
        rw [e1, e2]
        exact (write_down w F1 b mb A1 c1 s hd j hj A c h3').mono fun e w' ⟨he, ht⟩ => ⟨he, done _ w' ht⟩
    · have e1 : s.wErr j l = 12 := by unfold St.wErr; rw [if_neg h1, if_pos (by omega)]
      have e2 : s.write j l = s := by unfold St.write; rw [if_neg h1, if_pos (by omega)]
      rw [e1, e2]
      exact (write_len w F1 b mb A1 c1 s hd j hj A m c h2).mono fun e w' ⟨he, ht⟩ => ⟨he, done s w' ht⟩

theorem hasD_write (h : Has B ((dsk b s).star R) w0) (hb : Below w0.heap.size w0 w) (hB : B ≤ w0.heap.size) {A : Option Addr} {m c : Nat} {l : List Int} (hl : Byt w A m c l) (hA : ∀ k, (Value.slice A m c).ownBlock = some k → w0.heap.size ≤ k)
    (n : Int) (hn : -9223372036854775808 ≤ n ∧ n ≤ 9223372036854775807) (hlim : s.pend.length < 999999) :
    Calls Try.prog 19 #[.pointer (some ⟨b, 0, none⟩), .int .i64 n, .slice A m c] w (RetHas (.int .i64 (s.wErr n l)) B ((dsk b (s.write n l)).star R) w) :=
  hasD_writeO h hb hB hl (fun k hk => .inl (hA k hk)) n hn hlim

theorem hasD_sync (h : Has B ((dsk b s).star R) w) (hB : B ≤ w.heap.size) (hlim : s.syncs < 999999) :
    Calls Try.prog 24 #[.pointer (some ⟨b, 0, none⟩)] w (RetHas (.int .i64 s.sErr) B ((dsk b s.sync).star R) w) := by
  obtain ⟨F, ⟨mb, A1, c1, hd⟩, hturn⟩ := h.turn1 hB
  by_cases h3 : s.can = true
  · have e1 : s.sErr = 0 := by unfold St.sErr; rw [if_pos h3]
    have e2 : s.sync = s.synced := by unfold St.sync; rw [if_pos h3]
    rw [e1, e2]
    exact (sync_made w F b mb A1 c1 s hd h3 hlim).mono fun e w' ⟨he, ht⟩ => ⟨he, hturn _ w' ht⟩
  · have h3' : s.can = false := by simpa using h3
    have e1 : s.sErr = 40 := by unfold St.sErr; rw [if_neg h3]
    have e2 : s.sync = s.step := by unfold St.sync; rw [if_neg h3]
    rw [e1, e2]
    exact (sync_down w F b mb A1 c1 s hd h3').mono fun e w' ⟨he, ht⟩ => ⟨he, hturn _ w' ht⟩

theorem hasD_fuse (h : Has B ((dsk b s).star R) w) (hB : B ≤ w.heap.size) (n : Int) (hn : -9223372036854775808 ≤ n ∧ n ≤ 9223372036854775807) :
    Calls Try.prog 21 #[.pointer (some ⟨b, 0, none⟩), .int .i64 n] w (RetHas (.tuple #[]) B ((dsk b (s.fuse n)).star R) w) := by
  obtain ⟨F, ⟨mb, A1, c1, hd⟩, hturn⟩ := h.turn1 hB
  exact (fuse_any hd n hn).mono fun e w' ⟨he, ht⟩ => ⟨he, hturn _ w' ht⟩

theorem Has.one (h : Has B ((dsk b s).star R) w) : ∃ F mb A c, DskB w F b mb A c s := by
  obtain ⟨F, mb, A, c, hd⟩ := h.fst.ex
  exact ⟨F, mb, A, c, hd⟩

theorem hasD_down (h : Has B ((dsk b s).star R) w) : Calls Try.prog 22 #[.pointer (some ⟨b, 0, none⟩)] w (Same (.bool s.gone) w) := by
  obtain ⟨F, mb, A, c, hd⟩ := h.one
  exact down_any hd
theorem hasD_ok (h : Has B ((dsk b s).star R) w) : s.Ok := by
  obtain ⟨F, mb, A, c, hd⟩ := h.one
  exact hd.ok

/-- What a read answers. -/
def St.rBytes (s : St) (n : Int) : List Int := if s.rErr n = 0 then s.now n.toNat else []

/-- Bytes and a number beside them; the bytes lie in a block that is new. -/
def RetRd (l : List Int) (e0 : Int) (w : World) (e : Ending) (w' : World) : Prop :=
  ∃ A n c, e = .returned (.tuple #[.slice A n c, .int .i64 e0]) ∧ Byt w' A n c l ∧ (∀ g off, A = some ⟨g, off, none⟩ → w.heap.size ≤ g ∧ w'.frozen? ⟨g, off, none⟩ = false) ∧ Below w.heap.size w w'

theorem hasD_read (h : Has B ((dsk b s).star R) w) (n : Int) : Calls Try.prog 14 #[.pointer (some ⟨b, 0, none⟩), .int .i64 n] w (RetRd (s.rBytes n) (s.rErr n) w) := by
  obtain ⟨F, mb, A, c, hd⟩ := h.one
  by_cases h1 : n < 0 ∨ (s.num : Int) ≤ n
  · have e1 : s.rErr n = 1 := by unfold St.rErr; rw [if_pos h1]
    have e2 : s.rBytes n = [] := by unfold St.rBytes; rw [e1]; rfl
    rw [e1, e2]
    exact (read_bad w F b mb A c s hd n h1).mono fun e w' ⟨he, hw⟩ => ⟨none, 0, 0, he, Byt.nil _, (fun _ _ q => nomatch q), by rw [← hw]; exact Below.refl _ _⟩
  · obtain ⟨j, rfl⟩ := Int.eq_ofNat_of_zero_le (show 0 ≤ n by omega)
    have hj : j < s.num := by omega
    by_cases h2 : s.gone = true
    · have e1 : s.rErr j = 40 := by unfold St.rErr; rw [if_neg h1, if_pos h2]
      have e2 : s.rBytes j = [] := by unfold St.rBytes; rw [e1]; rfl
      rw [e1, e2]
      exact (read_down w F b mb A c s hd j hj h2).mono fun e w' ⟨he, hw⟩ => ⟨none, 0, 0, he, Byt.nil _, (fun _ _ q => nomatch q), by rw [← hw]; exact Below.refl _ _⟩
    · have h2' : s.gone = false := by simpa using h2
      have e1 : s.rErr j = 0 := by unfold St.rErr; rw [if_neg h1, if_neg h2]
      have e2 : s.rBytes j = s.now j := by unfold St.rBytes; rw [if_pos e1]; rfl
      rw [e1, e2]
      refine (read_ok w F b mb A c s hd j hj h2').mono fun e w' ⟨g, hg, he, hb, hbel⟩ => ⟨some ⟨g, 0, none⟩, 256, 256, he, Byt.sec hb (hd.ok.now j), fun g' off' q => ?_, hbel⟩
      injection q with q
      injection q with q1 q2
      subst q1 q2
      exact ⟨hg, hb.frz 0⟩

/-- A new disk beside the old things. -/
def RetNewHas (s : St) (B : Nat) (R : Res) (w : World) (e : Ending) (w' : World) : Prop := ∃ b, e = .returned (.pointer (some ⟨b, 0, none⟩)) ∧ Has B ((dsk b s).star R) w' ∧ Below w.heap.size w w'

theorem hasD_crash {S : Res} (h : Has B ((dsk b s).star R) w) (hS : Has B S w) (hB : B ≤ w.heap.size) (KA : Option Addr) (kn kc : Nat) (c : Crs) (hk : Nts w KA kn kc c.keep) (hcut : -9223372036854775808 ≤ c.cut ∧ c.cut ≤ 9223372036854775807) :
    Calls Try.prog 23 #[.pointer (some ⟨b, 0, none⟩), .agg (crsV KA kn kc c)] w (RetNewHas (s.crash c) B S w) := by
  obtain ⟨F, mb, A, ca, hd⟩ := h.one
  exact (crash_any w F b mb A ca s hd KA kn kc c hk hcut).mono fun e w' ⟨b', he, his, hbel⟩ => ⟨b', he, hS.new hB hbel his, hbel⟩

theorem hasD_new (hS : Has B R w) (hB : B ≤ w.heap.size) (n : Nat) (hn : 1 ≤ n ∧ n ≤ 4096) :
    Calls Try.prog 9 #[.int .i64 n] w (fun e w' => ∃ b, e = .returned (.tuple #[.pointer (some ⟨b, 0, none⟩), .int .i64 0]) ∧ Has B ((dsk b (St.new n)).star R) w' ∧ Below w.heap.size w w') :=
  (new_any n hn w).mono fun e w' ⟨b', he, his, hbel⟩ => ⟨b', he, hS.new hB hbel his, hbel⟩
end
end Go.Proofs.Ytomhofppcogojaa

/- stamp.Put and Get at a disk among other things: what they answer, what becomes of the disk. -/
namespace Go.Proofs.Ytomhofppcogojaa
open Go.RowKit

/-- What Put answers, and leaves. -/
def putE (s : St) (n : Int) (p : List Int) : Int := if 254 < p.length then 12 else if s.rErr n ≠ 0 then s.rErr n else s.wErr n (wrapL (nextOf (s.rBytes n)) p)
def putS (s : St) (n : Int) (p : List Int) : St := if 254 < p.length then s else if s.rErr n ≠ 0 then s else s.write n (wrapL (nextOf (s.rBytes n)) p)
/-- What Get answers. -/
def getE (s : St) (n : Int) : Int := if s.rErr n ≠ 0 then s.rErr n else openE (s.rBytes n)
def getB (s : St) (n : Int) : List Int := if s.rErr n ≠ 0 then [] else openB (s.rBytes n)

theorem rErr_cases (s : St) (n : Int) : s.rErr n = 0 ∨ s.rErr n = 1 ∨ s.rErr n = 40 := by unfold St.rErr; split <;> (try split) <;> simp
theorem rBytes_sec {s : St} (ok : s.Ok) {n : Int} (h : s.rErr n = 0) : Sec (s.rBytes n) := by
  unfold St.rBytes
  rw [if_pos h]
  exact ok.now _
theorem rErr_num {s : St} {n : Int} (h : s.rErr n = 0) : 0 ≤ n ∧ n < s.num ∧ s.gone = false := by
  unfold St.rErr at h
  split at h
  · omega
  · split at h
    · omega
    · rename_i h1 h2
      exact ⟨by omega, by omega, by simpa using h2⟩

section
variable {B : Nat} {R : Res} {w : World} {b : Nat} {s : St}

set_option maxHeartbeats 2000000 in
theorem stPut_any (h : Has B ((dsk b s).star R) w) (hB : B ≤ w.heap.size) (A : Option Addr) (m c : Nat) (p : List Int) (hp : Byt w A m c p) (n : Int) (hn : -9223372036854775808 ≤ n ∧ n ≤ 9223372036854775807) (hlim : s.pend.length < 999999) :
    Calls Try.prog 29 #[.pointer (some ⟨b, 0, none⟩), .int .i64 n, .slice A m c] w (RetHas (.int .i64 (putE s n p)) B ((dsk b (putS s n p)).star R) w) := by
  have hcap := hp.cap
  have hmax := hp.max
  unfold maxLen at hmax
  have hpl := hp.len
  by_cases h1 : 254 < m
  · have E : Hid (putE s n p = 12 ∧ putS s n p = s) := Lib.hid ⟨by unfold putE; rw [if_pos (by omega)], by unfold putS; rw [if_pos (by omega)]⟩
    have H := Lib.hid h
    rw [E.out.1, E.out.2]
    clear hp h E hpl
    go_enter Try.func29, Try.ntmps29
    go_wp2_with fail
    go_ret
    exact ⟨rfl, H.out, Below.refl _ _⟩
  · have CR := Lib.hid (hasD_read h n)
    obtain ⟨r, hr⟩ : ∃ r, s.rErr n = r := ⟨_, rfl⟩
    by_cases h2 : r = 0
    · subst h2
      have E : Hid (putE s n p = s.wErr n (wrapL (nextOf (s.rBytes n)) p) ∧ putS s n p = s.write n (wrapL (nextOf (s.rBytes n)) p)) := Lib.hid ⟨by unfold putE; rw [if_neg (by omega), if_neg (by omega)], by unfold putS; rw [if_neg (by omega), if_neg (by omega)]⟩
      rw [E.out.1, E.out.2]
      rw [hr] at CR
      have HS := Lib.hid (rBytes_sec (hasD_ok h) hr)
      have H := Lib.hid h
      have HP := Lib.hid hp
      have HPL := Lib.hid hpl
      obtain ⟨l, hl⟩ : ∃ l, s.rBytes n = l := ⟨_, rfl⟩
      rw [hl] at CR HS ⊢
      clear hp h E hpl hr hl
      go_enter Try.func29, Try.ntmps29
      go_wp2_with fail
      refine CR.out.mono ?_
      rintro e w1 ⟨A1, n1, c1, rfl, hb1, _, hbel1⟩
      obtain rfl : n1 = 256 := by rw [← hb1.len]; exact HS.out.1
      have CF := Lib.hid (free_any A1 c1 l w1 hb1)
      have hrg := nextOf_rng l
      have CS := Lib.hid (stamped_any (nextOf l) (by omega) A m c p w1 (HP.out.below hbel1) (by omega))
      have HB1 := Lib.hid hbel1
      have hc1 := hb1.cap
      have hm1 := hb1.max
      unfold maxLen at hm1
      clear hb1 hbel1 CR hrg
      go_wp2_with fail
      refine CF.out.mono ?_
      rintro e w2 ⟨rfl, rfl⟩
      go_wp2_with fail
      refine CS.out.mono ?_
      rintro e w3 ⟨g, hg, rfl, hb3, hbel3⟩
      have hrg := nextOf_rng l
      have HB3 : Hid (Below w.heap.size w w3) := Lib.hid (HB1.out.trans (hbel3.mono HB1.out.size))
      have CW := Lib.hid (hasD_write H.out HB3.out hB (Byt.sec hb3 (wrapL_sec (by omega) HP.out.rng (by rw [HPL.out]; omega))) (fun k hk => by
        simp [Value.ownBlock] at hk
        subst hk
        exact Nat.le_trans HB1.out.size hg) n hn hlim)
      clear hb3 hbel3 hg hrg CS CF
      go_wp2_with fail
      refine CW.out.mono ?_
      rintro e w4 ⟨rfl, h4, hb4⟩
      have R4 : Hid (Has B ((dsk b (s.write n (wrapL (nextOf l) p))).star R) w4 ∧ Below B w w4) := Lib.hid ⟨h4, (HB3.out.mono hB).trans hb4⟩
      clear h4 hb4 CW
      go_wp2_with fail
      go_ret
      exact ⟨rfl, R4.out.1, R4.out.2⟩
    · have E : Hid (putE s n p = r ∧ putS s n p = s) := Lib.hid ⟨by unfold putE; rw [if_neg (by omega), if_pos (by omega), hr], by unfold putS; rw [if_neg (by omega), if_pos (by omega)]⟩
      rw [E.out.1, E.out.2]
      rw [hr] at CR
      have hd : (r != 0) = true := by simpa using h2
      have H := Lib.hid h
      clear hp h E hpl hr
      go_enter Try.func29, Try.ntmps29
      go_wp2_with fail
      refine CR.out.mono ?_
      rintro e w1 ⟨A1, n1, c1, rfl, hb1, _, hbel1⟩
      have HB1 := Lib.hid hbel1
      clear hb1 hbel1
      go_wp2_with fail
      go_ret
      exact ⟨rfl, H.out.below HB1.out, HB1.out.mono hB⟩

/-- The bytes beside the disk. -/
theorem row_beside {S : Res} {w' : World} {A : Option Addr} {n c : Nat} {l : List Int} (h : Has B S w) (hB : B ≤ w.heap.size) (hb : Below w.heap.size w w')
    (ho : w'.ownsRow w.heap.size 5 1 (.slice A n c) n (l.map (Value.int .u8))) : Has B ((rowOf 5 (.slice A n c) n l).star S) w' :=
  h.new hB hb ⟨owns_low ho (Nat.zero_le _), fun k hk => ho.lt k hk, fun _ f => f.2⟩
theorem row_byt {S : Res} {A : Option Addr} {n c : Nat} {l : List Int} (h : Has B ((rowOf 5 (.slice A n c) n l).star S) w) (hr : ∀ x ∈ l, 0 ≤ x ∧ x < 256) : Byt w A n c l := by
  obtain ⟨F, hF⟩ := h.fst.ex
  exact Byt.of_own hF.1 hr
end

/-- Put at no disk. -/
theorem stPut_nil (w : World) (n : Int) : Calls Try.prog 29 #[.pointer none, .int .i64 n, .slice none 0 0] w (Same (.int .i64 2) w) := by
  have CR := Lib.hid (read_nil w n)
  go_enter Try.func29, Try.ntmps29
  go_wp2_with fail
  refine CR.out.mono ?_
  rintro e w1 ⟨rfl, rfl⟩
  go_wp2_with fail
  go_ret
  exact ⟨rfl, rfl⟩
end Go.Proofs.Ytomhofppcogojaa

/- 'append(out, xs...)' of slices of ints onto a row of the call's own. No program's function is named; no condition. -/
namespace Go.Proofs.Ytomhofppcogojaa
open Go.RowKit

theorem bslice_noints (w : World) : (Instr.buildSlice 50 0 #[]).run Try.prog w = .ok (.slice (some ⟨w.heap.size, 0, none⟩) 0 0) (w.alloc (.cells #[] 3)) := by
  obtain ⟨i0, hi, hz0, hz1, hz2⟩ := info_parts info_int
  simp [Instr.buildSlice, run_underlying (P := Try.prog) Try.underlying50, sizeOf, typeInfo, hi, Instr.fill, newRow, Result.andThen, range_none]

theorem run_append_nocap {P : Program} {w : World} (base : Nat) (t ty e : TypeId) (i : TypeInfo) (size : Nat) (ht : P.underlying t = some (.slice e)) (hi : P.info? e = some i)
    (v : Value) (n c : Nat) (xs : List Value) (hown : w.ownsRow base e size v n xs) :
    (Builtin.append_ #[t, t] ty #[v, .slice none 0 c]).run P w = .ok v w := by
  rcases hown.2 with ⟨rfl, rfl⟩ | ⟨g, cap, cur, rfl, _, _, hnc, _⟩
  · simp [Builtin.append_, run_underlying ht, sizeOf, typeInfo, hi, Builtin.lenOf, Builtin.firstCells]
  · simp [Builtin.append_, run_underlying ht, sizeOf, typeInfo, hi, Builtin.lenOf, Builtin.firstCells, hnc, storeCells]

theorem i64_one (l : List Int) : ∀ u ∈ l.map (Value.int .i64), u.oneCell' = true := by
  intro u hu
  obtain ⟨x, _, rfl⟩ := List.mem_map.1 hu
  rfl

/-- 'append(out, xs...)': out a row of the call's own, xs any slice of ints. -/
theorem wp_append_nts {P : Program} {w : World} {o : Oper} {a : Act} {K : Act → World → Prop} {Q : Exit → Act → World → Prop} (s x : Operand) (t : TypeId)
    (ho : o.op = .call { callee := .builtin .append, args := #[s, x], argTypes := #[t, t] })
    (base : Nat) (e : TypeId) (i : TypeInfo) (ht : P.underlying t = some (.slice e)) (hi : P.info? e = some i) (hz : i.zero = some (.int .i64 0)) (hsize : i.size = 1) (hby : i.bytes = 8)
    (v : Value) (k : Nat) (xs : List Int) (hs : a.eval s = v) (hown : w.ownsRow base e 1 v k (xs.map (Value.int .i64)))
    (A : Option Addr) (n c : Nat) (l : List Int) (hx : a.eval x = .slice A n c) (hl : Nts w A n c l)
    (hbytes : k + n ≤ 10000000000) (hbase : base ≤ w.heap.size)
    (h : ∀ A' c' w', w'.ownsRow base e 1 (.slice A' (k + n) c') (k + n) ((xs ++ l).map (Value.int .i64)) → w.grownBy w' v.ownBlock → K (a.put o.dst (.slice A' (k + n) c')) w') : o.wp P a w K Q := by
  have form : ∀ (v' : Value) (w' : World) (m : Nat) (ys : List Value), w'.ownsRow base e 1 v' m ys → ∃ A' c', v' = .slice A' m c' := by
    intro v' w' m ys ho'
    rcases ho'.2 with ⟨h1, h2⟩ | ⟨g, cap, _, h1, _⟩
    · subst h2; exact ⟨none, 0, h1⟩
    · exact ⟨_, _, h1⟩
  cases A with
  | none =>
    obtain rfl : n = 0 := by
      by_cases hn : 0 < n
      · obtain ⟨g, off, e1, _⟩ := hl.at_ hn
        cases e1
      · omega
    have hl0 : l = [] := List.eq_nil_of_length_eq_zero hl.len
    subst hl0
    have hrun := run_append_nocap (P := P) (w := w) base t o.type e i 1 ht hi v k c _ hown
    obtain ⟨A', c', rfl⟩ := form _ _ _ _ hown
    have h' := h A' c' w
    simp only [Nat.add_zero, List.append_nil] at h'
    unfold Oper.wp
    simp [execOp, ho, resolve, invoke, builtin, hs, hx, hrun, Result.andThen]
    exact h' hown (World.grownBy.refl w _)
  | some ad =>
    refine wp_append_own w s x t ho base e i (.int .i64 0) 1 8 ht hi hz hsize hby rfl (by decide) v k _ hs hown ad n c (l.map (Value.int .i64)) hx (by simp [hl.len]) (fun j u hu => ?_) (i64_one l) (by unfold maxLen; omega) (by omega) hbase ?_
    · have hj : j < n := by
        have := (List.getElem?_eq_some_iff.1 hu).1
        simpa [hl.len] using this
      obtain ⟨g, off, e1, hc⟩ := hl.at_ (by omega)
      injection e1 with e1
      subst e1
      have hadd : (⟨g, off, none⟩ : Addr).add j = ⟨g, off + j, none⟩ := by unfold Addr.add; split <;> simp_all
      rw [hadd, hc j hj]
      have hjl : j < l.length := by rw [hl.len]; exact hj
      rw [List.getElem?_map, List.getElem?_eq_getElem hjl] at hu
      simp only [Option.map_some, Option.some.injEq] at hu
      rw [← hu]
      simp [List.getD, List.getElem?_eq_getElem hjl]
    intro v' w' h1 h2 _
    obtain ⟨A', c', rfl⟩ := form _ _ _ _ h1
    exact h A' c' w' (by simpa using h1) h2

theorem Nts.of_row {w : World} {base : Nat} {A : Option Addr} {n c : Nat} {e : TypeId} {l : List Int} (h : w.ownsRow base e 1 (.slice A n c) n (l.map (Value.int .i64))) (hl : l.length = n) (hr : ∀ i, i < n → -9223372036854775808 ≤ l.getD i 0 ∧ l.getD i 0 ≤ 9223372036854775807) : Nts w A n c l := by
  rcases h.2 with ⟨hv, h0⟩ | ⟨g, cap, cur, hv, _, _, h1, h2, _⟩
  · injection hv with e1 e2 e3
    subst e1 e3 h0
    exact ⟨hl, Nat.le_refl _, Nat.zero_le _, hr, fun h => absurd h (by omega)⟩
  · injection hv with e1 e2 e3
    subst e1 e3
    refine ⟨hl, h1, h2, hr, fun _ => ⟨g, 0, rfl, fun i hi => ?_⟩⟩
    have := h.cells (g := g) rfl i (.int .i64 (l.getD i 0)) (by
      have hil : i < l.length := by rw [hl]; exact hi
      rw [List.getElem?_map, List.getElem?_eq_getElem hil]
      simp [List.getD, List.getElem?_eq_getElem hil])
    have hadd : (⟨g, 0, none⟩ : Addr).add i = ⟨g, 0 + i, none⟩ := by unfold Addr.add; split <;> simp_all
    rwa [hadd] at this

end Go.Proofs.Ytomhofppcogojaa

/- what the statements remember of four sectors, and the bytes that are wanted, in memory beside a disk; own2. -/
namespace Go.Proofs.Ytomhofppcogojaa
open Go.RowKit

theorem cell_heap {w w' : World} {g off : Nat} (h : w'.heap[g]? = w.heap[g]?) : w'.cell? ⟨g, off, none⟩ = w.cell? ⟨g, off, none⟩ := by
  simp only [World.cell?, h]

theorem Byt.same {w w' : World} {A : Option Addr} {n c : Nat} {l : List Int} (h : Byt w A n c l) (hk : ∀ a, A = some a → w'.heap[a.block]? = w.heap[a.block]?) : Byt w' A n c l :=
  ⟨h.len, h.cap, h.max, h.rng, h.nil_, fun hn => by
    obtain ⟨g, off, e, hc⟩ := h.at_ hn
    exact ⟨g, off, e, fun i hi => (cell_heap (hk _ e)).trans (hc i hi)⟩⟩

/-- A slice that reads as l, its block one of F. -/
def InF (w : World) (F : Nat → Prop) (v : Value) (l : List Int) : Prop := ∃ A n c, v = .slice A n c ∧ Byt w A n c l ∧ ∀ a, A = some a → F a.block
theorem InF.keep {w w' : World} {F : Nat → Prop} {v : Value} {l : List Int} (h : InF w F v l) (hk : ∀ k, F k → w'.heap[k]? = w.heap[k]?) : InF w' F v l := by
  obtain ⟨A, n, c, e, hb, hf⟩ := h
  exact ⟨A, n, c, e, hb.same (fun a ha => hk _ (hf a ha)), hf⟩
theorem InF.mono {w : World} {F G : Nat → Prop} {v : Value} {l : List Int} (h : InF w F v l) (hk : ∀ k, F k → G k) : InF w G v l := by
  obtain ⟨A, n, c, e, hb, hf⟩ := h
  exact ⟨A, n, c, e, hb, fun a ha => hk _ (hf a ha)⟩

section
variable {w w' : World} {F : Nat → Prop} {q : Nat} {vs : Nat → Value} {L : Nat → List Int} {v : Value} {l : List Int} {B : Nat} {S : Res}

theorem byt_nils (w : World) : InF w F (.slice none 0 0) [] := ⟨none, 0, 0, rfl, Byt.nil w, fun _ h => nomatch h⟩

theorem vs_set (vs : Nat → Value) (j : Nat) (hj : j < 4) (u : Value) : (#[vs 0, vs 1, vs 2, vs 3] : Array Value).setIfInBounds j u = #[(fun m => if m = j then u else vs m) 0, (fun m => if m = j then u else vs m) 1, (fun m => if m = j then u else vs m) 2, (fun m => if m = j then u else vs m) 3] := by
  have : j = 0 ∨ j = 1 ∨ j = 2 ∨ j = 3 := by omega
  rcases this with h | h | h | h <;> subst h <;> rfl

end

/-- A list of ints, in new memory. -/
def RetNts (l : List Int) (n : Nat) (w : World) (e : Ending) (w' : World) : Prop := ∃ A c, e = .returned (.slice A n c) ∧ Nts w' A n c l ∧ Below w.heap.size w w'

end Go.Proofs.Ytomhofppcogojaa

/- what the plain disk has behind a write that is made, a synchronization, a crash. No program is named. -/
namespace Go.Proofs.Ytomhofppcogojaa

theorem upd_here (f : Nat → List Int) (n : Nat) (l : List Int) : upd f n l n = l := by unfold upd; rw [if_pos rfl]
theorem upd_ne (f : Nat → List Int) {n m : Nat} (l : List Int) (h : m ≠ n) : upd f n l m = f m := by unfold upd; rw [if_neg h]

section
variable {s : St} {n : Nat} {l : List Int}
theorem wrote_len : (s.wrote n l).pend.length = s.pend.length + 1 := by show (s.pend ++ [_]).length = _; simp
theorem wrote_at (i : Nat) (h : i < s.pend.length) : (s.wrote n l).at_ i = s.at_ i := by
  show (s.pend ++ [_]).getD i _ = s.pend.getD i _
  simp [List.getD, List.getElem?_append_left h]
theorem wrote_last : (s.wrote n l).at_ s.pend.length = (n, l) := by
  show (s.pend ++ [_]).getD s.pend.length _ = _
  simp
theorem wrote_syn : (s.wrote n l).syn = s.syn := St.step_syn s
theorem wrote_upTo : ∀ k, k ≤ s.pend.length → (s.wrote n l).upTo k = s.upTo k
  | 0, _ => wrote_syn
  | k + 1, hk => by
    show upd ((s.wrote n l).upTo k) ((s.wrote n l).at_ k).1 ((s.wrote n l).at_ k).2 = upd (s.upTo k) (s.at_ k).1 (s.at_ k).2
    rw [wrote_upTo k (by omega), wrote_at k (by omega)]
theorem wrote_now : (s.wrote n l).now = upd s.now n l := by
  funext m
  show (s.wrote n l).upTo (s.wrote n l).pend.length m = _
  rw [wrote_len]
  show upd ((s.wrote n l).upTo s.pend.length) ((s.wrote n l).at_ s.pend.length).1 ((s.wrote n l).at_ s.pend.length).2 m = _
  rw [wrote_upTo _ (Nat.le_refl _), wrote_last]
  rfl
theorem synced_now : s.synced.now = s.now := rfl
theorem now_nothing (h : s.pend = []) : s.now = s.syn := by
  funext m
  unfold St.now
  rw [h]
  rfl

/-- A crash behind one write. -/
theorem crash_one (h : s.pend = []) (c : Crs) : ((s.wrote n l).crash c).syn = upd s.syn n (over l (s.syn n) (c.of 1 0)) := by
  have hl : (s.wrote n l).pend.length = 1 := by rw [wrote_len, h]; rfl
  show (s.wrote n l).left_ (c.of (s.wrote n l).pend.length) (s.wrote n l).pend.length = _
  rw [hl]
  have hat : (s.wrote n l).at_ 0 = (n, l) := by
    have := wrote_last (s := s) (n := n) (l := l)
    rwa [h] at this
  show upd ((s.wrote n l).left_ (c.of 1) 0) ((s.wrote n l).at_ 0).1 (over ((s.wrote n l).at_ 0).2 ((s.wrote n l).left_ (c.of 1) 0 ((s.wrote n l).at_ 0).1) (c.of 1 0)) = _
  rw [hat]
  show upd (s.wrote n l).syn n (over l ((s.wrote n l).syn n) (c.of 1 0)) = _
  rw [wrote_syn]
end
end Go.Proofs.Ytomhofppcogojaa

/- what a crash leaves of a sector, in the plain disk: what was synchronized, or one of its writes, or a beginning of the last write over one of these. No program is named. -/
namespace Go.Proofs.Ytomhofppcogojaa

theorem over_none (l m : List Int) : over l m 0 = m := by simp [over]
theorem over_full {l m : List Int} (hl : Sec l) (hm : Sec m) : over l m 256 = l := by
  unfold over
  rw [List.take_of_length_le (by rw [hl.1]; omega), List.drop_of_length_le (by rw [hm.1]; omega), List.append_nil]
theorem over_take {l m : List Int} (hl : Sec l) (k : Nat) (hk : k ≤ 256) : (over l m k).take k = l.take k := by
  unfold over
  have h : (l.take k).length = k := by rw [List.length_take, hl.1]; omega
  rw [List.take_append_of_le_length (by omega), List.take_of_length_le (by omega)]
theorem over_drop {l m : List Int} (hl : Sec l) (k : Nat) (hk : k ≤ 256) : (over l m k).drop k = m.drop k := by
  unfold over
  have h : (l.take k).length = k := by rw [List.length_take, hl.1]; omega
  rw [List.drop_append_of_le_length (by omega), List.drop_of_length_le (by omega), List.nil_append]

theorem left_kept {s : St} (ok : s.Ok) {cut : Nat → Nat} : ∀ k, k ≤ s.pend.length → (∀ i, i < k → cut i = 0 ∨ cut i = 256) → ∀ n, s.left_ cut k n = s.syn n ∨ ∃ i, i < k ∧ (s.at_ i).1 = n ∧ s.left_ cut k n = (s.at_ i).2
  | 0, _, _, _ => .inl rfl
  | k + 1, hk, hc, n => by
    have ih := left_kept ok (cut := cut) k (by omega) (fun i hi => hc i (by omega)) n
    have e : s.left_ cut (k + 1) n = if n = (s.at_ k).1 then over (s.at_ k).2 (s.left_ cut k (s.at_ k).1) (cut k) else s.left_ cut k n := rfl
    rw [e]
    by_cases hn : n = (s.at_ k).1
    · rw [if_pos hn]
      rcases hc k (by omega) with h0 | h0
      · rw [h0, over_none, ← hn]
        rcases ih with q | ⟨i, q1, q2, q3⟩
        · exact .inl q
        · exact .inr ⟨i, by omega, q2, q3⟩
      · rw [h0]
        have h1 := ok.at_ k (by omega)
        have hs : Sec (s.left_ cut k (s.at_ k).1) := by
          rcases left_kept ok (cut := cut) k (by omega) (fun i hi => hc i (by omega)) (s.at_ k).1 with q | ⟨i, q1, _, q3⟩
          · rw [q]; exact ok.syn _
          · rw [q3]; exact (ok.at_ i (by omega)).2
        rw [over_full h1.2 hs]
        exact .inr ⟨k, by omega, hn.symm, rfl⟩
    · rw [if_neg hn]
      rcases ih with q | ⟨i, q1, q2, q3⟩
      · exact .inl q
      · exact .inr ⟨i, by omega, q2, q3⟩

theorem of_whole (c : Crs) (len i : Nat) (h : ¬ (c.torn = true ∧ i + 1 = len)) : c.of len i = 0 ∨ c.of len i = 256 := by
  unfold Crs.of
  rw [if_neg h]
  split
  · exact .inr rfl
  · exact .inl rfl

/-- Where nothing was torn, or not there. -/
theorem leaves_whole {s : St} (ok : s.Ok) (c : Crs) (n : Nat) (h : ∀ j, s.pend.length = j + 1 → (s.at_ j).1 = n → c.torn = false) :
    (s.crash c).now n = s.syn n ∨ ∃ i, i < s.pend.length ∧ (s.at_ i).1 = n ∧ (s.crash c).now n = (s.at_ i).2 := by
  show s.left_ (c.of s.pend.length) s.pend.length n = _ ∨ ∃ i, _ ∧ _ ∧ s.left_ (c.of s.pend.length) s.pend.length n = _
  by_cases h0 : s.pend.length = 0
  · rw [h0]
    exact .inl rfl
  · obtain ⟨j, hj⟩ : ∃ j, s.pend.length = j + 1 := ⟨s.pend.length - 1, by omega⟩
    by_cases ht : c.torn = true
    · have hn : (s.at_ j).1 ≠ n := fun e => by have := h j hj e; rw [this] at ht; cases ht
      rw [hj]
      have e : s.left_ (c.of (j + 1)) (j + 1) n = s.left_ (c.of (j + 1)) j n := by
        show upd _ _ _ n = _
        unfold upd
        rw [if_neg (fun q => hn q.symm)]
      rw [e]
      rcases left_kept ok (cut := c.of (j + 1)) j (by omega) (fun i hi => of_whole c _ i (by omega)) n with q | ⟨i, q1, q2, q3⟩
      · exact .inl q
      · exact .inr ⟨i, by omega, q2, q3⟩
    · exact left_kept ok s.pend.length (Nat.le_refl _) (fun i _ => of_whole c _ i (fun q => ht q.1)) n

/-- Where the last write is torn. -/
theorem leaves_torn {s : St} (ok : s.Ok) (c : Crs) (n j : Nat) (hj : s.pend.length = j + 1) (hn : (s.at_ j).1 = n) (ht : c.torn = true) :
    ((s.crash c).now n).take (clamp c.cut) = (s.at_ j).2.take (clamp c.cut) ∧ (((s.crash c).now n).drop (clamp c.cut) = (s.syn n).drop (clamp c.cut) ∨ ∃ i, i < j ∧ (s.at_ i).1 = n ∧ ((s.crash c).now n).drop (clamp c.cut) = (s.at_ i).2.drop (clamp c.cut)) := by
  have hk := clamp_le c.cut
  have e : (s.crash c).now n = over (s.at_ j).2 (s.left_ (c.of (j + 1)) j n) (clamp c.cut) := by
    show s.left_ (c.of s.pend.length) s.pend.length n = _
    rw [hj]
    show upd _ _ _ n = _
    unfold upd
    rw [if_pos hn.symm, hn]
    congr 1
    unfold Crs.of
    rw [if_pos ⟨ht, rfl⟩]
  have hs := (ok.at_ j (by omega)).2
  rw [e, over_take hs _ hk, over_drop hs _ hk]
  refine ⟨rfl, ?_⟩
  rcases left_kept ok (cut := c.of (j + 1)) j (by omega) (fun i hi => of_whole c _ i (by omega)) n with q | ⟨i, q1, q2, q3⟩
  · exact .inl (by rw [q])
  · exact .inr ⟨i, q1, q2, by rw [q3]⟩
end Go.Proofs.Ytomhofppcogojaa

/- what Put, a synchronization and a crash behind it, and Get make of the plain disk, where all was synchronized. No program is named. -/
namespace Go.Proofs.Ytomhofppcogojaa
open Go.RowKit

/-- Behind k puts, each synchronized, or crashed. -/
structure Pts (s : St) (k : Nat) : Prop where
  num : s.num = 4
  left : s.left = -1
  gone : s.gone = false
  pend : s.pend = []
  syncs : s.syncs ≤ k

theorem Pts.start : Pts (St.new 4) 0 := ⟨rfl, rfl, rfl, rfl, Nat.le_refl _⟩
section
variable {s : St} {k n : Nat} {p : List Int}
theorem Pts.step (h : Pts s k) : s.step = s := by
  have h1 := h.left
  have h2 := h.gone
  unfold St.step
  rw [if_neg (by rw [h2]; simp), if_neg (by omega), if_neg (by omega)]
theorem Pts.can (h : Pts s k) : s.can = true := by
  have h1 := h.left
  have h2 := h.gone
  unfold St.can
  rw [h1, h2]
  rfl
theorem Pts.next (h : Pts s k) : Pts s (k + 1) := ⟨h.num, h.left, h.gone, h.pend, Nat.le_succ_of_le h.syncs⟩
theorem Pts.rd (h : Pts s k) (hn : n < 4) : s.rErr n = 0 ∧ s.rBytes n = s.syn n := by
  have e : s.rErr n = 0 := by
    unfold St.rErr
    rw [if_neg (by rw [h.num]; omega), if_neg (by rw [h.gone]; simp)]
  refine ⟨e, ?_⟩
  unfold St.rBytes
  rw [if_pos e, now_nothing h.pend]
  rfl
theorem Pts.get (h : Pts s k) (hn : n < 4) : getE s n = openE (s.syn n) ∧ getB s n = openB (s.syn n) := by
  obtain ⟨h1, h2⟩ := h.rd hn
  refine ⟨?_, ?_⟩
  · unfold getE
    rw [if_neg (by rw [h1]; simp), h2]
  · unfold getB
    rw [if_neg (by rw [h1]; simp), h2]
/-- The sector that is put. -/
def putL (s : St) (n : Nat) (p : List Int) : List Int := wrapL (nextOf (s.syn n)) p
theorem putL_sec (hp : p.length ≤ 254) (hr : ∀ x ∈ p, 0 ≤ x ∧ x < 256) : Sec (putL s n p) := by
  have := nextOf_rng (s.syn n)
  exact wrapL_sec (by omega) hr hp
theorem putL_right (hp : p.length ≤ 254) : rightL (putL s n p) := right_wrap (nextOf_rng _) hp
theorem Pts.put (h : Pts s k) (hn : n < 4) (hp : p.length ≤ 254) (hr : ∀ x ∈ p, 0 ≤ x ∧ x < 256) : putE s n p = 0 ∧ putS s n p = s.wrote n (putL s n p) := by
  obtain ⟨h1, h2⟩ := h.rd hn
  have hs := putL_sec (s := s) (n := n) hp hr
  have hl : (wrapL (nextOf (s.syn n)) p).length = 256 := hs.1
  have e : ¬ ((n : Int) < 0 ∨ (s.num : Int) ≤ n) := by rw [h.num]; omega
  refine ⟨?_, ?_⟩
  · unfold putE
    rw [if_neg (by omega), if_neg (by rw [h1]; simp), h2]
    unfold St.wErr
    rw [if_neg e, if_neg (by rw [hl]; simp), if_pos h.can]
  · unfold putS
    rw [if_neg (by omega), if_neg (by rw [h1]; simp), h2]
    unfold St.write
    rw [if_neg e, if_neg (by rw [hl]; simp), if_pos h.can]
    rfl
theorem Pts.wrote_can (h : Pts s k) {l : List Int} : (s.wrote n l).can = true := by
  show (_ : Bool) = true
  unfold St.wrote
  rw [h.step]
  exact h.can
theorem Pts.wrote_step (h : Pts s k) {l : List Int} : (s.wrote n l).step = s.wrote n l := by
  have h1 := h.left
  have h2 := h.gone
  have e1 : (s.wrote n l).left = -1 := by unfold St.wrote; rw [h.step]; exact h1
  have e2 : (s.wrote n l).gone = false := by unfold St.wrote; rw [h.step]; exact h2
  unfold St.step
  rw [if_neg (by rw [e2]; simp), if_neg (by omega), if_neg (by omega)]
theorem Pts.sync (h : Pts s k) {l : List Int} : (s.wrote n l).sErr = 0 ∧ Pts (s.wrote n l).sync (k + 1) ∧ (s.wrote n l).sync.syn = upd s.syn n l := by
  have hc := h.wrote_can (n := n) (l := l)
  have e : (s.wrote n l).sync = (s.wrote n l).synced := by unfold St.sync; rw [if_pos hc]
  refine ⟨by unfold St.sErr; rw [if_pos hc], ?_, ?_⟩
  · rw [e]
    unfold St.synced
    rw [h.wrote_step]
    unfold St.wrote
    rw [h.step]
    exact ⟨h.num, h.left, h.gone, rfl, by show s.syncs + 1 ≤ k + 1; have := h.syncs; omega⟩
  · rw [e]
    show (s.wrote n l).now = _
    rw [wrote_now, now_nothing h.pend]
theorem Pts.crash (h : Pts s k) {l : List Int} (c : Crs) : Pts ((s.wrote n l).crash c) (k + 1) ∧ ((s.wrote n l).crash c).syn = upd s.syn n (over l (s.syn n) (c.of 1 0)) := by
  refine ⟨⟨?_, rfl, rfl, rfl, Nat.zero_le _⟩, crash_one h.pend c⟩
  show (s.wrote n l).num = 4
  unfold St.wrote
  rw [h.step]
  exact h.num
theorem Pts.lim (h : Pts s k) (hk : k ≤ 40) {l : List Int} : (s.wrote n l).syncs < 999999 := by
  unfold St.wrote
  rw [h.step]
  have := h.syncs
  show s.syncs < _
  omega

/-- A sector that was put, and torn over what was there. -/
theorem torn_over (hp : p.length ≤ 254) (hr : ∀ x ∈ p, 0 ≤ x ∧ x < 256) (ho : Sec (s.syn n)) (j : Nat) (hj : j ≤ 256) :
    over (putL s n p) (s.syn n) j = s.syn n ∨ over (putL s n p) (s.syn n) j = putL s n p ∨ openE (over (putL s n p) (s.syn n) j) = 50 := by
  have hs := putL_sec (s := s) (n := n) hp hr
  by_cases h0 : j = 0
  · subst h0; exact .inl (over_none _ _)
  · by_cases h1 : j = 256
    · subst h1; exact .inr (.inl (over_full hs ho))
    · refine .inr (.inr (openE_torn (over_sec hs ho j hj).1 ?_))
      exact torn_mix hp ho.1 (nextB_ne _ _).2 j (by omega) (by omega)
end

/-- What is remembered behind a put, against the disk. -/
structure PutsRel (L : Nat → List Int) (s : St) (n : Nat) (falls : Bool) (p : List Int) : Prop where
  others : ∀ m, m < 4 → m ≠ n → L m = openB (s.syn m)
  it : L n = openB (s.syn n) ∨ (falls = true ∧ (openE (s.syn n) = 50 ∨ (openE (s.syn n) = 0 ∧ openB (s.syn n) = padL p)))

theorem PutsRel.sync {L : Nat → List Int} {s : St} {k n : Nat} {p : List Int} (h : Pts s k) (hp : p.length ≤ 254) (hr : ∀ x ∈ p, 0 ≤ x ∧ x < 256) (hL : ∀ m, m < 4 → L m = openB (s.syn m)) :
    PutsRel (fun m => if m = n then padL p else L m) (s.wrote n (putL s n p)).sync n false p := by
  obtain ⟨_, _, e⟩ := h.sync (n := n) (l := putL s n p)
  refine ⟨fun m hm hne => ?_, .inl ?_⟩
  · rw [e, upd_ne _ _ hne]
    simp only [if_neg hne]
    exact hL m hm
  · rw [e, upd_here]
    simp only [if_pos]
    rw [openB_right (putL_sec hp hr).1 (putL_right hp)]
    exact (bodyL_wrap hp).symm
theorem PutsRel.crash {L : Nat → List Int} {s : St} {k n : Nat} {p : List Int} (ok : s.Ok) (h : Pts s k) (hp : p.length ≤ 254) (hr : ∀ x ∈ p, 0 ≤ x ∧ x < 256) (hL : ∀ m, m < 4 → L m = openB (s.syn m)) (hn : n < 4) (c : Crs) :
    PutsRel L ((s.wrote n (putL s n p)).crash c) n true p := by
  obtain ⟨_, e⟩ := h.crash (n := n) (l := putL s n p) c
  refine ⟨fun m hm hne => ?_, ?_⟩
  · rw [e, upd_ne _ _ hne]
    exact hL m hm
  · rw [e, upd_here]
    rcases torn_over hp hr (ok.syn n) (c.of 1 0) (c.of_le 1 0) with q | q | q
    · rw [q]; exact .inl (hL n hn)
    · rw [q]
      refine .inr ⟨rfl, .inr ⟨openE_right (putL_sec hp hr).1 (putL_right hp), ?_⟩⟩
      rw [openB_right (putL_sec hp hr).1 (putL_right hp)]
      exact bodyL_wrap hp
    · exact .inr ⟨rfl, .inl q⟩

theorem openE_two {l : List Int} (h : Sec l) : openE l = 0 ∨ openE l = 50 := by
  unfold openE
  rw [if_neg (by rw [h.1]; simp)]
  split
  · exact .inl rfl
  · exact .inr rfl
theorem openB_len0 {l : List Int} (h : Sec l) (e : openE l = 0) : (openB l).length = 254 := by
  unfold openB
  rw [if_pos e]
  exact bodyL_len h.1
theorem openB_len50 {l : List Int} (e : openE l = 50) : openB l = [] := openB_bad (by rw [e]; simp)

theorem Res.star_assoc {R S T : Res} {w : World} {F : Nat → Prop} (h : ((R.star S).star T).is w F) : (R.star (S.star T)).is w F := by
  obtain ⟨F1, F2, ⟨F3, F4, a1, a2, a3, a4, a5, a6⟩, h2, h3, h4, h5, h6⟩ := h
  refine ⟨F3, fun k => F4 k ∨ F2 k, a1, ⟨F4, F2, a2, h2, fun k f => h3 k (a5 k f), fun _ f => .inl f, fun _ f => .inr f, ?_⟩, ?_, fun k f => h4 k (a4 k f), ?_, h6⟩
  · intro k f
    rcases f with f | f
    · exact a6 k (a5 k f)
    · exact h6 k (h5 k f)
  · intro k f g
    rcases g with g | g
    · exact a3 k f g
    · exact h3 k (a4 k f) g
  · intro k f
    rcases f with f | f
    · exact h4 k (a5 k f)
    · exact h5 k f

/-- The struct that the loop copies, beside the others. -/
theorem toP {B : Nat} {K D H X : Res} {w : World} (h : Has B (K.star (D.star (H.star X))) w) : Has B (D.star (H.star (X.star K))) w := h.sw.map2 (fun _ => Res.star_assoc)
theorem bk_of {B g : Nat} {t : TypeId} {cs : Array Value} {w : World} (h : Has B (blkR g t cs) w) : Bk w g t cs := by
  obtain ⟨F, hF⟩ := h.ex
  exact hF.1
end Go.Proofs.Ytomhofppcogojaa

/- strings as lists of bytes; '[]byte(s)', 'string(b)' and 'append(b, s...)' as the laws on slices of bytes want them. No program's function is named; no condition. -/
namespace Go.Proofs.Ytomhofppcogojaa
open Go.RowKit

/-- A string's bytes as numbers. -/
def nums (s : ByteArray) : List Int := s.data.toList.map fun b => (b.toNat : Int)

theorem nums_rng (s : ByteArray) : ∀ x ∈ nums s, 0 ≤ x ∧ x < 256 := by
  intro x hx
  obtain ⟨b, _, rfl⟩ := List.mem_map.1 hx
  have := b.toNat_lt
  omega

theorem nums_len (s : ByteArray) : (nums s).length = s.size := by
  unfold nums
  rw [List.length_map, Array.length_toList]
  rfl

theorem nums_str (l : List Int) (hr : ∀ x ∈ l, 0 ≤ x ∧ x < 256) : nums (strOfNums l) = l := by
  unfold nums
  rw [strOfNums_data, List.map_map]
  conv => rhs; rw [← List.map_id l]
  refine List.map_congr_left fun x hx => ?_
  have := hr x hx
  simp only [Function.comp, id, UInt8.toNat_ofNat']
  omega

theorem str_nums (s : ByteArray) : strOfNums (nums s) = s := by
  apply ByteArray.ext
  apply Array.ext'
  rw [strOfNums_data]
  unfold nums
  rw [List.map_map]
  conv => rhs; rw [← List.map_id s.data.toList]
  refine List.map_congr_left fun b _ => ?_
  simp [Function.comp]

theorem str_inj {l m : List Int} (hl : ∀ x ∈ l, 0 ≤ x ∧ x < 256) (hm : ∀ x ∈ m, 0 ≤ x ∧ x < 256) (h : strOfNums l = strOfNums m) : l = m := by
  rw [← nums_str l hl, ← nums_str m hm, h]

theorem strCells_nums (s : ByteArray) : Lib.strCells s = (nums s).map (Value.int .u8) := by
  unfold Lib.strCells nums
  rw [List.map_map]
  rfl

theorem nums_getD (s : ByteArray) (j : Nat) (hj : j < s.size) : (nums s).getD j 0 = ((s.data.toList.getD j 0).toNat : Int) := by
  have h : j < s.data.toList.length := by rw [Array.length_toList]; exact hj
  unfold nums
  simp only [List.getD, List.getElem?_map, List.getElem?_eq_getElem h, Option.map_some, Option.getD_some]

theorem bytesWorld_below (w : World) (e : TypeId) (s : ByteArray) : Below w.heap.size w (Lib.bytesWorld w e s) :=
  ⟨rfl, rfl, rfl, by rw [Lib.bytesWorld_size]; omega, fun k hk => Lib.bytesWorld_at_old w e s k hk⟩

/-- '[]byte(s)': new memory that reads as the string's bytes. -/
theorem Byt.ofString (w : World) (e : TypeId) (s : ByteArray) (hs : s.size ≤ maxLen) : Byt (Lib.bytesWorld w e s) (some ⟨w.heap.size, 0, none⟩) s.size (grownCap w s.size 0 e) (nums s) :=
  ⟨nums_len s, grownCap_ge w s.size 0 e, grownCap_le_maxLen w s.size 0 e hs, nums_rng s, (fun h => nomatch h), fun _ => ⟨w.heap.size, 0, rfl, fun i hi => by
    rw [Nat.zero_add, Lib.bytesWorld_cell w e s i hi, nums_getD s i hi]⟩⟩

theorem conv_str (w : World) (s : ByteArray) : (convert 9 35 (.string s)).run Try.prog w = .ok (.slice (some ⟨w.heap.size, 0, none⟩) s.size (grownCap w s.size 0 5)) (Lib.bytesWorld w 5 s) :=
  Lib.run_convert_string_bytes w _ _ _ s Try.underlying9 Try.underlying35 Try.underlying5

/-- 'string(b)': a string of just these bytes; nothing is turned. -/
theorem conv_byt {w : World} {A : Option Addr} {n c : Nat} {l : List Int} (h : Byt w A n c l) : (convert 35 9 (.slice A n c)).run Try.prog w = .ok (.string (strOfNums l)) w := by
  by_cases hn : 0 < n
  · obtain ⟨g, off, rfl, hc⟩ := h.at_ hn
    exact run_convert_bytes_arg w _ _ Try.underlying35 Try.underlying5 g off n c l h.len hc _ Try.underlying9
  · have h0 : n = 0 := by omega
    subst h0
    have e : l = [] := List.eq_nil_of_length_eq_zero h.len
    subst e
    cases A with
    | none => exact run_convert_bytes_nil w _ _ Try.underlying35 Try.underlying5 _ _ _ Try.underlying9
    | some a =>
      rw [run_convert_bytes_string w _ _ _ _ _ _ Try.underlying35 Try.underlying5 Try.underlying9]
      rw [run_bytesToString w a 0 c [] (by simpa using run_loadCells_list (P := Try.prog) w a [] (by simp))]
      rfl

theorem str_size (l : List Int) : (strOfNums l).size = l.length := strOfNums_size l

/-- Where 's[j:..]' begins. -/
def subA (A : Option Addr) (c j : Nat) : Option Addr := if c = j then A else A.map (·.add (j * 1))

/-- 's[j:k]' reads as that part. -/
theorem Byt.sub {w : World} {A : Option Addr} {n c : Nat} {l : List Int} (h : Byt w A n c l) (j k : Nat) (hjk : j ≤ k) (hk : k ≤ n) : Byt w (subA A c j) (k - j) (c - j) ((l.drop j).take (k - j)) := by
  have hcap := h.cap
  have hmax := h.max
  refine ⟨by rw [List.length_take, List.length_drop, h.len]; omega, by omega, by omega, fun x hx => h.rng x (List.mem_of_mem_drop (List.mem_of_mem_take hx)), fun e => ?_, fun hp => ?_⟩
  · have e' : A = none := by
      unfold subA at e
      split at e
      · exact e
      · cases A with
        | none => rfl
        | some a => simp at e
    have := h.nil_ e'
    omega
  · obtain ⟨g, off, h1, hc⟩ := h.at_ (by omega)
    subst h1
    refine ⟨g, off + j, ?_, fun i hi => ?_⟩
    · unfold subA
      rw [if_neg (by omega)]
      simp [Addr.add]
    · rw [Nat.add_assoc, hc (j + i) (by omega)]
      congr 2
      simp [List.getD, hi]

theorem elem25 : Try.prog.elem 35 = 5 := by kernel_rfl
theorem under25 : Try.prog.underlying 35 = some (.slice (Try.prog.elem 35)) := by kernel_rfl

theorem sz_u8 (W : World) : (sizeOf 5).run Try.prog W = .ok 1 W := by
  obtain ⟨i0, hi, hz0, hz1, hz2⟩ := info_parts info_u8
  simp [sizeOf, typeInfo, hi, hz1]

/-- 's[j:k]'. -/
theorem cut_lh {w : World} {A : Option Addr} {n c : Nat} {l : List Int} (h : Byt w A n c l) (j k : Nat) (hjk : j ≤ k) (hk : k ≤ n) (zj zk : Int) (ej : zj = j) (ek : zk = k) :
    ∃ B m d, (∀ v, (Instr.slice 35 (.slice A n c) (some (.int .i64 zj)) (some (.int .i64 zk)) none).run Try.prog v = .ok (.slice B m d) v) ∧ m = k - j ∧ Byt w B m d ((l.drop j).take (k - j)) := by
  have hcap := h.cap
  subst ej ek
  refine ⟨subA A c j, k - j, c - j, fun v => ?_, rfl, h.sub j k hjk hk⟩
  rw [run_slice_lh (P := Try.prog) (w := v) 35 A n c under25 .i64 .i64 j k (by omega) (by omega) (by omega), elem25, sz_u8]
  simp [sliced, Result.andThen, subA]

/-- 's[j:]'. -/
theorem cut_l {w : World} {A : Option Addr} {n c : Nat} {l : List Int} (h : Byt w A n c l) (j : Nat) (hj : j ≤ n) (zj : Int) (ej : zj = j) :
    ∃ B m d, (∀ v, (Instr.slice 35 (.slice A n c) (some (.int .i64 zj)) none none).run Try.prog v = .ok (.slice B m d) v) ∧ m = n - j ∧ Byt w B m d (l.drop j) := by
  have hcap := h.cap
  subst ej
  refine ⟨subA A c j, n - j, c - j, fun v => ?_, rfl, ?_⟩
  · rw [run_slice_l (P := Try.prog) (w := v) 35 A n c under25 .i64 j (by omega) (by omega), elem25, sz_u8]
    simp [sliced, Result.andThen, subA]
  · have := h.sub j n hj (Nat.le_refl _)
    rwa [List.take_of_length_le (by rw [List.length_drop, h.len]; omega)] at this

theorem subA_block {A : Option Addr} {c j : Nat} {a : Addr} (h : subA A c j = some a) : ∃ a', A = some a' ∧ a.block = a'.block := by
  unfold subA at h
  split at h
  · exact ⟨a, h, rfl⟩
  · cases A with
    | none => simp at h
    | some a' =>
      simp at h
      refine ⟨a', rfl, ?_⟩
      rw [← h]
      unfold Addr.add
      split <;> rfl

/-- 's[j:]', and in which block it lies. -/
theorem cut_lb {w : World} {A : Option Addr} {n c : Nat} {l : List Int} (h : Byt w A n c l) (j : Nat) (hj : j ≤ n) (zj : Int) (ej : zj = j) :
    ∃ B m d, (∀ v, (Instr.slice 35 (.slice A n c) (some (.int .i64 zj)) none none).run Try.prog v = .ok (.slice B m d) v) ∧ m = n - j ∧ Byt w B m d (l.drop j) ∧ ∀ a, B = some a → ∃ a', A = some a' ∧ a.block = a'.block := by
  have hcap := h.cap
  subst ej
  refine ⟨subA A c j, n - j, c - j, fun v => ?_, rfl, ?_, fun a ha => subA_block ha⟩
  · rw [run_slice_l (P := Try.prog) (w := v) 35 A n c under25 .i64 j (by omega) (by omega), elem25, sz_u8]
    simp [sliced, Result.andThen, subA]
  · have := h.sub j n hj (Nat.le_refl _)
    rwa [List.take_of_length_le (by rw [List.length_drop, h.len]; omega)] at this

/-- 's[:k]'. -/
theorem cut_h {w : World} {A : Option Addr} {n c : Nat} {l : List Int} (h : Byt w A n c l) (k : Nat) (hk : k ≤ n) (zk : Int) (ek : zk = k) :
    ∃ B d, (∀ v, (Instr.slice 35 (.slice A n c) none (some (.int .i64 zk)) none).run Try.prog v = .ok (.slice B k d) v) ∧ Byt w B k d (l.take k) := by
  have hcap := h.cap
  subst ek
  refine ⟨subA A c 0, c - 0, fun v => ?_, ?_⟩
  · rw [run_slice_h (P := Try.prog) (w := v) 35 A n c under25 .i64 k (by omega) (by omega), elem25, sz_u8]
    simp [sliced, Result.andThen, subA]
  · have := h.sub 0 k (Nat.zero_le _) hk
    simpa using this
end Go.Proofs.Ytomhofppcogojaa

/- plain mathematics of layer 1: digits to the base 128, what is read of them, big-endian bytes. No program is named; no condition. -/
namespace Go.Proofs.Ytomhofppcogojaa

/-- The digits ahead of the last one, 128 added to each. -/
def hiD (n : Nat) : List Int := if _h : n = 0 then [] else hiD (n / 128) ++ [((n : Int) % 128) + 128]
termination_by n
decreasing_by omega

/-- The varint encoding. -/
def shortL (n : Nat) : List Int := hiD (n / 128) ++ [((n : Int) % 128)]

theorem hiD_zero : hiD 0 = [] := by rw [hiD]; simp
theorem hiD_pos {n : Nat} (h : n ≠ 0) : hiD n = hiD (n / 128) ++ [((n : Int) % 128) + 128] := by rw [hiD]; simp [h]

theorem hiD_rng (n : Nat) : ∀ x ∈ hiD n, 128 ≤ x ∧ x < 256 := by
  induction n using Nat.strongRecOn with
  | _ n ih =>
    intro x hx
    by_cases h : n = 0
    · rw [h, hiD_zero] at hx; simp at hx
    · rw [hiD_pos h, List.mem_append] at hx
      rcases hx with hx | hx
      · exact ih (n / 128) (by omega) x hx
      · simp at hx; omega

theorem shortL_rng (n : Nat) : ∀ x ∈ shortL n, 0 ≤ x ∧ x < 256 := by
  intro x hx
  unfold shortL at hx
  rw [List.mem_append] at hx
  rcases hx with hx | hx
  · have := hiD_rng _ x hx; omega
  · simp at hx; omega

theorem hiD_len (n k : Nat) (h : n < 128 ^ k) : (hiD n).length ≤ k := by
  induction k generalizing n with
  | zero =>
    have : n = 0 := by simpa using h
    rw [this, hiD_zero]; simp
  | succ k ih =>
    by_cases h0 : n = 0
    · rw [h0, hiD_zero]; simp
    · rw [hiD_pos h0]
      have := ih (n / 128) (by rw [Nat.pow_succ] at h; omega)
      simp; omega

theorem shortL_len (n : Nat) (h : n < 18446744073709551616) : (shortL n).length ≤ 10 := by
  unfold shortL
  have := hiD_len (n / 128) 9 (by omega)
  simp; omega

theorem shortL_pos (n : Nat) : 0 < (shortL n).length := by unfold shortL; simp

theorem hiD_mono (a : Nat) : ∀ b, a ≤ b → (hiD a).length ≤ (hiD b).length := by
  induction a using Nat.strongRecOn with
  | _ a ih =>
    intro b hab
    by_cases h : a = 0
    · rw [h, hiD_zero]; simp
    · rw [hiD_pos h, hiD_pos (n := b) (by omega)]
      have := ih (a / 128) (by omega) (b / 128) (by omega)
      simp; omega

theorem shortL_mono {a b : Nat} (h : a ≤ b) : (shortL a).length ≤ (shortL b).length := by
  unfold shortL
  have := hiD_mono (a / 128) (b / 128) (by omega)
  simp; omega

theorem short300 : shortL 300 = [130, 44] := by
  unfold shortL
  rw [hiD_pos (by decide), show 300 / 128 / 128 = 0 from rfl, hiD_zero]
  rfl

/-- What is read at the beginning: the number, how many bytes it has, the error's number. n: what is gathered; i: how many bytes are gone through. -/
def takeF : List Int → Nat → Nat → Nat × Nat × Nat
  | [], _, _ => (0, 0, 10)
  | c :: r, n, i => if i = 0 ∧ c = 128 then (0, 0, 11) else if 144115188075855872 ≤ n then (0, 0, 12) else
      if c < 128 then (n * 128 + (c % 128).toNat, i + 1, 0) else takeF r (n * 128 + (c % 128).toNat) (i + 1)

theorem takeF_cons (c : Int) (r : List Int) (n i : Nat) : takeF (c :: r) n i = if i = 0 ∧ c = 128 then (0, 0, 11) else if 144115188075855872 ≤ n then (0, 0, 12) else
      if c < 128 then (n * 128 + (c % 128).toNat, i + 1, 0) else takeF r (n * 128 + (c % 128).toNat) (i + 1) := rfl

/-- The digits of a number are gone through, and what stands behind them is read on. -/
theorem takeF_hiD (m : Nat) (hm : m < 144115188075855872) (rest : List Int) (hd : m = 0 → True) : takeF (hiD m ++ rest) 0 0 = takeF rest m (hiD m).length := by
  induction m using Nat.strongRecOn generalizing rest with
  | _ m ih =>
    by_cases h : m = 0
    · rw [h, hiD_zero]; rfl
    · rw [hiD_pos h, List.append_assoc, ih (m / 128) (by omega) (by omega) _ (fun _ => trivial)]
      have hl : (hiD (m / 128)).length = 0 → m / 128 = 0 := by
        intro hl
        by_cases h0 : m / 128 = 0
        · exact h0
        · rw [hiD_pos h0] at hl; simp at hl
      rw [List.cons_append, List.nil_append, takeF_cons, if_neg (by intro ⟨h1, h2⟩; have := hl h1; omega), if_neg (by omega), if_neg (by omega)]
      have e : m / 128 * 128 + ((((m : Int) % 128) + 128) % 128).toNat = m := by omega
      rw [e, List.length_append]
      congr 1

theorem takeF_short (n : Nat) (hn : n < 18446744073709551616) (rest : List Int) : takeF (shortL n ++ rest) 0 0 = (n, (shortL n).length, 0) := by
  unfold shortL
  rw [List.append_assoc, takeF_hiD _ (by omega) _ (fun _ => trivial)]
  rw [List.cons_append, List.nil_append, takeF_cons, if_neg (by omega), if_neg (by omega), if_pos (by omega)]
  have e : n / 128 * 128 + (((n : Int) % 128) % 128).toNat = n := by omega
  rw [e, List.length_append]
  congr 1

theorem takeF_cut (m : Nat) (hm : m < 144115188075855872) (c : Nat) (hc : c ≤ (hiD m).length) : takeF ((hiD m).take c) 0 0 = (0, 0, 10) := by
  induction m using Nat.strongRecOn generalizing c with
  | _ m ih =>
    by_cases h : m = 0
    · rw [h, hiD_zero]; simp [takeF]
    · by_cases hc1 : c ≤ (hiD (m / 128)).length
      · rw [hiD_pos h, List.take_append_of_le_length hc1]
        exact ih (m / 128) (by omega) (by omega) c hc1
      · have hl : (hiD m).length = (hiD (m / 128)).length + 1 := by rw [hiD_pos h]; simp
        rw [List.take_of_length_le (by omega)]
        have := takeF_hiD m hm [] (fun _ => trivial)
        rw [List.append_nil] at this
        rw [this]; rfl

/-- No beginning of a number's digits is read. -/
theorem takeF_short_cut (n : Nat) (hn : n < 18446744073709551616) (c : Nat) (hc : c < (shortL n).length) : takeF ((shortL n).take c) 0 0 = (0, 0, 10) := by
  unfold shortL at hc ⊢
  simp at hc
  rw [List.take_append_of_le_length (by omega)]
  exact takeF_cut _ (by omega) c (by omega)

/-- What is read is below 2^64, and its digits are just the bytes gone through. -/
theorem takeF_back (l : List Int) (hr : ∀ x ∈ l, 0 ≤ x ∧ x < 256) (done : List Int) (n i : Nat) (hd : done = hiD n) (hi : i = done.length) :
    ∀ z k, takeF l n i = (z, k, 0) → z < 18446744073709551616 ∧ i < k ∧ k ≤ i + l.length ∧ shortL z = (done ++ l).take k := by
  induction l generalizing done n i with
  | nil => intro z k h; simp [takeF] at h
  | cons c r ih =>
    intro z k h
    have hc := hr c (by simp)
    have hr' : ∀ x ∈ r, 0 ≤ x ∧ x < 256 := fun x hx => hr x (by simp [hx])
    rw [takeF_cons] at h
    by_cases h1 : i = 0 ∧ c = 128
    · rw [if_pos h1] at h; simp at h
    rw [if_neg h1] at h
    by_cases h2 : 144115188075855872 ≤ n
    · rw [if_pos h2] at h; simp at h
    rw [if_neg h2] at h
    have hn0 : i = 0 → n = 0 := by
      intro h0
      by_cases hn : n = 0
      · exact hn
      · rw [hd, hiD_pos hn] at hi; simp at hi; omega
    by_cases h3 : c < 128
    · rw [if_pos h3] at h
      simp only [Prod.mk.injEq, and_true] at h
      obtain ⟨hz, hk⟩ := h
      subst hk
      have hz' : z / 128 = n := by omega
      have hzm : ((z : Int) % 128) = c := by omega
      refine ⟨by omega, by omega, by simp, ?_⟩
      unfold shortL
      rw [hz', hzm, ← hd]
      rw [List.take_append, List.take_of_length_le (by omega)]
      have : i + 1 - done.length = 1 := by omega
      rw [this]; simp
    · rw [if_neg h3] at h
      have hne : n * 128 + (c % 128).toNat ≠ 0 := by
        intro h0
        have hn0' : n = 0 := by omega
        have hc0 : c = 128 := by omega
        have : i = 0 := by rw [hi, hd, hn0', hiD_zero]; rfl
        exact h1 ⟨this, hc0⟩
      have hstep : done ++ [c] = hiD (n * 128 + (c % 128).toNat) := by
        rw [hiD_pos hne]
        have e1 : (n * 128 + (c % 128).toNat) / 128 = n := by omega
        have e2 : ((n * 128 + (c % 128).toNat : Nat) : Int) % 128 + 128 = c := by omega
        rw [e1, e2, hd]
      obtain ⟨a1, a2, a3, a4⟩ := ih hr' (done ++ [c]) _ (i + 1) hstep (by simp [hi]) z k h
      refine ⟨a1, by omega, by simp; omega, ?_⟩
      rw [a4]; simp

theorem takeF_read (l : List Int) (hr : ∀ x ∈ l, 0 ≤ x ∧ x < 256) (z k : Nat) (h : takeF l 0 0 = (z, k, 0)) : z < 18446744073709551616 ∧ k ≤ l.length ∧ shortL z = l.take k := by
  obtain ⟨h1, _, h3, h4⟩ := takeF_back l hr [] 0 0 (by rw [hiD_zero]) rfl z k h
  exact ⟨h1, by omega, by simpa using h4⟩

theorem takeF_err (l : List Int) (n i : Nat) : (takeF l n i).2.2 = 0 ∨ (takeF l n i).2.2 = 10 ∨ (takeF l n i).2.2 = 11 ∨ (takeF l n i).2.2 = 12 := by
  induction l generalizing n i with
  | nil => simp [takeF]
  | cons c r ih =>
    rw [takeF_cons]
    by_cases h1 : i = 0 ∧ c = 128
    · rw [if_pos h1]; simp
    rw [if_neg h1]
    by_cases h2 : 144115188075855872 ≤ n
    · rw [if_pos h2]; simp
    rw [if_neg h2]
    by_cases h3 : c < 128
    · rw [if_pos h3]; simp
    · rw [if_neg h3]; exact ih _ _

/-- The big-endian bytes of n, k of them. -/
def wideL : Nat → Nat → List Int
  | 0, _ => []
  | k + 1, n => wideL k (n / 256) ++ [((n : Int) % 256)]

theorem wideL_len (k n : Nat) : (wideL k n).length = k := by
  induction k generalizing n with
  | zero => rfl
  | succ k ih => simp [wideL, ih]

theorem wideL_rng (k n : Nat) : ∀ x ∈ wideL k n, 0 ≤ x ∧ x < 256 := by
  induction k generalizing n with
  | zero => simp [wideL]
  | succ k ih =>
    intro x hx
    rw [wideL, List.mem_append] at hx
    rcases hx with hx | hx
    · exact ih _ x hx
    · simp at hx; omega

theorem wideL_at (k n i : Nat) (h : i < k) : (wideL k n).getD (k - 1 - i) 0 = ((n / 256 ^ i : Nat) : Int) % 256 := by
  induction k generalizing n i with
  | zero => omega
  | succ k ih =>
    cases i with
    | zero => simp [wideL, wideL_len, List.getD]
    | succ i =>
      have hlt : k + 1 - 1 - (i + 1) < (wideL k (n / 256)).length := by rw [wideL_len]; omega
      rw [wideL, List.getD, List.getElem?_append_left hlt]
      have := ih (n / 256) i (by omega)
      rw [List.getD, show k - 1 - i = k + 1 - 1 - (i + 1) from by omega] at this
      rw [this, Nat.div_div_eq_div_mul, Nat.pow_succ, Nat.mul_comm 256]

/-- The number whose big-endian bytes these are. -/
def ofWide (l : List Int) : Nat := l.foldl (fun n c => n * 256 + c.toNat) 0

theorem ofWide_snoc (l : List Int) (c : Int) : ofWide (l ++ [c]) = ofWide l * 256 + c.toNat := by simp [ofWide]

theorem ofWide_wideL (k n : Nat) (h : n < 256 ^ k) : ofWide (wideL k n) = n := by
  induction k generalizing n with
  | zero =>
    have : n = 0 := by simpa using h
    rw [this]; rfl
  | succ k ih =>
    rw [wideL, ofWide_snoc, ih (n / 256) (by rw [Nat.pow_succ] at h; omega)]
    omega

theorem snocRec {α : Type} {p : List α → Prop} (nil : p []) (snoc : ∀ l c, p l → p (l ++ [c])) (l : List α) : p l := by
  have : ∀ n (l : List α), l.length = n → p l := by
    intro n
    induction n with
    | zero => intro l h; rw [List.eq_nil_of_length_eq_zero h]; exact nil
    | succ n ih =>
      intro l h
      have hne : l ≠ [] := by intro e; rw [e] at h; simp at h
      rw [← List.dropLast_concat_getLast hne]
      exact snoc _ _ (ih _ (by simp [h]))
  exact this _ l rfl

theorem ofWide_lt (l : List Int) (hr : ∀ x ∈ l, 0 ≤ x ∧ x < 256) : ofWide l < 256 ^ l.length := by
  induction l using snocRec with
  | nil => simp [ofWide]
  | snoc l c ih =>
    have := ih (fun x hx => hr x (by simp [hx]))
    have hc := hr c (by simp)
    rw [ofWide_snoc, List.length_append, List.length_singleton, Nat.pow_succ]
    omega

/-- What bytes are folded to. -/
def foldL (l : List Int) (n : Nat) : Nat := l.foldl (fun v c => (v * 31 + c.toNat) % n) 0

theorem foldL_snoc (l : List Int) (c : Int) (n : Nat) : foldL (l ++ [c]) n = (foldL l n * 31 + c.toNat) % n := by simp [foldL]

theorem foldL_lt (l : List Int) (n : Nat) (h : 0 < n) : foldL l n < n := by
  induction l using snocRec with
  | nil => exact h
  | snoc l c _ => rw [foldL_snoc]; exact Nat.mod_lt _ h

theorem foldL_step (l : List Int) (n k : Nat) (h : k < l.length) : foldL (l.take (k + 1)) n = (foldL (l.take k) n * 31 + (l.getD k 0).toNat) % n := by
  rw [List.take_succ_eq_append_getElem h, foldL_snoc]
  simp [List.getD, List.getElem?_eq_getElem h]
end Go.Proofs.Ytomhofppcogojaa

/- num.TakeShort and trothref01.TakeShort answer what 'takeF' reads of the bytes, and write nothing. -/
namespace Go.Proofs.Ytomhofppcogojaa
open Go.RowKit

def Take3 (k : IntKind) (l : List Int) (w : World) (e : Ending) (w' : World) : Prop :=
  e = .returned (.tuple #[.int .u64 ((takeF l 0 0).1 : Int), .int .i64 ((takeF l 0 0).2.1 : Int), .int k ((takeF l 0 0).2.2 : Int)]) ∧ ∃ m, w' = w.drewN m

theorem take3_of {k : IntKind} {l : List Int} {w w' : World} {a b c : Nat} {x y z : Int} (h : takeF l 0 0 = (a, b, c)) (hx : x = a) (hy : y = b) (hz : z = c) (hw : ∃ m, w' = w.drewN m) :
    Take3 k l w (.returned (.tuple #[.int .u64 x, .int .i64 y, .int k z])) w' := by
  subst hx hy hz
  exact ⟨by rw [h], hw⟩

/-- One step: what is read from place k on. -/
theorem takeF_at {l : List Int} {k m : Nat} (h : k < l.length) (e : takeF l 0 0 = takeF (l.drop k) m k) : takeF l 0 0 = if k = 0 ∧ l.getD k 0 = 128 then (0, 0, 11) else if 144115188075855872 ≤ m then (0, 0, 12) else
      if l.getD k 0 < 128 then (m * 128 + (l.getD k 0 % 128).toNat, k + 1, 0) else takeF (l.drop (k + 1)) (m * 128 + (l.getD k 0 % 128).toNat) (k + 1) := by
  rw [e, List.drop_eq_getElem_cons h, takeF_cons]
  have : l.getD k 0 = l[k] := by simp [List.getD, List.getElem?_eq_getElem h]
  rw [this]

set_option maxHeartbeats 1000000 in
theorem numTake_rows (g off n c : Nat) (l : List Int) (w : World) (h : Byt w (some ⟨g, off, none⟩) n c l) (hn : 0 < n) :
    Calls Try.prog 77 #[.slice (some ⟨g, off, none⟩) n c] w (Take3 .i64 l w) := by
  have hc0 : ∀ i, i < n → w.cell? ⟨g, off + i, none⟩ = some (.int .u8 (l.getD i 0)) := by
    obtain ⟨g1, o1, e, hc⟩ := h.at_ hn
    injection e with e; injection e with e1 e2; subst e1; subst e2
    exact hc
  have hcap := h.cap
  have hmax := h.max
  unfold maxLen at hmax
  have HL := Lib.hid h.len
  have HR := Lib.hid h.lt_
  have HC := Lib.hid hc0
  clear hc0 h
  go_enter Try.func77, Try.ntmps77
  go_wp2_with fail
  go_loop [5, 10] (fun s i => ∃ k m : Nat, k ≤ n ∧ m < 18446744073709551616 ∧ s = .int .u64 m ∧ i = .int .i64 k ∧ takeF l 0 0 = takeF (l.drop k) m k) (fun _ i => n - (intOf i).toNat)
  case atStart => exact ⟨0, 0, Nat.zero_le _, by omega, rfl, rfl, rfl⟩
  case round =>
    obtain ⟨k, m, hk, hm, rfl, rfl, ht⟩ := hrel
    have HT := Lib.hid ht
    clear ht
    by_cases hlt : k < n
    · have hx := HC.out k hlt
      have hr := HR.out k hlt
      have T := Lib.hid (takeF_at (by rw [HL.out]; exact hlt) HT.out)
      obtain ⟨x, ex⟩ : ∃ x, x = l.getD k 0 := ⟨_, rfl⟩
      rw [← ex] at hx hr T
      clear ex
      obtain ⟨hr0, hr1⟩ := hr
      by_cases h1 : k = 0 ∧ x = 128
      · obtain ⟨rfl, rfl⟩ := h1
        have T1 := T.out
        rw [if_pos ⟨rfl, rfl⟩] at T1
        have T2 := Lib.hid T1
        clear T1
        have hx' : w.cell? ⟨g, off, none⟩ = some (.int .u8 128) := hx
        clear hx
        go_wp2_with fail
        refine bodyPost_ret (results_tmp3 rfl _ _ _) rfl ?_
        exact take3_of T2.out rfl rfl rfl ⟨0, rfl⟩
      · have T1 := T.out
        rw [if_neg h1] at T1
        have HK := Lib.hid hk
        clear hk
        have two : ∀ {p : Prop}, (k = 0 → (x == 128) = false → p) → (((k : Int) == 0) = false → p) → p := by
          intro p a b
          by_cases h : k = 0
          · exact a h (by simp; intro e; exact h1 ⟨h, e⟩)
          · exact b (by simp; omega)
        clear h1
        have HX := Lib.hid hx
        clear hx
        by_cases h2 : 144115188075855872 ≤ m
        · rw [if_pos h2] at T1
          have T2 := Lib.hid T1
          have e2 : ((m : Int) / 144115188075855872 != 0) = true := by simp; omega
          clear T1 T h2 HT
          refine two ?_ ?_
          · rintro rfl hx1
            have hx := HX.out
            rw [Nat.add_zero] at hx
            clear two
            go_wp2_with fail
            refine bodyPost_ret (results_tmp3 rfl _ _ _) rfl ?_
            exact take3_of T2.out rfl rfl rfl ⟨0, rfl⟩
          · intro hk0
            have hx := HX.out
            clear two
            go_wp2_with fail
            refine bodyPost_ret (results_tmp3 rfl _ _ _) rfl ?_
            exact take3_of T2.out rfl rfl rfl ⟨0, rfl⟩
        · rw [if_neg h2] at T1
          have hm2 : (m : Int) < 144115188075855872 := by omega
          have e2 : ((m : Int) / 144115188075855872 != 0) = false := by simp; omega
          clear T HT h2
          by_cases h3 : x < 128
          · rw [if_pos h3] at T1
            have T2 := Lib.hid T1
            clear T1
            refine two ?_ ?_
            · rintro rfl hx1
              have hx := HX.out
              rw [Nat.add_zero] at hx
              clear two
              go_wp2_with fail
              refine bodyPost_ret (results_tmp3 rfl _ _ _) rfl ?_
              exact take3_of T2.out (by omega) (by omega) rfl ⟨0, rfl⟩
            · intro hk0
              have hx := HX.out
              clear two
              go_wp2_with fail
              refine bodyPost_ret (results_tmp3 rfl _ _ _) rfl ?_
              exact take3_of T2.out (by omega) (by omega) rfl ⟨0, rfl⟩
          · rw [if_neg h3] at T1
            have T2 := Lib.hid T1
            clear T1
            refine two ?_ ?_
            · rintro rfl hx1
              have hx := HX.out
              rw [Nat.add_zero] at hx
              clear two
              go_wp2_with fail
              have hk := HK.out
              go_round
              case rel => exact ⟨0 + 1, m * 128 + (x % 128).toNat, by omega, by omega, by congr 1; omega, by go_num, T2.out⟩
              case measure => simp [intOf]; omega
            · intro hk0
              have hx := HX.out
              clear two
              go_wp2_with fail
              have hk := HK.out
              go_round
              case rel => exact ⟨k + 1, m * 128 + (x % 128).toNat, by omega, by omega, by congr 1; omega, by go_num, T2.out⟩
              case measure => simp [intOf]; omega
    · have hkn : k = n := by omega
      subst hkn
      have T1 := HT.out
      rw [List.drop_of_length_le (by rw [HL.out]; omega)] at T1
      have T2 : Hid (takeF l 0 0 = (0, 0, 10)) := T1
      clear T1
      go_wp2_with fail
      refine bodyPost_ret (results_tmp3 rfl _ _ _) rfl ?_
      exact take3_of T2.out rfl rfl rfl ⟨0, rfl⟩

theorem numTake_any (A : Option Addr) (n c : Nat) (l : List Int) (w : World) (h : Byt w A n c l) :
    Calls Try.prog 77 #[.slice A n c] w (Take3 .i64 l w) := by
  by_cases hn : 0 < n
  · obtain ⟨g, off, rfl, _⟩ := h.at_ hn
    exact numTake_rows g off n c l w h hn
  · have h0 : n = 0 := by omega
    subst h0
    have e : l = [] := List.eq_nil_of_length_eq_zero h.len
    subst e
    clear h hn
    go_enter Try.func77, Try.ntmps77
    go_wp2_with fail
    refine wp_loop_rounds 1 ?_
    rw [rounds_succ]
    go_wp2_with fail
    refine bodyPost_ret (results_tmp3 rfl _ _ _) rfl ?_
    exact take3_of (a := 0) (b := 0) (c := 10) rfl rfl rfl rfl ⟨0, rfl⟩

theorem q128 (x : Int) : (18446744073709551615 - x % 128) / 128 = 144115188075855871 := by omega
attribute [local go_sem] q128

set_option maxHeartbeats 1000000 in
theorem refTake_rows (g off n c : Nat) (l : List Int) (w : World) (h : Byt w (some ⟨g, off, none⟩) n c l) (hn : 0 < n) :
    Calls Try.prog 73 #[.slice (some ⟨g, off, none⟩) n c] w (Take3 .i64 l w) := by
  have hc0 : ∀ i, i < n → w.cell? ⟨g, off + i, none⟩ = some (.int .u8 (l.getD i 0)) := by
    obtain ⟨g1, o1, e, hc⟩ := h.at_ hn
    injection e with e; injection e with e1 e2; subst e1; subst e2
    exact hc
  have hcap := h.cap
  have hmax := h.max
  unfold maxLen at hmax
  have HL := Lib.hid h.len
  have HR := Lib.hid h.lt_
  have HC := Lib.hid hc0
  clear hc0 h
  go_enter Try.func73, Try.ntmps73
  go_wp2_with fail
  go_loop [5, 6] (fun s i => ∃ k m : Nat, k ≤ n ∧ m < 18446744073709551616 ∧ s = .int .u64 m ∧ i = .int .i64 k ∧ takeF l 0 0 = takeF (l.drop k) m k) (fun _ i => n - (intOf i).toNat)
  case atStart => exact ⟨0, 0, Nat.zero_le _, by omega, rfl, rfl, rfl⟩
  case round =>
    obtain ⟨k, m, hk, hm, rfl, rfl, ht⟩ := hrel
    have HT := Lib.hid ht
    clear ht
    by_cases hlt : k < n
    · have hx := HC.out k hlt
      have hr := HR.out k hlt
      have T := Lib.hid (takeF_at (by rw [HL.out]; exact hlt) HT.out)
      obtain ⟨x, ex⟩ : ∃ x, x = l.getD k 0 := ⟨_, rfl⟩
      rw [← ex] at hx hr T
      clear ex
      obtain ⟨hr0, hr1⟩ := hr
      by_cases h1 : k = 0 ∧ x = 128
      · obtain ⟨rfl, rfl⟩ := h1
        have T1 := T.out
        rw [if_pos ⟨rfl, rfl⟩] at T1
        have T2 := Lib.hid T1
        clear T1
        have hx' : w.cell? ⟨g, off, none⟩ = some (.int .u8 128) := hx
        clear hx
        go_wp2_with fail
        refine bodyPost_ret (results_tmp3 rfl _ _ _) rfl ?_
        exact take3_of T2.out rfl rfl rfl ⟨0, rfl⟩
      · have T1 := T.out
        rw [if_neg h1] at T1
        have HK := Lib.hid hk
        clear hk
        have two : ∀ {p : Prop}, (k = 0 → (x == 128) = false → p) → (((k : Int) == 0) = false → p) → p := by
          intro p a b
          by_cases h : k = 0
          · exact a h (by simp; intro e; exact h1 ⟨h, e⟩)
          · exact b (by simp; omega)
        clear h1
        have HX := Lib.hid hx
        clear hx
        by_cases h2 : 144115188075855872 ≤ m
        · rw [if_pos h2] at T1
          have T2 := Lib.hid T1
          have e2 : (144115188075855871 : Int) < (m : Int) := by omega
          clear T1 T h2 HT
          refine two ?_ ?_
          · rintro rfl hx1
            have hx := HX.out
            rw [Nat.add_zero] at hx
            clear two
            go_wp2_with fail
            refine bodyPost_ret (results_tmp3 rfl _ _ _) rfl ?_
            exact take3_of T2.out rfl rfl rfl ⟨0, rfl⟩
          · intro hk0
            have hx := HX.out
            clear two
            go_wp2_with fail
            refine bodyPost_ret (results_tmp3 rfl _ _ _) rfl ?_
            exact take3_of T2.out rfl rfl rfl ⟨0, rfl⟩
        · rw [if_neg h2] at T1
          have hm2 : (m : Int) < 144115188075855872 := by omega
          have e2 : ¬ (144115188075855871 : Int) < (m : Int) := by omega
          clear T HT h2
          by_cases h3 : x < 128
          · rw [if_pos h3] at T1
            have T2 := Lib.hid T1
            clear T1
            refine two ?_ ?_
            · rintro rfl hx1
              have hx := HX.out
              rw [Nat.add_zero] at hx
              clear two
              go_wp2_with fail
              refine bodyPost_ret (results_tmp3 rfl _ _ _) rfl ?_
              exact take3_of T2.out (by omega) (by omega) rfl ⟨0, rfl⟩
            · intro hk0
              have hx := HX.out
              clear two
              go_wp2_with fail
              refine bodyPost_ret (results_tmp3 rfl _ _ _) rfl ?_
              exact take3_of T2.out (by omega) (by omega) rfl ⟨0, rfl⟩
          · rw [if_neg h3] at T1
            have T2 := Lib.hid T1
            clear T1
            refine two ?_ ?_
            · rintro rfl hx1
              have hx := HX.out
              rw [Nat.add_zero] at hx
              clear two
              go_wp2_with fail
              have hk := HK.out
              go_round
              case rel => exact ⟨0 + 1, m * 128 + (x % 128).toNat, by omega, by omega, by congr 1; omega, by go_num, T2.out⟩
              case measure => simp [intOf]; omega
            · intro hk0
              have hx := HX.out
              clear two
              go_wp2_with fail
              have hk := HK.out
              go_round
              case rel => exact ⟨k + 1, m * 128 + (x % 128).toNat, by omega, by omega, by congr 1; omega, by go_num, T2.out⟩
              case measure => simp [intOf]; omega
    · have hkn : k = n := by omega
      subst hkn
      have T1 := HT.out
      rw [List.drop_of_length_le (by rw [HL.out]; omega)] at T1
      have T2 : Hid (takeF l 0 0 = (0, 0, 10)) := T1
      clear T1
      go_wp2_with fail
      refine bodyPost_ret (results_tmp3 rfl _ _ _) rfl ?_
      exact take3_of T2.out rfl rfl rfl ⟨0, rfl⟩

theorem refTake_any (A : Option Addr) (n c : Nat) (l : List Int) (w : World) (h : Byt w A n c l) :
    Calls Try.prog 73 #[.slice A n c] w (Take3 .i64 l w) := by
  by_cases hn : 0 < n
  · obtain ⟨g, off, rfl, _⟩ := h.at_ hn
    exact refTake_rows g off n c l w h hn
  · have h0 : n = 0 := by omega
    subst h0
    have e : l = [] := List.eq_nil_of_length_eq_zero h.len
    subst e
    clear h hn
    go_enter Try.func73, Try.ntmps73
    go_wp2_with fail
    refine wp_loop_rounds 1 ?_
    rw [rounds_succ]
    go_wp2_with fail
    refine bodyPost_ret (results_tmp3 rfl _ _ _) rfl ?_
    exact take3_of (a := 0) (b := 0) (c := 10) rfl rfl rfl rfl ⟨0, rfl⟩


/-- The same, what is read being known. -/
theorem numTake_is (A : Option Addr) (n c : Nat) (l : List Int) (x i e : Nat) (w : World) (h : Byt w A n c l) (ht : takeF l 0 0 = (x, i, e)) :
    Calls Try.prog 77 #[.slice A n c] w (Quiet (.tuple #[.int .u64 x, .int .i64 i, .int .i64 e]) w) := by
  refine (numTake_any A n c l w h).mono fun e' w' hq => ?_
  unfold Take3 at hq
  rw [ht] at hq
  exact hq

/-- The same, what is read being known. -/
theorem refTake_is (A : Option Addr) (n c : Nat) (l : List Int) (x i e : Nat) (w : World) (h : Byt w A n c l) (ht : takeF l 0 0 = (x, i, e)) :
    Calls Try.prog 73 #[.slice A n c] w (Quiet (.tuple #[.int .u64 x, .int .i64 i, .int .i64 e]) w) := by
  refine (refTake_any A n c l w h).mono fun e' w' hq => ?_
  unfold Take3 at hq
  rw [ht] at hq
  exact hq
end Go.Proofs.Ytomhofppcogojaa

/- seal.firstNum and firstText answer the number, the text at the beginning of bytes; nothing is turned. -/
namespace Go.Proofs.Ytomhofppcogojaa
open Go.RowKit

/-- A number of at most 'most'. -/
def numF (l : List Int) (most : Int) : Nat × Nat × Nat :=
  if (takeF l 0 0).2.2 ≠ 0 then (0, 0, (takeF l 0 0).2.2) else if most < 0 ∨ most < ((takeF l 0 0).1 : Int) then (0, 0, 12) else ((takeF l 0 0).1, (takeF l 0 0).2.1, 0)

/-- A text of at most 'most' bytes, and how many bytes it has with its length. -/
def textF (l : List Int) (most : Int) : List Int × Nat × Nat :=
  if (numF l most).2.2 ≠ 0 then ([], 0, (numF l most).2.2) else if l.length - (numF l most).2.1 < (numF l most).1 then ([], 0, 10) else ((l.drop (numF l most).2.1).take (numF l most).1, (numF l most).2.1 + (numF l most).1, 0)

theorem numF_ok {l : List Int} (hr : ∀ x ∈ l, 0 ≤ x ∧ x < 256) {most : Int} (h : (numF l most).2.2 = 0) : ((numF l most).1 : Int) ≤ most ∧ (numF l most).2.1 ≤ l.length ∧ shortL (numF l most).1 = l.take (numF l most).2.1 := by
  unfold numF at h ⊢
  split at h
  · rename_i h0; exact absurd h h0
  · rename_i h0
    split at h
    · simp at h
    · rename_i h1
      rw [if_neg h0, if_neg h1]
      have := takeF_read l hr (takeF l 0 0).1 (takeF l 0 0).2.1 (Prod.ext rfl (Prod.ext rfl (by omega)))
      simp only [not_or, Int.not_lt] at h1
      exact ⟨h1.2, this.2.1, this.2.2⟩

set_option maxHeartbeats 1000000 in
theorem firstNum_any (A : Option Addr) (n c : Nat) (l : List Int) (most : Int) (w : World) (h : Byt w A n c l) (hm : -9223372036854775808 ≤ most ∧ most ≤ 9223372036854775807) (x k e : Nat) (hF : numF l most = (x, k, e)) :
    Calls Try.prog 70 #[.slice A n c, .int .i64 most] w (Quiet (.tuple #[.int .i64 x, .int .i64 k, .int .i64 e]) w) := by
  obtain ⟨x0, k0, e0, ht⟩ : ∃ x k e, takeF l 0 0 = (x, k, e) := ⟨_, _, _, rfl⟩
  have hlt : e0 = 0 → x0 < 18446744073709551616 := fun e => (takeF_read l h.rng x0 k0 (by rw [ht, e])).1
  have C := Lib.hid (numTake_is A n c l x0 k0 e0 w h ht)
  have hF' : (if e0 ≠ 0 then (0, 0, e0) else if most < 0 ∨ most < (x0 : Int) then (0, 0, 12) else (x0, k0, 0)) = (x, k, e) := by
    rw [← hF]; unfold numF; rw [ht]
  clear h ht hF
  by_cases h0 : e0 = 0
  · subst h0
    have hx := hlt rfl
    rw [if_neg (by simp)] at hF'
    clear hlt
    by_cases h1 : most < 0
    · rw [if_pos (Or.inl h1)] at hF'
      injection hF' with e1 e2
      injection e2 with e2 e3
      subst e1 e2 e3
      go_enter Try.func70, Try.ntmps70
      go_wp2_with fail
      refine C.out.mono ?_
      rintro e w1 ⟨rfl, m, rfl⟩
      go_wp2_with fail
      go_ret3
      exact ⟨rfl, m, rfl⟩
    · obtain ⟨q, rfl⟩ := Int.eq_ofNat_of_zero_le (Int.not_lt.1 h1)
      obtain ⟨_, hq⟩ := hm
      by_cases h2 : q < x0
      · rw [if_pos (Or.inr (by omega))] at hF'
        injection hF' with e1 e2
        injection e2 with e2 e3
        subst e1 e2 e3
        go_enter Try.func70, Try.ntmps70
        go_wp2_with fail
        refine C.out.mono ?_
        rintro e w1 ⟨rfl, m, rfl⟩
        go_wp2_with fail
        go_ret3
        exact ⟨rfl, m, rfl⟩
      · rw [if_neg (by omega)] at hF'
        injection hF' with e1 e2
        injection e2 with e2 e3
        subst e1 e2 e3
        go_enter Try.func70, Try.ntmps70
        go_wp2_with fail
        refine C.out.mono ?_
        rintro e w1 ⟨rfl, m, rfl⟩
        go_wp2_with fail
        go_ret3
        exact ⟨rfl, m, rfl⟩
  · rw [if_pos h0] at hF'
    injection hF' with e1 e2
    injection e2 with e2 e3
    subst e1 e2 e3
    have hne : ((e0 : Int) != 0) = true := by simp; omega
    clear hlt h0
    go_enter Try.func70, Try.ntmps70
    go_wp2_with fail
    refine C.out.mono ?_
    rintro e w1 ⟨rfl, m, rfl⟩
    go_wp2_with fail
    go_ret3
    exact ⟨rfl, m, rfl⟩

/-- A slice, a number and an error. -/
def Ret3 (l : List Int) (u e0 : Nat) (w : World) (e : Ending) (w' : World) : Prop :=
  ∃ A n c, e = .returned (.tuple #[.slice A n c, .int .i64 u, .int .i64 e0]) ∧ Byt w' A n c l ∧ Below w.heap.size w w'

/-- The same of a call that draws at most. -/
def Ret3Q (l : List Int) (u e0 : Nat) (w : World) (e : Ending) (w' : World) : Prop :=
  ∃ A n c, e = .returned (.tuple #[.slice A n c, .int .i64 u, .int .i64 e0]) ∧ Byt w A n c l ∧ ∃ m, w' = w.drewN m

set_option maxHeartbeats 1000000 in
theorem firstText_quiet (A : Option Addr) (n c : Nat) (l : List Int) (most : Int) (w : World) (h : Byt w A n c l) (hm : -9223372036854775808 ≤ most ∧ most ≤ 9223372036854775807) (b : List Int) (u e : Nat) (hF : textF l most = (b, u, e)) :
    Calls Try.prog 83 #[.slice A n c, .int .i64 most] w (Ret3Q b u e w) := by
  obtain ⟨x0, k0, e0, ht⟩ : ∃ x k e, numF l most = (x, k, e) := ⟨_, _, _, rfl⟩
  have hok := fun e => numF_ok h.rng (most := most) e
  rw [ht] at hok
  have C := Lib.hid (firstNum_any A n c l most w h hm x0 k0 e0 ht)
  have hF' : (if e0 ≠ 0 then ([], 0, e0) else if l.length - k0 < x0 then ([], 0, 10) else ((l.drop k0).take x0, k0 + x0, 0)) = (b, u, e) := by
    rw [← hF]; unfold textF; rw [ht]
  have hlen := h.len
  have hcap := h.cap
  have hmax := h.max
  unfold maxLen at hmax
  clear ht hF
  by_cases h0 : e0 = 0
  · subst h0
    obtain ⟨hx, hk, _⟩ := hok rfl
    simp only at hx hk
    rw [if_neg (by simp)] at hF'
    clear hok
    by_cases h2 : n - k0 < x0
    · rw [if_pos (by omega)] at hF'
      injection hF' with e1 e2
      injection e2 with e2 e3
      subst e1 e2 e3
      clear h
      have hkn : k0 ≤ n := by omega
      go_enter Try.func83, Try.ntmps83
      go_wp2_with fail
      refine C.out.mono ?_
      rintro e w1 ⟨rfl, m, rfl⟩
      go_wp2_with fail
      go_ret3
      exact ⟨none, 0, 0, rfl, Byt.nil _, _, rfl⟩
    · rw [if_neg (by omega)] at hF'
      injection hF' with e1 e2
      injection e2 with e2 e3
      subst e1 e2 e3
      have hkn : k0 ≤ n := by omega
      obtain ⟨B, m, d, hs, hmd, hb⟩ := cut_lh h k0 (k0 + x0) (by omega) (by omega) (k0 : Int) ((k0 : Int) + (x0 : Int)) rfl (by omega)
      rw [Nat.add_sub_cancel_left] at hmd hb
      have HB := Lib.hid hb
      clear h hb hmd
      go_enter Try.func83, Try.ntmps83
      go_wp2_with fail
      refine C.out.mono ?_
      rintro e w1 ⟨rfl, j, rfl⟩
      go_wp2_with fail
      go_ret3
      exact ⟨B, m, d, rfl, HB.out, j, rfl⟩
  · rw [if_pos h0] at hF'
    injection hF' with e1 e2
    injection e2 with e2 e3
    subst e1 e2 e3
    have hne : ((e0 : Int) != 0) = true := by simp; omega
    clear h0 hok
    go_enter Try.func83, Try.ntmps83
    go_wp2_with fail
    refine C.out.mono ?_
    rintro e w1 ⟨rfl, m, rfl⟩
    go_wp2_with fail
    go_ret3
    exact ⟨none, 0, 0, rfl, Byt.nil _, _, rfl⟩

theorem firstText_any (A : Option Addr) (n c : Nat) (l : List Int) (most : Int) (w : World) (h : Byt w A n c l) (hm : -9223372036854775808 ≤ most ∧ most ≤ 9223372036854775807) (b : List Int) (u e : Nat) (hF : textF l most = (b, u, e)) :
    Calls Try.prog 83 #[.slice A n c, .int .i64 most] w (Ret3 b u e w) :=
  (firstText_quiet A n c l most w h hm b u e hF).mono fun _ _ ⟨A', n', c', he, hb, m, hw⟩ => ⟨A', n', c', he, by rw [hw]; exact hb.drewN m, by rw [hw]; exact below_drewN (Below.refl _ _) m⟩
end Go.Proofs.Ytomhofppcogojaa

/- seal.take at its four types: behind an error, or of a nil reader, it answers nothing; what its decoder refuses becomes the reader's error; else the reader goes on behind the value. -/
namespace Go.Proofs.Ytomhofppcogojaa
open Go.RowKit

/-- What a decoder answers; it draws at most. -/
def Dec (v : Value) (used er : Nat) (w : World) (e : Ending) (w' : World) : Prop := e = .returned (.tuple #[v, .int .i64 used, .int .i64 er]) ∧ ∃ m, w' = w.drewN m

theorem Bk.drewN {w : World} {g : Nat} {t : TypeId} {cs : Array Value} (h : Bk w g t cs) (m : Nat) : Bk (w.drewN m) g t cs := h


theorem takeInt_nil (q : Addr) (w : World) :
    Calls Try.prog 68 #[.pointer none, .func (.func 69) #[] #[.pointer (some q)]] w (fun e w' => e = .returned (.int .i64 0) ∧ w = w') := by
  go_enter Try.func68, Try.ntmps68
  go_wp2_with fail
  go_ret
  exact ⟨rfl, rfl⟩


set_option maxHeartbeats 1000000 in
theorem takeInt_err (b : Nat) (q : Addr) (A : Option Addr) (n c e0 : Nat) (w : World) (h : Bk w b 120 #[.slice A n c, .int .i64 e0]) (he : e0 ≠ 0) :
    Calls Try.prog 68 #[.pointer (some ⟨b, 0, none⟩), .func (.func 69) #[] #[.pointer (some q)]] w (fun e w' => e = .returned (.int .i64 0) ∧ w = w') := by
  have h1 : w.cell? ⟨b, 1, none⟩ = some (.int .i64 e0) := h.cell 1
  have hne : ((e0 : Int) != 0) = true := by simp; omega
  clear h he
  go_enter Try.func68, Try.ntmps68
  go_wp2_with fail
  go_ret
  exact ⟨rfl, rfl⟩


set_option maxHeartbeats 1000000 in
theorem takeInt_fail (b : Nat) (q : Addr) (A : Option Addr) (n c : Nat) (v : Value) (used er : Nat) (w : World) (h : Bk w b 120 #[.slice A n c, .int .i64 0]) (he : er ≠ 0)
    (hd : Calls Try.prog 69 #[.slice A n c, .pointer (some q)] w (Dec v used er w)) :
    Calls Try.prog 68 #[.pointer (some ⟨b, 0, none⟩), .func (.func 69) #[] #[.pointer (some q)]] w (fun e w' => e = .returned (.int .i64 0) ∧ ∃ m, w' = (w.drewN m).setCell ⟨b, 1, none⟩ (.int .i64 er)) := by
  have h0 : w.cell? ⟨b, 0, none⟩ = some (.slice A n c) := h.cell 0
  have h1 : w.cell? ⟨b, 1, none⟩ = some (.int .i64 0) := h.cell 1
  have hf := h.frz 1
  have hne : ((er : Int) != 0) = true := by simp; omega
  have HD := Lib.hid hd
  clear h he hd
  go_enter Try.func68, Try.ntmps68
  go_wp2_with fail
  refine HD.out.mono ?_
  rintro e w1 ⟨rfl, m, rfl⟩
  go_wp2_with fail
  go_ret
  exact ⟨rfl, m, rfl⟩


set_option maxHeartbeats 1000000 in
theorem takeInt_ok (b : Nat) (q : Addr) (A : Option Addr) (n c : Nat) (v : Value) (used : Nat) (w : World) (h : Bk w b 120 #[.slice A n c, .int .i64 0]) (B : Option Addr) (k d : Nat)
    (hs : ∀ u, (Instr.slice 35 (.slice A n c) (some (.int .i64 used)) none none).run Try.prog u = .ok (.slice B k d) u)
    (hd : Calls Try.prog 69 #[.slice A n c, .pointer (some q)] w (Dec v used 0 w)) :
    Calls Try.prog 68 #[.pointer (some ⟨b, 0, none⟩), .func (.func 69) #[] #[.pointer (some q)]] w (fun e w' => e = .returned v ∧ ∃ m, w' = (w.drewN m).setCell ⟨b, 0, none⟩ (.slice B k d)) := by
  have h0 : w.cell? ⟨b, 0, none⟩ = some (.slice A n c) := h.cell 0
  have h1 : w.cell? ⟨b, 1, none⟩ = some (.int .i64 0) := h.cell 1
  have hf := h.frz 0
  have HD := Lib.hid hd
  clear h hd
  go_enter Try.func68, Try.ntmps68
  go_wp2_with fail
  refine HD.out.mono ?_
  rintro e w1 ⟨rfl, m, rfl⟩
  go_wp2_with fail
  go_ret
  exact ⟨rfl, m, rfl⟩


theorem takeBool_nil (w : World) :
    Calls Try.prog 84 #[.pointer none, .func (.func 85) #[] #[]] w (fun e w' => e = .returned (.bool false) ∧ w = w') := by
  go_enter Try.func84, Try.ntmps84
  go_wp2_with fail
  go_ret
  exact ⟨rfl, rfl⟩


set_option maxHeartbeats 1000000 in
theorem takeBool_err (b : Nat) (A : Option Addr) (n c e0 : Nat) (w : World) (h : Bk w b 120 #[.slice A n c, .int .i64 e0]) (he : e0 ≠ 0) :
    Calls Try.prog 84 #[.pointer (some ⟨b, 0, none⟩), .func (.func 85) #[] #[]] w (fun e w' => e = .returned (.bool false) ∧ w = w') := by
  have h1 : w.cell? ⟨b, 1, none⟩ = some (.int .i64 e0) := h.cell 1
  have hne : ((e0 : Int) != 0) = true := by simp; omega
  clear h he
  go_enter Try.func84, Try.ntmps84
  go_wp2_with fail
  go_ret
  exact ⟨rfl, rfl⟩


set_option maxHeartbeats 1000000 in
theorem takeBool_fail (b : Nat) (A : Option Addr) (n c : Nat) (v : Value) (used er : Nat) (w : World) (h : Bk w b 120 #[.slice A n c, .int .i64 0]) (he : er ≠ 0)
    (hd : Calls Try.prog 85 #[.slice A n c] w (Dec v used er w)) :
    Calls Try.prog 84 #[.pointer (some ⟨b, 0, none⟩), .func (.func 85) #[] #[]] w (fun e w' => e = .returned (.bool false) ∧ ∃ m, w' = (w.drewN m).setCell ⟨b, 1, none⟩ (.int .i64 er)) := by
  have h0 : w.cell? ⟨b, 0, none⟩ = some (.slice A n c) := h.cell 0
  have h1 : w.cell? ⟨b, 1, none⟩ = some (.int .i64 0) := h.cell 1
  have hf := h.frz 1
  have hne : ((er : Int) != 0) = true := by simp; omega
  have HD := Lib.hid hd
  clear h he hd
  go_enter Try.func84, Try.ntmps84
  go_wp2_with fail
  refine HD.out.mono ?_
  rintro e w1 ⟨rfl, m, rfl⟩
  go_wp2_with fail
  go_ret
  exact ⟨rfl, m, rfl⟩


set_option maxHeartbeats 1000000 in
theorem takeBool_ok (b : Nat) (A : Option Addr) (n c : Nat) (v : Value) (used : Nat) (w : World) (h : Bk w b 120 #[.slice A n c, .int .i64 0]) (B : Option Addr) (k d : Nat)
    (hs : ∀ u, (Instr.slice 35 (.slice A n c) (some (.int .i64 used)) none none).run Try.prog u = .ok (.slice B k d) u)
    (hd : Calls Try.prog 85 #[.slice A n c] w (Dec v used 0 w)) :
    Calls Try.prog 84 #[.pointer (some ⟨b, 0, none⟩), .func (.func 85) #[] #[]] w (fun e w' => e = .returned v ∧ ∃ m, w' = (w.drewN m).setCell ⟨b, 0, none⟩ (.slice B k d)) := by
  have h0 : w.cell? ⟨b, 0, none⟩ = some (.slice A n c) := h.cell 0
  have h1 : w.cell? ⟨b, 1, none⟩ = some (.int .i64 0) := h.cell 1
  have hf := h.frz 0
  have HD := Lib.hid hd
  clear h hd
  go_enter Try.func84, Try.ntmps84
  go_wp2_with fail
  refine HD.out.mono ?_
  rintro e w1 ⟨rfl, m, rfl⟩
  go_wp2_with fail
  go_ret
  exact ⟨rfl, m, rfl⟩


theorem takeStr_nil (q : Addr) (w : World) :
    Calls Try.prog 81 #[.pointer none, .func (.func 82) #[] #[.pointer (some q)]] w (fun e w' => e = .returned (.string ByteArray.empty) ∧ w = w') := by
  go_enter Try.func81, Try.ntmps81
  go_wp2_with fail
  go_ret
  exact ⟨rfl, rfl⟩


set_option maxHeartbeats 1000000 in
theorem takeStr_err (b : Nat) (q : Addr) (A : Option Addr) (n c e0 : Nat) (w : World) (h : Bk w b 120 #[.slice A n c, .int .i64 e0]) (he : e0 ≠ 0) :
    Calls Try.prog 81 #[.pointer (some ⟨b, 0, none⟩), .func (.func 82) #[] #[.pointer (some q)]] w (fun e w' => e = .returned (.string ByteArray.empty) ∧ w = w') := by
  have h1 : w.cell? ⟨b, 1, none⟩ = some (.int .i64 e0) := h.cell 1
  have hne : ((e0 : Int) != 0) = true := by simp; omega
  clear h he
  go_enter Try.func81, Try.ntmps81
  go_wp2_with fail
  go_ret
  exact ⟨rfl, rfl⟩


set_option maxHeartbeats 1000000 in
theorem takeStr_fail (b : Nat) (q : Addr) (A : Option Addr) (n c : Nat) (v : Value) (used er : Nat) (w : World) (h : Bk w b 120 #[.slice A n c, .int .i64 0]) (he : er ≠ 0)
    (hd : Calls Try.prog 82 #[.slice A n c, .pointer (some q)] w (Dec v used er w)) :
    Calls Try.prog 81 #[.pointer (some ⟨b, 0, none⟩), .func (.func 82) #[] #[.pointer (some q)]] w (fun e w' => e = .returned (.string ByteArray.empty) ∧ ∃ m, w' = (w.drewN m).setCell ⟨b, 1, none⟩ (.int .i64 er)) := by
  have h0 : w.cell? ⟨b, 0, none⟩ = some (.slice A n c) := h.cell 0
  have h1 : w.cell? ⟨b, 1, none⟩ = some (.int .i64 0) := h.cell 1
  have hf := h.frz 1
  have hne : ((er : Int) != 0) = true := by simp; omega
  have HD := Lib.hid hd
  clear h he hd
  go_enter Try.func81, Try.ntmps81
  go_wp2_with fail
  refine HD.out.mono ?_
  rintro e w1 ⟨rfl, m, rfl⟩
  go_wp2_with fail
  go_ret
  exact ⟨rfl, m, rfl⟩


set_option maxHeartbeats 1000000 in
theorem takeStr_ok (b : Nat) (q : Addr) (A : Option Addr) (n c : Nat) (v : Value) (used : Nat) (w : World) (h : Bk w b 120 #[.slice A n c, .int .i64 0]) (B : Option Addr) (k d : Nat)
    (hs : ∀ u, (Instr.slice 35 (.slice A n c) (some (.int .i64 used)) none none).run Try.prog u = .ok (.slice B k d) u)
    (hd : Calls Try.prog 82 #[.slice A n c, .pointer (some q)] w (Dec v used 0 w)) :
    Calls Try.prog 81 #[.pointer (some ⟨b, 0, none⟩), .func (.func 82) #[] #[.pointer (some q)]] w (fun e w' => e = .returned v ∧ ∃ m, w' = (w.drewN m).setCell ⟨b, 0, none⟩ (.slice B k d)) := by
  have h0 : w.cell? ⟨b, 0, none⟩ = some (.slice A n c) := h.cell 0
  have h1 : w.cell? ⟨b, 1, none⟩ = some (.int .i64 0) := h.cell 1
  have hf := h.frz 0
  have HD := Lib.hid hd
  clear h hd
  go_enter Try.func81, Try.ntmps81
  go_wp2_with fail
  refine HD.out.mono ?_
  rintro e w1 ⟨rfl, m, rfl⟩
  go_wp2_with fail
  go_ret
  exact ⟨rfl, m, rfl⟩

end Go.Proofs.Ytomhofppcogojaa

/- a reader behind a pointer; seal.take at its four types as one step of it: the value, the rest, the error. -/
namespace Go.Proofs.Ytomhofppcogojaa
open Go.RowKit

/-- The reader at block b: what is left (in block g), and the error. -/
structure Rd (w : World) (t : TypeId) (b g : Nat) (l : List Int) (e : Nat) : Prop where
  ne : g ≠ b
  ex : ∃ A n c, Bk w b t #[.slice A n c, .int .i64 e] ∧ Byt w A n c l ∧ (0 < n → ∀ a, A = some a → a.block = g)

theorem Rd.lt {w : World} {t : TypeId} {b g : Nat} {l : List Int} {e : Nat} (h : Rd w t b g l e) : b < w.heap.size := by
  obtain ⟨A, n, c, hb, _⟩ := h.ex
  exact hb.lt

/-- A slice whose block is not written. -/
theorem Byt.grown {w w' : World} {A : Option Addr} {n c : Nat} {l : List Int} {row : Option Nat} (h : Byt w A n c l) (hg : w.grownBy w' row) (hne : 0 < n → ∀ a, A = some a → some a.block ≠ row) : Byt w' A n c l :=
  ⟨h.len, h.cap, h.max, h.rng, h.nil_, fun hn => by
    obtain ⟨g, off, e, hc⟩ := h.at_ hn
    exact ⟨g, off, e, fun i hi => hg.cell (hc i hi) (show some g ≠ row from hne hn ⟨g, off, none⟩ e)⟩⟩

theorem Rd.grown {w w' : World} {t : TypeId} {b g : Nat} {l : List Int} {e : Nat} {row : Option Nat} (h : Rd w t b g l e) (hg : w.grownBy w' row) (hb : some b ≠ row) (hgr : some g ≠ row) : Rd w' t b g l e := by
  obtain ⟨A, n, c, h1, h2, h3⟩ := h.ex
  exact ⟨h.ne, A, n, c, (hg.block b h1.lt hb).trans h1, h2.grown hg (fun hn a ha => by rw [h3 hn a ha]; exact hgr), h3⟩

theorem grown_drewN (w : World) (m : Nat) (row : Option Nat) : w.grownBy (w.drewN m) row := ⟨rfl, rfl, rfl, Nat.le_refl _, fun _ _ _ => rfl⟩
theorem grown_set (w : World) (b k : Nat) (v : Value) : w.grownBy (w.setCell ⟨b, k, none⟩ v) (some b) :=
  ⟨rfl, rfl, rfl, by simp [World.setCell], fun i _ hi => Below.heap_setCell w _ _ i (fun e => hi (by simp [e]))⟩
theorem grown_trans {a b c : World} {row : Option Nat} (h : a.grownBy b row) (k : b.grownBy c row) : a.grownBy c row :=
  ⟨k.os.trans h.os, k.tape.trans h.tape, k.output.trans h.output, Nat.le_trans h.size k.size, fun i hi hr => (k.block i (Nat.lt_of_lt_of_le hi h.size) hr).trans (h.block i hi hr)⟩
theorem grown_below {w w' : World} {row : Option Nat} (h : Below w.heap.size w w') : w.grownBy w' row := ⟨h.os, h.tape, h.output, h.size, fun k hk _ => h.block k hk⟩

/-- What a reader's method leaves. -/
def RdPost (t : TypeId) (b g : Nat) (l : List Int) (e0 : Nat) (v : Value) (w : World) (e : Ending) (w' : World) : Prop := e = .returned v ∧ Rd w' t b g l e0 ∧ w.grownBy w' (some b)

theorem Rd.fail {w : World} {t : TypeId} {b g : Nat} {l : List Int} {e : Nat} (h : Rd w t b g l e) (m er : Nat) : Rd ((w.drewN m).setCell ⟨b, 1, none⟩ (.int .i64 er)) t b g l er ∧ w.grownBy ((w.drewN m).setCell ⟨b, 1, none⟩ (.int .i64 er)) (some b) := by
  have hg := grown_trans (grown_drewN w m (some b)) (grown_set (w.drewN m) b 1 (.int .i64 er))
  obtain ⟨A, n, c, h1, h2, h3⟩ := h.ex
  refine ⟨⟨h.ne, A, n, c, ?_, h2.grown hg (fun hn a ha => by rw [h3 hn a ha]; simpa using h.ne), h3⟩, hg⟩
  have := (h1.drewN m).setc 1 (.int .i64 er)
  simpa using this

theorem Rd.next {w : World} {t : TypeId} {b g : Nat} {l l' : List Int} {e : Nat} (h : Rd w t b g l e) (m : Nat) {B : Option Addr} {k d : Nat} (hb : Byt w B k d l') (hB : 0 < k → ∀ a, B = some a → a.block = g) :
    Rd ((w.drewN m).setCell ⟨b, 0, none⟩ (.slice B k d)) t b g l' e ∧ w.grownBy ((w.drewN m).setCell ⟨b, 0, none⟩ (.slice B k d)) (some b) := by
  have hg := grown_trans (grown_drewN w m (some b)) (grown_set (w.drewN m) b 0 (.slice B k d))
  obtain ⟨A, n, c, h1, h2, h3⟩ := h.ex
  refine ⟨⟨h.ne, B, k, d, ?_, hb.grown hg (fun hk a ha => by rw [hB hk a ha]; simpa using h.ne), hB⟩, hg⟩
  have := (h1.drewN m).setc 0 (.slice B k d)
  simpa using this

/-- Which of both: a reader's value, its rest, its error. -/
def stepV (z v : Value) (e er : Nat) : Value := if e ≠ 0 then z else if er ≠ 0 then z else v
def stepL (l : List Int) (used e er : Nat) : List Int := if e ≠ 0 then l else if er ≠ 0 then l else l.drop used
def stepE (e er : Nat) : Nat := if e ≠ 0 then e else er


theorem takeInt_step (b g : Nat) (q : Addr) (l : List Int) (e0 : Nat) (v : Value) (used er : Nat) (w : World) (h : Rd w 120 b g l e0) (hu : er = 0 → used ≤ l.length)
    (hd : e0 = 0 → ∀ A n c, Byt w A n c l → Calls Try.prog 69 #[.slice A n c, .pointer (some q)] w (Dec v used er w)) :
    Calls Try.prog 68 #[.pointer (some ⟨b, 0, none⟩), .func (.func 69) #[] #[.pointer (some q)]] w (RdPost 120 b g (stepL l used e0 er) (stepE e0 er) (stepV (.int .i64 0) v e0 er) w) := by
  obtain ⟨A, n, c, h1, h2, h3⟩ := h.ex
  by_cases he : e0 = 0
  · subst he
    have hd := hd rfl A n c h2
    by_cases hr : er = 0
    · subst hr
      obtain ⟨B, k, d, hs, hkn, hb, hB⟩ := cut_lb h2 used (by rw [← h2.len]; exact hu rfl) (used : Int) rfl
      refine (takeInt_ok b q A n c v used w h1 B k d hs hd).mono ?_
      rintro e w' ⟨rfl, m, rfl⟩
      have := h.next m hb (fun hk a ha => by obtain ⟨a', e1, e2⟩ := hB a ha; rw [e2]; exact h3 (by omega) a' e1)
      simp only [stepL, stepE, stepV]
      exact ⟨rfl, this⟩
    · refine (takeInt_fail b q A n c v used er w h1 hr hd).mono ?_
      rintro e w' ⟨rfl, m, rfl⟩
      simp only [stepL, stepE, stepV, if_pos hr, if_neg (show ¬ (0 : Nat) ≠ 0 by simp)]
      exact ⟨rfl, h.fail m er⟩
  · refine (takeInt_err b q A n c e0 w h1 he).mono ?_
    rintro e w' ⟨rfl, rfl⟩
    simp only [stepL, stepE, stepV, if_pos he]
    exact ⟨rfl, h, grown_drewN w 0 _⟩


theorem takeBool_step (b g : Nat) (l : List Int) (e0 : Nat) (v : Value) (used er : Nat) (w : World) (h : Rd w 120 b g l e0) (hu : er = 0 → used ≤ l.length)
    (hd : e0 = 0 → ∀ A n c, Byt w A n c l → Calls Try.prog 85 #[.slice A n c] w (Dec v used er w)) :
    Calls Try.prog 84 #[.pointer (some ⟨b, 0, none⟩), .func (.func 85) #[] #[]] w (RdPost 120 b g (stepL l used e0 er) (stepE e0 er) (stepV (.bool false) v e0 er) w) := by
  obtain ⟨A, n, c, h1, h2, h3⟩ := h.ex
  by_cases he : e0 = 0
  · subst he
    have hd := hd rfl A n c h2
    by_cases hr : er = 0
    · subst hr
      obtain ⟨B, k, d, hs, hkn, hb, hB⟩ := cut_lb h2 used (by rw [← h2.len]; exact hu rfl) (used : Int) rfl
      refine (takeBool_ok b A n c v used w h1 B k d hs hd).mono ?_
      rintro e w' ⟨rfl, m, rfl⟩
      have := h.next m hb (fun hk a ha => by obtain ⟨a', e1, e2⟩ := hB a ha; rw [e2]; exact h3 (by omega) a' e1)
      simp only [stepL, stepE, stepV]
      exact ⟨rfl, this⟩
    · refine (takeBool_fail b A n c v used er w h1 hr hd).mono ?_
      rintro e w' ⟨rfl, m, rfl⟩
      simp only [stepL, stepE, stepV, if_pos hr, if_neg (show ¬ (0 : Nat) ≠ 0 by simp)]
      exact ⟨rfl, h.fail m er⟩
  · refine (takeBool_err b A n c e0 w h1 he).mono ?_
    rintro e w' ⟨rfl, rfl⟩
    simp only [stepL, stepE, stepV, if_pos he]
    exact ⟨rfl, h, grown_drewN w 0 _⟩


theorem takeStr_step (b g : Nat) (q : Addr) (l : List Int) (e0 : Nat) (v : Value) (used er : Nat) (w : World) (h : Rd w 120 b g l e0) (hu : er = 0 → used ≤ l.length)
    (hd : e0 = 0 → ∀ A n c, Byt w A n c l → Calls Try.prog 82 #[.slice A n c, .pointer (some q)] w (Dec v used er w)) :
    Calls Try.prog 81 #[.pointer (some ⟨b, 0, none⟩), .func (.func 82) #[] #[.pointer (some q)]] w (RdPost 120 b g (stepL l used e0 er) (stepE e0 er) (stepV (.string ByteArray.empty) v e0 er) w) := by
  obtain ⟨A, n, c, h1, h2, h3⟩ := h.ex
  by_cases he : e0 = 0
  · subst he
    have hd := hd rfl A n c h2
    by_cases hr : er = 0
    · subst hr
      obtain ⟨B, k, d, hs, hkn, hb, hB⟩ := cut_lb h2 used (by rw [← h2.len]; exact hu rfl) (used : Int) rfl
      refine (takeStr_ok b q A n c v used w h1 B k d hs hd).mono ?_
      rintro e w' ⟨rfl, m, rfl⟩
      have := h.next m hb (fun hk a ha => by obtain ⟨a', e1, e2⟩ := hB a ha; rw [e2]; exact h3 (by omega) a' e1)
      simp only [stepL, stepE, stepV]
      exact ⟨rfl, this⟩
    · refine (takeStr_fail b q A n c v used er w h1 hr hd).mono ?_
      rintro e w' ⟨rfl, m, rfl⟩
      simp only [stepL, stepE, stepV, if_pos hr, if_neg (show ¬ (0 : Nat) ≠ 0 by simp)]
      exact ⟨rfl, h.fail m er⟩
  · refine (takeStr_err b q A n c e0 w h1 he).mono ?_
    rintro e w' ⟨rfl, rfl⟩
    simp only [stepL, stepE, stepV, if_pos he]
    exact ⟨rfl, h, grown_drewN w 0 _⟩

end Go.Proofs.Ytomhofppcogojaa

/- num.Short hands back a number's digits to the base 128, in new memory. -/
namespace Go.Proofs.Ytomhofppcogojaa
open Go.RowKit

/-- What is gathered so far, in the last cells of the array. -/
structure ArrRel (n : Nat) (w : World) (m at_ : Nat) (acc : List Int) (cs : Array Value) (wr : World) : Prop where
  blk : Bk wr w.heap.size 129 cs
  size : cs.size = 10
  len : acc.length + at_ = 10
  pos : 0 < acc.length
  cells : ∀ i, i < acc.length → cs[at_ + i]? = some (.int .u8 (acc.getD i 0))
  all : hiD (m / 128) ++ acc = shortL n
  bel : Below w.heap.size w wr

theorem ArrRel.more {n : Nat} {w : World} {m at_ : Nat} {acc : List Int} {cs : Array Value} {wr : World} (h : ArrRel n w m at_ acc cs wr) (hn : n < 18446744073709551616) (hm : m / 128 ≠ 0) : ∃ j, at_ = j + 1 := by
  have h1 := shortL_len n hn
  rw [← h.all, hiD_pos hm] at h1
  simp at h1
  have := h.len
  exact ⟨at_ - 1, by omega⟩

theorem ArrRel.step {n : Nat} {w : World} {m j : Nat} {acc : List Int} {cs : Array Value} {wr : World} (h : ArrRel n w m (j + 1) acc cs wr) (hm : m / 128 ≠ 0) :
    ArrRel n w (m / 128) j ((((m / 128 : Nat) : Int) % 128 + 128) :: acc) (cs.setIfInBounds j (.int .u8 (((m / 128 : Nat) : Int) % 128 + 128))) (wr.setCell ⟨w.heap.size, j, none⟩ (.int .u8 (((m / 128 : Nat) : Int) % 128 + 128))) := by
  have hl := h.len
  refine ⟨h.blk.setc j _, by simp [h.size], by simp; omega, by simp, fun i hi => ?_, by rw [← h.all, hiD_pos hm]; simp, h.bel.setCell (Nat.le_refl _) _⟩
  have hs := h.size
  cases i with
  | zero => simp [Array.getElem?_setIfInBounds, hs]; omega
  | succ i =>
    have := h.cells i (by simpa using hi)
    rw [Array.getElem?_setIfInBounds, if_neg (by omega)]
    rw [show j + (i + 1) = j + 1 + i from by omega, this]
    simp

theorem ArrRel.byt {n : Nat} {w : World} {m at_ : Nat} {acc : List Int} {cs : Array Value} {wr : World} (h : ArrRel n w m at_ acc cs wr) (hm : m / 128 = 0) : Byt wr (some ⟨w.heap.size, at_, none⟩) (10 - at_) (10 - at_) (shortL n) := by
  have e := h.all
  rw [hm, hiD_zero, List.nil_append] at e
  have hl := h.len
  rw [← e]
  exact Byt.of_bk h.blk at_ _ _ acc (by omega) (Nat.le_refl _) (by unfold maxLen; omega) (by rw [e]; exact shortL_rng n) (fun i hi => h.cells i (by omega))

theorem ArrRel.start (n : Nat) (w : World) : ArrRel n w n 9 [(n : Int) % 128] #[.int .u8 0, .int .u8 0, .int .u8 0, .int .u8 0, .int .u8 0, .int .u8 0, .int .u8 0, .int .u8 0, .int .u8 0, .int .u8 ((n : Int) % 128)]
    (w.alloc (.cells #[.int .u8 0, .int .u8 0, .int .u8 0, .int .u8 0, .int .u8 0, .int .u8 0, .int .u8 0, .int .u8 0, .int .u8 0, .int .u8 ((n : Int) % 128)] 129)) :=
  ⟨Bk.new _ _ _, rfl, rfl, by simp, fun i hi => by
    have : i = 0 := by simpa using hi
    subst this; rfl, rfl, (Below.refl _ _).alloc (Nat.le_refl _) _⟩

theorem arrayLen10 : Try.prog.arrayLen 129 = 10 := by kernel_rfl
theorem elem10 : Try.prog.elem 129 = 5 := by kernel_rfl
theorem under10 : Try.prog.underlying 129 = some (.array (Try.prog.arrayLen 129) (Try.prog.elem 129)) := by kernel_rfl
theorem size_u8 (W : World) : (sizeOf 5).run Try.prog W = .ok 1 W := by
  obtain ⟨i0, hi, hz0, hz1, hz2⟩ := info_parts info_u8
  simp [sizeOf, typeInfo, hi, hz1]

theorem slice10 (B at_ : Nat) (h : at_ ≤ 9) (W : World) :
    (Instr.sliceAt 129 (.pointer (some ⟨B, 0, none⟩)) (some (.int .i64 (at_ : Int))) none none).run Try.prog W = .ok (.slice (some ⟨B, at_, none⟩) (10 - at_) (10 - at_)) W := by
  rw [run_sliceAt_array_l (P := Try.prog) W _ _ under10 .i64 (at_ : Int) (by omega) (by rw [arrayLen10]; omega), elem10, size_u8, arrayLen10]
  simp [slicedAt, Result.andThen]
  rw [if_neg (by omega)]
  by_cases h0 : at_ = 0 <;> simp [Addr.add, h0]

set_option maxHeartbeats 1000000 in
theorem numShort_any (n : Nat) (hn : n < 18446744073709551616) (w : World) :
    Calls Try.prog 63 #[.int .u64 n] w (RetByt (shortL n) w) := by
  have R0 := Lib.hid (ArrRel.start n w)
  go_enter Try.func63, Try.ntmps63
  go_wp2_with fail
  go_step3
  go_wp2_with fail
  go_step3
  go_wp2_with fail
  go_loopw [0, 4] (fun s v wr => ∃ (m at_ : Nat) (acc : List Int) (cs : Array Value), m < 18446744073709551616 ∧ s = .int .u64 m ∧ v = .int .i64 at_ ∧ ArrRel n w m at_ acc cs wr) (fun s _ _ => (intOf s).toNat)
  case atStart => exact ⟨n, 9, _, _, hn, rfl, rfl, R0.out⟩
  case round =>
    obtain ⟨m, at_, acc, cs, hm, rfl, rfl, R⟩ := hrel
    have HR := Lib.hid R
    clear R
    by_cases h0 : m / 128 = 0
    · have hat : at_ ≤ 9 := by have := HR.out.len; have := HR.out.pos; omega
      have H0 := Lib.hid h0
      have hz : ((m : Int) / 128 == 0) = true := by simp; omega
      have hs := slice10 w.heap.size at_ hat
      have HB := Lib.hid (HR.out.byt h0)
      clear h0
      go_wp2_with (go_at_call 66; refine (bclone_any _ _ _ _ _ HB.out (by omega)).mono ?_; rintro e w1 ⟨A, k, c, rfl, hb, hbel⟩)
      rw [Exit.noGoto_ret]
      go_ret
      exact ⟨A, k, c, rfl, hb, Below.then HR.out.bel hbel⟩
    · obtain ⟨j, rfl⟩ := HR.out.more hn h0
      have hj : j ≤ 9 := by have := HR.out.len; omega
      have hge : (128 : Int) ≤ (m : Int) := by omega
      obtain ⟨u, hc⟩ : ∃ u, wr.cell? ⟨w.heap.size, j, none⟩ = some u := by
        rw [HR.out.blk.cell]; exact ⟨_, Array.getElem?_eq_getElem (by rw [HR.out.size]; omega)⟩
      have hf := HR.out.blk.frz j
      have R1 := Lib.hid (HR.out.step h0)
      go_wp2_with fail
      go_roundw
      case rel => exact ⟨m / 128, j, _, _, by omega, by go_num, rfl, R1.out⟩
      case measure => simp [intOf]; omega
end Go.Proofs.Ytomhofppcogojaa

/- a writer behind a pointer, and what its methods gather; nothing else that was there is turned. -/
namespace Go.Proofs.Ytomhofppcogojaa
open Go.RowKit

/-- A block of another type than bytes is no row of bytes. -/
theorem apart_row {w : World} {b base n : Nat} {t : TypeId} {cs : Array Value} {v : Value} {xs : List Value} (ht : t ≠ 5) (h : Bk w b t cs) (ho : w.ownsRow base 5 1 v n xs) : v.ownBlock ≠ some b := by
  rcases ho.2 with ⟨rfl, _⟩ | ⟨g, cap, cur, rfl, _, hg, _⟩
  · simp [Value.ownBlock]
  · intro e
    simp [Value.ownBlock] at e
    subst e
    unfold Bk at h
    rw [h] at hg
    simp at hg
    exact ht hg.2

/-- The writer at block b, and what it has gathered: memory of the call's own, from block number base on. -/
structure Wrt (w : World) (base b : Nat) (l : List Int) : Prop where
  low : base ≤ b
  rng : ∀ x ∈ l, 0 ≤ x ∧ x < 256
  ex : ∃ A n c, Bk w b 91 #[.slice A n c] ∧ w.ownsRow base 5 1 (.slice A n c) n (l.map (Value.int .u8))

theorem Wrt.lt {w : World} {base b : Nat} {l : List Int} (h : Wrt w base b l) : b < w.heap.size := by
  obtain ⟨A, n, c, hb, _⟩ := h.ex
  exact hb.lt

theorem Wrt.ret {w w' : World} {base b : Nat} {l : List Int} (h : Wrt w base b l) (hb : Below w.heap.size w w') : Wrt w' base b l := by
  obtain ⟨A, n, c, h1, h2⟩ := h.ex
  refine ⟨h.low, h.rng, A, n, c, h1.bel hb h1.lt, ?_⟩
  exact h2.kept (row := none) ⟨hb.os, hb.tape, hb.output, hb.size, fun k hk _ => hb.block k hk⟩ (by
    cases A with
    | none => exact .inl rfl
    | some a => exact .inr (by simp [Value.ownBlock]))

/-- What a writer's method leaves. -/
def RetW (base b : Nat) (l : List Int) (w : World) (e : Ending) (w' : World) : Prop := e = .returned (.tuple #[]) ∧ Wrt w' base b l ∧ Below base w w'

theorem put_end {base b : Nat} {l m : List Int} {w w1 : World} {A A' : Option Addr} {n c n' c' : Nat} (hlow : base ≤ b) (hb : Bk w b 91 #[.slice A n c]) (hbz : base ≤ w.heap.size)
    (ho : w.ownsRow base 5 1 (.slice A n c) n (l.map (Value.int .u8))) (hl : ∀ x ∈ l, 0 ≤ x ∧ x < 256) (hm : ∀ x ∈ m, 0 ≤ x ∧ x < 256)
    (h1 : w1.ownsRow base 5 1 (.slice A' n' c') n' (l.map (Value.int .u8) ++ m.map (Value.int .u8))) (h2 : w.grownBy w1 (Value.ownBlock (.slice A n c))) :
    RetW base b (l ++ m) w (.returned (.tuple #[])) (w1.setCell ⟨b, 0, none⟩ (.slice A' n' c')) := by
  rw [← List.map_append] at h1
  have hb1 : Bk w1 b 91 #[.slice A n c] := (h2.block b hb.lt (fun e => apart_row (by decide) hb ho e.symm)).trans hb
  refine ⟨rfl, ⟨hlow, fun x hx => ?_, A', n', c', ?_, ?_⟩, ?_⟩
  · rcases List.mem_append.1 hx with h | h
    · exact hl x h
    · exact hm x h
  · have := hb1.setc 0 (.slice A' n' c')
    simpa using this
  · refine h1.kept (row := some b) ⟨rfl, rfl, rfl, by simp [World.setCell], fun k hk hk' => ?_⟩ (.inr (apart_row (by decide) hb1 h1))
    exact Below.heap_setCell w1 _ _ k (fun e => hk' (by simp [e]))
  · exact (((Below.refl base w).grown h2 hbz (fun k hk => (ho.lt k hk).1)).setCell hlow _)

/-- Behind 'append': the writer's cell is there still. -/
theorem put_cell {base b : Nat} {l : List Int} {w w1 : World} {A : Option Addr} {n c : Nat} (hb : Bk w b 91 #[.slice A n c])
    (ho : w.ownsRow base 5 1 (.slice A n c) n (l.map (Value.int .u8))) (h2 : w.grownBy w1 (Value.ownBlock (.slice A n c))) :
    w1.cell? ⟨b, 0, none⟩ = some (.slice A n c) ∧ w1.frozen? ⟨b, 0, none⟩ = false := by
  have hb1 : Bk w1 b 91 #[.slice A n c] := (h2.block b hb.lt (fun e => apart_row (by decide) hb ho e.symm)).trans hb
  exact ⟨hb1.cell 0, hb1.frz 0⟩

set_option maxHeartbeats 1000000 in
theorem put_any (base b : Nat) (l m : List Int) (A : Option Addr) (n c : Nat) (w : World) (h : Wrt w base b l) (hm : Byt w A n c m) (hn : l.length + n ≤ 140737488355328) :
    Calls Try.prog 62 #[.pointer (some ⟨b, 0, none⟩), .slice A n c] w (RetW base b (l ++ m) w) := by
  obtain ⟨i0, hi, hz0, hz1, hz2⟩ := info_parts info_u8
  obtain ⟨A0, n0, c0, hb, ho⟩ := h.ex
  have hl0 : l.length = n0 := by simpa using ho.1
  have hcell : w.cell? ⟨b, 0, none⟩ = some (.slice A0 n0 c0) := hb.cell 0
  have hbz : base ≤ w.heap.size := by have := hb.lt; have := h.low; omega
  have HE := fun A' n' c' w1 h1 h2 => @put_end base b l m w w1 A0 A' n0 c0 n' c' h.low hb hbz ho h.rng hm.rng h1 h2
  have HC := fun w1 h2 => @put_cell base b l w w1 A0 n0 c0 hb ho h2
  have HE := Lib.hid HE
  have HC := Lib.hid HC
  have HO := Lib.hid ho
  clear h hb ho
  go_enter Try.func62, Try.ntmps62
  go_wp2_with (at_builtin; refine wpList_append_byt rfl _ _ 35 rfl base 5 i0 Try.underlying35 hi hz0 hz1 hz2 _ n0 l rfl (by exact HO.out) A n c m rfl hm (by omega) hbz ?_)
  intro A' c' w1 h1 h2
  obtain ⟨hc1, hf1⟩ := HC.out w1 h2
  have R := Lib.hid (HE.out _ _ _ w1 h1 h2)
  clear h1 h2 hcell hm HC HE
  go_wp2
  go_end0
  exact R.out

/-- A nil writer gathers nothing. -/
theorem put_nil (A : Option Addr) (n c : Nat) (w : World) :
    Calls Try.prog 62 #[.pointer none, .slice A n c] w (Ret (.tuple #[]) w) := by
  go_enter Try.func62, Try.ntmps62
  go_wp2
  go_end0
  exact ⟨rfl, Below.refl _ _⟩
end Go.Proofs.Ytomhofppcogojaa
