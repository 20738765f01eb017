/- What it says: a disk among other things in memory: what each call answers, what becomes of the disk, and that the other things stay. -/
import Derived.Test.YtlchikllgmkokaaDCrash
import Derived.Test.YtlchikllgmkokaaFull
namespace Go.Proofs.Ytlchikllgmkokaa
open Go.RowKit

/-- Nothing. -/
def emp : Res where
  is w F := ∀ k, F k → k < w.heap.size
  lt _ _ h := h
  keep _ _ _ h hs _ := fun k f => Nat.lt_of_lt_of_le (h k f) hs
theorem Has.emp (B : Nat) (w : World) : Has B emp w := ⟨fun _ => False, fun _ f => f.elim, fun _ f => f.elim⟩

theorem Has.sw {B : Nat} {R S T : Res} {w : World} (h : Has B (R.star (S.star T)) w) : Has B (S.star (T.star R)) w := h.comm.assoc
theorem Has.wsBack {B : Nat} {R S T : Res} {w : World} (h : Has B (S.star (T.star R)) w) : Has B (R.star (S.star T)) w := h.assoc'.comm

theorem Has.map2 {B : Nat} {R S S' : Res} {w : World} (h : Has B (R.star S) w) (hm : ∀ F, S.is w F → S'.is w F) : Has B (R.star S') w := by
  obtain ⟨F, ⟨F1, F2, h1, h2, h3, h4, h5, h6⟩, h7⟩ := h
  exact ⟨F, ⟨F1, F2, h1, hm F2 h2, h3, h4, h5, h6⟩, h7⟩
theorem Has.swap {B : Nat} {R S T : Res} {w : World} (h : Has B (R.star (S.star T)) w) : Has B (S.star (R.star T)) w := h.sw.map2 (fun _ => Res.star_comm)

/-- A block known whole. -/
def blkR (g : Nat) (t : TypeId) (cs : Array Value) : Res where
  is w F := Bk w g t cs ∧ F g ∧ ∀ k, F k → k < w.heap.size
  lt _ _ h := h.2.2
  keep w w' F := fun h hs hk => ⟨h.1.eq (hk g h.2.1), h.2.1, fun k f => Nat.lt_of_lt_of_le (h.2.2 k f) hs⟩

theorem blkR_new {B : Nat} {S : Res} {w : World} (t : TypeId) (cs : Array Value) (h : Has B S w) (hB : B ≤ w.heap.size) : Has B ((blkR w.heap.size t cs).star S) (w.alloc (.cells cs t)) :=
  h.new hB ((Below.refl _ _).alloc (Nat.le_refl _) _) ⟨Bk.new w t cs, ⟨Nat.le_refl _, (Bk.new w t cs).lt⟩, fun _ f => f.2⟩

/-- A call answers v; R is there behind it; below B nothing is turned. -/
def RetHas (v : Value) (B : Nat) (R : Res) (w : World) (e : Ending) (w' : World) : Prop := e = .returned v ∧ Has B R w' ∧ Below B w w'

section
variable {B : Nat} {R : Res} {w0 w : World} {b : Nat} {s : St}

theorem hasD_write (h : Has B ((dsk b s).star R) w0) (hb : Below w0.heap.size w0 w) (hB : B ≤ w0.heap.size) {A : Option Addr} {m c : Nat} {l : List Int} (hl : Byt w A m c l) (hA : ∀ k, (Value.slice A m c).ownBlock = some k → w0.heap.size ≤ k)
    (n : Int) (hn : -9223372036854775808 ≤ n ∧ n ≤ 9223372036854775807) (hlim : s.pend.length < 999999) :
    Calls Try.prog 13 #[.pointer (some ⟨b, 0, none⟩), .int .i64 n, .slice A m c] w (RetHas (.int .i64 (s.wErr n l)) B ((dsk b (s.write n l)).star R) w) := by
  have hBw : B ≤ w.heap.size := Nat.le_trans hB hb.size
  have hlen := hl.len
  have hw := h.below hb
  obtain ⟨F0, hF0, hF0B⟩ := h
  obtain ⟨F, hF, hturn⟩ := Res.star_turn hF0
  have hF' : (dsk b s).is w F := (dsk b s).keep w0 w F hF hb.size (fun k f => hb.block k ((dsk b s).lt w0 F hF k f))
  have hkeep : ((dsk b s).star R).is w F0 := ((dsk b s).star R).keep w0 w F0 hF0 hb.size (fun k f => hb.block k (((dsk b s).star R).lt w0 F0 hF0 k f))
  clear hturn
  obtain ⟨F1, F2, a1, a2, a3, a4, a5, a6⟩ := hkeep
  have hF1 : ∀ k, F1 k → k < w0.heap.size := fun k f => ((dsk b s).star R).lt w0 F0 hF0 k (a4 k f)
  have hnot : ∀ k, (Value.slice A m c).ownBlock = some k → ¬ F1 k := fun k hk f => by have := hA k hk; have := hF1 k f; omega
  have done : ∀ s' w', Turn (dsk b s') F1 w w' → Has B ((dsk b s').star R) w' ∧ Below B w w' := by
    intro s' w' t
    have hh : ((dsk b s).star R).is w F0 := ⟨F1, F2, a1, a2, a3, a4, a5, a6⟩
    have key : Turn ((dsk b s').star R) F0 w w' := by
      obtain ⟨t1, t2⟩ := t
      refine ⟨⟨grow F1 w w', F2, t1, R.keep w w' F2 a2 t2.size (fun k f => t2.block k (R.lt w F2 a2 k f) (fun g => a3 k g f)), ?_, ?_, fun k f => .inl (a5 k f), ?_⟩, t2.mono a4⟩
      · intro k f g
        rcases f with f | f
        · exact a3 k f g
        · have := R.lt w F2 a2 k g; omega
      · intro k f
        rcases f with f | f
        · exact .inl (a4 k f)
        · exact .inr f
      · intro k f
        rcases f with f | f
        · exact Nat.lt_of_lt_of_le (a6 k f) t2.size
        · exact f.2
    refine ⟨⟨_, key.1, fun k f => ?_⟩, key.2.below hBw hF0B⟩
    rcases f with f | f
    · exact hF0B k f
    · omega
  obtain ⟨mb, A1, c1, hd⟩ := a1
  by_cases h1 : n < 0 ∨ (s.num : Int) ≤ n
  · have e1 : s.wErr n l = 1 := by unfold St.wErr; rw [if_pos h1]
    have e2 : s.write n l = s := by unfold St.write; rw [if_pos h1]
    rw [e1, e2]
    exact (write_bad w F1 b mb A1 c1 s hd n h1 _).mono fun e w' ⟨he, ht⟩ => ⟨he, done s w' ht⟩
  · obtain ⟨j, rfl⟩ := Int.eq_ofNat_of_zero_le (show 0 ≤ n by omega)
    have hj : j < s.num := by omega
    by_cases h2 : m = 256
    · subst h2
      by_cases h3 : s.can = true
      · have e1 : s.wErr j l = 0 := by unfold St.wErr; rw [if_neg h1, if_neg (by omega), if_pos h3]
        have e2 : s.write j l = s.wrote j l := by unfold St.write; rw [if_neg h1, if_neg (by omega), if_pos h3]; rfl
        rw [e1, e2]
        exact (write_made w F1 b mb A1 c1 s hd j hj A c l hl hnot h3 hlim).mono fun e w' ⟨he, ht⟩ => ⟨he, done _ w' ht⟩
      · have h3' : s.can = false := by simpa using h3
        have e1 : s.wErr j l = 40 := by unfold St.wErr; rw [if_neg h1, if_neg (by omega), if_neg h3]
        have e2 : s.write j l = s.step := by unfold St.write; rw [if_neg h1, if_neg (by omega), if_neg h3]
        rw [e1, e2]
        exact (write_down w F1 b mb A1 c1 s hd j hj A c h3').mono fun e w' ⟨he, ht⟩ => ⟨he, done _ w' ht⟩
    · have e1 : s.wErr j l = 12 := by unfold St.wErr; rw [if_neg h1, if_pos (by omega)]
      have e2 : s.write j l = s := by unfold St.write; rw [if_neg h1, if_pos (by omega)]
      rw [e1, e2]
      exact (write_len w F1 b mb A1 c1 s hd j hj A m c h2).mono fun e w' ⟨he, ht⟩ => ⟨he, done s w' ht⟩

theorem hasD_sync (h : Has B ((dsk b s).star R) w) (hB : B ≤ w.heap.size) (hlim : s.syncs < 999999) :
    Calls Try.prog 16 #[.pointer (some ⟨b, 0, none⟩)] w (RetHas (.int .i64 s.sErr) B ((dsk b s.sync).star R) w) := by
  obtain ⟨F, ⟨mb, A1, c1, hd⟩, hturn⟩ := h.turn1 hB
  by_cases h3 : s.can = true
  · have e1 : s.sErr = 0 := by unfold St.sErr; rw [if_pos h3]
    have e2 : s.sync = s.synced := by unfold St.sync; rw [if_pos h3]
    rw [e1, e2]
    exact (sync_made w F b mb A1 c1 s hd h3 hlim).mono fun e w' ⟨he, ht⟩ => ⟨he, hturn _ w' ht⟩
  · have h3' : s.can = false := by simpa using h3
    have e1 : s.sErr = 40 := by unfold St.sErr; rw [if_neg h3]
    have e2 : s.sync = s.step := by unfold St.sync; rw [if_neg h3]
    rw [e1, e2]
    exact (sync_down w F b mb A1 c1 s hd h3').mono fun e w' ⟨he, ht⟩ => ⟨he, hturn _ w' ht⟩

theorem hasD_fuse (h : Has B ((dsk b s).star R) w) (hB : B ≤ w.heap.size) (n : Int) (hn : -9223372036854775808 ≤ n ∧ n ≤ 9223372036854775807) :
    Calls Try.prog 21 #[.pointer (some ⟨b, 0, none⟩), .int .i64 n] w (RetHas (.tuple #[]) B ((dsk b (s.fuse n)).star R) w) := by
  obtain ⟨F, ⟨mb, A1, c1, hd⟩, hturn⟩ := h.turn1 hB
  exact (fuse_any hd n hn).mono fun e w' ⟨he, ht⟩ => ⟨he, hturn _ w' ht⟩

theorem Has.one (h : Has B ((dsk b s).star R) w) : ∃ F mb A c, DskB w F b mb A c s := by
  obtain ⟨F, mb, A, c, hd⟩ := h.fst.ex
  exact ⟨F, mb, A, c, hd⟩

theorem hasD_down (h : Has B ((dsk b s).star R) w) : Calls Try.prog 26 #[.pointer (some ⟨b, 0, none⟩)] w (Same (.bool s.gone) w) := by
  obtain ⟨F, mb, A, c, hd⟩ := h.one
  exact down_any hd
theorem hasD_pending (h : Has B ((dsk b s).star R) w) : Calls Try.prog 27 #[.pointer (some ⟨b, 0, none⟩)] w (Same (.int .i64 s.pend.length) w) := by
  obtain ⟨F, mb, A, c, hd⟩ := h.one
  exact pending_any hd
theorem hasD_syncs (h : Has B ((dsk b s).star R) w) : Calls Try.prog 28 #[.pointer (some ⟨b, 0, none⟩)] w (Same (.int .i64 s.syncs) w) := by
  obtain ⟨F, mb, A, c, hd⟩ := h.one
  exact syncs_any hd
theorem hasD_sectors (h : Has B ((dsk b s).star R) w) : Calls Try.prog 29 #[.pointer (some ⟨b, 0, none⟩)] w (Same (.int .i64 s.num) w) := by
  obtain ⟨F, mb, A, c, hd⟩ := h.one
  exact sectors_any hd
theorem hasD_ok (h : Has B ((dsk b s).star R) w) : s.Ok := by
  obtain ⟨F, mb, A, c, hd⟩ := h.one
  exact hd.ok

/-- What a read answers. -/
def St.rBytes (s : St) (n : Int) : List Int := if s.rErr n = 0 then s.now n.toNat else []

/-- Bytes and a number beside them; the bytes lie in a block that is new. -/
def RetRd (l : List Int) (e0 : Int) (w : World) (e : Ending) (w' : World) : Prop :=
  ∃ A n c, e = .returned (.tuple #[.slice A n c, .int .i64 e0]) ∧ Byt w' A n c l ∧ (∀ g off, A = some ⟨g, off, none⟩ → w.heap.size ≤ g ∧ w'.frozen? ⟨g, off, none⟩ = false) ∧ Below w.heap.size w w'

theorem hasD_read (h : Has B ((dsk b s).star R) w) (n : Int) : Calls Try.prog 18 #[.pointer (some ⟨b, 0, none⟩), .int .i64 n] w (RetRd (s.rBytes n) (s.rErr n) w) := by
  obtain ⟨F, mb, A, c, hd⟩ := h.one
  by_cases h1 : n < 0 ∨ (s.num : Int) ≤ n
  · have e1 : s.rErr n = 1 := by unfold St.rErr; rw [if_pos h1]
    have e2 : s.rBytes n = [] := by unfold St.rBytes; rw [e1]; rfl
    rw [e1, e2]
    exact (read_bad w F b mb A c s hd n h1).mono fun e w' ⟨he, hw⟩ => ⟨none, 0, 0, he, Byt.nil _, (fun _ _ q => nomatch q), by rw [← hw]; exact Below.refl _ _⟩
  · obtain ⟨j, rfl⟩ := Int.eq_ofNat_of_zero_le (show 0 ≤ n by omega)
    have hj : j < s.num := by omega
    by_cases h2 : s.gone = true
    · have e1 : s.rErr j = 40 := by unfold St.rErr; rw [if_neg h1, if_pos h2]
      have e2 : s.rBytes j = [] := by unfold St.rBytes; rw [e1]; rfl
      rw [e1, e2]
      exact (read_down w F b mb A c s hd j hj h2).mono fun e w' ⟨he, hw⟩ => ⟨none, 0, 0, he, Byt.nil _, (fun _ _ q => nomatch q), by rw [← hw]; exact Below.refl _ _⟩
    · have h2' : s.gone = false := by simpa using h2
      have e1 : s.rErr j = 0 := by unfold St.rErr; rw [if_neg h1, if_neg h2]
      have e2 : s.rBytes j = s.now j := by unfold St.rBytes; rw [if_pos e1]; rfl
      rw [e1, e2]
      refine (read_ok w F b mb A c s hd j hj h2').mono fun e w' ⟨g, hg, he, hb, hbel⟩ => ⟨some ⟨g, 0, none⟩, 256, 256, he, Byt.sec hb (hd.ok.now j), fun g' off' q => ?_, hbel⟩
      injection q with q
      injection q with q1 q2
      subst q1 q2
      exact ⟨hg, hb.frz 0⟩

/-- A new disk beside the old things. -/
def RetNewHas (s : St) (B : Nat) (R : Res) (w : World) (e : Ending) (w' : World) : Prop := ∃ b, e = .returned (.pointer (some ⟨b, 0, none⟩)) ∧ Has B ((dsk b s).star R) w' ∧ Below w.heap.size w w'

theorem hasD_crash {S : Res} (h : Has B ((dsk b s).star R) w) (hS : Has B S w) (hB : B ≤ w.heap.size) (KA : Option Addr) (kn kc : Nat) (c : Crs) (hk : Nts w KA kn kc c.keep) (hcut : -9223372036854775808 ≤ c.cut ∧ c.cut ≤ 9223372036854775807) :
    Calls Try.prog 23 #[.pointer (some ⟨b, 0, none⟩), .agg (crsV KA kn kc c)] w (RetNewHas (s.crash c) B S w) := by
  obtain ⟨F, mb, A, ca, hd⟩ := h.one
  exact (crash_any w F b mb A ca s hd KA kn kc c hk hcut).mono fun e w' ⟨b', he, his, hbel⟩ => ⟨b', he, hS.new hB hbel his, hbel⟩

theorem hasD_new (hS : Has B R w) (hB : B ≤ w.heap.size) (n : Nat) (hn : 1 ≤ n ∧ n ≤ 4096) :
    Calls Try.prog 11 #[.int .i64 n] w (fun e w' => ∃ b, e = .returned (.tuple #[.pointer (some ⟨b, 0, none⟩), .int .i64 0]) ∧ Has B ((dsk b (St.new n)).star R) w' ∧ Below w.heap.size w w') :=
  (new_any n hn w).mono fun e w' ⟨b', he, his, hbel⟩ => ⟨b', he, hS.new hB hbel his, hbel⟩
end
end Go.Proofs.Ytlchikllgmkokaa
