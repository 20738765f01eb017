/- What it says: the document's disk among other things in memory: what each call answers, what becomes of it, and that the other things stay. -/
import Derived.Test.YtlchikllgmkokaaRCrash
import Derived.Test.YtlchikllgmkokaaRSync
namespace Go.Proofs.Ytlchikllgmkokaa
open Go.RowKit

section
variable {B : Nat} {R : Res} {w : World} {g : Nat} {s : St}

theorem Has.oneR (h : Has B ((rfd g s).star R) w) : ∃ F SA sc LA lc sl rl, RfdB w F g SA sc LA lc sl rl s := by
  obtain ⟨F, SA, sc, LA, lc, sl, rl, hd⟩ := h.fst.ex
  exact ⟨F, SA, sc, LA, lc, sl, rl, hd⟩

theorem hasR_write (h : Has B ((rfd g s).star R) w) (hB : B ≤ w.heap.size) {A : Option Addr} {m c : Nat} {l : List Int} (hl : Byt w A m c l) (n : Int) (hlim : s.pend.length < 999999) :
    Calls Try.prog 15 #[.pointer (some ⟨g, 0, none⟩), .int .i64 n, .slice A m c] w (RetHas (.int .i64 (s.wErr n l)) B ((rfd g (s.write n l)).star R) w) := by
  obtain ⟨F, ⟨SA, sc, LA, lc, sl, rl, hd⟩, hturn⟩ := h.turn1 hB
  have hlen := hl.len
  by_cases h1 : n < 0 ∨ (s.num : Int) ≤ n
  · have e1 : s.wErr n l = 1 := by unfold St.wErr; rw [if_pos h1]
    have e2 : s.write n l = s := by unfold St.write; rw [if_pos h1]
    rw [e1, e2]
    exact (rwrite_bad hd n h1 _).mono fun e w' ⟨he, ht⟩ => ⟨he, hturn _ w' ht⟩
  · obtain ⟨j, rfl⟩ := Int.eq_ofNat_of_zero_le (show 0 ≤ n by omega)
    have hj : j < s.num := by omega
    by_cases h2 : m = 256
    · subst h2
      by_cases h3 : s.can = true
      · have e1 : s.wErr j l = 0 := by unfold St.wErr; rw [if_neg h1, if_neg (by omega), if_pos h3]
        have e2 : s.write j l = s.wrote j l := by unfold St.write; rw [if_neg h1, if_neg (by omega), if_pos h3]; rfl
        rw [e1, e2]
        exact (rwrite_made hd j hj A c l hl h3 hlim).mono fun e w' ⟨he, ht⟩ => ⟨he, hturn _ w' ht⟩
      · have h3' : s.can = false := by simpa using h3
        have e1 : s.wErr j l = 40 := by unfold St.wErr; rw [if_neg h1, if_neg (by omega), if_neg h3]
        have e2 : s.write j l = s.step := by unfold St.write; rw [if_neg h1, if_neg (by omega), if_neg h3]
        rw [e1, e2]
        exact (rwrite_down hd j hj A c h3').mono fun e w' ⟨he, ht⟩ => ⟨he, hturn _ w' ht⟩
    · have e1 : s.wErr j l = 12 := by unfold St.wErr; rw [if_neg h1, if_pos (by omega)]
      have e2 : s.write j l = s := by unfold St.write; rw [if_neg h1, if_pos (by omega)]
      rw [e1, e2]
      exact (rwrite_len hd j hj A m c h2).mono fun e w' ⟨he, ht⟩ => ⟨he, hturn _ w' ht⟩

theorem hasR_sync (h : Has B ((rfd g s).star R) w) (hB : B ≤ w.heap.size) (hlim : s.syncs < 999999) :
    Calls Try.prog 17 #[.pointer (some ⟨g, 0, none⟩)] w (RetHas (.int .i64 s.sErr) B ((rfd g s.sync).star R) w) := by
  obtain ⟨F, ⟨SA, sc, LA, lc, sl, rl, hd⟩, hturn⟩ := h.turn1 hB
  by_cases h3 : s.can = true
  · have e1 : s.sErr = 0 := by unfold St.sErr; rw [if_pos h3]
    have e2 : s.sync = s.synced := by unfold St.sync; rw [if_pos h3]
    rw [e1, e2]
    exact (rsync_made hd h3 hlim).mono fun e w' ⟨he, ht⟩ => ⟨he, hturn _ w' ht⟩
  · have h3' : s.can = false := by simpa using h3
    have e1 : s.sErr = 40 := by unfold St.sErr; rw [if_neg h3]
    have e2 : s.sync = s.step := by unfold St.sync; rw [if_neg h3]
    rw [e1, e2]
    exact (rsync_down hd h3').mono fun e w' ⟨he, ht⟩ => ⟨he, hturn _ w' ht⟩

theorem hasR_fuse (h : Has B ((rfd g s).star R) w) (hB : B ≤ w.heap.size) (n : Int) (hn : -9223372036854775808 ≤ n ∧ n ≤ 9223372036854775807) :
    Calls Try.prog 22 #[.pointer (some ⟨g, 0, none⟩), .int .i64 n] w (RetHas (.tuple #[]) B ((rfd g (s.fuse n)).star R) w) := by
  obtain ⟨F, ⟨SA, sc, LA, lc, sl, rl, hd⟩, hturn⟩ := h.turn1 hB
  exact (rfuse_any hd n hn).mono fun e w' ⟨he, ht⟩ => ⟨he, hturn _ w' ht⟩

theorem hasR_read (h : Has B ((rfd g s).star R) w) (n : Int) : Calls Try.prog 19 #[.pointer (some ⟨g, 0, none⟩), .int .i64 n] w (RetRd (s.rBytes n) (s.rErr n) w) := by
  obtain ⟨F, SA, sc, LA, lc, sl, rl, hd⟩ := h.oneR
  exact rread_any hd n

theorem hasR_now (h : Has B ((rfd g s).star R) w) (n : Nat) (hn : n < s.num) : Calls Try.prog 31 #[.pointer (some ⟨g, 0, none⟩), .int .i64 n] w (RetByt (s.now n) w) := by
  obtain ⟨F, SA, sc, LA, lc, sl, rl, hd⟩ := h.oneR
  exact (rnow_any hd n hn).mono fun e w' ⟨A, c, he, ho, hb⟩ => ⟨A, 256, c, he, Byt.of_own ho (hd.ok.now n).2, hb⟩

/-- The cells that the statements look at themselves. -/
theorem hasR_cells (h : Has B ((rfd g s).star R) w) : ∃ SA sc LA lc, w.cell? ⟨g, 0, none⟩ = some (.slice SA s.num sc) ∧ w.cell? ⟨g, 1, none⟩ = some (.slice LA s.pend.length lc) ∧ w.cell? ⟨g, 3, none⟩ = some (.bool s.gone) ∧ w.cell? ⟨g, 4, none⟩ = some (.int .i64 s.syncs) := by
  obtain ⟨F, SA, sc, LA, lc, sl, rl, hd⟩ := h.oneR
  exact ⟨SA, sc, LA, lc, hd.blk.cell 0, hd.blk.cell 1, hd.blk.cell 3, hd.blk.cell 4⟩

/-- A new one beside the old things. -/
def RetRNewHas (s : St) (B : Nat) (R : Res) (w : World) (e : Ending) (w' : World) : Prop := ∃ g, e = .returned (.pointer (some ⟨g, 0, none⟩)) ∧ Has B ((rfd g s).star R) w' ∧ Below w.heap.size w w'

theorem hasR_crash {S : Res} (h : Has B ((rfd g s).star R) w) (hS : Has B S w) (hB : B ≤ w.heap.size) (KA : Option Addr) (kn kc : Nat) (c : Crs) (hk : Nts w KA kn kc c.keep) (hcut : -9223372036854775808 ≤ c.cut ∧ c.cut ≤ 9223372036854775807) :
    Calls Try.prog 25 #[.pointer (some ⟨g, 0, none⟩), .agg (crsV KA kn kc c)] w (RetRNewHas (s.crash c) B S w) := by
  obtain ⟨F, SA, sc, LA, lc, sl, rl, hd⟩ := h.oneR
  exact (rcrash_any hd KA kn kc c hk hcut).mono fun e w' ⟨b', he, his, hbel⟩ => ⟨b', he, hS.new hB hbel his, hbel⟩

theorem hasR_new (hS : Has B R w) (hB : B ≤ w.heap.size) (n : Nat) (hn : 1 ≤ n ∧ n ≤ 4096) :
    Calls Try.prog 12 #[.int .i64 n] w (fun e w' => ∃ g, e = .returned (.tuple #[.pointer (some ⟨g, 0, none⟩), .int .i64 0]) ∧ Has B ((rfd g (St.new n)).star R) w' ∧ Below w.heap.size w w') :=
  (rnew_any n hn w).mono fun e w' ⟨b', he, his, hbel⟩ => ⟨b', he, hS.new hB hbel his, hbel⟩
end
end Go.Proofs.Ytlchikllgmkokaa
