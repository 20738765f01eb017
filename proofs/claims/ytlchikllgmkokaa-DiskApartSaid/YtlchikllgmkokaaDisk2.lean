/- What it says: what Down, Pending, Syncs, Sectors and find answer; what Fuse lays; a nil disk's. -/
import Derived.Test.YtlchikllgmkokaaDisk
import Derived.BigQuiet
import Derived.Deep.QuietTactic
namespace Go.Proofs.Ytlchikllgmkokaa
open Go.RowKit

/-- A call answers v and turns nothing. -/
def Same (v : Value) (w : World) (e : Ending) (w' : World) : Prop := e = .returned v ∧ w = w'

section
variable {w : World} {F : Nat → Prop} {b mb : Nat} {A : Option Addr} {c : Nat} {s : St}
theorem down_any (h : DskB w F b mb A c s) : Calls Try.prog 26 #[.pointer (some ⟨b, 0, none⟩)] w (Same (.bool s.gone) w) := by
  have c4 : w.cell? ⟨b, 4, none⟩ = some (.bool s.gone) := h.blk.cell 4
  clear h
  go_enter Try.func26, Try.ntmps26
  go_wp2_with fail
  go_ret
  exact ⟨rfl, rfl⟩

theorem pending_any (h : DskB w F b mb A c s) : Calls Try.prog 27 #[.pointer (some ⟨b, 0, none⟩)] w (Same (.int .i64 s.pend.length) w) := by
  have c2 : w.cell? ⟨b, 2, none⟩ = some (.slice A s.pend.length c) := h.blk.cell 2
  clear h
  go_enter Try.func27, Try.ntmps27
  go_wp2_with fail
  go_ret
  exact ⟨rfl, rfl⟩

theorem syncs_any (h : DskB w F b mb A c s) : Calls Try.prog 28 #[.pointer (some ⟨b, 0, none⟩)] w (Same (.int .i64 s.syncs) w) := by
  have c2 : w.cell? ⟨b, 5, none⟩ = some (.int .i64 s.syncs) := h.blk.cell 5
  clear h
  go_enter Try.func28, Try.ntmps28
  go_wp2_with fail
  go_ret
  exact ⟨rfl, rfl⟩

theorem sectors_any (h : DskB w F b mb A c s) : Calls Try.prog 29 #[.pointer (some ⟨b, 0, none⟩)] w (Same (.int .i64 s.num) w) := by
  have c2 : w.cell? ⟨b, 0, none⟩ = some (.int .i64 s.num) := h.blk.cell 0
  clear h
  go_enter Try.func29, Try.ntmps29
  go_wp2_with fail
  go_ret
  exact ⟨rfl, rfl⟩

theorem find_bad (h : DskB w F b mb A c s) (n : Int) (hn : n < 0 ∨ (s.num : Int) ≤ n) : Calls Try.prog 33 #[.pointer (some ⟨b, 0, none⟩), .int .i64 n] w (Same (.int .i64 1) w) := by
  have c2 : w.cell? ⟨b, 0, none⟩ = some (.int .i64 s.num) := h.blk.cell 0
  clear h
  by_cases h0 : n < 0
  · go_enter Try.func33, Try.ntmps33
    go_wp2_with fail
    go_ret
    exact ⟨rfl, rfl⟩
  · have h1 : (s.num : Int) ≤ n := by omega
    clear hn
    go_enter Try.func33, Try.ntmps33
    go_wp2_with fail
    go_ret
    exact ⟨rfl, rfl⟩

theorem find_ok (h : DskB w F b mb A c s) (n : Nat) (hn : n < s.num) : Calls Try.prog 33 #[.pointer (some ⟨b, 0, none⟩), .int .i64 n] w (Same (.int .i64 0) w) := by
  have c2 : w.cell? ⟨b, 0, none⟩ = some (.int .i64 s.num) := h.blk.cell 0
  clear h
  go_enter Try.func33, Try.ntmps33
  go_wp2_with fail
  go_ret
  exact ⟨rfl, rfl⟩

/-- What Fuse leaves. -/
def RetFuse (F : Nat → Prop) (b : Nat) (s' : St) (w : World) (e : Ending) (w' : World) : Prop := e = .returned (.tuple #[]) ∧ Turn (dsk b s') F w w'

set_option maxHeartbeats 1000000 in
theorem fuse_any (h : DskB w F b mb A c s) (n : Int) (hn : -9223372036854775808 ≤ n ∧ n ≤ 9223372036854775807) :
    Calls Try.prog 21 #[.pointer (some ⟨b, 0, none⟩), .int .i64 n] w (RetFuse F b (s.fuse n) w) := by
  have c3 : w.cell? ⟨b, 3, none⟩ = some (.int .i64 s.left) := h.blk.cell 3
  have f3 : w.frozen? ⟨b, 3, none⟩ = false := h.blk.frz 3
  have R : Hid (RetFuse F b (s.fuse n) w (.returned (.tuple #[])) (w.setCell ⟨b, 3, none⟩ (.int .i64 (max n (-1))))) := by
    have hb : Bk (w.setCell ⟨b, 3, none⟩ (.int .i64 (max n (-1)))) b 71 #[.int .i64 (s.fuse n).num, .map (some mb), .slice A (s.fuse n).pend.length c, .int .i64 (s.fuse n).left, .bool (s.fuse n).gone, .int .i64 (s.fuse n).syncs] := by
      have := h.blk.setc 3 (.int .i64 (max n (-1)))
      simpa [St.fuse] using this
    have hf := Fr.cell1 w b 3 (.int .i64 (max n (-1)))
    have := h.set (cs := #[]) hb hf rfl rfl (h.ok.fuse hn.2) h.lim.2
    exact Lib.hid ⟨rfl, (this.mono (fun k f => .inl f) (fun k f => by
      rcases f with f | f
      · exact this.lt k f
      · exact f.2)).turn (hf.mono (fun k e => e ▸ h.fb))⟩
  clear h
  by_cases h1 : n < -1
  · rw [show max n (-1) = -1 from by omega] at R
    go_enter Try.func21, Try.ntmps21
    go_wp2_with fail
    all_goals first | omega | skip
    go_end0
    exact R.out
  · rw [show max n (-1) = n from by omega] at R
    go_enter Try.func21, Try.ntmps21
    go_wp2_with fail
    all_goals first | omega | skip
    go_end0
    exact R.out
end

section
variable (w : World)
theorem down_nil : Calls Try.prog 26 #[.pointer none] w (Same (.bool true) w) := by
  go_enter Try.func26, Try.ntmps26
  go_wp2_with fail
  go_ret
  exact ⟨rfl, rfl⟩
theorem pending_nil : Calls Try.prog 27 #[.pointer none] w (Same (.int .i64 0) w) := by
  go_enter Try.func27, Try.ntmps27
  go_wp2_with fail
  go_ret
  exact ⟨rfl, rfl⟩
theorem syncs_nil : Calls Try.prog 28 #[.pointer none] w (Same (.int .i64 0) w) := by
  go_enter Try.func28, Try.ntmps28
  go_wp2_with fail
  go_ret
  exact ⟨rfl, rfl⟩
theorem sectors_nil : Calls Try.prog 29 #[.pointer none] w (Same (.int .i64 0) w) := by
  go_enter Try.func29, Try.ntmps29
  go_wp2_with fail
  go_ret
  exact ⟨rfl, rfl⟩
theorem sync_nil : Calls Try.prog 16 #[.pointer none] w (Same (.int .i64 2) w) := by
  go_enter Try.func16, Try.ntmps16
  go_wp2_with fail
  go_ret
  exact ⟨rfl, rfl⟩
theorem fuse_nil (n : Int) : Calls Try.prog 21 #[.pointer none, .int .i64 n] w (Same (.tuple #[]) w) := by
  go_enter Try.func21, Try.ntmps21
  go_wp2_with fail
  go_end0
  exact ⟨rfl, rfl⟩
theorem find_nil (n : Int) : Calls Try.prog 33 #[.pointer none, .int .i64 n] w (Same (.int .i64 2) w) := by
  go_enter Try.func33, Try.ntmps33
  go_wp2_with fail
  go_ret
  exact ⟨rfl, rfl⟩
theorem write_nil (n : Int) (v : Value) : Calls Try.prog 13 #[.pointer none, .int .i64 n, v] w (Same (.int .i64 2) w) := by
  go_enter Try.func13, Try.ntmps13
  go_wp2_with fail
  refine (find_nil w n).mono ?_
  rintro e w' ⟨rfl, rfl⟩
  go_wp2_with fail
  go_ret
  exact ⟨rfl, rfl⟩
theorem read_nil (n : Int) : Calls Try.prog 18 #[.pointer none, .int .i64 n] w (Same (.tuple #[.slice none 0 0, .int .i64 2]) w) := by
  go_enter Try.func18, Try.ntmps18
  go_wp2_with fail
  refine (find_nil w n).mono ?_
  rintro e w' ⟨rfl, rfl⟩
  go_wp2_with fail
  go_ret2
  exact ⟨rfl, rfl⟩
theorem crash_nil (cs : Array Value) : Calls Try.prog 23 #[.pointer none, .agg cs] w (Ret (.pointer none) w) := by
  go_enter Try.func23, Try.ntmps23
  go_wp2_with fail
  go_ret
  exact ⟨rfl, (Below.refl _ _).alloc (Nat.le_refl _) _⟩
end
end Go.Proofs.Ytlchikllgmkokaa
