/- What it says: disk.New hands back a new disk of noughts, or the error. -/
import Derived.Test.YtlchikllgmkokaaDRead
namespace Go.Proofs.Ytlchikllgmkokaa
open Go.RowKit

/-- A new disk's cells. -/
def newC (n : Int) (mb : Nat) : Array Value := #[.int .i64 n, .map (some mb), .slice none 0 0, .int .i64 (-1), .bool false, .int .i64 0]

theorem newDisk_any (n : Int) (mb : Nat) (w : World) :
    Calls Try.prog 32 #[.int .i64 n, .map (some mb)] w (fun e w' => e = .returned (.pointer (some ⟨w.heap.size, 0, none⟩)) ∧ w' = w.alloc (.cells (newC n mb) 71)) := by
  unfold newC
  go_enter Try.func32, Try.ntmps32
  go_wp2_with fail
  go_ret
  exact ⟨rfl, rfl⟩

/-- A disk on which everything is synchronized. -/
def St.still (s : St) : Prop := s.pend = [] ∧ s.left = -1 ∧ s.gone = false ∧ s.syncs = 0

theorem new_dsk {w w1 : World} {mb : Nat} {s : St} (hs : s.still) (ok : s.Ok) (hm : MapFn w1 mb (secV zeros) (fun n => secV (s.syn n))) (hlow : w.heap.size ≤ mb) (hb : Below w.heap.size w w1) :
    (dsk w1.heap.size s).is (w1.alloc (.cells (newC s.num mb) 71)) (fresh w (w1.alloc (.cells (newC s.num mb) 71))) ∧ Below w.heap.size w (w1.alloc (.cells (newC s.num mb) 71)) := by
  obtain ⟨h1, h2, h3, h4⟩ := hs
  have hsz : (w1.alloc (.cells (newC s.num mb) 71)).heap.size = w1.heap.size + 1 := by simp
  refine ⟨⟨mb, none, 0, ?_, ?_, ?_, ⟨hb.size, by omega⟩, ⟨hlow, by have := hm.lt; omega⟩, ?_, fun k f => f.2, ok, ?_⟩, hb.alloc hb.size _⟩
  · rw [h1, h2, h3, h4]
    exact heap_alloc_new _ _
  · exact hm.eq (Below.heap_alloc _ _ _ hm.lt)
  · rw [h1]
    exact World.ownsRow_nil _ _ _ _
  · intro k hk
    simp [Value.ownBlock] at hk
  · rw [h1, h4]
    simp

/-- A new disk, all of it new memory. -/
def RetNew (s : St) (w : World) (e : Ending) (w' : World) : Prop := ∃ b, e = .returned (.tuple #[.pointer (some ⟨b, 0, none⟩), .int .i64 0]) ∧ (dsk b s).is w' (fresh w w') ∧ Below w.heap.size w w'

set_option maxHeartbeats 1000000 in
theorem new_any (n : Nat) (hn : 1 ≤ n ∧ n ≤ 4096) (w : World) : Calls Try.prog 11 #[.int .i64 n] w (RetNew (St.new n) w) := by
  have hR := (new_dsk (w := w) (w1 := w.alloc (.map #[] 0)) (mb := w.heap.size) (s := St.new n) ⟨rfl, rfl, rfl, rfl⟩ (St.new_ok hn) (MapFn.new w _) (Nat.le_refl _) ((Below.refl _ _).alloc (Nat.le_refl _) _))
  rw [show (w.alloc (.map #[] 0)).heap.size = w.heap.size + 1 from by simp] at hR
  have R := Lib.hid hR
  obtain ⟨h1, h2⟩ := hn
  have hmm := @run_makeMap Try.prog
  clear hR
  go_enter Try.func11, Try.ntmps11
  go_wp2_with fail
  refine (newDisk_any n _ _).mono ?_
  rintro e w' ⟨rfl, rfl⟩
  go_wp2_with fail
  go_ret2
  exact ⟨_, rfl, R.out⟩

theorem new_bad (n : Int) (hn : n < 1 ∨ 4096 < n) (w : World) : Calls Try.prog 11 #[.int .i64 n] w (Same (.tuple #[.pointer none, .int .i64 1]) w) := by
  by_cases h1 : n < 1
  · go_enter Try.func11, Try.ntmps11
    go_wp2_with fail
    go_ret2
    exact ⟨rfl, rfl⟩
  · have h2 : 4096 < n := by omega
    clear hn
    go_enter Try.func11, Try.ntmps11
    go_wp2_with fail
    go_ret2
    exact ⟨rfl, rfl⟩
end Go.Proofs.Ytlchikllgmkokaa
