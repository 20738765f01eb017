/- What it says: the statements' own() hands back the same bytes in new memory; the slice that comes in holds at most 2^47 bytes. -/
import Derived.Test.YtlchikllgmkokabRows
import Derived.Test.YtlchikllgmkokabKit
import Derived.Lib.SliceRun
namespace Go.Proofs.Ytlchikllgmkokab
open Go.RowKit

theorem info_u8 : (Try.prog.info? 5).map (fun i => (i.zero, i.size, i.bytes)) = some (some (.int .u8 0), 1, 1) := by kernel_rfl

/-- A call hands back a row of its own that reads as l. -/
def RetOwn (l : List Int) (w : World) (e : Ending) (w' : World) : Prop :=
  ∃ A n c, e = .returned (.slice A n c) ∧ w'.ownsRow w.heap.size 5 1 (.slice A n c) n (l.map (Value.int .u8)) ∧ (∀ x ∈ l, 0 ≤ x ∧ x < 256) ∧ Below w.heap.size w w'

theorem RetOwn.byt {l : List Int} {w : World} {e : Ending} {w' : World} (h : RetOwn l w e w') : RetByt l w e w' := by
  obtain ⟨A, n, c, he, ho, hr, hb⟩ := h
  exact ⟨A, n, c, he, Byt.of_own ho hr, hb⟩

theorem own_end {w w' : World} {A' : Option Addr} {n c' : Nat} {l : List Int} (hr : ∀ x ∈ l, 0 ≤ x ∧ x < 256)
    (h1 : w'.ownsRow w.heap.size 5 1 (.slice A' n c') n (l.map (Value.int .u8))) (h2 : (w.alloc (.cells #[] 5)).grownBy w' (Value.ownBlock (.slice (some ⟨w.heap.size, 0, none⟩) 0 0))) :
    RetOwn l w (.returned (.slice A' n c')) w' :=
  ⟨A', n, c', rfl, h1, hr, ((Below.refl _ _).alloc (Nat.le_refl _) _).grown h2 (by simp) (by intro k hk; simp [Value.ownBlock] at hk; omega)⟩

set_option maxHeartbeats 400000 in
theorem own_own (A : Option Addr) (n c : Nat) (l : List Int) (w : World) (h : Byt w A n c l) (hn : n ≤ 140737488355328) :
    Calls Try.prog 11 #[.slice A n c] w (RetOwn l w) := by
  obtain ⟨i0, hi, hz0, hz1, hz2⟩ := info_parts info_u8
  have hown0 := World.ownsRow_made (base := w.heap.size) (e := 5) (size := 1) w #[] 0 (Nat.le_refl _) (Nat.zero_le _) rfl
  go_enter Try.func11, Try.ntmps11
  go_wp2_with (at_builtin; refine wpList_append_byt rfl _ _ 22 rfl w.heap.size 5 i0 Try.underlying22 hi hz0 hz1 hz2 _ 0 [] rfl (by exact hown0) A n c l rfl (h.alloc _) (by omega) (by simp) ?_)
  intro A' c' w' h1 h2
  have R := Lib.hid (own_end h.rng h1 h2)
  clear h1 h2 h hown0
  go_wp2
  go_ret
  exact R.out

theorem own_any (A : Option Addr) (n c : Nat) (l : List Int) (w : World) (h : Byt w A n c l) (hn : n ≤ 140737488355328) :
    Calls Try.prog 11 #[.slice A n c] w (RetByt l w) := (own_own A n c l w h hn).mono fun _ _ h => h.byt

/- What an append onto a row of one's own leaves. -/
theorem app_below {w1 w2 w3 : World} {v : Value} {k : Nat} {e : TypeId} {xs : List Value} (b2 : Below w1.heap.size w1 w2) (ho : w2.ownsRow w1.heap.size e 1 v k xs) (hg : w2.grownBy w3 v.ownBlock) : Below w1.heap.size w1 w3 :=
  b2.grown hg b2.size (fun i hi => (ho.lt i hi).1)

theorem app_byt {B : Nat} {w : World} {e : TypeId} {A : Option Addr} {m c : Nat} {xs ys : List Int} (h : w.ownsRow B e 1 (.slice A m c) m (xs.map (Value.int .u8) ++ ys.map (Value.int .u8))) (hx : ∀ x ∈ xs, 0 ≤ x ∧ x < 256) (hy : ∀ x ∈ ys, 0 ≤ x ∧ x < 256) : Byt w A m c (xs ++ ys) := by
  rw [← List.map_append] at h
  exact Byt.of_own h (fun x hx' => by
    rcases List.mem_append.1 hx' with h | h
    · exact hx x h
    · exact hy x h)

/-- n noughts. -/
def noughts (n : Nat) : Array Value := madeCells #[.int .u8 0] n
theorem noughts_size (n : Nat) : (noughts n).size = n := size_madeCells _ _

theorem make_bytes (n : Nat) (hn : n ≤ 281474976710656) (W : World) : (Instr.makeSlice 22 (.int .i64 (n : Int)) (.int .i64 (n : Int))).run Try.prog W =
    .ok (.slice (some ⟨W.heap.size, 0, none⟩) n n) (W.alloc (.cells (noughts n) 5)) := by
  obtain ⟨i0, hi, hz0, hz1, hz2⟩ := info_parts info_u8
  have := run_make (P := Try.prog) W 22 5 i0 (.int .u8 0) Try.underlying22 hi hz0 .i64 .i64 n n (by omega) (by omega) (by rw [hz2]; omega) (by omega)
  rw [this, hz1, Int.toNat_natCast, Nat.mul_one]
  rfl
end Go.Proofs.Ytlchikllgmkokab
