/- What it says: a writer behind a pointer, and what its methods gather; nothing else that was there is turned. -/
import Derived.Test.YtlnhillpghjknaaDoorStr
import Derived.Test.YtlnhillpghjknaaDoorNumShort
namespace Go.Proofs.YtlnhillpghjknaaDoor
open Go.RowKit

/-- A block of another type than bytes is no row of bytes. -/
theorem apart_row {w : World} {b base n : Nat} {t : TypeId} {cs : Array Value} {v : Value} {xs : List Value} (ht : t ≠ 5) (h : Bk w b t cs) (ho : w.ownsRow base 5 1 v n xs) : v.ownBlock ≠ some b := by
  rcases ho.2 with ⟨rfl, _⟩ | ⟨g, cap, cur, rfl, _, hg, _⟩
  · simp [Value.ownBlock]
  · intro e
    simp [Value.ownBlock] at e
    subst e
    unfold Bk at h
    rw [h] at hg
    simp at hg
    exact ht hg.2

/-- The writer at block b, and what it has gathered: memory of the call's own, from block number base on. -/
structure Wrt (w : World) (base b : Nat) (l : List Int) : Prop where
  low : base ≤ b
  rng : ∀ x ∈ l, 0 ≤ x ∧ x < 256
  ex : ∃ A n c, Bk w b 60 #[.slice A n c] ∧ w.ownsRow base 5 1 (.slice A n c) n (l.map (Value.int .u8))

theorem Wrt.lt {w : World} {base b : Nat} {l : List Int} (h : Wrt w base b l) : b < w.heap.size := by
  obtain ⟨A, n, c, hb, _⟩ := h.ex
  exact hb.lt

theorem Wrt.ret {w w' : World} {base b : Nat} {l : List Int} (h : Wrt w base b l) (hb : Below w.heap.size w w') : Wrt w' base b l := by
  obtain ⟨A, n, c, h1, h2⟩ := h.ex
  refine ⟨h.low, h.rng, A, n, c, h1.bel hb h1.lt, ?_⟩
  exact h2.kept (row := none) ⟨hb.os, hb.tape, hb.output, hb.size, fun k hk _ => hb.block k hk⟩ (by
    cases A with
    | none => exact .inl rfl
    | some a => exact .inr (by simp [Value.ownBlock]))

/-- What a writer's method leaves. -/
def RetW (base b : Nat) (l : List Int) (w : World) (e : Ending) (w' : World) : Prop := e = .returned (.tuple #[]) ∧ Wrt w' base b l ∧ Below base w w'

theorem put_end {base b : Nat} {l m : List Int} {w w1 : World} {A A' : Option Addr} {n c n' c' : Nat} (hlow : base ≤ b) (hb : Bk w b 60 #[.slice A n c]) (hbz : base ≤ w.heap.size)
    (ho : w.ownsRow base 5 1 (.slice A n c) n (l.map (Value.int .u8))) (hl : ∀ x ∈ l, 0 ≤ x ∧ x < 256) (hm : ∀ x ∈ m, 0 ≤ x ∧ x < 256)
    (h1 : w1.ownsRow base 5 1 (.slice A' n' c') n' (l.map (Value.int .u8) ++ m.map (Value.int .u8))) (h2 : w.grownBy w1 (Value.ownBlock (.slice A n c))) :
    RetW base b (l ++ m) w (.returned (.tuple #[])) (w1.setCell ⟨b, 0, none⟩ (.slice A' n' c')) := by
  rw [← List.map_append] at h1
  have hb1 : Bk w1 b 60 #[.slice A n c] := (h2.block b hb.lt (fun e => apart_row (by decide) hb ho e.symm)).trans hb
  refine ⟨rfl, ⟨hlow, fun x hx => ?_, A', n', c', ?_, ?_⟩, ?_⟩
  · rcases List.mem_append.1 hx with h | h
    · exact hl x h
    · exact hm x h
  · have := hb1.setc 0 (.slice A' n' c')
    simpa using this
  · refine h1.kept (row := some b) ⟨rfl, rfl, rfl, by simp [World.setCell], fun k hk hk' => ?_⟩ (.inr (apart_row (by decide) hb1 h1))
    exact Below.heap_setCell w1 _ _ k (fun e => hk' (by simp [e]))
  · exact (((Below.refl base w).grown h2 hbz (fun k hk => (ho.lt k hk).1)).setCell hlow _)

/-- Behind 'append': the writer's cell is there still. -/
theorem put_cell {base b : Nat} {l : List Int} {w w1 : World} {A : Option Addr} {n c : Nat} (hb : Bk w b 60 #[.slice A n c])
    (ho : w.ownsRow base 5 1 (.slice A n c) n (l.map (Value.int .u8))) (h2 : w.grownBy w1 (Value.ownBlock (.slice A n c))) :
    w1.cell? ⟨b, 0, none⟩ = some (.slice A n c) ∧ w1.frozen? ⟨b, 0, none⟩ = false := by
  have hb1 : Bk w1 b 60 #[.slice A n c] := (h2.block b hb.lt (fun e => apart_row (by decide) hb ho e.symm)).trans hb
  exact ⟨hb1.cell 0, hb1.frz 0⟩

set_option maxHeartbeats 1000000 in
theorem put_any (base b : Nat) (l m : List Int) (A : Option Addr) (n c : Nat) (w : World) (h : Wrt w base b l) (hm : Byt w A n c m) (hn : l.length + n ≤ 140737488355328) :
    Calls Tryd.prog 53 #[.pointer (some ⟨b, 0, none⟩), .slice A n c] w (RetW base b (l ++ m) w) := by
  obtain ⟨i0, hi, hz0, hz1, hz2⟩ := info_parts info_u8
  obtain ⟨A0, n0, c0, hb, ho⟩ := h.ex
  have hl0 : l.length = n0 := by simpa using ho.1
  have hcell : w.cell? ⟨b, 0, none⟩ = some (.slice A0 n0 c0) := hb.cell 0
  have hbz : base ≤ w.heap.size := by have := hb.lt; have := h.low; omega
  have HE := fun A' n' c' w1 h1 h2 => @put_end base b l m w w1 A0 A' n0 c0 n' c' h.low hb hbz ho h.rng hm.rng h1 h2
  have HC := fun w1 h2 => @put_cell base b l w w1 A0 n0 c0 hb ho h2
  have HE := Lib.hid HE
  have HC := Lib.hid HC
  have HO := Lib.hid ho
  clear h hb ho
  go_enter Tryd.func53, Tryd.ntmps53
  go_wp2_with (at_builtin; refine wpList_append_byt rfl _ _ 25 rfl base 5 i0 Tryd.underlying25 hi hz0 hz1 hz2 _ n0 l rfl (by exact HO.out) A n c m rfl hm (by omega) hbz ?_)
  intro A' c' w1 h1 h2
  obtain ⟨hc1, hf1⟩ := HC.out w1 h2
  have R := Lib.hid (HE.out _ _ _ w1 h1 h2)
  clear h1 h2 hcell hm HC HE
  go_wp2
  go_end0
  exact R.out

/-- A nil writer gathers nothing. -/
theorem put_nil (A : Option Addr) (n c : Nat) (w : World) :
    Calls Tryd.prog 53 #[.pointer none, .slice A n c] w (Ret (.tuple #[]) w) := by
  go_enter Tryd.func53, Tryd.ntmps53
  go_wp2
  go_end0
  exact ⟨rfl, Below.refl _ _⟩
end Go.Proofs.YtlnhillpghjknaaDoor
