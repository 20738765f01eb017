/- What it says: what a row of bytes reads as while its bits are turned, one behind the other. No program's function is named; no condition. -/
import Derived.Test.YtlnhillpghjknaaDoorCrcReg
import Derived.Test.YtlnhillpghjknaaDoorOwn
import Derived.RegionTactic
import Derived.BigRegion
import Derived.IntWalk
namespace Go.Proofs.YtlnhillpghjknaaDoor
open Go.RowKit

/-- What stands in the copy, when i bits have been looked at. -/
structure TurnRel (w : World) (g n : Nat) (l : List Int) (turn a i : Nat) (m : List Int) (cur : Array Value) (wr : World) : Prop where
  blk : Bk wr g 5 cur
  own : w.heap.size ≤ g
  len : m.length = n
  size : n ≤ cur.size
  max : cur.size ≤ maxLen
  rng : ∀ x ∈ m, 0 ≤ x ∧ x < 256
  cells : ∀ j, j < n → cur[j]? = some (.int .u8 (m.getD j 0))
  num : leN m = leN l ^^^ (turn % 2 ^ i * 2 ^ a)
  bel : Below w.heap.size w wr

theorem TurnRel.byt {w wr : World} {g n : Nat} {l : List Int} {turn a i : Nat} {m : List Int} {cur : Array Value} (h : TurnRel w g n l turn a i m cur wr) : Byt wr (some ⟨g, 0, none⟩) n cur.size m :=
  Byt.of_bk h.blk 0 n cur.size m h.len h.size h.max h.rng (fun j hj => by rw [Nat.zero_add]; exact h.cells j hj)

theorem turn_more (turn i : Nat) : turn % 2 ^ (i + 1) = turn % 2 ^ i + 2 ^ i * (turn / 2 ^ i % 2) := by
  rw [Nat.pow_succ, Nat.mod_mul]

theorem turn_set (turn i a p : Nat) (hp : p = a + i) (h : turn / 2 ^ i % 2 = 1) (x : Nat) : (x ^^^ (turn % 2 ^ i * 2 ^ a)) ^^^ 2 ^ p = x ^^^ (turn % 2 ^ (i + 1) * 2 ^ a) := by
  have e1 : turn % 2 ^ (i + 1) = (turn % 2 ^ i) ^^^ 2 ^ i := by
    have hx := split_xor i (turn % 2 ^ (i + 1))
    have e1 : turn % 2 ^ (i + 1) % 2 ^ i = turn % 2 ^ i := Nat.mod_mod_of_dvd _ ⟨2, by rw [Nat.pow_succ]⟩
    have e2 : turn % 2 ^ (i + 1) / 2 ^ i = turn / 2 ^ i % 2 := by rw [Nat.pow_succ, Nat.mod_mul_right_div_self]
    rw [e1, e2, h, Nat.one_mul] at hx
    exact hx.symm
  rw [e1, hp, Nat.add_comm, Nat.pow_add]
  have sh : ∀ x y : Nat, (x ^^^ y) * 2 ^ a = (x * 2 ^ a) ^^^ (y * 2 ^ a) := fun x y => by
    rw [← Nat.shiftLeft_eq, ← Nat.shiftLeft_eq, ← Nat.shiftLeft_eq, Nat.shiftLeft_xor_distrib]
  rw [sh, Nat.xor_assoc]

theorem turn_keep (turn i : Nat) (h : ¬ turn / 2 ^ i % 2 = 1) : turn % 2 ^ (i + 1) = turn % 2 ^ i := by
  rw [turn_more, show turn / 2 ^ i % 2 = 0 from by omega, Nat.mul_zero, Nat.add_zero]

theorem TurnRel.keep {w wr : World} {g n : Nat} {l : List Int} {turn a i : Nat} {m : List Int} {cur : Array Value} (h : TurnRel w g n l turn a i m cur wr) (hb : ¬ turn / 2 ^ i % 2 = 1) : TurnRel w g n l turn a (i + 1) m cur wr :=
  { h with num := by rw [turn_keep turn i hb]; exact h.num }

/-- The byte that is turned. -/
def turned (m : List Int) (p : Nat) : Nat := (m.getD (p / 8) 0).toNat ^^^ 2 ^ (p % 8)

theorem pow8 (b : Nat) (h : b < 8) : 2 ^ b < 256 := Nat.lt_of_le_of_lt (Nat.pow_le_pow_right (by decide) (show b ≤ 7 by omega)) (by decide)

theorem TurnRel.set {w wr : World} {g n : Nat} {l : List Int} {turn a i : Nat} {m : List Int} {cur : Array Value} (h : TurnRel w g n l turn a i m cur wr) (p : Nat) (hp : p = a + i) (hpn : p < 8 * n) (hb : turn / 2 ^ i % 2 = 1) :
    TurnRel w g n l turn a (i + 1) (m.set (p / 8) ((turned m p : Nat) : Int)) (cur.setIfInBounds (p / 8) (.int .u8 ((turned m p : Nat) : Int))) (wr.setCell ⟨g, p / 8, none⟩ (.int .u8 ((turned m p : Nat) : Int))) := by
  have hj : p / 8 < n := by omega
  have hm : p / 8 < m.length := by rw [h.len]; exact hj
  have hx : 0 ≤ m.getD (p / 8) 0 ∧ m.getD (p / 8) 0 < 256 := by
    have : m.getD (p / 8) 0 = m[p / 8] := by simp [List.getD, List.getElem?_eq_getElem hm]
    rw [this]
    exact h.rng _ (List.getElem_mem hm)
  have hy : turned m p < 256 := Nat.xor_lt_two_pow (n := 8) (by omega) (pow8 _ (Nat.mod_lt _ (by decide)))
  refine ⟨h.blk.setc _ _, h.own, by simp [h.len], by simp [h.size], by simp [h.max], ?_, ?_, ?_, h.bel.setCell h.own _⟩
  · intro x hx
    rcases List.mem_or_eq_of_mem_set hx with h1 | h1
    · exact h.rng x h1
    · subst h1; omega
  · intro j hj
    have hs := h.size
    rw [Array.getElem?_setIfInBounds]
    by_cases e : p / 8 = j
    · subst e
      rw [if_pos rfl, if_pos (by omega)]
      simp [List.getD, hm]
    · rw [if_neg e, h.cells j hj]
      simp [List.getD, e]
  · have := leN_turn m h.rng (p / 8) (p % 8) hm (Nat.mod_lt _ (by decide))
    rw [show 8 * (p / 8) + p % 8 = p from by omega] at this
    unfold turned
    rw [this, h.num, turn_set turn i a p hp hb]

theorem TurnRel.old {w wr : World} {g n : Nat} {l : List Int} {turn a i : Nat} {m : List Int} {cur : Array Value} (h : TurnRel w g n l turn a i m cur wr) (j : Nat) (hj : j < n) : ∃ x : Nat, x = (m.getD j 0).toNat ∧ x < 256 ∧ wr.cell? ⟨g, j, none⟩ = some (.int .u8 (x : Int)) ∧ wr.frozen? ⟨g, j, none⟩ = false := by
  have hm : j < m.length := by rw [h.len]; exact hj
  have hx : 0 ≤ m.getD j 0 ∧ m.getD j 0 < 256 := by
    have : m.getD j 0 = m[j] := by simp [List.getD, List.getElem?_eq_getElem hm]
    rw [this]
    exact h.rng _ (List.getElem_mem hm)
  refine ⟨_, rfl, by omega, ?_, h.blk.frz j⟩
  rw [h.blk.cell, h.cells j hj]
  congr 2
  omega

theorem TurnRel.drew {w wr : World} {g n : Nat} {l : List Int} {turn a i : Nat} {m : List Int} {cur : Array Value} (h : TurnRel w g n l turn a i m cur wr) : TurnRel w g n l turn a i m cur wr.drew :=
  { h with blk := h.blk, bel := ⟨h.bel.os, h.bel.tape, h.bel.output, h.bel.size, h.bel.block⟩ }

theorem TurnRel.start {w w1 : World} {g n c : Nat} {l : List Int} {turn a : Nat} (ho : w1.ownsRow w.heap.size 5 1 (.slice (some ⟨g, 0, none⟩) n c) n (l.map (Value.int .u8))) (hr : ∀ x ∈ l, 0 ≤ x ∧ x < 256) (hb : Below w.heap.size w w1) (hl : l.length = n) :
    ∃ cur, cur.size = c ∧ TurnRel w g n l turn a 0 l cur w1 := by
  have hby := Byt.of_own ho hr
  rcases ho.2 with ⟨hv, _⟩ | ⟨g', cap, cur, hv, hg, hh, hn, hm, hs, _⟩
  · injection hv with h1
    cases h1
  · injection hv with h1 h2 h3
    injection h1 with h1
    injection h1 with h1
    subst h1 h3
    have hblk : Bk w1 g 5 cur := hh
    refine ⟨cur, by omega, hblk, hg, hl, by omega, by omega, hr, fun j hj => ?_, by simp [Nat.mod_one], hb⟩
    by_cases h0 : 0 < n
    · obtain ⟨g1, o1, e, hc⟩ := hby.at_ h0
      injection e with e; injection e with e1 e2; subst e1; subst e2
      have := hc j hj
      rw [hblk.cell, Nat.zero_add] at this
      exact this
    · omega

theorem xor8 (x b : Nat) (hx : x < 256) (hb : b < 256) : bits .xor .u8 (x : Int) (b : Int) = ((x ^^^ b : Nat) : Int) := u8_xor_nat x b hx hb

theorem u64_wrap_pos (x : Int) : 0 ≤ IntKind.u64.wrap x := by rw [IntKind.wrap_u64]; omega
end Go.Proofs.YtlnhillpghjknaaDoor
