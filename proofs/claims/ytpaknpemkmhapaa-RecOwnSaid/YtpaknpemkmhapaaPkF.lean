/- What it says: contracts and plain mathematics that the laws' walks use, 25 of 24: each part's own remark says what; no condition. -/
import Derived.Test.YtpaknpemkmhapaaPk1
import Derived.Test.YtpaknpemkmhapaaPk2
import Derived.Test.YtpaknpemkmhapaaPk3
import Derived.Test.YtpaknpemkmhapaaPk6
import Derived.Test.YtpaknpemkmhapaaPk0
import Derived.RegionTactic
import Derived.BigRegion
import Derived.IntWalk
import Derived.Deep.RegionHeld

set_option linter.unusedSimpArgs false
set_option linter.unusedVariables false
set_option linter.deprecated false
set_option linter.unusedSectionVars false
set_option linter.all false

/- what a row of bytes reads as while its bits are turned, one behind the other. No program's function is named; no condition. -/
namespace Go.Proofs.Ytpaknpemkmhapaa
open Go.RowKit

/-- What stands in the copy, when i bits have been looked at. -/
structure TurnRel (w : World) (g n : Nat) (l : List Int) (turn a i : Nat) (m : List Int) (cur : Array Value) (wr : World) : Prop where
  blk : Bk wr g 5 cur
  own : w.heap.size ≤ g
  len : m.length = n
  size : n ≤ cur.size
  max : cur.size ≤ maxLen
  rng : ∀ x ∈ m, 0 ≤ x ∧ x < 256
  cells : ∀ j, j < n → cur[j]? = some (.int .u8 (m.getD j 0))
  num : leN m = leN l ^^^ (turn % 2 ^ i * 2 ^ a)
  bel : Below w.heap.size w wr

theorem TurnRel.byt {w wr : World} {g n : Nat} {l : List Int} {turn a i : Nat} {m : List Int} {cur : Array Value} (h : TurnRel w g n l turn a i m cur wr) : Byt wr (some ⟨g, 0, none⟩) n cur.size m :=
  Byt.of_bk h.blk 0 n cur.size m h.len h.size h.max h.rng (fun j hj => by rw [Nat.zero_add]; exact h.cells j hj)

theorem turn_more (turn i : Nat) : turn % 2 ^ (i + 1) = turn % 2 ^ i + 2 ^ i * (turn / 2 ^ i % 2) := by
  rw [Nat.pow_succ, Nat.mod_mul]

theorem turn_set (turn i a p : Nat) (hp : p = a + i) (h : turn / 2 ^ i % 2 = 1) (x : Nat) : (x ^^^ (turn % 2 ^ i * 2 ^ a)) ^^^ 2 ^ p = x ^^^ (turn % 2 ^ (i + 1) * 2 ^ a) := by
  have e1 : turn % 2 ^ (i + 1) = (turn % 2 ^ i) ^^^ 2 ^ i := by
    have hx := split_xor i (turn % 2 ^ (i + 1))
    have e1 : turn % 2 ^ (i + 1) % 2 ^ i = turn % 2 ^ i := Nat.mod_mod_of_dvd _ ⟨2, by rw [Nat.pow_succ]⟩
    have e2 : turn % 2 ^ (i + 1) / 2 ^ i = turn / 2 ^ i % 2 := by rw [Nat.pow_succ, Nat.mod_mul_right_div_self]
    rw [e1, e2, h, Nat.one_mul] at hx
    exact hx.symm
  rw [e1, hp, Nat.add_comm, Nat.pow_add]
  have sh : ∀ x y : Nat, (x ^^^ y) * 2 ^ a = (x * 2 ^ a) ^^^ (y * 2 ^ a) := fun x y => by
    rw [← Nat.shiftLeft_eq, ← Nat.shiftLeft_eq, ← Nat.shiftLeft_eq, Nat.shiftLeft_xor_distrib]
  rw [sh, Nat.xor_assoc]

theorem turn_keep (turn i : Nat) (h : ¬ turn / 2 ^ i % 2 = 1) : turn % 2 ^ (i + 1) = turn % 2 ^ i := by
  rw [turn_more, show turn / 2 ^ i % 2 = 0 from by omega, Nat.mul_zero, Nat.add_zero]

theorem TurnRel.keep {w wr : World} {g n : Nat} {l : List Int} {turn a i : Nat} {m : List Int} {cur : Array Value} (h : TurnRel w g n l turn a i m cur wr) (hb : ¬ turn / 2 ^ i % 2 = 1) : TurnRel w g n l turn a (i + 1) m cur wr :=
  { h with num := by rw [turn_keep turn i hb]; exact h.num }

/-- The byte that is turned. -/
def turned (m : List Int) (p : Nat) : Nat := (m.getD (p / 8) 0).toNat ^^^ 2 ^ (p % 8)

theorem pow8 (b : Nat) (h : b < 8) : 2 ^ b < 256 := Nat.lt_of_le_of_lt (Nat.pow_le_pow_right (by decide) (show b ≤ 7 by omega)) (by decide)

theorem TurnRel.set {w wr : World} {g n : Nat} {l : List Int} {turn a i : Nat} {m : List Int} {cur : Array Value} (h : TurnRel w g n l turn a i m cur wr) (p : Nat) (hp : p = a + i) (hpn : p < 8 * n) (hb : turn / 2 ^ i % 2 = 1) :
    TurnRel w g n l turn a (i + 1) (m.set (p / 8) ((turned m p : Nat) : Int)) (cur.setIfInBounds (p / 8) (.int .u8 ((turned m p : Nat) : Int))) (wr.setCell ⟨g, p / 8, none⟩ (.int .u8 ((turned m p : Nat) : Int))) := by
  have hj : p / 8 < n := by omega
  have hm : p / 8 < m.length := by rw [h.len]; exact hj
  have hx : 0 ≤ m.getD (p / 8) 0 ∧ m.getD (p / 8) 0 < 256 := by
    have : m.getD (p / 8) 0 = m[p / 8] := by simp [List.getD, List.getElem?_eq_getElem hm]
    rw [this]
    exact h.rng _ (List.getElem_mem hm)
  have hy : turned m p < 256 := Nat.xor_lt_two_pow (n := 8) (by omega) (pow8 _ (Nat.mod_lt _ (by decide)))
  refine ⟨h.blk.setc _ _, h.own, by simp [h.len], by simp [h.size], by simp [h.max], ?_, ?_, ?_, h.bel.setCell h.own _⟩
  · intro x hx
    rcases List.mem_or_eq_of_mem_set hx with h1 | h1
    · exact h.rng x h1
    · subst h1; omega
  · intro j hj
    have hs := h.size
    rw [Array.getElem?_setIfInBounds]
    by_cases e : p / 8 = j
    · subst e
      rw [if_pos rfl, if_pos (by omega)]
      simp [List.getD, hm]
    · rw [if_neg e, h.cells j hj]
      simp [List.getD, e]
  · have := leN_turn m h.rng (p / 8) (p % 8) hm (Nat.mod_lt _ (by decide))
    rw [show 8 * (p / 8) + p % 8 = p from by omega] at this
    unfold turned
    rw [this, h.num, turn_set turn i a p hp hb]

theorem TurnRel.old {w wr : World} {g n : Nat} {l : List Int} {turn a i : Nat} {m : List Int} {cur : Array Value} (h : TurnRel w g n l turn a i m cur wr) (j : Nat) (hj : j < n) : ∃ x : Nat, x = (m.getD j 0).toNat ∧ x < 256 ∧ wr.cell? ⟨g, j, none⟩ = some (.int .u8 (x : Int)) ∧ wr.frozen? ⟨g, j, none⟩ = false := by
  have hm : j < m.length := by rw [h.len]; exact hj
  have hx : 0 ≤ m.getD j 0 ∧ m.getD j 0 < 256 := by
    have : m.getD j 0 = m[j] := by simp [List.getD, List.getElem?_eq_getElem hm]
    rw [this]
    exact h.rng _ (List.getElem_mem hm)
  refine ⟨_, rfl, by omega, ?_, h.blk.frz j⟩
  rw [h.blk.cell, h.cells j hj]
  congr 2
  omega

theorem TurnRel.drew {w wr : World} {g n : Nat} {l : List Int} {turn a i : Nat} {m : List Int} {cur : Array Value} (h : TurnRel w g n l turn a i m cur wr) : TurnRel w g n l turn a i m cur wr.drew :=
  { h with blk := h.blk, bel := ⟨h.bel.os, h.bel.tape, h.bel.output, h.bel.size, h.bel.block⟩ }

theorem TurnRel.start {w w1 : World} {g n c : Nat} {l : List Int} {turn a : Nat} (ho : w1.ownsRow w.heap.size 5 1 (.slice (some ⟨g, 0, none⟩) n c) n (l.map (Value.int .u8))) (hr : ∀ x ∈ l, 0 ≤ x ∧ x < 256) (hb : Below w.heap.size w w1) (hl : l.length = n) :
    ∃ cur, cur.size = c ∧ TurnRel w g n l turn a 0 l cur w1 := by
  have hby := Byt.of_own ho hr
  rcases ho.2 with ⟨hv, _⟩ | ⟨g', cap, cur, hv, hg, hh, hn, hm, hs, _⟩
  · injection hv with h1
    cases h1
  · injection hv with h1 h2 h3
    injection h1 with h1
    injection h1 with h1
    subst h1 h3
    have hblk : Bk w1 g 5 cur := hh
    refine ⟨cur, by omega, hblk, hg, hl, by omega, by omega, hr, fun j hj => ?_, by simp [Nat.mod_one], hb⟩
    by_cases h0 : 0 < n
    · obtain ⟨g1, o1, e, hc⟩ := hby.at_ h0
      injection e with e; injection e with e1 e2; subst e1; subst e2
      have := hc j hj
      rw [hblk.cell, Nat.zero_add] at this
      exact this
    · omega

theorem xor8 (x b : Nat) (hx : x < 256) (hb : b < 256) : bits .xor .u8 (x : Int) (b : Int) = ((x ^^^ b : Nat) : Int) := u8_xor_nat x b hx hb

theorem u64_wrap_pos (x : Int) : 0 ≤ IntKind.u64.wrap x := by rw [IntKind.wrap_u64]; omega
end Go.Proofs.Ytpaknpemkmhapaa

/- a row of bytes of one's own that is written byte by byte, and what that leaves alone. -/
namespace Go.Proofs.Ytpaknpemkmhapaa
open Go.RowKit

theorem own_setB {w : World} {base g n c i : Nat} {l : List Int} (h : w.ownsRow base 5 1 (.slice (some ⟨g, 0, none⟩) n c) n (l.map (Value.int .u8))) (_hi : i < n) (y : Int) :
    (w.setCell ⟨g, i, none⟩ (.int .u8 y)).ownsRow base 5 1 (.slice (some ⟨g, 0, none⟩) n c) n ((l.set i y).map (Value.int .u8)) := by
  have hl : l.length = n := by simpa using h.1
  refine ⟨by simp [hl], ?_⟩
  rcases h.2 with ⟨hv, _⟩ | ⟨g', cap, cur, hv, hb, hg, hn, hm, hs, ht⟩
  · injection hv with h1; cases h1
  · injection hv with h1 h2 h3
    injection h1 with h1
    injection h1 with h1
    subst h1 h3
    have hb' := (show Bk w g 5 cur from hg).setc i (.int .u8 y)
    refine .inr ⟨g, c, cur.setIfInBounds i (.int .u8 y), rfl, hb, hb', hn, hm, by simpa using hs, ?_⟩
    rw [Array.toList_setIfInBounds, List.take_set, ht, List.map_set]

/-- Nothing but bytes is turned. -/
structure Thru (w w' : World) : Prop where
  size : w.heap.size ≤ w'.heap.size
  cell : ∀ a v, w.cell? a = some v → (∀ z, v ≠ .int .u8 z) → w'.cell? a = some v
  typ : ∀ (k : Nat) (cs : Array Value) (t : TypeId) (fr : Nat × Nat), w.heap[k]? = some (.cells cs t fr) → ∃ (cs' : Array Value) (fr' : Nat × Nat), w'.heap[k]? = some (.cells cs' t fr')
theorem Thru.refl (w : World) : Thru w w := ⟨Nat.le_refl _, fun _ _ h _ => h, fun _ cs _ fr h => ⟨cs, fr, h⟩⟩
theorem Thru.trans {w w1 w2 : World} (h : Thru w w1) (k : Thru w1 w2) : Thru w w2 :=
  ⟨Nat.le_trans h.size k.size, fun a v q z => k.cell a v (h.cell a v q z) z, fun i cs t fr q => by
    obtain ⟨cs', fr', q'⟩ := h.typ i cs t fr q
    exact k.typ i cs' t fr' q'⟩
theorem Thru.set {w : World} {g i : Nat} {cs : Array Value} {x y : Int} (h : Bk w g 5 cs) (hx : w.cell? ⟨g, i, none⟩ = some (.int .u8 x)) : Thru w (w.setCell ⟨g, i, none⟩ (.int .u8 y)) := by
  have hs := grown_set w g i (.int .u8 y)
  have hb := h.setc i (.int .u8 y)
  refine ⟨hs.size, ?_, ?_⟩
  · rintro ⟨b, off, spot⟩ v ha hz
    by_cases hbg : b = g
    · subst hbg
      cases spot with
      | some s =>
        unfold World.cell? at ha
        rw [show w.heap[b]? = some (.cells cs 5 (0, 0)) from h] at ha
        simp at ha
      | none =>
        by_cases ho : off = i
        · subst ho
          rw [hx] at ha
          injection ha with ha
          exact absurd ha.symm (hz x)
        · rw [hb.cell, Array.getElem?_setIfInBounds, if_neg (by omega), ← h.cell]
          exact ha
    · exact (World.cell?_setCell_far w _ _ _ (fun q => hbg q.symm)).trans ha
  · intro k cs' t fr q
    by_cases hk : k = g
    · subst hk
      have := (show w.heap[k]? = some (.cells cs 5 (0, 0)) from h).symm.trans q
      injection this with this
      injection this with _ this
      subst this
      exact ⟨_, _, hb⟩
    · exact ⟨cs', fr, (hs.block k (Array.getElem?_eq_some_iff.1 q).1 (fun e => by injection e with e; exact hk e)).trans q⟩

/-- A row of one's own that is written, and nothing else of what was there. -/
def Flp (base : Nat) (w0 : World) (A : Option Addr) (n c : Nat) (wr : World) : Prop :=
  ∃ l : List Int, (∀ x ∈ l, 0 ≤ x ∧ x < 256) ∧ wr.ownsRow base 5 1 (.slice A n c) n (l.map (Value.int .u8)) ∧ w0.grownBy wr (Value.slice A n c).ownBlock ∧ Thru w0 wr

theorem Flp.start {base n c : Nat} {w0 : World} {A : Option Addr} {l : List Int} (h : w0.ownsRow base 5 1 (.slice A n c) n (l.map (Value.int .u8))) (hr : ∀ x ∈ l, 0 ≤ x ∧ x < 256) : Flp base w0 A n c w0 :=
  ⟨l, hr, h, ⟨rfl, rfl, rfl, Nat.le_refl _, fun _ _ _ => rfl⟩, Thru.refl _⟩

theorem Flp.bel {base n c : Nat} {w w0 wr : World} {A : Option Addr} {B : Nat} (hb : Below B w w0) (hB : B ≤ w0.heap.size) (hB2 : B ≤ base) (h : Flp base w0 A n c wr) : Below B w wr := by
  obtain ⟨l, _, ho, hg, _⟩ := h
  exact hb.grown hg hB (fun k hk => Nat.le_trans hB2 (ho.lt k hk).1)

theorem Flp.at_ {base n c : Nat} {w0 wr : World} {A : Option Addr} (h : Flp base w0 A n c wr) (i : Nat) (hi : i < n) :
    ∃ g x : Nat, A = some ⟨g, 0, none⟩ ∧ x < 256 ∧ i < c ∧ c ≤ maxLen ∧ wr.cell? ⟨g, i, none⟩ = some (.int .u8 (x : Int)) ∧ wr.frozen? ⟨g, i, none⟩ = false ∧ ∀ y : Nat, y < 256 → Flp base w0 A n c (wr.setCell ⟨g, i, none⟩ (.int .u8 (y : Int))) := by
  obtain ⟨l, hr, ho, hg, hth⟩ := h
  have hby := Byt.of_own ho hr
  have hl := hby.len
  rcases ho.2 with ⟨hv, h0⟩ | ⟨g, cap, cur, hv, hb, hh, hn, hm, hs, ht⟩
  · omega
  · injection hv with h1 h2 h3
    subst h1 h3
    have hx := hby.lt_ i hi
    obtain ⟨g', off, e, hc⟩ := hby.at_ (by omega)
    injection e with e
    injection e with e1 e2
    subst e1 e2
    have hci := hc i hi
    rw [Nat.zero_add] at hci
    obtain ⟨x, ex⟩ := Int.eq_ofNat_of_zero_le hx.1
    rw [ex] at hci hx
    refine ⟨g, x, rfl, by omega, by omega, hm, hci, (show Bk wr g 5 cur from hh).frz i, fun y hy => ⟨l.set i y, fun z hz => ?_, own_setB ho hi y, grown_trans hg (grown_set wr g i _), hth.trans (Thru.set (show Bk wr g 5 cur from hh) hci)⟩⟩
    rcases List.mem_or_eq_of_mem_set hz with h4 | h4
    · exact hr z h4
    · subst h4; omega

theorem Flp.grown {base n c : Nat} {w0 wr : World} {A : Option Addr} (h : Flp base w0 A n c wr) : w0.grownBy wr (Value.slice A n c).ownBlock := by
  obtain ⟨_, _, _, hg, _⟩ := h
  exact hg
theorem Flp.thru {base n c : Nat} {w0 wr : World} {A : Option Addr} (h : Flp base w0 A n c wr) : Thru w0 wr := by
  obtain ⟨_, _, _, _, ht⟩ := h
  exact ht

theorem stabT.thru {H k : Nat} {w w' : World} {t : TypeId} (h : stabT H w k t) (ht : Thru w w') : stabT H w' k t := ⟨Nat.lt_of_lt_of_le h.1 ht.size, h.2.imp id fun ⟨cs, fr, e⟩ => ht.typ k cs t fr e⟩
theorem Sl.thru {α : Type} [Inhabited α] {E : El α} {H : Nat} {w w' : World} {A : Option Addr} {n c : Nat} {l : List α} (h : Sl E H w A n c l) (ht : Thru w w') (hE : ∀ x v, v ∈ E.cells x → ∀ z, v ≠ .int .u8 z) (hi : ∀ x, E.inn H w x → E.inn H w' x) : Sl E H w' A n c l :=
  ⟨h.len, h.cap, h.max, h.nil_, fun x hx => hi x (h.each x hx), fun hn => by
    obtain ⟨g, off, e, hs, hr⟩ := h.at_ hn
    exact ⟨g, off, e, hs.thru ht, fun i hi j v hv => ht.cell _ _ (hr i hi j v hv) (hE _ v (List.mem_of_getElem? hv))⟩⟩
theorem noI : ∀ (x : Int) (v : Value), v ∈ elI.cells x → ∀ z, v ≠ .int .u8 z := by
  intro x v hv z; simp [elI] at hv; subst hv; intro q; cases q
theorem noL : ∀ (x : Lk) (v : Value), v ∈ elL.cells x → ∀ z, v ≠ .int .u8 z := by
  intro x v hv z; simp [elL] at hv; rcases hv with rfl | rfl <;> (intro q; cases q)
theorem noD : ∀ (x : Dt) (v : Value), v ∈ elD.cells x → ∀ z, v ≠ .int .u8 z := by
  intro x v hv z; simp [elD] at hv; rcases hv with rfl | rfl <;> (intro q; cases q)
theorem noR : ∀ (x : Xw) (v : Value), v ∈ elR.cells x → ∀ z, v ≠ .int .u8 z := by
  intro x v hv z; simp [elR, Xw.cells] at hv; rcases hv with rfl | rfl | rfl | rfl | rfl | rfl | rfl | rfl <;> (intro q; cases q)
theorem noE : ∀ (x : Xd) (v : Value), v ∈ elE.cells x → ∀ z, v ≠ .int .u8 z := by
  intro x v hv z; simp [elE, Xd.cells] at hv; rcases hv with rfl | rfl <;> (intro q; cases q)
theorem XwIn.thru {H : Nat} {w w' : World} {x : Xw} (h : XwIn H w x) (ht : Thru w w') : XwIn H w' x := ⟨h.tx, h.st, h.fi, h.la, h.un, h.co, h.mem.thru ht noI (fun _ q => q), h.lks.thru ht noL (fun _ q => q)⟩
theorem XdIn.thru {H : Nat} {w w' : World} {x : Xd} (h : XdIn H w x) (ht : Thru w w') : XdIn H w' x := ⟨h.tx, h.mem.thru ht noI (fun _ q => q)⟩
theorem XrIn.thru {H : Nat} {w w' : World} {x : Xr} (h : XrIn H w x) (ht : Thru w w') : XrIn H w' x :=
  ⟨h.kind, h.tx, h.prev, h.next, h.key, h.old, h.new, h.co, h.mem.thru ht noI (fun _ q => q), h.lks.thru ht noL (fun _ q => q), h.rows.thru ht noR (fun _ q => XwIn.thru q ht), h.dirty.thru ht noD (fun _ q => q), h.deeds.thru ht noE (fun _ q => XdIn.thru q ht), h.past.thru ht noI (fun _ q => q)⟩
/-- A block of another kind stands. -/
theorem Flp.bk {base n c m g : Nat} {w0 wr : World} {A : Option Addr} {xs : List Value} {t : TypeId} {cs : Array Value} (h : Flp base w0 A n c wr) (ho : w0.ownsRow base 5 1 (.slice A n c) m xs) (hb : Bk w0 g t cs) (ht : t ≠ 5) : Bk wr g t cs := by
  have hg := h.grown
  refine (hg.block g hb.lt fun q => ?_).trans hb
  rcases ho.2 with ⟨hv, _⟩ | ⟨g', cap, cur, hv, _, hh, _⟩
  · rw [hv] at q; cases q
  · rw [hv] at q
    injection q with q
    subst q
    have := (show w0.heap[g]? = some (.cells cs t (0, 0)) from hb).symm.trans hh
    injection this with this
    injection this with _ this
    exact ht this
end Go.Proofs.Ytpaknpemkmhapaa
