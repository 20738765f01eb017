/- What it says: disk.lastingBytes tells how much a crash leaves of each pending write. -/
import Derived.Test.YtlchikllgmkokaaDRead
import Derived.Test.YtlchikllgmkokaaNts
namespace Go.Proofs.Ytlchikllgmkokaa
open Go.RowKit

/-- The ints f 0 .. f (m - 1), as cells. -/
def natC (f : Nat → Int) (m : Nat) : Array Value := ((List.range m).map fun i => Value.int .i64 (f i)).toArray
theorem natC_size (f : Nat → Int) (m : Nat) : (natC f m).size = m := by simp [natC]
theorem natC_at (f : Nat → Int) (m i : Nat) (h : i < m) : (natC f m)[i]? = some (.int .i64 (f i)) := by simp [natC, h]
theorem natC_set (f : Nat → Int) (m j : Nat) (v : Int) : (natC f m).setIfInBounds j (.int .i64 v) = natC (fun i => if i = j then v else f i) m := by
  apply Array.ext_getElem?
  intro i
  rw [Array.getElem?_setIfInBounds]
  by_cases hi : i < m
  · rw [natC_at _ m i hi, natC_at _ m i hi, natC_size]
    by_cases e : j = i
    · subst e; simp [hi]
    · rw [if_neg e]
      have : ¬ i = j := fun q => e q.symm
      simp [this]
  · have h1 : (natC f m)[i]? = none := Array.getElem?_eq_none (by rw [natC_size]; omega)
    have h2 : (natC (fun i => if i = j then v else f i) m)[i]? = none := Array.getElem?_eq_none (by rw [natC_size]; omega)
    rw [h1, h2]
    split <;> (try rfl)
    rw [if_neg (by rw [natC_size]; omega)]
theorem natC_zero (m : Nat) : madeCells #[.int .i64 0] m = natC (fun _ => 0) m := by
  apply Array.toList_inj.1
  rw [toList_madeCells_one]
  show List.replicate m (Value.int .i64 0) = (List.range m).map fun _ => Value.int .i64 0
  rw [List.map_const']
  simp

theorem info_int : (Try.prog.info? 3).map (fun i => (i.zero, i.size, i.bytes)) = some (some (.int .i64 0), 1, 8) := by kernel_rfl

theorem make_ints (n : Nat) (hn : n ≤ 1000000) (W : World) : (Instr.makeSlice 33 (.int .i64 (n : Int)) (.int .i64 (n : Int))).run Try.prog W =
    .ok (.slice (some ⟨W.heap.size, 0, none⟩) n n) (W.alloc (.cells (natC (fun _ => 0) n) 3)) := by
  obtain ⟨i0, hi, hz0, hz1, hz2⟩ := info_parts info_int
  have := run_make (P := Try.prog) W 33 3 i0 (.int .i64 0) Try.underlying33 hi hz0 .i64 .i64 n n (by omega) (by omega) (by rw [hz2]; omega) (by omega)
  rw [this, hz1, Int.toNat_natCast, Nat.mul_one]
  show Result.ok _ (W.alloc (.cells (madeCells #[.int .i64 0] n) _)) = _
  rw [natC_zero]

/-- A crash as a value. -/
def crsV (KA : Option Addr) (kn kc : Nat) (c : Crs) : Array Value := #[.slice KA kn kc, .bool c.torn, .int .i64 c.cut]

/-- What lastingBytes hands back. -/
def RetLast (f : Nat → Int) (m : Nat) (w : World) (e : Ending) (w' : World) : Prop :=
  ∃ g, w.heap.size ≤ g ∧ e = .returned (.slice (some ⟨g, 0, none⟩) m m) ∧ Bk w' g 3 (natC f m) ∧ Below w.heap.size w w'

/-- Kept by the first k. -/
def keptBy (l : List Int) (k i : Nat) : Int := if (i : Int) ∈ l.take k then 256 else 0

theorem natC_congr {f g : Nat → Int} {m : Nat} (h : ∀ i, i < m → f i = g i) : natC f m = natC g m := by
  unfold natC
  congr 1
  refine List.map_congr_left fun i hi => ?_
  rw [h i (by simpa using hi)]

theorem keptBy_next (l : List Int) (k : Nat) (hk : k < l.length) (i : Nat) : keptBy l (k + 1) i = if (i : Int) = l.getD k 0 then 256 else keptBy l k i := by
  have e : l.getD k 0 = l[k] := by simp [List.getD, List.getElem?_eq_getElem hk]
  unfold keptBy
  rw [e, List.take_succ_eq_append_getElem hk]
  simp only [List.mem_append, List.mem_singleton]
  by_cases h : (i : Int) = l[k]
  · rw [if_pos (.inr h), if_pos h]
  · rw [if_neg h]
    by_cases h2 : (i : Int) ∈ l.take k
    · rw [if_pos (.inl h2), if_pos h2]
    · rw [if_neg (fun q => q.elim h2 h), if_neg h2]

theorem of_kept (c : Crs) (m i : Nat) (h : ¬ (c.torn = true ∧ i + 1 = m)) : ((c.of m i : Nat) : Int) = keptBy c.keep c.keep.length i := by
  unfold Crs.of keptBy
  rw [if_neg h, List.take_length]
  split <;> rfl

theorem of_torn (c : Crs) (m : Nat) (h : c.torn = true) (hm : 0 < m) : c.of m (m - 1) = clamp c.cut := by
  unfold Crs.of
  rw [if_pos ⟨h, by omega⟩]

/-- In the first loop. -/
structure LastRel (w : World) (cv : Array Value) (g m : Nat) (l : List Int) (k : Nat) (wr : World) : Prop where
  blk : Bk wr g 3 (natC (keptBy l k) m)
  box : Bk wr w.heap.size 35 cv
  low : w.heap.size < g
  bel : Below w.heap.size w wr

theorem LastRel.skip {w wr : World} {cv : Array Value} {g m k : Nat} {l : List Int} (h : LastRel w cv g m l k wr) (hk : k < l.length) (hx : l.getD k 0 < 0 ∨ (m : Int) ≤ l.getD k 0) : LastRel w cv g m l (k + 1) wr := by
  refine ⟨?_, h.box, h.low, h.bel⟩
  rw [natC_congr (g := keptBy l k) (fun i hi => by rw [keptBy_next l k hk, if_neg (by omega)])]
  exact h.blk

theorem LastRel.set {w wr : World} {cv : Array Value} {g m k j : Nat} {l : List Int} (h : LastRel w cv g m l k wr) (hk : k < l.length) (hx : l.getD k 0 = (j : Int)) : LastRel w cv g m l (k + 1) (wr.setCell ⟨g, j, none⟩ (.int .i64 256)) := by
  refine ⟨?_, h.box.eq (Below.heap_setCell _ _ _ _ (by have := h.low; show w.heap.size ≠ g; omega)), h.low, h.bel.setCell (Nat.le_of_lt h.low) _⟩
  have := h.blk.setc j (.int .i64 256)
  rw [natC_set] at this
  rw [natC_congr (g := fun i => if i = j then (256 : Int) else keptBy l k i) (fun i hi => by
    rw [keptBy_next l k hk, hx]
    by_cases q : i = j
    · subst q; simp
    · rw [if_neg q, if_neg (by omega)])]
  exact this

theorem LastRel.done {w wr : World} {cv : Array Value} {g m : Nat} {c : Crs} (h : LastRel w cv g m c.keep c.keep.length wr) (ht : c.torn = false ∨ m = 0) : RetLast (fun i => (c.of m i : Int)) m w (.returned (.slice (some ⟨g, 0, none⟩) m m)) wr := by
  refine ⟨g, Nat.le_of_lt h.low, rfl, ?_, h.bel⟩
  rw [natC_congr (g := keptBy c.keep c.keep.length) (fun i hi => of_kept c m i (by
    rintro ⟨q1, q2⟩
    rcases ht with ht | ht
    · rw [ht] at q1; cases q1
    · omega))]
  exact h.blk

theorem LastRel.torn {w wr : World} {cv : Array Value} {g m : Nat} {c : Crs} (h : LastRel w cv g m c.keep c.keep.length wr) (ht : c.torn = true) (hm : 0 < m) (v : Int) (hv : v = (clamp c.cut : Nat)) : RetLast (fun i => (c.of m i : Int)) m w (.returned (.slice (some ⟨g, 0, none⟩) m m)) (wr.setCell ⟨g, m - 1, none⟩ (.int .i64 v)) := by
  subst hv
  refine ⟨g, Nat.le_of_lt h.low, rfl, ?_, h.bel.setCell (Nat.le_of_lt h.low) _⟩
  have := h.blk.setc (m - 1) (.int .i64 (clamp c.cut : Nat))
  rw [natC_set] at this
  rw [natC_congr (g := fun i => if i = m - 1 then ((clamp c.cut : Nat) : Int) else keptBy c.keep c.keep.length i) (fun i hi => by
    by_cases q : i = m - 1
    · subst q
      rw [if_pos rfl, of_torn c m ht hm]
    · rw [if_neg q]
      exact of_kept c m i (by rintro ⟨_, q2⟩; omega))]
  exact this

theorem clamp_eq (c : Int) : ((clamp c : Nat) : Int) = min (max c 0) 256 := by unfold clamp; omega

set_option maxRecDepth 100000 in
set_option maxHeartbeats 2000000 in
theorem last_any (m : Nat) (KA : Option Addr) (kn kc : Nat) (c : Crs) (w : World) (hm : m < 1000000) (hk : Nts w KA kn kc c.keep) (hcut : -9223372036854775808 ≤ c.cut ∧ c.cut ≤ 9223372036854775807) :
    Calls Try.prog 39 #[.int .i64 m, .agg (crsV KA kn kc c)] w (RetLast (fun i => (c.of m i : Int)) m w) := by
  obtain ⟨keep, torn, cut⟩ := c
  unfold crsV
  have hmk := fun W => make_ints m (by omega) W
  have hkmax := hk.max
  have hkcap := hk.cap
  unfold maxLen at hkmax
  have hb1 : Below w.heap.size w ((w.alloc (.cells #[.slice KA kn kc, .bool torn, .int .i64 cut] 35)).alloc (.cells (natC (fun _ => 0) m) 3)) := ((Below.refl _ _).alloc (Nat.le_refl _) _).alloc (by simp) _
  have HB := Lib.hid hb1
  have R0 : Hid (LastRel w #[.slice KA kn kc, .bool torn, .int .i64 cut] (w.heap.size + 1) m keep 0 ((w.alloc (.cells #[.slice KA kn kc, .bool torn, .int .i64 cut] 35)).alloc (.cells (natC (fun _ => 0) m) 3))) :=
    Lib.hid ⟨by
      have h := heap_alloc_new (w.alloc (.cells #[.slice KA kn kc, .bool torn, .int .i64 cut] 35)) (.cells (natC (fun _ => 0) m) 3)
      have e : natC (keptBy keep 0) m = natC (fun _ => 0) m := by
        unfold natC keptBy
        simp
      unfold Bk
      rw [e]
      simpa using h, heap_alloc2_old _ _ _, by omega, hb1⟩
  have HK := Lib.hid hk
  obtain ⟨mx, hmx⟩ : ∃ mx, max cut 0 = mx := ⟨_, rfl⟩
  clear hb1 hk
  go_enter Try.func39, Try.ntmps39
  go_wp2_with fail
  go_loopw [13] (fun q wr => ∃ k : Nat, k ≤ kn ∧ q = .int .i64 k ∧ LastRel w #[.slice KA kn kc, .bool torn, .int .i64 cut] (w.heap.size + 1) m keep k wr) (fun q _ => kn - (intOf q).toNat)
  case atStart => exact ⟨0, Nat.zero_le _, rfl, R0.out⟩
  case round =>
    obtain ⟨k, hkn, rfl, hr⟩ := hrel
    have HR := Lib.hid hr
    clear hr
    by_cases hlt : k < kn
    · obtain ⟨kg, koff, rfl, hc⟩ := HK.out.at_ (by omega)
      have hl : k < keep.length := by have : keep.length = kn := HK.out.len; omega
      have hx : wr.cell? ⟨kg, koff + k, none⟩ = some (.int .i64 (keep.getD k 0)) := (HR.out.bel.cell (World.block_lt_of_cell? w _ (hc k hlt))).trans (hc k hlt)
      have hrng : -9223372036854775808 ≤ keep.getD k 0 ∧ keep.getD k 0 ≤ 9223372036854775807 := HK.out.rng k hlt
      obtain ⟨x, ex⟩ : ∃ x, keep.getD k 0 = x := ⟨_, rfl⟩
      rw [ex] at hx hrng
      clear hc
      by_cases hx0 : x < 0
      · have R := Lib.hid (HR.out.skip hl (by rw [ex]; exact .inl hx0))
        clear ex hl
        go_wp2_with fail
        go_roundw
        case rel => exact ⟨k + 1, by omega, by go_num, R.out⟩
        case measure => simp [intOf]; omega
      · by_cases hxm : (m : Int) ≤ x
        · have R := Lib.hid (HR.out.skip hl (by rw [ex]; exact .inr hxm))
          clear ex hl
          go_wp2_with fail
          go_roundw
          case rel => exact ⟨k + 1, by omega, by go_num, R.out⟩
          case measure => simp [intOf]; omega
        · obtain ⟨j, rfl⟩ := Int.eq_ofNat_of_zero_le (Int.not_lt.1 hx0)
          have R := Lib.hid (HR.out.set hl ex)
          have hjc : wr.cell? ⟨w.heap.size + 1, j, none⟩ = some (.int .i64 (keptBy keep k j)) := by rw [HR.out.blk.cell]; exact natC_at _ _ _ (by omega)
          have hjf : wr.frozen? ⟨w.heap.size + 1, j, none⟩ = false := HR.out.blk.frz j
          have hj0 : (0 : Int) ≤ (j : Int) := Int.natCast_nonneg _
          have hjm : (j : Int) < (m : Int) := by omega
          clear ex hl hxm hx0
          go_wp2_with fail
          go_roundw
          case rel => exact ⟨k + 1, by omega, by go_num, R.out⟩
          case measure => simp [intOf]; omega
    · have hlen : keep.length = k := by have : keep.length = kn := HK.out.len; omega
      have hb1 : wr.cell? ⟨w.heap.size, 1, none⟩ = some (.bool torn) := HR.out.box.cell 1
      have hb2 : wr.cell? ⟨w.heap.size, 2, none⟩ = some (.int .i64 cut) := HR.out.box.cell 2
      have HD : Hid (torn = false ∨ m = 0 → RetLast (fun i => (Crs.of ⟨keep, torn, cut⟩ m i : Int)) m w (.returned (.slice (some ⟨w.heap.size + 1, 0, none⟩) m m)) wr) := Lib.hid (fun ht => LastRel.done (c := ⟨keep, torn, cut⟩) (by show LastRel _ _ _ _ keep keep.length _; rw [hlen]; exact HR.out) ht)
      have HT : Hid (torn = true → 0 < m → ∀ v : Int, v = (clamp cut : Nat) → RetLast (fun i => (Crs.of ⟨keep, torn, cut⟩ m i : Int)) m w (.returned (.slice (some ⟨w.heap.size + 1, 0, none⟩) m m)) (wr.setCell ⟨w.heap.size + 1, m - 1, none⟩ (.int .i64 v))) := Lib.hid (fun ht hm0 v hv => LastRel.torn (c := ⟨keep, torn, cut⟩) (by show LastRel _ _ _ _ keep keep.length _; rw [hlen]; exact HR.out) ht hm0 v hv)
      cases torn with
      | false =>
        have R := Lib.hid (HD.out (.inl rfl))
        clear HD HT hlen
        go_wp2_with fail
        go_ret
        exact R.out
      | true =>
        by_cases hm0 : m = 0
        · subst hm0
          have R := Lib.hid (HD.out (.inr rfl))
          clear HD HT hlen
          go_wp2_with fail
          go_ret
          exact R.out
        · obtain ⟨m', rfl⟩ : ∃ m', m = m' + 1 := ⟨m - 1, by omega⟩
          have hjc : wr.cell? ⟨w.heap.size + 1, m', none⟩ = some (.int .i64 (keptBy keep k m')) := by rw [HR.out.blk.cell]; exact natC_at _ _ _ (by omega)
          have hjf : wr.frozen? ⟨w.heap.size + 1, m', none⟩ = false := HR.out.blk.frz m'
          clear hlen hm0
          by_cases h1 : cut < 0
          · have R := Lib.hid (HT.out rfl (by omega) 0 (by unfold clamp; omega))
            clear HD HT
            go_wp2_with fail
            all_goals first | omega | skip
            go_ret
            exact R.out
          · by_cases h2 : 256 < cut
            · have R := Lib.hid (HT.out rfl (by omega) 256 (by unfold clamp; omega))
              clear HD HT
              go_wp2_with fail
              all_goals first | omega | skip
              go_ret
              exact R.out
            · have R := Lib.hid (HT.out rfl (by omega) cut (by unfold clamp; omega))
              clear HD HT
              go_wp2_with fail
              all_goals first | omega | skip
              go_ret
              exact R.out
end Go.Proofs.Ytlchikllgmkokaa
