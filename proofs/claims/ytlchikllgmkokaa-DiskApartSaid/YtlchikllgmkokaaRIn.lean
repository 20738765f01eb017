/- What it says: the document's in() tells whether a number is in a list; a sector's row of a disk that is being filled, one byte written. -/
import Derived.Test.YtlchikllgmkokaaRNew
import Derived.Test.YtlchikllgmkokaaDAwake
import Derived.Test.YtlchikllgmkokaaNts
namespace Go.Proofs.Ytlchikllgmkokaa
open Go.RowKit

set_option maxHeartbeats 1000000 in
theorem rin_any (A : Option Addr) (n c : Nat) (l : List Int) (x : Int) (w : World) (h : Nts w A n c l) :
    Calls Try.prog 40 #[.slice A n c, .int .i64 x] w (Same (.bool (decide (x ∈ l))) w) := by
  have hcap := h.cap
  have hmax := h.max
  unfold maxLen at hmax
  have HX := Lib.hid h
  clear h
  go_enter Try.func40, Try.ntmps40
  go_wp2_with fail
  go_loop [5] (fun q => ∃ i : Nat, i ≤ n ∧ q = .int .i64 i ∧ ∀ j, j < i → l.getD j 0 ≠ x) (fun q => n - (intOf q).toNat)
  case atStart => exact ⟨0, Nat.zero_le _, rfl, fun j hj => absurd hj (by omega)⟩
  case round =>
    obtain ⟨i, hin, rfl, hall⟩ := hrel
    have HA := Lib.hid hall
    clear hall
    by_cases hlt : i < n
    · obtain ⟨g, off, rfl, hc⟩ := HX.out.at_ (by omega)
      have hx := hc i hlt
      have hil : i < l.length := by rw [HX.out.len]; exact hlt
      have hm : l.getD i 0 ∈ l := by
        have e : l.getD i 0 = l[i] := by simp [List.getD, List.getElem?_eq_getElem hil]
        rw [e]
        exact List.getElem_mem hil
      obtain ⟨y, ey⟩ : ∃ y, l.getD i 0 = y := ⟨_, rfl⟩
      rw [ey] at hx hm
      have EY := Lib.hid ey
      have HM := Lib.hid hm
      clear hc ey hm hil
      by_cases he : y = x
      · subst he
        have R : Hid (Same (.bool (decide (y ∈ l))) w (.returned (.bool true)) w) := Lib.hid ⟨by rw [decide_eq_true HM.out], rfl⟩
        go_wp2_with fail
        go_ret
        exact R.out
      · have hd : (y == x) = false := by simpa using he
        have HN : Hid (∀ j, j < i + 1 → l.getD j 0 ≠ x) := Lib.hid (fun j hj => by
          by_cases h1 : j < i
          · exact HA.out j h1
          · obtain rfl : j = i := by omega
            rw [EY.out]; exact he)
        clear he
        go_wp2_with fail
        go_round
        case rel => exact ⟨i + 1, by omega, by go_num, HN.out⟩
        case measure => simp [intOf]; omega
    · have R : Hid (Same (.bool (decide (x ∈ l))) w (.returned (.bool false)) w) := Lib.hid ⟨by
        rw [decide_eq_false (fun hm => ?_)]
        obtain ⟨j, hj, e⟩ := List.getElem_of_mem hm
        have hjn : j < n := by rw [← HX.out.len]; exact hj
        have := HA.out j (by omega)
        simp [List.getD, List.getElem?_eq_getElem hj] at this
        exact this e, rfl⟩
      go_wp2_with fail
      go_ret
      exact R.out

theorem upd_upd (f : Nat → List Int) (n : Nat) (a b : List Int) : upd (upd f n a) n b = upd f n b := by
  funext m
  unfold upd
  split <;> rfl
theorem upd_at (f : Nat → List Int) (n : Nat) (a : List Int) : upd f n a n = a := by unfold upd; rw [if_pos rfl]
theorem upd_self (f : Nat → List Int) (n : Nat) : upd f n (f n) = f := by
  funext m
  unfold upd
  split
  · rename_i e; rw [e]
  · rfl
theorem over_zero (l m : List Int) : over l m 0 = m := by unfold over; simp
theorem over_next {l m : List Int} (hl : Sec l) (hm : Sec m) (k : Nat) (hk : k < 256) : (over l m k).set k (l.getD k 0) = over l m (k + 1) := by
  apply List.ext_getElem?
  intro i
  have hlen : (over l m k).length = 256 := (over_sec hl hm k (by omega)).1
  by_cases he : i = k
  · subst he
    rw [List.getElem?_set_self (by omega), over_left hl (i + 1) i (by omega) (by omega)]
    have : i < l.length := by rw [hl.1]; exact hk
    simp [List.getD, List.getElem?_eq_getElem this]
  · rw [List.getElem?_set_ne (fun e => he e.symm)]
    by_cases hlt : i < k
    · rw [over_left hl k i (by omega) hlt, over_left hl (k + 1) i (by omega) (by omega)]
    · rw [over_right hl k i (by omega) (by omega), over_right hl (k + 1) i (by omega) (by omega)]

/-- One byte of one sector is written. -/
theorem SynRel.put {w wr : World} {g num : Nat} {f : Nat → List Int} {SA : Option Addr} {sc : Nat} {sl : List Value} {N dg dc k : Nat} (h : SynRel w g f num SA sc sl wr) (hN : N < num) (hs : sl[N]? = some (.slice (some ⟨dg, 0, none⟩) 256 dc)) (hk : k < 256) (x : Int) :
    SynRel w g (upd f N ((f N).set k x)) num SA sc sl (wr.setCell ⟨dg, k, none⟩ (.int .u8 x)) := by
  obtain ⟨v, a1, a2⟩ := h.each N hN
  rw [hs] at a1
  injection a1 with a1
  subst a1
  have hdl := a2.lt dg rfl
  have hgd : g ≠ dg := fun e => row_not_bk a2 h.blk (by decide) (by rw [e]; rfl)
  have hst := a2.stored k (.int .u8 x)
  have hbs : ∀ q, q ≠ dg → (wr.setCell ⟨dg, k, none⟩ (.int .u8 x)).heap[q]? = wr.heap[q]? := fun q hq => Below.heap_setCell _ _ _ _ hq
  refine ⟨h.blk.eq (hbs g hgd), owns_keep h.srow (fun q hq => hbs q (fun e => row_not_row h.srow a2 (by decide) q hq (by rw [e]; rfl))), fun j hj => ?_, h.dist, h.low, h.bel.setCell (show w.heap.size ≤ dg from hdl.1) _⟩
  by_cases he : j = N
  · subst he
    refine ⟨_, hs, ?_⟩
    rw [upd_at]
    have e : byC ((f j).set k x) = (byC (f j)).set k (.int .u8 x) := by unfold byC; rw [List.map_set]
    rw [e]
    exact hst.1
  · obtain ⟨u, b1, b2⟩ := h.each j hj
    refine ⟨u, b1, ?_⟩
    have e : upd f N ((f N).set k x) j = f j := by unfold upd; rw [if_neg he]
    rw [e]
    refine owns_keep b2 (fun q hq => hbs q (fun e2 => ?_))
    subst e2
    rcases Nat.lt_or_ge j N with hlt | hge
    · exact h.dist j N u _ hlt b1 hs (by rw [hq]; rfl)
    · exact h.dist N j _ u (by omega) hs b1 (by rw [hq]; rfl)

theorem SynRel.below {w wr w2 : World} {g num : Nat} {f : Nat → List Int} {SA : Option Addr} {sc : Nat} {sl : List Value} (h : SynRel w g f num SA sc sl wr) (hb : Below wr.heap.size wr w2) : SynRel w g f num SA sc sl w2 :=
  ⟨h.blk.bel hb h.blk.lt, owns_keep h.srow (fun q hq => hb.block q (h.srow.lt q hq).2), fun j hj => by
    obtain ⟨v, a1, a2⟩ := h.each j hj
    exact ⟨v, a1, owns_keep a2 (fun q hq => hb.block q (a2.lt q hq).2)⟩, h.dist, h.low, h.bel.trans (hb.mono h.bel.size)⟩
end Go.Proofs.Ytlchikllgmkokaa
