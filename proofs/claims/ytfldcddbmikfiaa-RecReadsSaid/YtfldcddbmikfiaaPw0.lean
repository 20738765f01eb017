/- What it says: contracts and plain mathematics that the laws' walks use, 15 of 34: each part's own remark says what; no condition. -/
import Derived.Test.YtfldcddbmikfiaaPw1
import Derived.Test.YtfldcddbmikfiaaPw3
import Derived.Laws.Build

set_option linter.unusedSimpArgs false
set_option linter.unusedVariables false
set_option linter.deprecated false
set_option linter.unusedSectionVars false
set_option linter.all false

/- trothref01.Short hands back a number's digits to the base 128, in new memory. -/
namespace Go.Proofs.Ytfldcddbmikfiaa
open Go.RowKit

/-- What is gathered so far. -/
structure ShortRel (n : Nat) (w : World) (m : Nat) (A : Option Addr) (k c : Nat) (acc : List Int) (wr : World) : Prop where
  own : wr.ownsRow w.heap.size 5 1 (.slice A k c) k (acc.map (Value.int .u8))
  all : hiD m ++ acc = shortL n
  bel : Below w.heap.size w wr

theorem ShortRel.rng {n : Nat} {w : World} {m : Nat} {A : Option Addr} {k c : Nat} {acc : List Int} {wr : World} (h : ShortRel n w m A k c acc wr) : ∀ x ∈ acc, 0 ≤ x ∧ x < 256 :=
  fun x hx => shortL_rng n x (by rw [← h.all]; simp [hx])
theorem ShortRel.len {n : Nat} {w : World} {m : Nat} {A : Option Addr} {k c : Nat} {acc : List Int} {wr : World} (h : ShortRel n w m A k c acc wr) (hn : n < 18446744073709551616) : k ≤ 10 := by
  have h1 := shortL_len n hn
  rw [← h.all] at h1
  have h2 : acc.length = k := by simpa using h.own.1
  simp at h1; omega

theorem ShortRel.step {n : Nat} {w : World} {m : Nat} {A A' : Option Addr} {k c c' k' : Nat} {acc : List Int} {wr w' : World} (h : ShortRel n w m A k c acc wr) (hm : m ≠ 0) (_hk : k' = 1 + k)
    (h1 : w'.ownsRow w.heap.size 5 1 (.slice A' k' c') k' (([((m : Int) % 128) + 128] ++ acc).map (Value.int .u8)))
    (h2 : (wr.alloc (.cells #[.int .u8 (((m : Int) % 128) + 128)] 5)).grownBy w' (Value.ownBlock (.slice (some ⟨wr.heap.size, 0, none⟩) 1 1))) :
    ShortRel n w (m / 128) A' k' c' ((((m : Int) % 128) + 128) :: acc) w' :=
  ⟨h1, by rw [← h.all, hiD_pos hm]; simp, (h.bel.alloc h.bel.size _).grown h2 (by have := h.bel.size; simp; omega) (by intro g hg; have := h.bel.size; simp [Value.ownBlock] at hg; omega)⟩

set_option maxRecDepth 100000 in
set_option maxHeartbeats 1000000 in
theorem refShort_own (n : Nat) (hn : n < 18446744073709551616) (w : World) :
    Calls Try.prog 66 #[.int .u64 n] w (RetOwn (shortL n) w) := by
  obtain ⟨i0, hi, hz0, hz1, hz2⟩ := info_parts info_u8
  have o1 := own_one w w.heap.size 5 ((n : Int) % 128) (Nat.le_refl _)
  have R0 : Hid (ShortRel n w (n / 128) (some ⟨w.heap.size, 0, none⟩) 1 1 [((n : Int) % 128)] (w.alloc (.cells #[.int .u8 ((n : Int) % 128)] 5))) :=
    ⟨o1, rfl, (Below.refl _ _).alloc (Nat.le_refl _) _⟩
  clear o1
  go_enter Try.func66, Try.ntmps66
  go_wp2_with fail
  go_loopw [0, 3] (fun s v wr => ∃ (m : Nat) (A : Option Addr) (k c : Nat) (acc : List Int), m < 18446744073709551616 ∧ s = .int .u64 m ∧ v = .slice A k c ∧ ShortRel n w m A k c acc wr) (fun s _ _ => (intOf s).toNat)
  case atStart => exact ⟨n / 128, _, 1, 1, _, by omega, by go_num, rfl, R0.out⟩
  case round =>
    obtain ⟨m, A, k, c, acc, hm, rfl, rfl, R⟩ := hrel
    have HR := Lib.hid R
    clear R
    by_cases h0 : m = 0
    · subst h0
      go_wp2_with fail
      go_ret
      have e := HR.out.all
      rw [hiD_zero, List.nil_append] at e
      exact ⟨A, k, c, rfl, by rw [← e]; exact HR.out.own, by rw [← e]; exact HR.out.rng, HR.out.bel⟩
    · have hpos : (0 : Int) < (m : Int) := by omega
      have hlen := HR.out.len hn
      have hbs := HR.out.bel.size
      have o1 := own_one wr w.heap.size 5 ((m : Int) % 128 + 128) hbs
      have hb := (Byt.of_own HR.out.own HR.out.rng).alloc (.cells #[.int .u8 ((m : Int) % 128 + 128)] 5)
      go_wp2_with (at_builtin; refine wpList_append_byt rfl _ _ 33 rfl w.heap.size 5 i0 Try.underlying33 hi hz0 hz1 hz2 _ 1 [(m : Int) % 128 + 128] rfl (by exact o1) A k c acc rfl (by exact hb) (by omega) (by simp; omega) ?_)
      intro A' c' w' h1 h2
      have R := Lib.hid (HR.out.step h0 rfl h1 h2)
      clear h1 h2 hb o1
      go_wp2
      go_roundw
      case rel => exact ⟨m / 128, _, _, _, _, by omega, by go_num, rfl, R.out⟩
      case measure => simp [intOf]; omega

theorem refShort_any (n : Nat) (hn : n < 18446744073709551616) (w : World) :
    Calls Try.prog 66 #[.int .u64 n] w (RetByt (shortL n) w) := (refShort_own n hn w).mono fun _ _ h => h.byt
end Go.Proofs.Ytfldcddbmikfiaa

/- seal.Seal and trothref03.Seal hand back the document's sealed body, in new memory, or ErrLong. -/
namespace Go.Proofs.Ytfldcddbmikfiaa
open Go.RowKit

/-- A sealed body. -/
def sealL (l : List Int) : List Int := textL l ++ sumL (textL l)
theorem sealL_rng {l : List Int} (h : ∀ x ∈ l, 0 ≤ x ∧ x < 256) : ∀ x ∈ sealL l, 0 ≤ x ∧ x < 256 := fun x hx => by
  rcases List.mem_append.1 hx with h1 | h1
  · exact textL_rng h x h1
  · exact sumL_rng _ x h1

/-- A row of the call's own and an error beside it. -/
def RetOwn2 (l : List Int) (x : Int) (w : World) (e : Ending) (w' : World) : Prop :=
  ∃ A n c, e = .returned (.tuple #[.slice A n c, .int .i64 x]) ∧ w'.ownsRow w.heap.size 5 1 (.slice A n c) n (l.map (Value.int .u8)) ∧ (∀ x ∈ l, 0 ≤ x ∧ x < 256) ∧ Below w.heap.size w w'

theorem Wrt.new (w : World) : Wrt (w.alloc (.cells #[.slice none 0 0] 86)) w.heap.size w.heap.size [] :=
  ⟨Nat.le_refl _, by simp, none, 0, 0, Bk.new _ _ _, World.ownsRow_nil _ _ _ _⟩

/-- What Seal answers. -/
def SealPost (l : List Int) (w : World) : Ending → World → Prop := if 4096 < l.length then RetOwn2 [] 12 w else RetOwn2 (sealL l) 0 w

/-- A row of the call's own, told from an earlier world. -/
theorem RetOwn.rebase {l : List Int} {w w1 : World} {e : Ending} {w2 : World} (hb : Below w.heap.size w w1) (h : RetOwn l w1 e w2) : RetOwn l w e w2 := by
  obtain ⟨A, n, c, he, ho, hr, hbel⟩ := h
  refine ⟨A, n, c, he, ⟨ho.1, ?_⟩, hr, Below.then hb hbel⟩
  rcases ho.2 with h | ⟨g, cap, cur, h1, h2, h3⟩
  · exact .inl h
  · exact .inr ⟨g, cap, cur, h1, Nat.le_trans hb.size h2, h3⟩

set_option maxHeartbeats 1000000 in
/-- trothref03.Num. -/
theorem refNum_own (n : Int) (w : World) (hn : -9223372036854775808 ≤ n ∧ n ≤ 9223372036854775807) :
    Calls Try.prog 48 #[.int .i64 n] w (RetOwn (numL n) w) := by
  by_cases h0 : n < 0
  · rw [numL_neg h0]
    go_enter Try.func48, Try.ntmps48
    go_wp2_with fail
    refine (refShort_own 0 (by omega) w).mono ?_
    rintro e w1 ⟨A, k, c, rfl, R⟩
    have R := Lib.hid R
    go_wp2_with fail
    go_ret
    exact ⟨A, k, c, rfl, R.out⟩
  · obtain ⟨z, rfl⟩ := Int.eq_ofNat_of_zero_le (Int.not_lt.1 h0)
    rw [numL_nat]
    obtain ⟨_, hz⟩ := hn
    go_enter Try.func48, Try.ntmps48
    go_wp2_with fail
    refine (refShort_own z (by omega) w).mono ?_
    rintro e w1 ⟨A, k, c, rfl, R⟩
    have R := Lib.hid R
    go_wp2_with fail
    go_ret
    exact ⟨A, k, c, rfl, R.out⟩

theorem ownText_end {w w1 w2 : World} {A : Option Addr} {k c m : Nat} {v : Value} {s : ByteArray} (_hk : (shortL s.size).length = k) (h : w1.ownsRow w.heap.size 5 1 (.slice A k c) k ((shortL s.size).map (Value.int .u8))) (hb : Below w.heap.size w w1)
    (h1 : w2.ownsRow w.heap.size 5 1 v m ((shortL s.size).map (Value.int .u8) ++ Lib.strCells s)) (h2 : w1.grownBy w2 (Value.ownBlock (.slice A k c))) :
    RetOwn (textL (nums s)) w (.returned v) w2 := by
  have form : ∃ A' c', v = .slice A' m c' := by
    rcases h1.2 with ⟨e1, e2⟩ | ⟨g, cap, _, e1, _⟩
    · subst e2; exact ⟨none, 0, e1⟩
    · exact ⟨_, _, e1⟩
  obtain ⟨A', c', rfl⟩ := form
  rw [strCells_nums, ← List.map_append] at h1
  refine ⟨A', m, c', rfl, by unfold textL; rw [nums_len]; exact h1, textL_rng (nums_rng s), hb.grown h2 hb.size (fun i hi => (h.lt i hi).1)⟩

set_option maxHeartbeats 1000000 in
/-- trothref03.Text. -/
theorem refText_own (s : ByteArray) (w : World) (hs : s.size ≤ 140737488350000) :
    Calls Try.prog 20 #[.string s] w (RetOwn (textL (nums s)) w) := by
  obtain ⟨i0, hi, hz0, hz1, hz2⟩ := info_parts info_u8
  have C := refNum_own (s.size : Int) w (by omega)
  rw [numL_nat] at C
  have C := Lib.hid C
  have hle := shortL_len s.size (by omega)
  go_enter Try.func20, Try.ntmps20
  go_wp2_with fail
  refine C.out.mono ?_
  rintro e w1 ⟨A, k, c, rfl, ho, hr, hb⟩
  have hk : (shortL s.size).length = k := by simpa using ho.1
  have hbs := hb.size
  have HO := Lib.hid ho
  have HB := Lib.hid hb
  have HK := Lib.hid hk
  have hk10 : k ≤ 10 := by omega
  clear ho hr hb hk hle C
  go_wp2_with (at_builtin; refine Lib.wpList_append_own_string _ rfl _ _ 33 9 rfl w.heap.size 5 i0 Try.underlying33 Try.underlying9 hi hz0 hz1 hz2 _ k _ rfl (by exact HO.out) s rfl (by unfold maxLen; omega) (by omega) hbs ?_)
  intro v' w2 h1 h2 _
  have R := Lib.hid (ownText_end HK.out HO.out HB.out h1 h2)
  clear h1 h2
  go_wp2_with fail
  go_ret
  exact R.out

/-- What trothref03.Seal answers. -/
theorem refSeal_end {w w1 w2 w3 : World} {A A3 : Option Addr} {k c k3 c3 : Nat} {l : List Int} (hr : ∀ x ∈ l, 0 ≤ x ∧ x < 256) (h1 : w1.ownsRow w.heap.size 5 1 (.slice A k c) k ((textL l).map (Value.int .u8))) (hb : Below w.heap.size w w1)
    (b2 : Below w1.heap.size w1 w2)
    (h3 : w3.ownsRow w.heap.size 5 1 (.slice A3 k3 c3) k3 ((textL l).map (Value.int .u8) ++ (sumL (textL l)).map (Value.int .u8))) (g3 : w2.grownBy w3 (Value.ownBlock (.slice A k c))) :
    RetOwn2 (sealL l) 0 w (.returned (.tuple #[.slice A3 k3 c3, .int .i64 0])) w3 := by
  rw [← List.map_append] at h3
  exact ⟨A3, k3, c3, rfl, h3, sealL_rng hr, (Below.then hb b2).grown g3 (Below.then hb b2).size (fun i hi => (h1.lt i hi).1)⟩

theorem own_later {w1 w2 : World} {base n : Nat} {v : Value} {xs : List Value} (h : w1.ownsRow base 5 1 v n xs) (b2 : Below w1.heap.size w1 w2) : w2.ownsRow base 5 1 v n xs :=
  h.kept (row := none) ⟨b2.os, b2.tape, b2.output, b2.size, fun k hk _ => b2.block k hk⟩ (by
    cases hv : v.ownBlock with
    | none => exact .inl rfl
    | some a => exact .inr (by simp))

end Go.Proofs.Ytfldcddbmikfiaa
