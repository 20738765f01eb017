/- What it says: seal.Seal and trothref03.Seal hand back the document's sealed body, in new memory, or ErrLong. -/
import Derived.Test.YtlnhillpghjknaaDoorBytes
import Derived.Test.YtlnhillpghjknaaDoorRefShort
namespace Go.Proofs.YtlnhillpghjknaaDoor
open Go.RowKit

/-- A sealed body. -/
def sealL (l : List Int) : List Int := textL l ++ sumL (textL l)
theorem sealL_rng {l : List Int} (h : ∀ x ∈ l, 0 ≤ x ∧ x < 256) : ∀ x ∈ sealL l, 0 ≤ x ∧ x < 256 := fun x hx => by
  rcases List.mem_append.1 hx with h1 | h1
  · exact textL_rng h x h1
  · exact sumL_rng _ x h1

/-- A row of the call's own and an error beside it. -/
def RetOwn2 (l : List Int) (x : Int) (w : World) (e : Ending) (w' : World) : Prop :=
  ∃ A n c, e = .returned (.tuple #[.slice A n c, .int .i64 x]) ∧ w'.ownsRow w.heap.size 5 1 (.slice A n c) n (l.map (Value.int .u8)) ∧ (∀ x ∈ l, 0 ≤ x ∧ x < 256) ∧ Below w.heap.size w w'

theorem Wrt.new (w : World) : Wrt (w.alloc (.cells #[.slice none 0 0] 60)) w.heap.size w.heap.size [] :=
  ⟨Nat.le_refl _, by simp, none, 0, 0, Bk.new _ _ _, World.ownsRow_nil _ _ _ _⟩

/-- What Seal answers. -/
def SealPost (l : List Int) (w : World) : Ending → World → Prop := if 4096 < l.length then RetOwn2 [] 12 w else RetOwn2 (sealL l) 0 w

set_option maxHeartbeats 1000000 in
theorem seal_any (A : Option Addr) (n c : Nat) (l : List Int) (w : World) (h : Byt w A n c l) (hT : Tab w) :
    Calls Tryd.prog 31 #[.slice A n c] w (SealPost l w) := by
  have hlen := h.len
  unfold SealPost
  by_cases hlong : (4096 : Int) < (n : Int)
  · rw [if_pos (by omega)]
    clear h hT hlen
    go_enter Tryd.func31, Tryd.ntmps31
    go_wp2_with fail
    go_ret2
    exact ⟨none, 0, 0, rfl, World.ownsRow_nil _ _ _ _, by simp, Below.refl _ _⟩
  · rw [if_neg (by omega)]
    have kc := conv_byt (h.alloc (.cells #[.slice none 0 0] 60))
    have W0 := Wrt.new w
    have b0 : Below w.heap.size w (w.alloc (.cells #[.slice none 0 0] 60)) := (Below.refl _ _).alloc (Nat.le_refl _) _
    have hsz := str_size l
    have C1 := wText_any w.heap.size w.heap.size [] (strOfNums l) _ W0 (by simp; omega)
    rw [nums_str l h.rng, List.nil_append] at C1
    have C1 := Lib.hid C1
    have HR := Lib.hid h.rng
    have B0 := Lib.hid b0
    have HT := Lib.hid hT
    have hle := textL_len l (by omega)
    have HLE := Lib.hid hle
    clear h hT W0 b0 hsz hle
    go_enter Tryd.func31, Tryd.ntmps31
    go_wp2_with fail
    refine C1.out.mono ?_
    rintro e w1 ⟨rfl, R1, b1⟩
    obtain ⟨A1, n1, c1, hb1, ho1⟩ := R1.ex
    have hcell : w1.cell? ⟨w.heap.size, 0, none⟩ = some (.slice A1 n1 c1) := hb1.cell 0
    have B1 := B0.out.trans b1
    have C2 := Lib.hid (sumOf_any A1 n1 c1 (textL l) w1 (Byt.of_own ho1 R1.rng) (HT.out.ret B1))
    have R1 := Lib.hid R1
    have B1 := Lib.hid B1
    clear b1 hb1 ho1 C1
    go_wp2_with fail
    refine C2.out.mono ?_
    rintro e w2 ⟨A2, n2, c2, rfl, hb2, b2⟩
    have hn2 : n2 ≤ 4 := by have := hb2.len; rw [sumL_len] at this; omega
    have hle := HLE.out
    have C3 := Lib.hid (put_any w.heap.size w.heap.size (textL l) (sumL (textL l)) A2 n2 c2 w2 (R1.out.ret b2) hb2 (by omega))
    have B2 := Lib.hid (B1.out.trans (b2.mono R1.out.base_le))
    clear hb2 b2 hcell hn2 hle C2 R1 B1
    go_wp2_with fail
    refine C3.out.mono ?_
    rintro e w3 ⟨rfl, R3, b3⟩
    obtain ⟨A3, n3, c3, hb3, ho3⟩ := R3.ex
    have hcell : w3.cell? ⟨w.heap.size, 0, none⟩ = some (.slice A3 n3 c3) := hb3.cell 0
    have R3 := Lib.hid R3
    have O3 := Lib.hid ho3
    have B3 := Lib.hid (B2.out.trans b3)
    clear b3 hb3 ho3 C3 B2
    go_wp2_with fail
    go_ret2
    exact ⟨A3, n3, c3, rfl, O3.out, R3.out.rng, B3.out⟩

/-- A row of the call's own, told from an earlier world. -/
theorem RetOwn.rebase {l : List Int} {w w1 : World} {e : Ending} {w2 : World} (hb : Below w.heap.size w w1) (h : RetOwn l w1 e w2) : RetOwn l w e w2 := by
  obtain ⟨A, n, c, he, ho, hr, hbel⟩ := h
  refine ⟨A, n, c, he, ⟨ho.1, ?_⟩, hr, Below.then hb hbel⟩
  rcases ho.2 with h | ⟨g, cap, cur, h1, h2, h3⟩
  · exact .inl h
  · exact .inr ⟨g, cap, cur, h1, Nat.le_trans hb.size h2, h3⟩

set_option maxHeartbeats 1000000 in
/-- trothref03.Num. -/
theorem refNum_own (n : Int) (w : World) (hn : -9223372036854775808 ≤ n ∧ n ≤ 9223372036854775807) :
    Calls Tryd.prog 13 #[.int .i64 n] w (RetOwn (numL n) w) := by
  by_cases h0 : n < 0
  · rw [numL_neg h0]
    go_enter Tryd.func13, Tryd.ntmps13
    go_wp2_with fail
    refine (refShort_own 0 (by omega) w).mono ?_
    rintro e w1 ⟨A, k, c, rfl, R⟩
    have R := Lib.hid R
    go_wp2_with fail
    go_ret
    exact ⟨A, k, c, rfl, R.out⟩
  · obtain ⟨z, rfl⟩ := Int.eq_ofNat_of_zero_le (Int.not_lt.1 h0)
    rw [numL_nat]
    obtain ⟨_, hz⟩ := hn
    go_enter Tryd.func13, Tryd.ntmps13
    go_wp2_with fail
    refine (refShort_own z (by omega) w).mono ?_
    rintro e w1 ⟨A, k, c, rfl, R⟩
    have R := Lib.hid R
    go_wp2_with fail
    go_ret
    exact ⟨A, k, c, rfl, R.out⟩

theorem ownText_end {w w1 w2 : World} {A : Option Addr} {k c m : Nat} {v : Value} {s : ByteArray} (_hk : (shortL s.size).length = k) (h : w1.ownsRow w.heap.size 5 1 (.slice A k c) k ((shortL s.size).map (Value.int .u8))) (hb : Below w.heap.size w w1)
    (h1 : w2.ownsRow w.heap.size 5 1 v m ((shortL s.size).map (Value.int .u8) ++ Lib.strCells s)) (h2 : w1.grownBy w2 (Value.ownBlock (.slice A k c))) :
    RetOwn (textL (nums s)) w (.returned v) w2 := by
  have form : ∃ A' c', v = .slice A' m c' := by
    rcases h1.2 with ⟨e1, e2⟩ | ⟨g, cap, _, e1, _⟩
    · subst e2; exact ⟨none, 0, e1⟩
    · exact ⟨_, _, e1⟩
  obtain ⟨A', c', rfl⟩ := form
  rw [strCells_nums, ← List.map_append] at h1
  refine ⟨A', m, c', rfl, by unfold textL; rw [nums_len]; exact h1, textL_rng (nums_rng s), hb.grown h2 hb.size (fun i hi => (h.lt i hi).1)⟩

set_option maxHeartbeats 1000000 in
/-- trothref03.Text. -/
theorem refText_own (s : ByteArray) (w : World) (hs : s.size ≤ 140737488350000) :
    Calls Tryd.prog 14 #[.string s] w (RetOwn (textL (nums s)) w) := by
  obtain ⟨i0, hi, hz0, hz1, hz2⟩ := info_parts info_u8
  have C := refNum_own (s.size : Int) w (by omega)
  rw [numL_nat] at C
  have C := Lib.hid C
  have hle := shortL_len s.size (by omega)
  go_enter Tryd.func14, Tryd.ntmps14
  go_wp2_with fail
  refine C.out.mono ?_
  rintro e w1 ⟨A, k, c, rfl, ho, hr, hb⟩
  have hk : (shortL s.size).length = k := by simpa using ho.1
  have hbs := hb.size
  have HO := Lib.hid ho
  have HB := Lib.hid hb
  have HK := Lib.hid hk
  have hk10 : k ≤ 10 := by omega
  clear ho hr hb hk hle C
  go_wp2_with (at_builtin; refine Lib.wpList_append_own_string _ rfl _ _ 25 9 rfl w.heap.size 5 i0 Tryd.underlying25 Tryd.underlying9 hi hz0 hz1 hz2 _ k _ rfl (by exact HO.out) s rfl (by unfold maxLen; omega) (by omega) hbs ?_)
  intro v' w2 h1 h2 _
  have R := Lib.hid (ownText_end HK.out HO.out HB.out h1 h2)
  clear h1 h2
  go_wp2_with fail
  go_ret
  exact R.out

/-- What trothref03.Seal answers. -/
theorem refSeal_end {w w1 w2 w3 : World} {A A3 : Option Addr} {k c k3 c3 : Nat} {l : List Int} (hr : ∀ x ∈ l, 0 ≤ x ∧ x < 256) (h1 : w1.ownsRow w.heap.size 5 1 (.slice A k c) k ((textL l).map (Value.int .u8))) (hb : Below w.heap.size w w1)
    (b2 : Below w1.heap.size w1 w2)
    (h3 : w3.ownsRow w.heap.size 5 1 (.slice A3 k3 c3) k3 ((textL l).map (Value.int .u8) ++ (sumL (textL l)).map (Value.int .u8))) (g3 : w2.grownBy w3 (Value.ownBlock (.slice A k c))) :
    RetOwn2 (sealL l) 0 w (.returned (.tuple #[.slice A3 k3 c3, .int .i64 0])) w3 := by
  rw [← List.map_append] at h3
  exact ⟨A3, k3, c3, rfl, h3, sealL_rng hr, (Below.then hb b2).grown g3 (Below.then hb b2).size (fun i hi => (h1.lt i hi).1)⟩

theorem own_later {w1 w2 : World} {base n : Nat} {v : Value} {xs : List Value} (h : w1.ownsRow base 5 1 v n xs) (b2 : Below w1.heap.size w1 w2) : w2.ownsRow base 5 1 v n xs :=
  h.kept (row := none) ⟨b2.os, b2.tape, b2.output, b2.size, fun k hk _ => b2.block k hk⟩ (by
    cases hv : v.ownBlock with
    | none => exact .inl rfl
    | some a => exact .inr (by simp))

set_option maxHeartbeats 1000000 in
theorem refSeal_any (A : Option Addr) (n c : Nat) (l : List Int) (w : World) (h : Byt w A n c l) :
    Calls Tryd.prog 32 #[.slice A n c] w (SealPost l w) := by
  obtain ⟨i0, hi, hz0, hz1, hz2⟩ := info_parts info_u8
  have hlen := h.len
  unfold SealPost
  by_cases hlong : (4096 : Int) < (n : Int)
  · rw [if_pos (by omega)]
    clear h hlen
    go_enter Tryd.func32, Tryd.ntmps32
    go_wp2_with fail
    go_ret2
    exact ⟨none, 0, 0, rfl, World.ownsRow_nil _ _ _ _, by simp, Below.refl _ _⟩
  · rw [if_neg (by omega)]
    have kc := conv_byt h
    have hsz := str_size l
    have C1 := refText_own (strOfNums l) w (by omega)
    rw [nums_str l h.rng] at C1
    have C1 := Lib.hid C1
    have HR := Lib.hid h.rng
    have hle := textL_len l (by omega)
    have HLE := Lib.hid hle
    clear h hsz hle
    go_enter Tryd.func32, Tryd.ntmps32
    go_wp2_with fail
    refine C1.out.mono ?_
    rintro e w1 ⟨A1, n1, c1, rfl, ho1, hr1, b1⟩
    have hn1 : n1 ≤ 5000 := by have := HLE.out; have h2 : (textL l).length = n1 := by simpa using ho1.1
                               omega
    have C2 := Lib.hid (refSumOf_any A1 n1 c1 (textL l) w1 (Byt.of_own ho1 hr1))
    have O1 := Lib.hid ho1
    have B1 := Lib.hid b1
    clear ho1 hr1 b1 C1
    go_wp2_with fail
    refine C2.out.mono ?_
    rintro e w2 ⟨A2, n2, c2, rfl, ho2, hr2, b2⟩
    have hb2 := Byt.of_own ho2 hr2
    have hn2 : n2 ≤ 4 := by have := hb2.len; rw [sumL_len] at this; omega
    have hbs := (Below.then B1.out b2).size
    have B2 := Lib.hid b2
    have O2 := own_later O1.out b2
    clear ho2 hr2 b2 C2
    go_wp2_with (at_builtin; refine wpList_append_byt rfl _ _ 25 rfl w.heap.size 5 i0 Tryd.underlying25 hi hz0 hz1 hz2 _ n1 (textL l) rfl (by exact O2) A2 n2 c2 (sumL (textL l)) rfl hb2 (by omega) hbs ?_)
    intro A3 c3 w3 h3 g3
    have R := Lib.hid (refSeal_end HR.out O1.out B1.out B2.out h3 g3)
    clear h3 g3 hb2 O2
    go_wp2_with fail
    go_ret2
    exact R.out
end Go.Proofs.YtlnhillpghjknaaDoor
