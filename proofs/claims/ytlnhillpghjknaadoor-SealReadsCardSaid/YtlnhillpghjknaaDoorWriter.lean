/- What it says: what a writer's methods gather: a number, a byte, a flag, a text; a nil one gathers nothing; Bytes hands it back in new memory. -/
import Derived.Test.YtlnhillpghjknaaDoorPut
import Derived.Test.YtlnhillpghjknaaDoorClone
namespace Go.Proofs.YtlnhillpghjknaaDoor
open Go.RowKit

theorem RetW.snd {base b : Nat} {l : List Int} {w w1 : World} {e : Ending} {w2 : World} (h1 : Below base w w1) (h : RetW base b l w1 e w2) : RetW base b l w e w2 := ⟨h.1, h.2.1, h1.trans h.2.2⟩

/-- Below base, where all of the writer's memory lies. -/
theorem Wrt.base_le {w : World} {base b : Nat} {l : List Int} (h : Wrt w base b l) : base ≤ w.heap.size := by have := h.lt; have := h.low; omega

/-- What Num writes. -/
def numL (n : Int) : List Int := shortL (max n 0).toNat
theorem numL_rng (n : Int) : ∀ x ∈ numL n, 0 ≤ x ∧ x < 256 := shortL_rng _
theorem numL_len (n : Int) (hn : n ≤ 9223372036854775807) : (numL n).length ≤ 10 := shortL_len _ (by omega)

theorem numL_nat (z : Nat) : numL (z : Int) = shortL z := by unfold numL; congr 1; omega
theorem numL_neg {n : Int} (h : n < 0) : numL n = shortL 0 := by unfold numL; congr 1; omega

set_option maxHeartbeats 1000000 in
theorem wNum_any (base b : Nat) (l : List Int) (n : Int) (w : World) (h : Wrt w base b l) (hn : -9223372036854775808 ≤ n ∧ n ≤ 9223372036854775807) (hl : l.length ≤ 140737488350000) :
    Calls Tryd.prog 37 #[.pointer (some ⟨b, 0, none⟩), .int .i64 n] w (RetW base b (l ++ numL n) w) := by
  have go : ∀ z : Nat, z ≤ 9223372036854775807 → ∀ (A : Option Addr) (k c : Nat) (w1 : World), Byt w1 A k c (shortL z) → Below w.heap.size w w1 → Calls Tryd.prog 53 #[.pointer (some ⟨b, 0, none⟩), .slice A k c] w1 (RetW base b (l ++ shortL z) w) := by
    intro z hz A k c w1 hb hbel
    have hk : k ≤ 10 := by rw [← hb.len]; exact shortL_len z (by omega)
    exact (put_any base b l (shortL z) A k c w1 (h.ret hbel) hb (by omega)).mono fun e w2 hr => hr.snd (hbel.mono h.base_le)
  have GO := Lib.hid go
  clear go h
  by_cases h0 : n < 0
  · rw [numL_neg h0]
    go_enter Tryd.func37, Tryd.ntmps37
    go_wp2_with fail
    refine (numShort_any 0 (by omega) w).mono ?_
    rintro e w1 ⟨A, k, c, rfl, hb, hbel⟩
    have C := Lib.hid (GO.out 0 (by omega) A k c w1 hb hbel)
    clear hb hbel
    go_wp2_with fail
    refine C.out.mono ?_
    rintro e w2 ⟨rfl, R⟩
    have R := Lib.hid R
    go_wp2_with fail
    go_end0
    exact ⟨rfl, R.out⟩
  · obtain ⟨z, rfl⟩ := Int.eq_ofNat_of_zero_le (Int.not_lt.1 h0)
    rw [numL_nat]
    obtain ⟨_, hz⟩ := hn
    go_enter Tryd.func37, Tryd.ntmps37
    go_wp2_with fail
    refine (numShort_any z (by omega) w).mono ?_
    rintro e w1 ⟨A, k, c, rfl, hb, hbel⟩
    have C := Lib.hid (GO.out z (by omega) A k c w1 hb hbel)
    clear hb hbel
    go_wp2_with fail
    refine C.out.mono ?_
    rintro e w2 ⟨rfl, R⟩
    have R := Lib.hid R
    go_wp2_with fail
    go_end0
    exact ⟨rfl, R.out⟩

set_option maxHeartbeats 1000000 in
theorem wNum_nil (n : Int) (w : World) (hn : -9223372036854775808 ≤ n ∧ n ≤ 9223372036854775807) :
    Calls Tryd.prog 37 #[.pointer none, .int .i64 n] w (Ret (.tuple #[]) w) := by
  by_cases h0 : n < 0
  · go_enter Tryd.func37, Tryd.ntmps37
    go_wp2_with fail
    refine (numShort_any 0 (by omega) w).mono ?_
    rintro e w1 ⟨A, k, c, rfl, hb, hbel⟩
    have L := Lib.hid hbel
    clear hb hbel
    go_wp2_with fail
    refine (put_nil _ _ _ _).mono ?_
    rintro e w2 ⟨rfl, b2⟩
    have R := Lib.hid (Below.then L.out b2)
    clear b2
    go_wp2_with fail
    go_end0
    exact ⟨rfl, R.out⟩
  · obtain ⟨z, rfl⟩ := Int.eq_ofNat_of_zero_le (Int.not_lt.1 h0)
    obtain ⟨_, hz⟩ := hn
    go_enter Tryd.func37, Tryd.ntmps37
    go_wp2_with fail
    refine (numShort_any z (by omega) w).mono ?_
    rintro e w1 ⟨A, k, c, rfl, hb, hbel⟩
    have L := Lib.hid hbel
    clear hb hbel
    go_wp2_with fail
    refine (put_nil _ _ _ _).mono ?_
    rintro e w2 ⟨rfl, b2⟩
    have R := Lib.hid (Below.then L.out b2)
    clear b2
    go_wp2_with fail
    go_end0
    exact ⟨rfl, R.out⟩

/-- A new slice of one byte, as 'put(c)' lays it. -/
theorem one_byt (W : World) (x : Int) (hx : 0 ≤ x ∧ x < 256) : Byt (W.alloc (.cells #[.int .u8 x] 5)) (some ⟨W.heap.size, 0, none⟩) 1 1 [x] :=
  Byt.of_own (own_one W W.heap.size 5 x (Nat.le_refl _)) (by intro y hy; simp at hy; subst hy; exact hx)

theorem put_one {w : World} {base b : Nat} {l : List Int} (h : Wrt w base b l) (x : Int) (hx : 0 ≤ x ∧ x < 256) (hl : l.length ≤ 140737488350000) :
    Calls Tryd.prog 53 #[.pointer (some ⟨b, 0, none⟩), .slice (some ⟨w.heap.size, 0, none⟩) 1 1] (w.alloc (.cells #[.int .u8 x] 5)) (RetW base b (l ++ [x]) w) :=
  (put_any base b l [x] _ 1 1 _ (h.ret ((Below.refl _ _).alloc (Nat.le_refl _) _)) (one_byt w x hx) (by omega)).mono fun e w2 hr => hr.snd ((Below.refl _ _).alloc h.base_le _)

set_option maxHeartbeats 1000000 in
theorem wByte_any (base b : Nat) (l : List Int) (x : Int) (w : World) (h : Wrt w base b l) (hx : 0 ≤ x ∧ x < 256) (hl : l.length ≤ 140737488350000) :
    Calls Tryd.prog 38 #[.pointer (some ⟨b, 0, none⟩), .int .u8 x] w (RetW base b (l ++ [x]) w) := by
  have C := Lib.hid (put_one h x hx hl)
  clear h hx
  go_enter Tryd.func38, Tryd.ntmps38
  go_wp2_with fail
  refine C.out.mono ?_
  rintro e w2 ⟨rfl, R⟩
  have R := Lib.hid R
  go_wp2_with fail
  go_end0
  exact ⟨rfl, R.out⟩

/-- What Flag writes. -/
def flagL (is : Bool) : List Int := [if is then 1 else 0]
theorem flagL_rng (is : Bool) : ∀ x ∈ flagL is, 0 ≤ x ∧ x < 256 := by cases is <;> simp [flagL]

set_option maxHeartbeats 1000000 in
theorem wFlag_any (base b : Nat) (l : List Int) (is : Bool) (w : World) (h : Wrt w base b l) (hl : l.length ≤ 140737488350000) :
    Calls Tryd.prog 39 #[.pointer (some ⟨b, 0, none⟩), .bool is] w (RetW base b (l ++ flagL is) w) := by
  cases is with
  | true =>
    have C : Hid _ := Lib.hid (put_one h 1 (by omega) hl)
    clear h
    go_enter Tryd.func39, Tryd.ntmps39
    go_wp2_with fail
    refine C.out.mono ?_
    rintro e w2 ⟨rfl, R⟩
    have R := Lib.hid R
    go_wp2_with fail
    go_end0
    exact ⟨rfl, R.out⟩
  | false =>
    have C : Hid _ := Lib.hid (put_one h 0 (by omega) hl)
    clear h
    go_enter Tryd.func39, Tryd.ntmps39
    go_wp2_with fail
    refine C.out.mono ?_
    rintro e w2 ⟨rfl, R⟩
    have R := Lib.hid R
    go_wp2_with fail
    go_end0
    exact ⟨rfl, R.out⟩

theorem one_nil (x : Int) (w : World) :
    Calls Tryd.prog 53 #[.pointer none, .slice (some ⟨w.heap.size, 0, none⟩) 1 1] (w.alloc (.cells #[.int .u8 x] 5)) (Ret (.tuple #[]) w) :=
  (put_nil _ _ _ _).mono fun _ _ ⟨he, hb⟩ => ⟨he, Below.then ((Below.refl _ _).alloc (Nat.le_refl _) _) hb⟩

set_option maxHeartbeats 1000000 in
theorem wByte_nil (x : Int) (w : World) :
    Calls Tryd.prog 38 #[.pointer none, .int .u8 x] w (Ret (.tuple #[]) w) := by
  go_enter Tryd.func38, Tryd.ntmps38
  go_wp2_with fail
  refine (one_nil _ _).mono ?_
  rintro e w2 ⟨rfl, R⟩
  have R := Lib.hid R
  go_wp2_with fail
  go_end0
  exact ⟨rfl, R.out⟩

set_option maxHeartbeats 1000000 in
theorem wFlag_nil (is : Bool) (w : World) :
    Calls Tryd.prog 39 #[.pointer none, .bool is] w (Ret (.tuple #[]) w) := by
  cases is <;>
  · go_enter Tryd.func39, Tryd.ntmps39
    go_wp2_with fail
    refine (one_nil _ _).mono ?_
    rintro e w2 ⟨rfl, R⟩
    have R := Lib.hid R
    go_wp2_with fail
    go_end0
    exact ⟨rfl, R.out⟩

/-- What Text writes. -/
def textL (m : List Int) : List Int := shortL m.length ++ m
theorem textL_rng {m : List Int} (h : ∀ x ∈ m, 0 ≤ x ∧ x < 256) : ∀ x ∈ textL m, 0 ≤ x ∧ x < 256 := fun x hx => by
  rcases List.mem_append.1 hx with h1 | h1
  · exact shortL_rng _ x h1
  · exact h x h1
theorem textL_len (m : List Int) (h : m.length ≤ 9223372036854775807) : (textL m).length ≤ m.length + 10 := by
  have := shortL_len m.length (by omega)
  simp [textL]; omega

set_option maxHeartbeats 1000000 in
theorem wText_any (base b : Nat) (l : List Int) (s : ByteArray) (w : World) (h : Wrt w base b l) (hs : l.length + s.size ≤ 140737488350000) :
    Calls Tryd.prog 35 #[.pointer (some ⟨b, 0, none⟩), .string s] w (RetW base b (l ++ textL (nums s)) w) := by
  have go : ∀ w1, RetW base b (l ++ numL (s.size : Int)) w (.returned (.tuple #[])) w1 → Calls Tryd.prog 53 #[.pointer (some ⟨b, 0, none⟩), .slice (some ⟨w1.heap.size, 0, none⟩) s.size (grownCap w1 s.size 0 5)] (Lib.bytesWorld w1 5 s) (RetW base b (l ++ textL (nums s)) w) := by
    intro w1 hr
    have hlen : (numL (s.size : Int)).length ≤ 10 := numL_len _ (by omega)
    have hb := bytesWorld_below w1 5 s
    have := put_any base b (l ++ numL (s.size : Int)) (nums s) _ _ _ _ (hr.2.1.ret hb) (Byt.ofString w1 5 s (by unfold maxLen; omega)) (by simp; omega)
    refine this.mono fun e w2 h2 => ?_
    have h3 := RetW.snd (hr.2.2.trans (hb.mono hr.2.1.base_le)) h2
    rw [List.append_assoc, numL_nat] at h3
    unfold textL
    rw [nums_len]
    exact h3
  have GO := Lib.hid go
  have CN := Lib.hid (wNum_any base b l (s.size : Int) w h (by omega) (by omega))
  have kc := conv_str
  clear go h
  go_enter Tryd.func35, Tryd.ntmps35
  go_wp2_with fail
  refine CN.out.mono ?_
  rintro e w1 ⟨rfl, R⟩
  have C := Lib.hid (GO.out w1 ⟨rfl, R⟩)
  clear R
  go_wp2_with fail
  refine C.out.mono ?_
  rintro e w2 ⟨rfl, R⟩
  have R := Lib.hid R
  go_wp2_with fail
  go_end0
  exact ⟨rfl, R.out⟩

set_option maxHeartbeats 1000000 in
theorem wText_nil (s : ByteArray) (w : World) (hs : s.size ≤ 140737488355328) :
    Calls Tryd.prog 35 #[.pointer none, .string s] w (Ret (.tuple #[]) w) := by
  have CN := Lib.hid (wNum_nil (s.size : Int) w (by omega))
  have kc := conv_str
  go_enter Tryd.func35, Tryd.ntmps35
  go_wp2_with fail
  refine CN.out.mono ?_
  rintro e w1 ⟨rfl, R⟩
  have R1 := Lib.hid R
  clear R
  go_wp2_with fail
  refine (put_nil _ _ _ _).mono ?_
  rintro e w2 ⟨rfl, R⟩
  have R := Lib.hid (Below.then (Below.then R1.out (bytesWorld_below _ _ _)) R)
  go_wp2_with fail
  go_end0
  exact ⟨rfl, R.out⟩

set_option maxHeartbeats 1000000 in
theorem wBytes_nil (w : World) :
    Calls Tryd.prog 36 #[.pointer none] w (RetByt [] w) := by
  go_enter Tryd.func36, Tryd.ntmps36
  go_wp2_with fail
  go_ret
  exact ⟨none, 0, 0, rfl, Byt.nil _, Below.refl _ _⟩
end Go.Proofs.YtlnhillpghjknaaDoor
