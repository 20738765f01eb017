/- What it says: contracts and plain mathematics that the laws' walks use, 4 of 10: each part's own remark says what; no condition. -/
import Derived.Test.YtomhofppcogojaaPs1
import Derived.Test.YtomhofppcogojaaPs2
import Derived.Test.YtomhofppcogojaaPs3
import Derived.Below
import Derived.Test.YtomhofppcogojaaRows
import Derived.Laws.BitsAllLaws
import Derived.Deep.QuietTactic
import Derived.BigQuiet
import Derived.RegionTactic
import Derived.BigRegion
import Derived.Deep.RegionHeld3

set_option linter.unusedSimpArgs false
set_option linter.unusedVariables false
set_option linter.deprecated false
set_option linter.unusedSectionVars false
set_option linter.all false

/- what a writer's methods gather: a number, a byte, a flag, a text; a nil one gathers nothing; Bytes hands it back in new memory. -/
namespace Go.Proofs.Ytomhofppcogojaa
open Go.RowKit

theorem RetW.snd {base b : Nat} {l : List Int} {w w1 : World} {e : Ending} {w2 : World} (h1 : Below base w w1) (h : RetW base b l w1 e w2) : RetW base b l w e w2 := ⟨h.1, h.2.1, h1.trans h.2.2⟩

/-- Below base, where all of the writer's memory lies. -/
theorem Wrt.base_le {w : World} {base b : Nat} {l : List Int} (h : Wrt w base b l) : base ≤ w.heap.size := by have := h.lt; have := h.low; omega

/-- What Num writes. -/
def numL (n : Int) : List Int := shortL (max n 0).toNat
theorem numL_rng (n : Int) : ∀ x ∈ numL n, 0 ≤ x ∧ x < 256 := shortL_rng _
theorem numL_len (n : Int) (hn : n ≤ 9223372036854775807) : (numL n).length ≤ 10 := shortL_len _ (by omega)

theorem numL_nat (z : Nat) : numL (z : Int) = shortL z := by unfold numL; congr 1; omega
theorem numL_neg {n : Int} (h : n < 0) : numL n = shortL 0 := by unfold numL; congr 1; omega

set_option maxHeartbeats 1000000 in
theorem wNum_any (base b : Nat) (l : List Int) (n : Int) (w : World) (h : Wrt w base b l) (hn : -9223372036854775808 ≤ n ∧ n ≤ 9223372036854775807) (hl : l.length ≤ 140737488350000) :
    Calls Try.prog 44 #[.pointer (some ⟨b, 0, none⟩), .int .i64 n] w (RetW base b (l ++ numL n) w) := by
  have go : ∀ z : Nat, z ≤ 9223372036854775807 → ∀ (A : Option Addr) (k c : Nat) (w1 : World), Byt w1 A k c (shortL z) → Below w.heap.size w w1 → Calls Try.prog 62 #[.pointer (some ⟨b, 0, none⟩), .slice A k c] w1 (RetW base b (l ++ shortL z) w) := by
    intro z hz A k c w1 hb hbel
    have hk : k ≤ 10 := by rw [← hb.len]; exact shortL_len z (by omega)
    exact (put_any base b l (shortL z) A k c w1 (h.ret hbel) hb (by omega)).mono fun e w2 hr => hr.snd (hbel.mono h.base_le)
  have GO := Lib.hid go
  clear go h
  by_cases h0 : n < 0
  · rw [numL_neg h0]
    go_enter Try.func44, Try.ntmps44
    go_wp2_with fail
    refine (numShort_any 0 (by omega) w).mono ?_
    rintro e w1 ⟨A, k, c, rfl, hb, hbel⟩
    have C := Lib.hid (GO.out 0 (by omega) A k c w1 hb hbel)
    clear hb hbel
    go_wp2_with fail
    refine C.out.mono ?_
    rintro e w2 ⟨rfl, R⟩
    have R := Lib.hid R
    go_wp2_with fail
    go_end0
    exact ⟨rfl, R.out⟩
  · obtain ⟨z, rfl⟩ := Int.eq_ofNat_of_zero_le (Int.not_lt.1 h0)
    rw [numL_nat]
    obtain ⟨_, hz⟩ := hn
    go_enter Try.func44, Try.ntmps44
    go_wp2_with fail
    refine (numShort_any z (by omega) w).mono ?_
    rintro e w1 ⟨A, k, c, rfl, hb, hbel⟩
    have C := Lib.hid (GO.out z (by omega) A k c w1 hb hbel)
    clear hb hbel
    go_wp2_with fail
    refine C.out.mono ?_
    rintro e w2 ⟨rfl, R⟩
    have R := Lib.hid R
    go_wp2_with fail
    go_end0
    exact ⟨rfl, R.out⟩

set_option maxHeartbeats 1000000 in
theorem wNum_nil (n : Int) (w : World) (hn : -9223372036854775808 ≤ n ∧ n ≤ 9223372036854775807) :
    Calls Try.prog 44 #[.pointer none, .int .i64 n] w (Ret (.tuple #[]) w) := by
  by_cases h0 : n < 0
  · go_enter Try.func44, Try.ntmps44
    go_wp2_with fail
    refine (numShort_any 0 (by omega) w).mono ?_
    rintro e w1 ⟨A, k, c, rfl, hb, hbel⟩
    have L := Lib.hid hbel
    clear hb hbel
    go_wp2_with fail
    refine (put_nil _ _ _ _).mono ?_
    rintro e w2 ⟨rfl, b2⟩
    have R := Lib.hid (Below.then L.out b2)
    clear b2
    go_wp2_with fail
    go_end0
    exact ⟨rfl, R.out⟩
  · obtain ⟨z, rfl⟩ := Int.eq_ofNat_of_zero_le (Int.not_lt.1 h0)
    obtain ⟨_, hz⟩ := hn
    go_enter Try.func44, Try.ntmps44
    go_wp2_with fail
    refine (numShort_any z (by omega) w).mono ?_
    rintro e w1 ⟨A, k, c, rfl, hb, hbel⟩
    have L := Lib.hid hbel
    clear hb hbel
    go_wp2_with fail
    refine (put_nil _ _ _ _).mono ?_
    rintro e w2 ⟨rfl, b2⟩
    have R := Lib.hid (Below.then L.out b2)
    clear b2
    go_wp2_with fail
    go_end0
    exact ⟨rfl, R.out⟩

/-- A new slice of one byte, as 'put(c)' lays it. -/
theorem one_byt (W : World) (x : Int) (hx : 0 ≤ x ∧ x < 256) : Byt (W.alloc (.cells #[.int .u8 x] 5)) (some ⟨W.heap.size, 0, none⟩) 1 1 [x] :=
  Byt.of_own (own_one W W.heap.size 5 x (Nat.le_refl _)) (by intro y hy; simp at hy; subst hy; exact hx)

theorem put_one {w : World} {base b : Nat} {l : List Int} (h : Wrt w base b l) (x : Int) (hx : 0 ≤ x ∧ x < 256) (hl : l.length ≤ 140737488350000) :
    Calls Try.prog 62 #[.pointer (some ⟨b, 0, none⟩), .slice (some ⟨w.heap.size, 0, none⟩) 1 1] (w.alloc (.cells #[.int .u8 x] 5)) (RetW base b (l ++ [x]) w) :=
  (put_any base b l [x] _ 1 1 _ (h.ret ((Below.refl _ _).alloc (Nat.le_refl _) _)) (one_byt w x hx) (by omega)).mono fun e w2 hr => hr.snd ((Below.refl _ _).alloc h.base_le _)

/-- What Flag writes. -/
def flagL (is : Bool) : List Int := [if is then 1 else 0]
theorem flagL_rng (is : Bool) : ∀ x ∈ flagL is, 0 ≤ x ∧ x < 256 := by cases is <;> simp [flagL]

set_option maxHeartbeats 1000000 in
theorem wFlag_any (base b : Nat) (l : List Int) (is : Bool) (w : World) (h : Wrt w base b l) (hl : l.length ≤ 140737488350000) :
    Calls Try.prog 65 #[.pointer (some ⟨b, 0, none⟩), .bool is] w (RetW base b (l ++ flagL is) w) := by
  cases is with
  | true =>
    have C : Hid _ := Lib.hid (put_one h 1 (by omega) hl)
    clear h
    go_enter Try.func65, Try.ntmps65
    go_wp2_with fail
    refine C.out.mono ?_
    rintro e w2 ⟨rfl, R⟩
    have R := Lib.hid R
    go_wp2_with fail
    go_end0
    exact ⟨rfl, R.out⟩
  | false =>
    have C : Hid _ := Lib.hid (put_one h 0 (by omega) hl)
    clear h
    go_enter Try.func65, Try.ntmps65
    go_wp2_with fail
    refine C.out.mono ?_
    rintro e w2 ⟨rfl, R⟩
    have R := Lib.hid R
    go_wp2_with fail
    go_end0
    exact ⟨rfl, R.out⟩

theorem one_nil (x : Int) (w : World) :
    Calls Try.prog 62 #[.pointer none, .slice (some ⟨w.heap.size, 0, none⟩) 1 1] (w.alloc (.cells #[.int .u8 x] 5)) (Ret (.tuple #[]) w) :=
  (put_nil _ _ _ _).mono fun _ _ ⟨he, hb⟩ => ⟨he, Below.then ((Below.refl _ _).alloc (Nat.le_refl _) _) hb⟩

set_option maxHeartbeats 1000000 in
theorem wFlag_nil (is : Bool) (w : World) :
    Calls Try.prog 65 #[.pointer none, .bool is] w (Ret (.tuple #[]) w) := by
  cases is <;>
  · go_enter Try.func65, Try.ntmps65
    go_wp2_with fail
    refine (one_nil _ _).mono ?_
    rintro e w2 ⟨rfl, R⟩
    have R := Lib.hid R
    go_wp2_with fail
    go_end0
    exact ⟨rfl, R.out⟩

/-- What Text writes. -/
def textL (m : List Int) : List Int := shortL m.length ++ m
theorem textL_rng {m : List Int} (h : ∀ x ∈ m, 0 ≤ x ∧ x < 256) : ∀ x ∈ textL m, 0 ≤ x ∧ x < 256 := fun x hx => by
  rcases List.mem_append.1 hx with h1 | h1
  · exact shortL_rng _ x h1
  · exact h x h1
theorem textL_len (m : List Int) (h : m.length ≤ 9223372036854775807) : (textL m).length ≤ m.length + 10 := by
  have := shortL_len m.length (by omega)
  simp [textL]; omega

set_option maxHeartbeats 1000000 in
theorem wText_any (base b : Nat) (l : List Int) (s : ByteArray) (w : World) (h : Wrt w base b l) (hs : l.length + s.size ≤ 140737488350000) :
    Calls Try.prog 64 #[.pointer (some ⟨b, 0, none⟩), .string s] w (RetW base b (l ++ textL (nums s)) w) := by
  have go : ∀ w1, RetW base b (l ++ numL (s.size : Int)) w (.returned (.tuple #[])) w1 → Calls Try.prog 62 #[.pointer (some ⟨b, 0, none⟩), .slice (some ⟨w1.heap.size, 0, none⟩) s.size (grownCap w1 s.size 0 5)] (Lib.bytesWorld w1 5 s) (RetW base b (l ++ textL (nums s)) w) := by
    intro w1 hr
    have hlen : (numL (s.size : Int)).length ≤ 10 := numL_len _ (by omega)
    have hb := bytesWorld_below w1 5 s
    have := put_any base b (l ++ numL (s.size : Int)) (nums s) _ _ _ _ (hr.2.1.ret hb) (Byt.ofString w1 5 s (by unfold maxLen; omega)) (by simp; omega)
    refine this.mono fun e w2 h2 => ?_
    have h3 := RetW.snd (hr.2.2.trans (hb.mono hr.2.1.base_le)) h2
    rw [List.append_assoc, numL_nat] at h3
    unfold textL
    rw [nums_len]
    exact h3
  have GO := Lib.hid go
  have CN := Lib.hid (wNum_any base b l (s.size : Int) w h (by omega) (by omega))
  have kc := conv_str
  clear go h
  go_enter Try.func64, Try.ntmps64
  go_wp2_with fail
  refine CN.out.mono ?_
  rintro e w1 ⟨rfl, R⟩
  have C := Lib.hid (GO.out w1 ⟨rfl, R⟩)
  clear R
  go_wp2_with fail
  refine C.out.mono ?_
  rintro e w2 ⟨rfl, R⟩
  have R := Lib.hid R
  go_wp2_with fail
  go_end0
  exact ⟨rfl, R.out⟩

set_option maxHeartbeats 1000000 in
theorem wText_nil (s : ByteArray) (w : World) (hs : s.size ≤ 140737488355328) :
    Calls Try.prog 64 #[.pointer none, .string s] w (Ret (.tuple #[]) w) := by
  have CN := Lib.hid (wNum_nil (s.size : Int) w (by omega))
  have kc := conv_str
  go_enter Try.func64, Try.ntmps64
  go_wp2_with fail
  refine CN.out.mono ?_
  rintro e w1 ⟨rfl, R⟩
  have R1 := Lib.hid R
  clear R
  go_wp2_with fail
  refine (put_nil _ _ _ _).mono ?_
  rintro e w2 ⟨rfl, R⟩
  have R := Lib.hid (Below.then (Below.then R1.out (bytesWorld_below _ _ _)) R)
  go_wp2_with fail
  go_end0
  exact ⟨rfl, R.out⟩

set_option maxHeartbeats 1000000 in
theorem wBytes_nil (w : World) :
    Calls Try.prog 46 #[.pointer none] w (RetByt [] w) := by
  go_enter Try.func46, Try.ntmps46
  go_wp2_with fail
  go_ret
  exact ⟨none, 0, 0, rfl, Byt.nil _, Below.refl _ _⟩
end Go.Proofs.Ytomhofppcogojaa

/- a master record in plain mathematics: which may be, its bytes, what is read back out of a sector, which of two counts. -/
namespace Go.Proofs.Ytomhofppcogojaa
open Go.RowKit

/-- A record's numbers. -/
structure Ms where
  gen : Int
  inc : Int
  first : Int
  lsn : Int
  chk : Int
/-- Its value. -/
def msV (m : Ms) : Value := .agg #[.int .i64 m.gen, .int .i64 m.inc, .int .i64 m.first, .int .i64 m.lsn, .int .i64 m.chk]
/-- Number k of it. -/
def Ms.at_ (m : Ms) : Nat → Int
  | 0 => m.gen
  | 1 => m.inc
  | 2 => m.first
  | 3 => m.lsn
  | _ => m.chk
def ms0 : Ms := ⟨0, 0, 0, 0, 0⟩
theorem Ms.ext5 {a b : Ms} (h0 : a.gen = b.gen) (h1 : a.inc = b.inc) (h2 : a.first = b.first) (h3 : a.lsn = b.lsn) (h4 : a.chk = b.chk) : a = b := by
  cases a; cases b; simp only at h0 h1 h2 h3 h4; subst h0 h1 h2 h3 h4; rfl
/-- All its numbers are int's. -/
def Ms.fits (m : Ms) : Prop := ∀ k, -9223372036854775808 ≤ m.at_ k ∧ m.at_ k ≤ 9223372036854775807
theorem Ms.fits.all {m : Ms} (h : m.fits) : (-9223372036854775808 ≤ m.gen ∧ m.gen ≤ 9223372036854775807) ∧ (-9223372036854775808 ≤ m.inc ∧ m.inc ≤ 9223372036854775807) ∧ (-9223372036854775808 ≤ m.first ∧ m.first ≤ 9223372036854775807) ∧ (-9223372036854775808 ≤ m.lsn ∧ m.lsn ≤ 9223372036854775807) ∧ (-9223372036854775808 ≤ m.chk ∧ m.chk ≤ 9223372036854775807) := ⟨h 0, h 1, h 2, h 3, h 4⟩

/-- May it be? -/
structure Ms.ok (m : Ms) : Prop where
  gen : 1 ≤ m.gen ∧ m.gen ≤ 1099511627776
  inc : 0 ≤ m.inc ∧ m.inc ≤ 1099511627776
  first : 0 ≤ m.first ∧ m.first ≤ 1099511627776
  lsn : 0 ≤ m.lsn ∧ m.lsn ≤ 1099511627776
  chk : 0 ≤ m.chk ∧ m.chk ≤ 1099511627776
instance (m : Ms) : Decidable m.ok := decidable_of_iff ((1 ≤ m.gen ∧ m.gen ≤ 1099511627776) ∧ (0 ≤ m.inc ∧ m.inc ≤ 1099511627776) ∧ (0 ≤ m.first ∧ m.first ≤ 1099511627776) ∧ (0 ≤ m.lsn ∧ m.lsn ≤ 1099511627776) ∧ (0 ≤ m.chk ∧ m.chk ≤ 1099511627776)) ⟨fun ⟨a, b, c, d, e⟩ => ⟨a, b, c, d, e⟩, fun h => ⟨h.gen, h.inc, h.first, h.lsn, h.chk⟩⟩
theorem Ms.ok.at0 {m : Ms} (h : m.ok) (k : Nat) : 0 ≤ m.at_ k ∧ m.at_ k ≤ 1099511627776 := by
  match k with
  | 0 => exact ⟨by have := h.gen; show 0 ≤ m.gen; omega, h.gen.2⟩
  | 1 => exact h.inc
  | 2 => exact h.first
  | 3 => exact h.lsn
  | _ + 4 => exact h.chk
theorem Ms.ok.fits {m : Ms} (h : m.ok) : m.fits := fun k => by have := h.at0 k; omega
theorem Ms.ok_of {m : Ms} (h : ∀ k, k < 5 → 0 ≤ m.at_ k ∧ m.at_ k ≤ 1099511627776) (h1 : 0 < m.gen) : m.ok :=
  ⟨⟨by omega, (h 0 (by omega)).2⟩, h 1 (by omega), h 2 (by omega), h 3 (by omega), h 4 (by omega)⟩
theorem ms0_no : ¬ ms0.ok := fun h => by have h1 := h.gen.1; simp [ms0] at h1

/-- Its bytes. -/
def bodyM (m : Ms) : List Int := numL m.gen ++ numL m.inc ++ numL m.first ++ numL m.lsn ++ numL m.chk
/-- The first k numbers' bytes. -/
def bodyN (m : Ms) : Nat → List Int
  | 0 => []
  | k + 1 => bodyN m k ++ numL (m.at_ k)
theorem bodyN_all (m : Ms) : bodyN m 5 = bodyM m := by simp [bodyN, bodyM, Ms.at_]
theorem bodyM_rng (m : Ms) : ∀ x ∈ bodyM m, 0 ≤ x ∧ x < 256 := fun x hx => by
  simp only [bodyM, List.mem_append] at hx
  rcases hx with (((hx | hx) | hx) | hx) | hx <;> exact numL_rng _ x hx
theorem bodyN_len {m : Ms} (h : m.fits) : ∀ k, (bodyN m k).length ≤ 10 * k
  | 0 => by simp [bodyN]
  | k + 1 => by
    have h1 := bodyN_len h k
    have h2 := numL_len (m.at_ k) (h k).2
    simp only [bodyN, List.length_append]
    omega
theorem bodyM_len {m : Ms} (h : m.fits) : (bodyM m).length ≤ 50 := by have := bodyN_len h 5; rw [bodyN_all] at this; omega

/-- One number that is read, the rest, the error. -/
def rdV (l : List Int) (e : Nat) : Int := if e ≠ 0 then 0 else if (numF l 1099511627776).2.2 ≠ 0 then 0 else ((numF l 1099511627776).1 : Int)
def rdL (l : List Int) (e : Nat) : List Int := stepL l (numF l 1099511627776).2.1 e (numF l 1099511627776).2.2
def rdE (l : List Int) (e : Nat) : Nat := stepE e (numF l 1099511627776).2.2
theorem rdV_step (l : List Int) (e : Nat) : stepV (.int .i64 0) (.int .i64 ((numF l 1099511627776).1 : Int)) e (numF l 1099511627776).2.2 = .int .i64 (rdV l e) := by
  unfold stepV rdV
  split
  · rfl
  · split <;> rfl
theorem rdV_rng {l : List Int} (hr : ∀ x ∈ l, 0 ≤ x ∧ x < 256) (e : Nat) : 0 ≤ rdV l e ∧ rdV l e ≤ 1099511627776 := by
  unfold rdV
  split
  · omega
  · split
    · omega
    · rename_i h0 h1
      have := (numF_ok hr (most := 1099511627776) (by omega)).1
      omega
theorem rdL_rng {l : List Int} (hr : ∀ x ∈ l, 0 ≤ x ∧ x < 256) (e : Nat) : ∀ x ∈ rdL l e, 0 ≤ x ∧ x < 256 := by
  unfold rdL stepL
  split
  · exact hr
  · split
    · exact hr
    · exact fun x hx => hr x (List.mem_of_mem_drop hx)
/-- Behind k numbers. -/
def rdAt (l : List Int) : Nat → List Int × Nat
  | 0 => (l, 0)
  | k + 1 => (rdL (rdAt l k).1 (rdAt l k).2, rdE (rdAt l k).1 (rdAt l k).2)
theorem rdAt_rng {l : List Int} (hr : ∀ x ∈ l, 0 ≤ x ∧ x < 256) : ∀ k, ∀ x ∈ (rdAt l k).1, 0 ≤ x ∧ x < 256
  | 0 => hr
  | k + 1 => rdL_rng (rdAt_rng hr k) _
def rdN (l : List Int) (k : Nat) : Int := rdV (rdAt l k).1 (rdAt l k).2
theorem rdN_rng {l : List Int} (hr : ∀ x ∈ l, 0 ≤ x ∧ x < 256) (k : Nat) : 0 ≤ rdN l k ∧ rdN l k ≤ 1099511627776 := rdV_rng (rdAt_rng hr k) _
def decR (l : List Int) : Ms := ⟨rdN l 0, rdN l 1, rdN l 2, rdN l 3, rdN l 4⟩
def decE (l : List Int) : Nat := (rdAt l 5).2
theorem decR_fits {l : List Int} (hr : ∀ x ∈ l, 0 ≤ x ∧ x < 256) (k : Nat) : 0 ≤ (decR l).at_ k ∧ (decR l).at_ k ≤ 1099511627776 := by
  match k with
  | 0 => exact rdN_rng hr 0
  | 1 => exact rdN_rng hr 1
  | 2 => exact rdN_rng hr 2
  | 3 => exact rdN_rng hr 3
  | _ + 4 => exact rdN_rng hr 4
theorem decR_ok {l : List Int} (hr : ∀ x ∈ l, 0 ≤ x ∧ x < 256) : (decR l).ok ↔ 1 ≤ (decR l).gen :=
  ⟨fun h => h.gen.1, fun h => Ms.ok_of (fun k _ => decR_fits hr k) (by omega)⟩
def decM (l : List Int) : Ms := if decE l ≠ 0 then ms0 else decR l

/-- A number at the beginning. -/
theorem numF_at (z : Int) (hz : 0 ≤ z ∧ z ≤ 1099511627776) (r : List Int) : numF (numL z ++ r) 1099511627776 = (z.toNat, (numL z).length, 0) := by
  obtain ⟨n, rfl⟩ := Int.eq_ofNat_of_zero_le hz.1
  rw [numL_nat]
  unfold numF
  rw [takeF_short n (by omega) r]
  simp only [ne_eq, not_true_eq_false, if_false]
  rw [if_neg (by omega)]
  rfl
theorem rd_at (z : Int) (hz : 0 ≤ z ∧ z ≤ 1099511627776) (r : List Int) : rdV (numL z ++ r) 0 = z ∧ rdL (numL z ++ r) 0 = r ∧ rdE (numL z ++ r) 0 = 0 := by
  unfold rdV rdL rdE stepL stepE
  rw [numF_at z hz r]
  refine ⟨?_, ?_, ?_⟩
  · simp only [ne_eq, not_true_eq_false, if_false]
    omega
  · simp
  · simp
theorem rdAt_next {l : List Int} {k : Nat} {z : Int} {r : List Int} (h : rdAt l k = (numL z ++ r, 0)) (hz : 0 ≤ z ∧ z ≤ 1099511627776) : rdN l k = z ∧ rdAt l (k + 1) = (r, 0) := by
  obtain ⟨a, b, c⟩ := rd_at z hz r
  refine ⟨?_, ?_⟩
  · unfold rdN; rw [h]; exact a
  · have e : rdAt l (k + 1) = (rdL (rdAt l k).1 (rdAt l k).2, rdE (rdAt l k).1 (rdAt l k).2) := rfl
    rw [e, h]
    exact Prod.ext b c
/-- A record's bytes, whatever follows them, are read as the record. -/
theorem dec_body {m : Ms} (h : m.ok) (r : List Int) : decR (bodyM m ++ r) = m ∧ decE (bodyM m ++ r) = 0 := by
  have h0 : rdAt (bodyM m ++ r) 0 = (numL m.gen ++ (numL m.inc ++ (numL m.first ++ (numL m.lsn ++ (numL m.chk ++ r)))), 0) := by
    show (bodyM m ++ r, 0) = _
    simp [bodyM]
  obtain ⟨a0, h1⟩ := rdAt_next h0 (h.at0 0)
  obtain ⟨a1, h2⟩ := rdAt_next h1 (h.at0 1)
  obtain ⟨a2, h3⟩ := rdAt_next h2 (h.at0 2)
  obtain ⟨a3, h4⟩ := rdAt_next h3 (h.at0 3)
  obtain ⟨a4, h5⟩ := rdAt_next h4 (h.at0 4)
  have g : decE (bodyM m ++ r) = (rdAt (bodyM m ++ r) 5).2 := rfl
  rw [h5] at g
  refine ⟨?_, g⟩
  unfold decR
  rw [a0, a1, a2, a3, a4]

/-- The record of sector n. -/
def recM (n : Int) (l : List Int) : Ms := if openE l = 0 ∧ decE (openB l) = 0 ∧ (decR (openB l)).ok ∧ (decR (openB l)).gen % 2 = n then decR (openB l) else ms0
theorem recM_no {n : Int} {l : List Int} (h : ¬ (openE l = 0 ∧ decE (openB l) = 0 ∧ (decR (openB l)).ok ∧ (decR (openB l)).gen % 2 = n)) : recM n l = ms0 := if_neg h
theorem recM_yes {n : Int} {l : List Int} (h : openE l = 0 ∧ decE (openB l) = 0 ∧ (decR (openB l)).ok ∧ (decR (openB l)).gen % 2 = n) : recM n l = decR (openB l) := if_pos h
theorem recM_two (n : Int) (l : List Int) : recM n l = ms0 ∨ (recM n l).ok := by
  by_cases h : openE l = 0 ∧ decE (openB l) = 0 ∧ (decR (openB l)).ok ∧ (decR (openB l)).gen % 2 = n
  · rw [recM_yes h]; exact .inr h.2.2.1
  · exact .inl (recM_no h)
theorem recM_gen (n : Int) (l : List Int) : 0 ≤ (recM n l).gen := by
  rcases recM_two n l with h | h
  · rw [h]; exact Int.le_refl _
  · have := h.gen; omega
theorem recM_zero {n : Int} {l : List Int} (h : (recM n l).gen = 0) : recM n l = ms0 := by
  rcases recM_two n l with q | q
  · exact q
  · have := q.gen; omega
theorem recM_fits (n : Int) (l : List Int) : (recM n l).fits := by
  rcases recM_two n l with h | h
  · rw [h]; intro k; match k with
    | 0 => exact ⟨by decide, by decide⟩
    | 1 => exact ⟨by decide, by decide⟩
    | 2 => exact ⟨by decide, by decide⟩
    | 3 => exact ⟨by decide, by decide⟩
    | _ + 4 => exact ⟨by show (-9223372036854775808 : Int) ≤ 0; decide, by show (0 : Int) ≤ _; decide⟩
  · exact h.fits
/-- A record that was put is read. -/
theorem recM_wrap {m : Ms} (h : m.ok) {t : Int} (ht : 1 ≤ t ∧ t ≤ 3) : recM (m.gen % 2) (wrapL t (bodyM m)) = m := by
  have hl : (bodyM m).length ≤ 254 := by have := bodyM_len h.fits; omega
  have hs : (wrapL t (bodyM m)).length = 256 := by simp [wrapL, padL_len hl]
  have e := openE_right hs (right_wrap ht hl)
  have eb : openB (wrapL t (bodyM m)) = bodyM m ++ List.replicate (254 - (bodyM m).length) 0 := by rw [openB_right hs (right_wrap ht hl), bodyL_wrap hl]; rfl
  obtain ⟨d1, d2⟩ := dec_body h (List.replicate (254 - (bodyM m).length) 0)
  rw [recM_yes, eb, d1]
  rw [eb, d1, d2]
  exact ⟨e, rfl, h, rfl⟩
/-- A torn sector has none. -/
theorem recM_torn {n : Int} {l : List Int} (h : openE l = 50) : recM n l = ms0 := recM_no (fun q => by omega)

/-- Which of both counts. -/
def loadM (a b : List Int) : Ms := if (recM 0 a).gen < (recM 1 b).gen then recM 1 b else recM 0 a
theorem loadM_zero {a b : List Int} (h : (loadM a b).gen = 0) : loadM a b = ms0 := by
  unfold loadM at h ⊢
  split
  · rename_i q; rw [if_pos q] at h; exact recM_zero h
  · rename_i q; rw [if_neg q] at h; exact recM_zero h
theorem loadM_gen (a b : List Int) : 0 ≤ (loadM a b).gen := by
  unfold loadM
  split
  · exact recM_gen _ _
  · exact recM_gen _ _
def lostE (m : Ms) : Int := if m.gen = 0 then 60 else 0
end Go.Proofs.Ytomhofppcogojaa

/- what a reader's methods answer, and where they leave it; of a nil one. -/
namespace Go.Proofs.Ytomhofppcogojaa
open Go.RowKit

/-- A byte, a flag: value, how many bytes, error. -/
def byteF : List Int → Int × Nat × Nat
  | [] => (0, 0, 10)
  | c :: _ => (c, 1, 0)
def flagF : List Int → Bool × Nat × Nat
  | [] => (false, 0, 10)
  | c :: _ => if 1 < c then (false, 0, 11) else (c == 1, 1, 0)

theorem numDec (A : Option Addr) (n c : Nat) (l : List Int) (most : Int) (q : Addr) (w : World) (h : Byt w A n c l) (hq : w.cell? q = some (.int .i64 most)) (hm : -9223372036854775808 ≤ most ∧ most ≤ 9223372036854775807) (x k e : Nat) (hF : numF l most = (x, k, e)) :
    Calls Try.prog 69 #[.slice A n c, .pointer (some q)] w (Dec (.int .i64 x) k e w) := by
  have C := Lib.hid (firstNum_any A n c l most w h hm x k e hF)
  clear h hm hF
  go_enter Try.func69, Try.ntmps69
  go_wp2_with fail
  refine C.out.mono ?_
  rintro e w1 ⟨rfl, m, rfl⟩
  go_wp2_with fail
  go_ret3
  exact ⟨rfl, m, rfl⟩

theorem flagDec (A : Option Addr) (n c : Nat) (l : List Int) (w : World) (h : Byt w A n c l) :
    Calls Try.prog 85 #[.slice A n c] w (Dec (.bool (flagF l).1) (flagF l).2.1 (flagF l).2.2 w) := by
  cases l with
  | nil =>
    have hn : n = 0 := by have := h.len; simpa using this.symm
    subst hn
    clear h
    go_enter Try.func85, Try.ntmps85
    go_wp2_with fail
    go_ret3
    exact ⟨rfl, 0, rfl⟩
  | cons x r =>
    have hn : r.length + 1 = n := h.len
    obtain ⟨g, off, rfl, hc⟩ := h.at_ (by omega)
    have hc0 : w.cell? ⟨g, off, none⟩ = some (.int .u8 x) := by
      have := hc 0 (by omega)
      simpa using this
    have hn0 : ((n : Int) == 0) = false := by simp; omega
    have hn1 : (0 : Int) < (n : Int) := by omega
    have hcap := h.cap
    have hmax := h.max
    unfold maxLen at hmax
    clear h hc hn
    by_cases h1 : 1 < x
    · rw [show flagF (x :: r) = (false, 0, 11) from if_pos h1]
      go_enter Try.func85, Try.ntmps85
      go_wp2_with fail
      go_ret3
      exact ⟨rfl, 0, rfl⟩
    · rw [show flagF (x :: r) = (x == 1, 1, 0) from if_neg h1]
      go_enter Try.func85, Try.ntmps85
      go_wp2_with fail
      go_ret3
      exact ⟨rfl, 0, rfl⟩

theorem textDec (A : Option Addr) (n c : Nat) (l : List Int) (most : Int) (q : Addr) (w : World) (h : Byt w A n c l) (hq : w.cell? q = some (.int .i64 most)) (hm : -9223372036854775808 ≤ most ∧ most ≤ 9223372036854775807) (b : List Int) (u e : Nat) (hF : textF l most = (b, u, e)) :
    Calls Try.prog 82 #[.slice A n c, .pointer (some q)] w (Dec (.string (strOfNums b)) u e w) := by
  have C := Lib.hid (firstText_quiet A n c l most w h hm b u e hF)
  clear h hm hF
  go_enter Try.func82, Try.ntmps82
  go_wp2_with fail
  refine C.out.mono ?_
  rintro e w1 ⟨A1, n1, c1, rfl, hb, m, rfl⟩
  have kc := conv_byt (hb.drewN m)
  clear hb
  go_wp2_with fail
  go_ret3
  exact ⟨rfl, m, rfl⟩

theorem numF_le {l : List Int} (hr : ∀ x ∈ l, 0 ≤ x ∧ x < 256) {most : Int} {x k e : Nat} (hF : numF l most = (x, k, e)) : e = 0 → k ≤ l.length := fun h => by
  have := (numF_ok hr (l := l) (most := most) (by rw [hF]; exact h)).2.1
  rw [hF] at this
  exact this

theorem textF_le {l : List Int} (hr : ∀ x ∈ l, 0 ≤ x ∧ x < 256) {most : Int} {b : List Int} {u e : Nat} (hF : textF l most = (b, u, e)) : e = 0 → u ≤ l.length := fun h => by
  have hF2 := hF
  unfold textF at hF
  split at hF
  · rename_i h0
    injection hF with _ e2
    injection e2 with _ e3
    exact absurd (e3.trans h) h0
  · rename_i h0
    split at hF
    · injection hF with _ e2
      injection e2 with _ e3
      omega
    · rename_i h1
      injection hF with _ e2
      injection e2 with e2 _
      have := (numF_ok hr (l := l) (most := most) (by omega)).2.1
      omega

theorem byteF_le (l : List Int) : (byteF l).2.2 = 0 → (byteF l).2.1 ≤ l.length := by
  cases l with
  | nil => simp [byteF]
  | cons x r => simp [byteF]

theorem flagF_le (l : List Int) : (flagF l).2.2 = 0 → (flagF l).2.1 ≤ l.length := by
  cases l with
  | nil => simp [flagF]
  | cons x r =>
    by_cases h1 : 1 < x
    · rw [show flagF (x :: r) = (false, 0, 11) from if_pos h1]; simp
    · rw [show flagF (x :: r) = (x == 1, 1, 0) from if_neg h1]; simp

theorem Rd.byt {w : World} {t : TypeId} {b g : Nat} {l : List Int} {e : Nat} (h : Rd w t b g l e) : ∃ A n c, Byt w A n c l ∧ w.cell? ⟨b, 0, none⟩ = some (.slice A n c) ∧ w.cell? ⟨b, 1, none⟩ = some (.int .i64 e) ∧ n = l.length := by
  obtain ⟨A, n, c, h1, h2, _⟩ := h.ex
  exact ⟨A, n, c, h2, h1.cell 0, h1.cell 1, h2.len.symm⟩

theorem Rd.rng {w : World} {t : TypeId} {b g : Nat} {l : List Int} {e : Nat} (h : Rd w t b g l e) : ∀ x ∈ l, 0 ≤ x ∧ x < 256 := by
  obtain ⟨A, n, c, h2, _⟩ := h.byt
  exact h2.rng

theorem RdPost.later {t : TypeId} {b g : Nat} {l : List Int} {e0 : Nat} {v : Value} {w w1 : World} {e : Ending} {w' : World} (hg : w.grownBy w1 (some b)) (h : RdPost t b g l e0 v w1 e w') : RdPost t b g l e0 v w e w' :=
  ⟨h.1, h.2.1, grown_trans hg h.2.2⟩

theorem Rd.alloc {w : World} {t : TypeId} {b g : Nat} {l : List Int} {e : Nat} (h : Rd w t b g l e) (o : Obj) : Rd (w.alloc o) t b g l e :=
  h.grown (World.grownBy_alloc w o none) (by simp) (by simp)

set_option maxHeartbeats 1000000 in
theorem rNum_any (b g : Nat) (l : List Int) (e0 : Nat) (most : Int) (w : World) (h : Rd w 120 b g l e0) (hm : -9223372036854775808 ≤ most ∧ most ≤ 9223372036854775807) (x k er : Nat) (hF : numF l most = (x, k, er)) :
    Calls Try.prog 52 #[.pointer (some ⟨b, 0, none⟩), .int .i64 most] w (RdPost 120 b g (stepL l k e0 er) (stepE e0 er) (stepV (.int .i64 0) (.int .i64 x) e0 er) w) := by
  have hq : (w.alloc (.cells #[.int .i64 most] 3)).cell? ⟨w.heap.size, 0, none⟩ = some (.int .i64 most) := (Bk.new w _ _).cell 0
  have C := takeInt_step b g ⟨w.heap.size, 0, none⟩ l e0 (.int .i64 x) k er _ (h.alloc (.cells #[.int .i64 most] 3)) (numF_le h.rng hF) (fun _ A n c hb => numDec A n c l most _ _ hb hq hm x k er hF)
  have C := Lib.hid (C.mono fun e w' hp => hp.later (World.grownBy_alloc w _ (some b)))
  clear h hm hF hq
  go_enter Try.func52, Try.ntmps52
  go_wp2_with fail
  refine C.out.mono ?_
  rintro e w1 ⟨rfl, R⟩
  have R := Lib.hid R
  go_wp2_with fail
  go_ret
  exact ⟨rfl, R.out⟩

set_option maxHeartbeats 1000000 in
theorem rText_any (b g : Nat) (l : List Int) (e0 : Nat) (most : Int) (w : World) (h : Rd w 120 b g l e0) (hm : -9223372036854775808 ≤ most ∧ most ≤ 9223372036854775807) (s : List Int) (k er : Nat) (hF : textF l most = (s, k, er)) :
    Calls Try.prog 78 #[.pointer (some ⟨b, 0, none⟩), .int .i64 most] w (RdPost 120 b g (stepL l k e0 er) (stepE e0 er) (stepV (.string ByteArray.empty) (.string (strOfNums s)) e0 er) w) := by
  have hq : (w.alloc (.cells #[.int .i64 most] 3)).cell? ⟨w.heap.size, 0, none⟩ = some (.int .i64 most) := (Bk.new w _ _).cell 0
  have C := takeStr_step b g ⟨w.heap.size, 0, none⟩ l e0 (.string (strOfNums s)) k er _ (h.alloc (.cells #[.int .i64 most] 3)) (textF_le h.rng hF) (fun _ A n c hb => textDec A n c l most _ _ hb hq hm s k er hF)
  have C := Lib.hid (C.mono fun e w' hp => hp.later (World.grownBy_alloc w _ (some b)))
  clear h hm hF hq
  go_enter Try.func78, Try.ntmps78
  go_wp2_with fail
  refine C.out.mono ?_
  rintro e w1 ⟨rfl, R⟩
  have R := Lib.hid R
  go_wp2_with fail
  go_ret
  exact ⟨rfl, R.out⟩

set_option maxHeartbeats 1000000 in
theorem rFlag_any (b g : Nat) (l : List Int) (e0 : Nat) (w : World) (h : Rd w 120 b g l e0) :
    Calls Try.prog 79 #[.pointer (some ⟨b, 0, none⟩)] w (RdPost 120 b g (stepL l (flagF l).2.1 e0 (flagF l).2.2) (stepE e0 (flagF l).2.2) (stepV (.bool false) (.bool (flagF l).1) e0 (flagF l).2.2) w) := by
  have C := Lib.hid (takeBool_step b g l e0 _ _ _ w h (flagF_le l) (fun _ A n c hb => flagDec A n c l w hb))
  clear h
  go_enter Try.func79, Try.ntmps79
  go_wp2_with fail
  refine C.out.mono ?_
  rintro e w1 ⟨rfl, R⟩
  have R := Lib.hid R
  go_wp2_with fail
  go_ret
  exact ⟨rfl, R.out⟩
end Go.Proofs.Ytomhofppcogojaa

/- plain mathematics of CRC-32: the register's step over one bit is linear and one to one; bytes put in one behind the other are one great number put in at the start. No program is named; no condition. -/
namespace Go.Proofs.Ytomhofppcogojaa

def poly : Nat := 3988292384

/-- One bit more. -/
def stepBit (c : Nat) : Nat := if c % 2 = 1 then (c / 2) ^^^ poly else c / 2

/-- k bits more. -/
def steps : Nat → Nat → Nat
  | 0, c => c
  | k + 1, c => steps k (stepBit c)

theorem steps_add (j k c : Nat) : steps (j + k) c = steps k (steps j c) := by
  induction j generalizing c with
  | zero => rw [Nat.zero_add]; rfl
  | succ j ih => rw [Nat.add_right_comm]; exact ih (stepBit c)

theorem steps_succ (k c : Nat) : steps (k + 1) c = stepBit (steps k c) := by rw [steps_add k 1]; rfl

theorem xor_half (a b : Nat) : (a ^^^ b) / 2 = (a / 2) ^^^ (b / 2) := by
  apply Nat.eq_of_testBit_eq
  intro i
  simp [Nat.testBit_div_two]

theorem xor_low (a b : Nat) : (a ^^^ b) % 2 = (a % 2 + b % 2) % 2 := by
  have h := Nat.testBit_xor a b 0
  simp only [Nat.testBit_zero] at h
  rcases Nat.mod_two_eq_zero_or_one a with ha | ha <;> rcases Nat.mod_two_eq_zero_or_one b with hb | hb <;>
    rcases Nat.mod_two_eq_zero_or_one (a ^^^ b) with hc | hc <;> simp [ha, hb, hc] at h ⊢

theorem stepBit_xor (a b : Nat) : stepBit (a ^^^ b) = stepBit a ^^^ stepBit b := by
  unfold stepBit
  rw [xor_half, xor_low]
  rcases Nat.mod_two_eq_zero_or_one a with ha | ha <;> rcases Nat.mod_two_eq_zero_or_one b with hb | hb <;> simp [ha, hb]
  · rw [Nat.xor_assoc]
  · rw [Nat.xor_assoc, Nat.xor_assoc, Nat.xor_comm (b / 2)]
  · rw [Nat.xor_assoc, Nat.xor_comm (b / 2) poly, ← Nat.xor_assoc poly, Nat.xor_self, Nat.zero_xor]

theorem steps_xor (k a b : Nat) : steps k (a ^^^ b) = steps k a ^^^ steps k b := by
  induction k generalizing a b with
  | zero => rfl
  | succ k ih => rw [steps, stepBit_xor, ih]; rfl

theorem stepBit_zero : stepBit 0 = 0 := rfl
theorem steps_zero (k : Nat) : steps k 0 = 0 := by
  induction k with
  | zero => rfl
  | succ k ih => rw [steps, stepBit_zero, ih]

theorem stepBit_lt {c : Nat} (h : c < 4294967296) : stepBit c < 4294967296 := by
  unfold stepBit
  split
  · exact Nat.xor_lt_two_pow (n := 32) (by omega) (by decide)
  · omega

theorem steps_lt (k : Nat) {c : Nat} (h : c < 4294967296) : steps k c < 4294967296 := by
  induction k generalizing c with
  | zero => exact h
  | succ k ih => exact ih (stepBit_lt h)

theorem xor_eq_zero {a b : Nat} (h : a ^^^ b = 0) : a = b := by
  have : (a ^^^ b) ^^^ b = b := by rw [h, Nat.zero_xor]
  rwa [Nat.xor_assoc, Nat.xor_self, Nat.xor_zero] at this

theorem stepBit_ne {c : Nat} (h : c < 4294967296) (h0 : c ≠ 0) : stepBit c ≠ 0 := by
  unfold stepBit
  split
  · intro e
    have := xor_eq_zero e
    unfold poly at this
    omega
  · omega

theorem steps_ne (k : Nat) {c : Nat} (h : c < 4294967296) (h0 : c ≠ 0) : steps k c ≠ 0 := by
  induction k generalizing c with
  | zero => exact h0
  | succ k ih => exact ih (stepBit_lt h) (stepBit_ne h h0)

theorem steps_inj (k : Nat) {a b : Nat} (ha : a < 4294967296) (hb : b < 4294967296) (h : steps k a = steps k b) : a = b := by
  by_cases e : a ^^^ b = 0
  · exact xor_eq_zero e
  · exfalso
    refine steps_ne k (Nat.xor_lt_two_pow (n := 32) ha hb) e ?_
    rw [steps_xor, h, Nat.xor_self]

/-- What stands high up comes down. -/
theorem steps_shift (k c : Nat) : steps k (c * 2 ^ k) = c := by
  induction k with
  | zero => simp [steps]
  | succ k ih =>
    have e : c * 2 ^ (k + 1) = (c * 2 ^ k) * 2 := by rw [Nat.pow_succ, Nat.mul_assoc]
    rw [steps, stepBit, e, if_neg (by omega), Nat.mul_div_cancel _ (by decide), ih]

/-- Bytes as one number, the first one lowest. -/
def leN : List Int → Nat
  | [] => 0
  | x :: r => x.toNat + 256 * leN r

/-- A byte more. -/
def stepByte (c : Nat) (x : Int) : Nat := steps 8 (c ^^^ x.toNat)

/-- Bytes more. -/
def crcFrom (c : Nat) (l : List Int) : Nat := l.foldl stepByte c

theorem crcFrom_cons (c : Nat) (x : Int) (l : List Int) : crcFrom c (x :: l) = crcFrom (stepByte c x) l := rfl
theorem crcFrom_append (c : Nat) (l m : List Int) : crcFrom c (l ++ m) = crcFrom (crcFrom c l) m := by simp [crcFrom]
theorem crcFrom_snoc (c : Nat) (l : List Int) (x : Int) : crcFrom c (l ++ [x]) = stepByte (crcFrom c l) x := by simp [crcFrom]

theorem add_eq_xor (x n : Nat) (h : x < 256) : x + 256 * n = x ^^^ (n * 256) := by
  have e : n * 256 = n <<< 8 := by rw [Nat.shiftLeft_eq]
  rw [e, Nat.mul_comm]
  have h1 : n * 256 + x = n <<< 8 ||| x := by rw [← Nat.shiftLeft_add_eq_or_of_lt (by simpa using h) n, Nat.shiftLeft_eq]
  have h2 : (n <<< 8) ^^^ x = n <<< 8 ||| x := by
    apply Nat.eq_of_testBit_eq
    intro i
    simp only [Nat.testBit_xor, Nat.testBit_or, Nat.testBit_shiftLeft]
    by_cases hi : 8 ≤ i
    · have : x.testBit i = false := Nat.testBit_lt_two_pow (Nat.lt_of_lt_of_le h (by
        have : 2 ^ 8 ≤ 2 ^ i := Nat.pow_le_pow_right (by decide) hi
        simpa using this))
      simp [this]
    · simp [hi]
  rw [Nat.add_comm, h1, ← h2, Nat.xor_comm]

theorem crcFrom_num (l : List Int) (hr : ∀ x ∈ l, 0 ≤ x ∧ x < 256) (c : Nat) : crcFrom c l = steps (8 * l.length) (c ^^^ leN l) := by
  induction l generalizing c with
  | nil => simp [crcFrom, leN, steps]
  | cons x r ih =>
    have hx := hr x (by simp)
    rw [crcFrom_cons, ih (fun y hy => hr y (by simp [hy])), leN, add_eq_xor _ _ (by omega)]
    rw [List.length_cons, show 8 * (r.length + 1) = 8 + 8 * r.length from by omega, steps_add]
    congr 1
    rw [← Nat.xor_assoc, steps_xor 8 _ (leN r * 256), stepByte]
    congr 1
    exact (steps_shift 8 (leN r)).symm

def ones : Nat := 4294967295

/-- The checksum. -/
def crcL (l : List Int) : Nat := crcFrom ones l ^^^ ones

theorem crcFrom_lt (l : List Int) (hr : ∀ x ∈ l, 0 ≤ x ∧ x < 256) (c : Nat) (hc : c < 4294967296) : crcFrom c l < 4294967296 := by
  induction l generalizing c with
  | nil => exact hc
  | cons x r ih =>
    have hx := hr x (by simp)
    exact ih (fun y hy => hr y (by simp [hy])) _ (steps_lt 8 (Nat.xor_lt_two_pow (n := 32) hc (by omega)))

theorem crcL_lt (l : List Int) (hr : ∀ x ∈ l, 0 ≤ x ∧ x < 256) : crcL l < 4294967296 :=
  Nat.xor_lt_two_pow (n := 32) (crcFrom_lt l hr _ (by decide)) (by decide)

/-- Two checksums told by their texts' numbers. -/
theorem crcL_xor (l m : List Int) (hl : ∀ x ∈ l, 0 ≤ x ∧ x < 256) (hm : ∀ x ∈ m, 0 ≤ x ∧ x < 256) (he : l.length = m.length) : crcL l ^^^ crcL m = steps (8 * l.length) (leN l ^^^ leN m) := by
  unfold crcL
  rw [crcFrom_num l hl, crcFrom_num m hm, ← he, steps_xor, steps_xor, steps_xor]
  generalize steps (8 * l.length) ones = a
  generalize steps (8 * l.length) (leN l) = b
  generalize steps (8 * l.length) (leN m) = c
  apply Nat.eq_of_testBit_eq
  intro i
  simp only [Nat.testBit_xor]
  cases a.testBit i <;> cases b.testBit i <;> cases c.testBit i <;> cases ones.testBit i <;> rfl

/-- P2.4: where up to 32 neighbouring bits are other ones the checksum is another one. -/
theorem crc_turned (l m : List Int) (hl : ∀ x ∈ l, 0 ≤ x ∧ x < 256) (hm : ∀ x ∈ m, 0 ≤ x ∧ x < 256) (he : l.length = m.length) (at_ u : Nat) (hat : at_ ≤ 8 * l.length) (hu : u < 4294967296) (h : leN m = leN l ^^^ (u * 2 ^ at_)) : crcL l = crcL m ↔ u = 0 := by
  have e : leN l ^^^ leN m = u * 2 ^ at_ := by rw [h, ← Nat.xor_assoc, Nat.xor_self, Nat.zero_xor]
  have x := crcL_xor l m hl hm he
  rw [e, show 8 * l.length = at_ + (8 * l.length - at_) from by omega, steps_add, steps_shift] at x
  constructor
  · intro hc
    by_cases h0 : u = 0
    · exact h0
    · exfalso
      rw [hc, Nat.xor_self] at x
      exact steps_ne _ hu h0 x.symm
  · intro h0
    rw [h0, steps_zero] at x
    exact xor_eq_zero x

theorem leN_cons (x : Int) (r : List Int) (h : 0 ≤ x ∧ x < 256) : leN (x :: r) = x.toNat ^^^ (leN r * 256) := by
  rw [leN, add_eq_xor _ _ (by omega)]

theorem xor_mul256 (a b : Nat) : (a ^^^ b) * 256 = (a * 256) ^^^ (b * 256) := by
  have e : ∀ n : Nat, n * 256 = n <<< 8 := fun n => by rw [Nat.shiftLeft_eq]
  rw [e, e, e]
  apply Nat.eq_of_testBit_eq
  intro i
  simp only [Nat.testBit_xor, Nat.testBit_shiftLeft]
  by_cases h : 8 ≤ i <;> simp [h]

/-- One bit of one byte is turned. -/
theorem leN_turn (l : List Int) (hr : ∀ x ∈ l, 0 ≤ x ∧ x < 256) (j b : Nat) (hj : j < l.length) (hb : b < 8) :
    leN (l.set j (((l.getD j 0).toNat ^^^ 2 ^ b : Nat) : Int)) = leN l ^^^ 2 ^ (8 * j + b) := by
  have hpb : 2 ^ b < 256 := Nat.lt_of_le_of_lt (Nat.pow_le_pow_right (by decide) (show b ≤ 7 by omega)) (by decide)
  induction l generalizing j with
  | nil => simp at hj
  | cons x r ih =>
    have hx := hr x (by simp)
    have hr' : ∀ y ∈ r, 0 ≤ y ∧ y < 256 := fun y hy => hr y (by simp [hy])
    cases j with
    | zero =>
      have hlt : x.toNat ^^^ 2 ^ b < 256 := Nat.xor_lt_two_pow (n := 8) (by omega) hpb
      simp only [List.set_cons_zero, List.getD_cons_zero, Nat.mul_zero, Nat.zero_add]
      rw [leN_cons _ _ (by omega), leN_cons _ _ hx, Int.toNat_natCast, Nat.xor_assoc, Nat.xor_assoc, Nat.xor_comm (2 ^ b)]
    | succ j =>
      simp only [List.set_cons_succ, List.getD_cons_succ]
      rw [leN_cons _ _ hx, leN_cons _ _ hx, ih hr' j (by simpa using hj), xor_mul256, ← Nat.xor_assoc]
      congr 1
      rw [show 8 * (j + 1) + b = 8 * j + b + 8 from by omega, Nat.pow_add _ _ 8]

/-- P2.2: a text behind another one. -/
theorem crc_join (l m : List Int) (hm : ∀ x ∈ m, 0 ≤ x ∧ x < 256) : crcL (l ++ m) = steps (8 * m.length) (crcL l) ^^^ crcL m := by
  unfold crcL
  rw [crcFrom_append, crcFrom_num m hm, crcFrom_num m hm, steps_xor, steps_xor, steps_xor]
  generalize steps (8 * m.length) ones = a
  generalize steps (8 * m.length) (leN m) = b
  generalize steps (8 * m.length) (crcFrom ones l) = c
  apply Nat.eq_of_testBit_eq
  intro i
  simp only [Nat.testBit_xor]
  cases a.testBit i <;> cases b.testBit i <;> cases c.testBit i <;> cases ones.testBit i <;> rfl

/-- What stands below bit k, and what stands from it on. -/
theorem split_xor (k c : Nat) : (c % 2 ^ k) ^^^ (c / 2 ^ k * 2 ^ k) = c := by
  have e : c / 2 ^ k * 2 ^ k = (c >>> k) <<< k := by rw [Nat.shiftLeft_eq, Nat.shiftRight_eq_div_pow]
  rw [e]
  apply Nat.eq_of_testBit_eq
  intro i
  simp only [Nat.testBit_xor, Nat.testBit_mod_two_pow, Nat.testBit_shiftLeft, Nat.testBit_shiftRight]
  by_cases h : i < k
  · have h2 : ¬ k ≤ i := by omega
    simp [h, h2]
  · have h1 : k ≤ i := by omega
    have : k + (i - k) = i := by omega
    simp [h, h1, this]

/-- What the four lowest bits leave behind. -/
def nib : Nat → Nat
  | 0 => 0x00000000 | 1 => 0x1DB71064 | 2 => 0x3B6E20C8 | 3 => 0x26D930AC
  | 4 => 0x76DC4190 | 5 => 0x6B6B51F4 | 6 => 0x4DB26158 | 7 => 0x5005713C
  | 8 => 0xEDB88320 | 9 => 0xF00F9344 | 10 => 0xD6D6A3E8 | 11 => 0xCB61B38C
  | 12 => 0x9B64C2B0 | 13 => 0x86D3D2D4 | 14 => 0xA00AE278 | 15 => 0xBDBDF21C
  | _ => 0

theorem nib_steps (c : Nat) (h : c < 16) : steps 4 c = nib c := by
  have : c = 0 ∨ c = 1 ∨ c = 2 ∨ c = 3 ∨ c = 4 ∨ c = 5 ∨ c = 6 ∨ c = 7 ∨ c = 8 ∨ c = 9 ∨ c = 10 ∨ c = 11 ∨ c = 12 ∨ c = 13 ∨ c = 14 ∨ c = 15 := by omega
  rcases this with h | h | h | h | h | h | h | h | h | h | h | h | h | h | h | h <;> subst h <;> decide +kernel

theorem steps4 (c : Nat) : steps 4 c = (c / 16) ^^^ nib (c % 16) := by
  have e := split_xor 4 c
  have h16 : (2 : Nat) ^ 4 = 16 := rfl
  rw [h16] at e
  have : steps 4 c = steps 4 ((c % 16) ^^^ (c / 16 * 16)) := by rw [e]
  rw [this, steps_xor, nib_steps _ (Nat.mod_lt _ (by decide)), Nat.xor_comm]
  congr 1
  exact steps_shift 4 _

theorem steps8 (c : Nat) : steps 8 c = (steps 4 c / 16) ^^^ nib (steps 4 c % 16) := by
  rw [show (8 : Nat) = 4 + 4 from rfl, steps_add, steps4 (steps 4 c)]

/-- A register behind a linear change of which column i is m i: its first n bits. -/
def timesL (m : Nat → Nat) (c : Nat) : Nat → Nat
  | 0 => 0
  | n + 1 => if c / 2 ^ n % 2 = 1 then timesL m c n ^^^ m n else timesL m c n

theorem timesL_steps (k c : Nat) (n : Nat) : timesL (fun i => steps k (2 ^ i)) c n = steps k (c % 2 ^ n) := by
  induction n with
  | zero => simp [timesL, steps_zero, Nat.mod_one]
  | succ n ih =>
    rw [timesL, ih]
    have e := split_xor n (c % 2 ^ (n + 1))
    have e1 : c % 2 ^ (n + 1) % 2 ^ n = c % 2 ^ n := Nat.mod_mod_of_dvd _ ⟨2, by rw [Nat.pow_succ]⟩
    have e2 : c % 2 ^ (n + 1) / 2 ^ n = c / 2 ^ n % 2 := by rw [Nat.pow_succ, Nat.mod_mul_right_div_self]
    rw [e1, e2] at e
    rw [← e, steps_xor]
    split
    · rename_i h
      rw [h, Nat.one_mul]
    · rename_i h
      rw [show c / 2 ^ n % 2 = 0 from by omega, Nat.zero_mul, steps_zero, Nat.xor_zero]

theorem timesL_congr (m m' : Nat → Nat) (c n : Nat) (h : ∀ i, i < n → m i = m' i) : timesL m c n = timesL m' c n := by
  induction n with
  | zero => rfl
  | succ n ih => rw [timesL, timesL, ih (fun i hi => h i (by omega)), h n (by omega)]

theorem timesL_all (k c : Nat) (hc : c < 4294967296) (m : Nat → Nat) (h : ∀ i, i < 32 → m i = steps k (2 ^ i)) : timesL m c 32 = steps k c := by
  rw [timesL_congr m (fun i => steps k (2 ^ i)) c 32 h, timesL_steps, Nat.mod_eq_of_lt (by simpa using hc)]

/-- One bit back. -/
def unstep (r : Nat) : Nat := if r / 2147483648 = 1 then (r ^^^ poly) * 2 + 1 else r * 2

theorem xor_poly_lt (r : Nat) (_h : r < 4294967296) (h1 : r / 2147483648 = 1) : (r ^^^ poly) < 2147483648 := by
  have h31 : (r ^^^ poly) / 2147483648 = 0 := by
    have e : ∀ x : Nat, x / 2147483648 = x >>> 31 := fun x => by rw [Nat.shiftRight_eq_div_pow]
    rw [e, Nat.shiftRight_xor_distrib, ← e, ← e, h1]
    rfl
  omega

theorem unstep_lt (r : Nat) (h : r < 4294967296) : unstep r < 4294967296 := by
  unfold unstep
  split
  · rename_i h1
    have := xor_poly_lt r h h1
    omega
  · omega

theorem step_unstep (r : Nat) (_h : r < 4294967296) : stepBit (unstep r) = r := by
  unfold unstep
  split
  · rename_i h1
    rw [stepBit, if_pos (by omega), show ((r ^^^ poly) * 2 + 1) / 2 = r ^^^ poly from by omega, Nat.xor_assoc, Nat.xor_self, Nat.xor_zero]
  · rw [stepBit, if_neg (by omega)]
    omega

/-- k bits back. -/
def unsteps : Nat → Nat → Nat
  | 0, r => r
  | k + 1, r => unstep (unsteps k r)

theorem unsteps_lt (k r : Nat) (h : r < 4294967296) : unsteps k r < 4294967296 := by
  induction k with
  | zero => exact h
  | succ k ih => exact unstep_lt _ ih

theorem steps_unsteps (k r : Nat) (h : r < 4294967296) : steps k (unsteps k r) = r := by
  induction k with
  | zero => rfl
  | succ k ih => rw [steps, unsteps, step_unstep _ (unsteps_lt k r h), ih]

/-- The four bytes of a word, the lowest one first. -/
def le4 (x : Nat) : List Int := [((x % 256 : Nat) : Int), ((x / 256 % 256 : Nat) : Int), ((x / 65536 % 256 : Nat) : Int), ((x / 16777216 % 256 : Nat) : Int)]

theorem le4_rng (x : Nat) : ∀ y ∈ le4 x, 0 ≤ y ∧ y < 256 := by
  intro y hy
  simp only [le4, List.mem_cons, List.not_mem_nil, or_false] at hy
  rcases hy with h | h | h | h <;> subst h <;> omega

theorem leN_le4 (x : Nat) (h : x < 4294967296) : leN (le4 x) = x := by
  simp only [le4, leN, Int.toNat_natCast]
  omega

/-- P2.3: the four bytes that make the register what it was wanted to be. -/
theorem crc_patched (l : List Int) (hl : ∀ x ∈ l, 0 ≤ x ∧ x < 256) (want : Nat) (hw : want < 4294967296) :
    crcL (l ++ le4 ((crcL l ^^^ ones) ^^^ unsteps 32 (want ^^^ ones))) = want := by
  have hx : want ^^^ ones < 4294967296 := Nat.xor_lt_two_pow (n := 32) hw (by decide)
  have hu := unsteps_lt 32 _ hx
  have hc : crcL l ^^^ ones = crcFrom ones l := by unfold crcL; rw [Nat.xor_assoc, Nat.xor_self, Nat.xor_zero]
  rw [hc]
  have hlt := crcFrom_lt l hl ones (by decide)
  have hp : crcFrom ones l ^^^ unsteps 32 (want ^^^ ones) < 4294967296 := Nat.xor_lt_two_pow (n := 32) hlt hu
  unfold crcL
  rw [crcFrom_append, crcFrom_num _ (le4_rng _), leN_le4 _ hp, ← Nat.xor_assoc, Nat.xor_self, Nat.zero_xor]
  rw [show 8 * (le4 (crcFrom ones l ^^^ unsteps 32 (want ^^^ ones))).length = 32 from rfl, steps_unsteps _ _ hx, Nat.xor_assoc, Nat.xor_self, Nat.xor_zero]

theorem crcL_nil : crcL [] = 0 := by decide +kernel
theorem crcL_awake : crcL [49, 50, 51, 52, 53, 54, 55, 56, 57] = 3421780262 := by decide +kernel

end Go.Proofs.Ytomhofppcogojaa

/- crc.shiftByte and trothref02.Step shift a register by eight bits, crc.unshift back by 32; nothing is turned. The table reads as its text lays it. -/
namespace Go.Proofs.Ytomhofppcogojaa
open Go.RowKit

/-- What a call answers; nothing is turned. -/
def Same32 (x : Int) (w : World) (e : Ending) (w' : World) : Prop := e = .returned (.int .u32 x) ∧ w = w'

theorem xor32 (a b : Nat) (ha : a < 4294967296) (hb : b < 4294967296) : bits .xor .u32 (a : Int) (b : Int) = ((a ^^^ b : Nat) : Int) := u32_xor_nat a b ha hb

theorem and15 (c : Nat) (hc : c < 4294967296) : bits .and .u32 (c : Int) 15 = ((c % 16 : Nat) : Int) := by
  have := u32_and_nat c 15 hc (by omega)
  rw [show ((15 : Nat) : Int) = 15 from rfl] at this
  rw [this]
  congr 1
  exact Nat.and_two_pow_sub_one_eq_mod c 4

theorem nib_lt (m : Nat) (h : m < 16) : nib m < 4294967296 := by
  rw [← nib_steps m h]
  exact steps_lt 4 (by omega)

theorem stepBit_odd (c r : Nat) (hc : c < 4294967296) (h : c % 2 = 1) (hr : stepBit c = r) : bits .xor .u32 ((c / 2 : Nat) : Int) 3988292384 = (r : Int) := by
  rw [stepBit, if_pos h] at hr
  have := xor32 (c / 2) poly (by omega) (by decide)
  rw [hr] at this
  exact this

theorem stepBit_even (c r : Nat) (h : ¬ c % 2 = 1) (hr : stepBit c = r) : c / 2 = r := by rwa [stepBit, if_neg h] at hr

theorem bit_of (c i : Nat) (hc : c < 4294967296) : bits .and .u32 ((c : Int) / 2 ^ i) 1 = ((c / 2 ^ i % 2 : Nat) : Int) := by
  have e : (c : Int) / 2 ^ i = ((c / 2 ^ i : Nat) : Int) := by simp
  rw [e]
  have hlt : c / 2 ^ i < 4294967296 := Nat.lt_of_le_of_lt (Nat.div_le_self _ _) hc
  have := u32_and_nat (c / 2 ^ i) 1 hlt (by omega)
  rw [show ((1 : Nat) : Int) = 1 from rfl] at this
  rw [this, Nat.and_one_is_mod]
end Go.Proofs.Ytomhofppcogojaa

/- crc.Sum and trothref02.Sum answer the checksum of what a slice reads as; nothing is turned. -/
namespace Go.Proofs.Ytomhofppcogojaa
open Go.RowKit

theorem crc_next (l : List Int) (k : Nat) (hk : k < l.length) (x : Nat) (hx : l.getD k 0 = (x : Int)) : crcFrom ones (l.take (k + 1)) = steps 8 (crcFrom ones (l.take k) ^^^ x) := by
  rw [List.take_succ_eq_append_getElem hk, crcFrom_snoc, stepByte]
  simp [List.getD, List.getElem?_eq_getElem hk] at hx
  rw [hx, Int.toNat_natCast]

theorem not32 (v : Nat) (h : v < 4294967296) : bits .xor .u32 (v : Int) 4294967295 = ((v ^^^ ones : Nat) : Int) := by
  have := xor32 v 4294967295 h (by omega)
  exact this

theorem not_u32 (v : Nat) (h : v < 4294967296) : bits .xor .u32 IntKind.u32.max (v : Int) = ((v ^^^ ones : Nat) : Int) := by
  have := xor32 4294967295 v (by omega) h
  rw [Nat.xor_comm] at this
  exact this

theorem ret32 {a b : Int} (h : a = b) : Ending.returned (.int .u32 a) = .returned (.int .u32 b) := by rw [h]

end Go.Proofs.Ytomhofppcogojaa

/- bytes.Clone of any slice, bytes.Equal, the writer's Bytes, and the four bytes of a checksum. -/
namespace Go.Proofs.Ytomhofppcogojaa
open Go.RowKit

theorem cloneNil (c : Nat) (l : List Int) (w : World) (h : Byt w none 0 c l) : Calls Try.prog 66 #[.slice none 0 0] w (RetOwn l w) := by
  have e : l = [] := List.eq_nil_of_length_eq_zero h.len
  subst e
  have q := fun w : World => Lib.run_eql_slice_nil (P := Try.prog) w 35 5 none 0 0 0 0 Try.underlying35
  clear h
  go_enter Try.func66, Try.ntmps66
  go_wp2_with fail
  go_ret
  exact ⟨none, 0, 0, rfl, World.ownsRow_nil _ _ _ _, by simp, Below.refl _ _⟩

/-- bytes.Clone, nil or not. -/
theorem clone_all_own (A : Option Addr) (n c : Nat) (l : List Int) (w : World) (h : Byt w A n c l) (hn : n ≤ 140737488355328) :
    Calls Try.prog 66 #[.slice A n c] w (RetOwn l w) := by
  cases A with
  | none =>
    obtain ⟨rfl, rfl⟩ := h.nil_ rfl
    exact cloneNil 0 l w h
  | some a => exact clone_own a n c l w h hn

theorem clone_all (A : Option Addr) (n c : Nat) (l : List Int) (w : World) (h : Byt w A n c l) (hn : n ≤ 140737488355328) :
    Calls Try.prog 66 #[.slice A n c] w (RetByt l w) := (clone_all_own A n c l w h hn).mono fun _ _ h => h.byt

set_option maxHeartbeats 1000000 in
theorem wBytes_own (base b : Nat) (l : List Int) (w : World) (h : Wrt w base b l) (hl : l.length ≤ 140737488355328) :
    Calls Try.prog 46 #[.pointer (some ⟨b, 0, none⟩)] w (RetOwn l w) := by
  obtain ⟨A, n, c, hb, ho⟩ := h.ex
  have hn : l.length = n := by simpa using ho.1
  have hcell : w.cell? ⟨b, 0, none⟩ = some (.slice A n c) := hb.cell 0
  have C := Lib.hid (clone_all_own A n c l w (Byt.of_own ho h.rng) (by omega))
  clear h hb ho hn
  go_enter Try.func46, Try.ntmps46
  go_wp2_with fail
  refine C.out.mono ?_
  rintro e w1 ⟨A1, n1, c1, rfl, R⟩
  have R := Lib.hid R
  go_wp2_with fail
  go_ret
  exact ⟨A1, n1, c1, rfl, R.out⟩

theorem wBytes_any (base b : Nat) (l : List Int) (w : World) (h : Wrt w base b l) (hl : l.length ≤ 140737488355328) :
    Calls Try.prog 46 #[.pointer (some ⟨b, 0, none⟩)] w (RetByt l w) := (wBytes_own base b l w h hl).mono fun _ _ h => h.byt

/-- The four bytes of a checksum. -/
def sumL (l : List Int) : List Int := le4 (crcL l)
theorem sumL_rng (l : List Int) : ∀ x ∈ sumL l, 0 ≤ x ∧ x < 256 := le4_rng _
theorem sumL_len (l : List Int) : (sumL l).length = 4 := rfl

/-- What is gathered of a sum: i bytes, the rest is z. -/
structure SumRel (w : World) (x i z : Nat) (A : Option Addr) (k c : Nat) (acc : List Int) (wr : World) : Prop where
  own : wr.ownsRow w.heap.size 5 1 (.slice A k c) k (acc.map (Value.int .u8))
  rng : ∀ y ∈ acc, 0 ≤ y ∧ y < 256
  len : k = i
  num : z = x / 256 ^ i
  all : acc = (le4 x).take i
  bel : Below w.heap.size w wr

theorem le4_next (x i : Nat) (h : i < 4) : (le4 x).take (i + 1) = (le4 x).take i ++ [((x / 256 ^ i : Nat) : Int) % 256] := by
  have : i = 0 ∨ i = 1 ∨ i = 2 ∨ i = 3 := by omega
  rcases this with h | h | h | h <;> subst h <;> simp [le4]

theorem SumRel.step {w : World} {x i z : Nat} {A A' : Option Addr} {k c c' k' : Nat} {acc : List Int} {wr w' : World} (h : SumRel w x i z A k c acc wr) (hi : i < 4)
    (h1 : w'.ownsRow w.heap.size 5 1 (.slice A' k' c') k' (acc.map (Value.int .u8) ++ [(z : Int) % 256].map (Value.int .u8))) (hk : k' = k + 1)
    (h2 : (wr.alloc (.cells #[.int .u8 ((z : Int) % 256)] 5)).grownBy w' (Value.ownBlock (.slice A k c))) :
    SumRel w x (i + 1) (z / 256) A' k' c' (acc ++ [(z : Int) % 256]) w' := by
  rw [← List.map_append] at h1
  refine ⟨h1, fun y hy => ?_, by rw [hk, h.len], by rw [h.num, Nat.pow_succ, Nat.div_div_eq_div_mul], by rw [le4_next x i hi, ← h.num, ← h.all], (h.bel.alloc h.bel.size _).grown h2 (by have := h.bel.size; simp; omega) (fun j hj => (h.own.lt j hj).1)⟩
  rcases List.mem_append.1 hy with h3 | h3
  · exact h.rng y h3
  · simp at h3; subst h3; omega

end Go.Proofs.Ytomhofppcogojaa

/- seal.Open answers the body at the beginning of bytes, how many bytes it has with its sum, or the first error. -/
namespace Go.Proofs.Ytomhofppcogojaa
open Go.RowKit

theorem textF_ok {l : List Int} (hr : ∀ x ∈ l, 0 ≤ x ∧ x < 256) {most : Int} (h : (textF l most).2.2 = 0) :
    (textF l most).2.1 ≤ l.length ∧ l.take (textF l most).2.1 = textL (textF l most).1 ∧ ((textF l most).1.length : Int) ≤ most := by
  unfold textF at h ⊢
  split at h
  · rename_i h0; exact absurd h h0
  · rename_i h0
    split at h
    · simp at h
    · rename_i h1
      rw [if_neg h0, if_neg h1]
      obtain ⟨hx, hk, hs⟩ := numF_ok hr (l := l) (most := most) (by omega)
      have hl : ((l.drop (numF l most).2.1).take (numF l most).1).length = (numF l most).1 := by rw [List.length_take, List.length_drop]; omega
      refine ⟨by simp only; omega, ?_, by simp only; rw [hl]; exact hx⟩
      simp only
      unfold textL
      rw [hl, hs, List.take_add]

/-- What Open answers. -/
def openF (l : List Int) : List Int × Nat × Nat :=
  if (textF l 4096).2.2 ≠ 0 then ([], 0, (textF l 4096).2.2) else if l.length - (textF l 4096).2.1 < 4 then ([], 0, 10) else
    if (l.drop (textF l 4096).2.1).take 4 = sumL (l.take (textF l 4096).2.1) then ((textF l 4096).1, (textF l 4096).2.1 + 4, 0) else ([], 0, 30)

theorem triple {α β γ : Type} {a a' : α} {b b' : β} {c c' : γ} (h : (a, b, c) = (a', b', c')) : a = a' ∧ b = b' ∧ c = c' := by
  injection h with e1 e2
  injection e2 with e2 e3
  exact ⟨e1, e2, e3⟩

/-- A row of the call's own, a number and an error. -/
def Ret3O (l : List Int) (u e0 : Nat) (w : World) (e : Ending) (w' : World) : Prop :=
  ∃ A n c, e = .returned (.tuple #[.slice A n c, .int .i64 u, .int .i64 e0]) ∧ w'.ownsRow w.heap.size 5 1 (.slice A n c) n (l.map (Value.int .u8)) ∧ (∀ x ∈ l, 0 ≤ x ∧ x < 256) ∧ Below w.heap.size w w'

theorem Ret3O.nil {w w' : World} (u e0 : Nat) (hb : Below w.heap.size w w') : Ret3O [] u e0 w (.returned (.tuple #[.slice none 0 0, .int .i64 u, .int .i64 e0])) w' := ⟨none, 0, 0, rfl, World.ownsRow_nil _ _ _ _, by simp, hb⟩

theorem own_base {w : World} {b b' n : Nat} {v : Value} {xs : List Value} (h : w.ownsRow b 5 1 v n xs) (hb : b' ≤ b) : w.ownsRow b' 5 1 v n xs := by
  refine ⟨h.1, ?_⟩
  rcases h.2 with h | ⟨g, cap, cur, h1, h2, h3⟩
  · exact .inl h
  · exact .inr ⟨g, cap, cur, h1, Nat.le_trans hb h2, h3⟩

end Go.Proofs.Ytomhofppcogojaa

/- readings that go one behind the other: each hands back what was written, and the rest; what is read has just the bytes that were read; no beginning of what was written is read. Put together of numbers, flags and texts. No program is named. -/
namespace Go.Proofs.Ytomhofppcogojaa
open Go.RowKit

/-- What is left, and the error. -/
abbrev Sg := List Int × Nat

structure Codec {α : Type} (p : Sg → α × Sg) (enc : α → List Int) (D : α → Prop) : Prop where
  stick : ∀ σ : Sg, σ.2 ≠ 0 → (p σ).2 = σ
  rng : ∀ σ : Sg, (∀ y ∈ σ.1, 0 ≤ y ∧ y < 256) → ∀ y ∈ (p σ).2.1, 0 ≤ y ∧ y < 256
  back : ∀ x r, D x → p (enc x ++ r, 0) = (x, (r, 0))
  exact : ∀ l, (∀ y ∈ l, 0 ≤ y ∧ y < 256) → (p (l, 0)).2.2 = 0 → l = enc (p (l, 0)).1 ++ (p (l, 0)).2.1 ∧ D (p (l, 0)).1
  cut : ∀ x k, D x → k < (enc x).length → (p ((enc x).take k, 0)).2.2 = 10

/-- One reading of seal's, as a step. -/
def pPrim {α : Type} (F : List Int → α × Nat × Nat) (z : α) (σ : Sg) : α × Sg :=
  (if σ.2 ≠ 0 then z else if (F σ.1).2.2 ≠ 0 then z else (F σ.1).1, (stepL σ.1 (F σ.1).2.1 σ.2 (F σ.1).2.2, stepE σ.2 (F σ.1).2.2))
section
variable {α β : Type}
theorem pPrim_stick (F : List Int → α × Nat × Nat) (z : α) (σ : Sg) (h : σ.2 ≠ 0) : (pPrim F z σ).2 = σ := by
  unfold pPrim stepL stepE
  simp only [if_pos h]
theorem pPrim_rng (F : List Int → α × Nat × Nat) (z : α) (σ : Sg) (h : ∀ y ∈ σ.1, 0 ≤ y ∧ y < 256) : ∀ y ∈ (pPrim F z σ).2.1, 0 ≤ y ∧ y < 256 := by
  show ∀ y ∈ stepL _ _ _ _, _
  unfold stepL
  split
  · exact h
  · split
    · exact h
    · exact fun y hy => h y (List.mem_of_mem_drop hy)
theorem pPrim_ok {F : List Int → α × Nat × Nat} {z : α} {l : List Int} (h : (F l).2.2 = 0) : pPrim F z (l, 0) = ((F l).1, (l.drop (F l).2.1, 0)) := by
  unfold pPrim stepL stepE
  simp [h]
theorem pPrim_err (F : List Int → α × Nat × Nat) (z : α) (l : List Int) : (pPrim F z (l, 0)).2.2 = (F l).2.2 := by
  show stepE 0 _ = _
  rfl
theorem Codec.prim {F : List Int → α × Nat × Nat} {z : α} {enc : α → List Int} {D : α → Prop} (hb : ∀ x r, D x → F (enc x ++ r) = (x, (enc x).length, 0))
    (he : ∀ l, (∀ y ∈ l, 0 ≤ y ∧ y < 256) → (F l).2.2 = 0 → l.take (F l).2.1 = enc (F l).1 ∧ D (F l).1) (hc : ∀ x k, D x → k < (enc x).length → (F ((enc x).take k)).2.2 = 10) : Codec (pPrim F z) enc D := by
  refine ⟨pPrim_stick F z, pPrim_rng F z, fun x r hx => ?_, fun l hl h => ?_, fun x k hx hk => ?_⟩
  · have e := hb x r hx
    rw [pPrim_ok (by rw [e]), e]
    simp
  · rw [pPrim_err] at h
    rw [pPrim_ok h]
    obtain ⟨h1, h2⟩ := he l hl h
    refine ⟨?_, h2⟩
    show l = enc (F l).1 ++ l.drop (F l).2.1
    rw [← h1, List.take_append_drop]
  · rw [pPrim_err]
    exact hc x k hx hk

/-- Nothing is read. -/
theorem Codec.pure (z : α) : Codec (fun σ => (z, σ)) (fun _ => []) (· = z) :=
  ⟨fun _ _ => rfl, fun _ h => h, fun x r hx => by subst hx; rfl, fun l _ _ => ⟨rfl, rfl⟩, fun _ k _ hk => absurd hk (by simp)⟩

/-- One behind the other; how the second is read may hang on the first. -/
def pBind (p : Sg → α × Sg) (q : α → Sg → β × Sg) (σ : Sg) : (α × β) × Sg := (((p σ).1, (q (p σ).1 (p σ).2).1), (q (p σ).1 (p σ).2).2)
theorem Codec.bind {p : Sg → α × Sg} {q : α → Sg → β × Sg} {ea : α → List Int} {eb : α → β → List Int} {DA : α → Prop} {DB : α → β → Prop} (hp : Codec p ea DA) (hq : ∀ a, Codec (q a) (eb a) (DB a)) :
    Codec (pBind p q) (fun x => ea x.1 ++ eb x.1 x.2) (fun x => DA x.1 ∧ DB x.1 x.2) := by
  refine ⟨fun σ h => ?_, fun σ h => ?_, fun x r hx => ?_, fun l hl h => ?_, fun x k hx hk => ?_⟩
  · show (q (p σ).1 (p σ).2).2 = σ
    rw [(hq _).stick _ (by rw [hp.stick σ h]; exact h), hp.stick σ h]
  · exact (hq _).rng _ (hp.rng σ h)
  · unfold pBind
    rw [List.append_assoc, hp.back _ _ hx.1]
    show ((x.1, (q x.1 (eb x.1 x.2 ++ r, 0)).1), (q x.1 (eb x.1 x.2 ++ r, 0)).2) = _
    rw [(hq x.1).back _ _ hx.2]
  · have h' : (q (p (l, 0)).1 (p (l, 0)).2).2.2 = 0 := h
    have h0 : (p (l, 0)).2.2 = 0 := by
      by_cases e : (p (l, 0)).2.2 = 0
      · exact e
      · rw [(hq _).stick _ e] at h'
        exact absurd h' e
    obtain ⟨a, ha⟩ : ∃ a, p (l, 0) = a := ⟨_, rfl⟩
    obtain ⟨h1, h2⟩ := hp.exact l hl h0
    have hr := hp.rng (l, 0) hl
    show l = (ea (p (l, 0)).1 ++ eb (p (l, 0)).1 (q (p (l, 0)).1 (p (l, 0)).2).1) ++ (q (p (l, 0)).1 (p (l, 0)).2).2.1 ∧ DA (p (l, 0)).1 ∧ DB (p (l, 0)).1 (q (p (l, 0)).1 (p (l, 0)).2).1
    rw [ha] at h0 h1 h2 hr h' ⊢
    obtain ⟨a1, a2, a3⟩ := a
    simp only at h0 h1 h2 hr h' ⊢
    subst h0
    obtain ⟨h3, h4⟩ := (hq a1).exact a2 hr h'
    refine ⟨?_, h2, h4⟩
    rw [List.append_assoc, ← h3]
    exact h1
  · by_cases hka : k < (ea x.1).length
    · have e : (ea x.1 ++ eb x.1 x.2).take k = (ea x.1).take k := by rw [List.take_append_of_le_length (by omega)]
      show (q (p ((ea x.1 ++ eb x.1 x.2).take k, 0)).1 (p ((ea x.1 ++ eb x.1 x.2).take k, 0)).2).2.2 = 10
      rw [e]
      have c := hp.cut x.1 k hx.1 hka
      rw [(hq _).stick _ (by rw [c]; simp), c]
    · have e : (ea x.1 ++ eb x.1 x.2).take k = ea x.1 ++ (eb x.1 x.2).take (k - (ea x.1).length) := by rw [List.take_append, List.take_of_length_le (by omega)]
      show (q (p ((ea x.1 ++ eb x.1 x.2).take k, 0)).1 (p ((ea x.1 ++ eb x.1 x.2).take k, 0)).2).2.2 = 10
      rw [e, hp.back _ _ hx.1]
      exact (hq x.1).cut x.2 _ hx.2 (by rw [List.length_append] at hk; omega)

/-- The same under other names. -/
theorem Codec.map {p : Sg → α × Sg} {ea : α → List Int} {DA : α → Prop} (hp : Codec p ea DA) (f : α → β) (g : β → α) (hfg : ∀ b, f (g b) = b) (hgf : ∀ a, g (f a) = a) :
    Codec (fun σ => (f (p σ).1, (p σ).2)) (fun b => ea (g b)) (fun b => DA (g b)) :=
  ⟨hp.stick, hp.rng, fun x r hx => by rw [hp.back _ _ hx, hfg], fun l hl h => by
    have := hp.exact l hl h
    simp only [hgf]
    exact this, fun x k hx hk => hp.cut _ k hx hk⟩

/-- n of them. -/
def pRep (p : Sg → α × Sg) (σ : Sg) : Nat → List α × Sg
  | 0 => ([], σ)
  | k + 1 => ((pRep p σ k).1 ++ [(p (pRep p σ k).2).1], (p (pRep p σ k).2).2)
theorem pRep_len (p : Sg → α × Sg) (σ : Sg) : ∀ k, (pRep p σ k).1.length = k
  | 0 => rfl
  | k + 1 => by show ((pRep p σ k).1 ++ [_]).length = _; rw [List.length_append, pRep_len p σ k]; rfl
theorem pRep_stick {p : Sg → α × Sg} {enc : α → List Int} {D : α → Prop} (hp : Codec p enc D) (σ : Sg) (h : σ.2 ≠ 0) : ∀ k, (pRep p σ k).2 = σ
  | 0 => rfl
  | k + 1 => by
    show (p (pRep p σ k).2).2 = σ
    rw [pRep_stick hp σ h k]
    exact hp.stick σ h
theorem pRep_rng {p : Sg → α × Sg} {enc : α → List Int} {D : α → Prop} (hp : Codec p enc D) (σ : Sg) (h : ∀ y ∈ σ.1, 0 ≤ y ∧ y < 256) : ∀ k, ∀ y ∈ (pRep p σ k).2.1, 0 ≤ y ∧ y < 256
  | 0 => h
  | k + 1 => hp.rng _ (pRep_rng hp σ h k)
theorem pRep_back {p : Sg → α × Sg} {enc : α → List Int} {D : α → Prop} (hp : Codec p enc D) (r : List Int) : ∀ (xs ys : List α), (∀ x ∈ xs, D x) → pRep p ((xs ++ ys).flatMap enc ++ r, 0) xs.length = (xs, (ys.flatMap enc ++ r, 0)) := by
  intro xs
  induction xs using snocRec with
  | nil => intro ys _; simp [pRep]
  | snoc xs x ih =>
    intro ys hD
    have h := ih (x :: ys) (fun y hy => hD y (List.mem_append_left _ hy))
    rw [List.length_append]
    show ((pRep p _ xs.length).1 ++ [(p (pRep p _ xs.length).2).1], (p (pRep p _ xs.length).2).2) = _
    rw [List.append_assoc]
    show ((pRep p ((xs ++ x :: ys).flatMap enc ++ r, 0) xs.length).1 ++ [_], _) = _
    have e : [x] ++ ys = x :: ys := rfl
    rw [e, h]
    simp only [List.flatMap_cons, List.append_assoc]
    rw [hp.back x _ (hD x (by simp))]
theorem pRep_exact {p : Sg → α × Sg} {enc : α → List Int} {D : α → Prop} (hp : Codec p enc D) (l : List Int) (hl : ∀ y ∈ l, 0 ≤ y ∧ y < 256) : ∀ k, (pRep p (l, 0) k).2.2 = 0 → l = (pRep p (l, 0) k).1.flatMap enc ++ (pRep p (l, 0) k).2.1 ∧ ∀ x ∈ (pRep p (l, 0) k).1, D x
  | 0, _ => by simp [pRep]
  | k + 1, h => by
    have h' : (p (pRep p (l, 0) k).2).2.2 = 0 := h
    have h0 : (pRep p (l, 0) k).2.2 = 0 := by
      by_cases e : (pRep p (l, 0) k).2.2 = 0
      · exact e
      · rw [hp.stick _ e] at h'
        exact absurd h' e
    obtain ⟨h1, h2⟩ := pRep_exact hp l hl k h0
    have hr := pRep_rng hp (l, 0) hl k
    show l = ((pRep p (l, 0) k).1 ++ [(p (pRep p (l, 0) k).2).1]).flatMap enc ++ (p (pRep p (l, 0) k).2).2.1 ∧ ∀ x ∈ (pRep p (l, 0) k).1 ++ [(p (pRep p (l, 0) k).2).1], D x
    obtain ⟨a, ha⟩ : ∃ a, pRep p (l, 0) k = a := ⟨_, rfl⟩
    rw [ha] at h0 h1 h2 hr h' ⊢
    obtain ⟨a1, a2, a3⟩ := a
    simp only at h0 h1 h2 hr h' ⊢
    subst h0
    obtain ⟨h3, h4⟩ := hp.exact a2 hr h'
    refine ⟨?_, fun x hx => ?_⟩
    · rw [List.flatMap_append, List.flatMap_singleton, List.append_assoc, ← h3]
      exact h1
    · rcases List.mem_append.1 hx with q | q
      · exact h2 x q
      · simp at q; rw [q]; exact h4
theorem pRep_cut {p : Sg → α × Sg} {enc : α → List Int} {D : α → Prop} (hp : Codec p enc D) : ∀ (xs : List α) (k : Nat), (∀ x ∈ xs, D x) → k < (xs.flatMap enc).length → (pRep p ((xs.flatMap enc).take k, 0) xs.length).2.2 = 10 := by
  intro xs
  induction xs using snocRec with
  | nil => intro k _ hk; simp at hk
  | snoc xs x ih =>
    intro k hD hk
    have hD1 : ∀ y ∈ xs, D y := fun y hy => hD y (List.mem_append_left _ hy)
    rw [List.length_append]
    show (p (pRep p _ xs.length).2).2.2 = 10
    have e0 : (xs ++ [x]).flatMap enc = xs.flatMap enc ++ enc x := by rw [List.flatMap_append, List.flatMap_singleton]
    rw [e0] at hk ⊢
    by_cases hka : k < (xs.flatMap enc).length
    · rw [List.take_append_of_le_length (by omega)]
      have c := ih k hD1 hka
      rw [hp.stick _ (by rw [c]; simp), c]
    · rw [List.take_append, List.take_of_length_le (by omega)]
      have h := pRep_back hp ((enc x).take (k - (xs.flatMap enc).length)) xs [] hD1
      rw [List.append_nil] at h
      rw [h]
      show (p ([].flatMap enc ++ (enc x).take _, 0)).2.2 = 10
      rw [List.flatMap_nil, List.nil_append]
      exact hp.cut x _ (hD x (by simp)) (by rw [List.length_append] at hk; omega)
theorem Codec.rep {p : Sg → α × Sg} {enc : α → List Int} {D : α → Prop} (hp : Codec p enc D) (n : Nat) : Codec (fun σ => pRep p σ n) (fun l => l.flatMap enc) (fun l => l.length = n ∧ ∀ x ∈ l, D x) := by
  refine ⟨fun σ h => pRep_stick hp σ h n, fun σ h => pRep_rng hp σ h n, fun x r hx => ?_, fun l hl h => ?_, fun x k hx hk => ?_⟩
  · have := pRep_back hp r x [] hx.2
    rw [List.append_nil, List.flatMap_nil, List.nil_append, hx.1] at this
    exact this
  · obtain ⟨h1, h2⟩ := pRep_exact hp l hl n h
    exact ⟨h1, pRep_len p (l, 0) n, h2⟩
  · rw [← hx.1]
    exact pRep_cut hp x k hx.2 hk
end

/-- A number of at most 'most', as an int. -/
def numI (most : Int) (l : List Int) : Int × Nat × Nat := (((numF l most).1 : Int), (numF l most).2.1, (numF l most).2.2)
theorem numF_back {z : Int} {most : Int} (hz : 0 ≤ z ∧ z ≤ most) (hm : most ≤ 9223372036854775807) (r : List Int) : numF (numL z ++ r) most = (z.toNat, (numL z).length, 0) := by
  obtain ⟨n, rfl⟩ := Int.eq_ofNat_of_zero_le hz.1
  rw [numL_nat]
  unfold numF
  rw [takeF_short n (by omega) r]
  simp only [ne_eq, not_true_eq_false, if_false]
  rw [if_neg (by omega)]
  rfl
theorem numF_cutZ {z : Int} {most : Int} (hz : 0 ≤ z ∧ z ≤ most) (hm : most ≤ 9223372036854775807) (k : Nat) (hk : k < (numL z).length) : (numF ((numL z).take k) most).2.2 = 10 := by
  obtain ⟨n, rfl⟩ := Int.eq_ofNat_of_zero_le hz.1
  rw [numL_nat] at hk ⊢
  unfold numF
  rw [takeF_short_cut n (by omega) k hk]
  rfl
def pNum (most : Int) : Sg → Int × Sg := pPrim (numI most) 0
theorem codec_num (most : Int) (hm : most ≤ 9223372036854775807) : Codec (pNum most) numL (fun z => 0 ≤ z ∧ z ≤ most) :=
  Codec.prim (fun x r hx => by
    unfold numI
    rw [numF_back hx hm r]
    exact Prod.ext (by show ((x.toNat : Nat) : Int) = x; omega) rfl)
    (fun l hl h => by
      obtain ⟨h1, _, h3⟩ := numF_ok hl (most := most) h
      refine ⟨?_, by show (0 : Int) ≤ ((numF l most).1 : Int) ∧ ((numF l most).1 : Int) ≤ most; omega⟩
      show l.take (numF l most).2.1 = numL ((numF l most).1 : Int)
      rw [numL_nat, h3])
    (fun x k hx hk => numF_cutZ hx hm k hk)

/-- A flag. -/
def pFlag : Sg → Bool × Sg := pPrim flagF false
theorem codec_flag : Codec pFlag flagL (fun _ => True) :=
  Codec.prim (fun x r _ => by cases x <;> rfl)
    (fun l hl h => by
      refine ⟨?_, trivial⟩
      cases l with
      | nil => simp [flagF] at h
      | cons c r =>
        by_cases h1 : 1 < c
        · rw [show flagF (c :: r) = (false, 0, 11) from if_pos h1] at h
          simp at h
        · rw [show flagF (c :: r) = (c == 1, 1, 0) from if_neg h1]
          have := hl c (by simp)
          by_cases h2 : c = 1
          · subst h2; rfl
          · have h0 : c = 0 := by omega
            subst h0; rfl)
    (fun x k _ hk => by
      obtain rfl : k = 0 := by simp [flagL] at hk; exact hk
      rfl)

/-- A text of at most 'most' bytes. -/
def textS (most : Int) (l : List Int) : ByteArray × Nat × Nat := (strOfNums (textF l most).1, (textF l most).2.1, (textF l most).2.2)
def pText (most : Int) : Sg → ByteArray × Sg := pPrim (textS most) ByteArray.empty
theorem codec_text (most : Int) (hm : most ≤ 1000000000) : Codec (pText most) (fun s => textL (nums s)) (fun s => (s.size : Int) ≤ most) := by
  refine Codec.prim (fun x r hx => ?_) (fun l hl h => ?_) (fun x k hx hk => ?_)
  · have hn : ((nums x).length : Int) ≤ most := by rw [nums_len]; exact hx
    have e : numF (textL (nums x) ++ r) most = ((nums x).length, (shortL (nums x).length).length, 0) := by
      have := numF_back (z := ((nums x).length : Int)) (most := most) ⟨by omega, hn⟩ (by omega) (nums x ++ r)
      rw [numL_nat] at this
      unfold textL
      rw [List.append_assoc, this]
      rfl
    have e2 : textF (textL (nums x) ++ r) most = (nums x, (textL (nums x)).length, 0) := by
      unfold textF
      rw [e]
      simp only [ne_eq, not_true_eq_false, if_false]
      rw [if_neg (by simp [textL])]
      refine Prod.ext ?_ (Prod.ext ?_ rfl)
      · show ((textL (nums x) ++ r).drop (shortL (nums x).length).length).take (nums x).length = nums x
        unfold textL
        rw [List.append_assoc, List.drop_left, List.take_left]
      · show (shortL (nums x).length).length + (nums x).length = _
        simp [textL]
    unfold textS
    rw [e2, str_nums]
  · obtain ⟨h1, h2, h3⟩ := textF_ok hl (most := most) h
    have hr : ∀ y ∈ (textF l most).1, 0 ≤ y ∧ y < 256 := fun y hy => by
      have : y ∈ textL (textF l most).1 := by simp [textL, hy]
      rw [← h2] at this
      exact hl y (List.mem_of_mem_take this)
    refine ⟨?_, ?_⟩
    · show l.take (textF l most).2.1 = textL (nums (strOfNums (textF l most).1))
      rw [nums_str _ hr]
      exact h2
    · show ((strOfNums (textF l most).1).size : Int) ≤ most
      rw [← nums_len, nums_str _ hr]
      exact h3
  · show (textF ((textL (nums x)).take k) most).2.2 = 10
    have hn : ((nums x).length : Int) ≤ most := by rw [nums_len]; exact hx
    have hz : 0 ≤ ((nums x).length : Int) ∧ ((nums x).length : Int) ≤ most := ⟨by omega, hn⟩
    by_cases hka : k < (shortL (nums x).length).length
    · have c := numF_cutZ hz (by omega) k (by rw [numL_nat]; exact hka)
      rw [numL_nat] at c
      have e : (textL (nums x)).take k = (shortL (nums x).length).take k := by unfold textL; rw [List.take_append_of_le_length (by omega)]
      rw [e]
      unfold textF
      rw [if_pos (by rw [c]; simp)]
      exact c
    · have e : (textL (nums x)).take k = shortL (nums x).length ++ (nums x).take (k - (shortL (nums x).length).length) := by unfold textL; rw [List.take_append, List.take_of_length_le (by omega)]
      have hb := numF_back hz (by omega) ((nums x).take (k - (shortL (nums x).length).length))
      rw [numL_nat] at hb
      rw [e]
      unfold textF
      rw [hb]
      simp only [ne_eq, not_true_eq_false, if_false]
      rw [if_pos]
      have hk' : k < (shortL (nums x).length).length + (nums x).length := by simpa [textL] using hk
      rw [List.length_append, List.length_take]
      show _ - _ < ((nums x).length : Int).toNat
      omega

/-- A list of at most 'most' elements, each as p reads it. -/
def pList {α : Type} (most : Int) (p : Sg → α × Sg) (σ : Sg) : List α × Sg := ((pBind (pNum most) (fun n σ => pRep p σ n.toNat) σ).1.2, (pBind (pNum most) (fun n σ => pRep p σ n.toNat) σ).2)
def encList {α : Type} (enc : α → List Int) (l : List α) : List Int := numL l.length ++ l.flatMap enc
theorem codec_list {α : Type} {p : Sg → α × Sg} {enc : α → List Int} {D : α → Prop} (hp : Codec p enc D) (most : Int) (hm : most ≤ 1000000000) : Codec (pList most p) (encList enc) (fun l => (l.length : Int) ≤ most ∧ ∀ x ∈ l, D x) := by
  have h := Codec.bind (codec_num most (by omega)) (fun n => Codec.rep hp n.toNat)
  refine ⟨h.stick, h.rng, fun x r hx => ?_, fun l hl h0 => ?_, fun x k hx hk => ?_⟩
  · have := h.back ((x.length : Int), x) r ⟨⟨by omega, hx.1⟩, by simp, hx.2⟩
    unfold pList encList
    simp only at this
    rw [this]
  · obtain ⟨h1, h2, h3, h4⟩ := h.exact l hl h0
    obtain ⟨a, ha⟩ : ∃ a, pBind (pNum most) (fun n σ => pRep p σ n.toNat) (l, 0) = a := ⟨_, rfl⟩
    unfold pList encList
    rw [ha] at h1 h2 h3 h4 ⊢
    obtain ⟨⟨a1, a2⟩, a3⟩ := a
    simp only at h1 h2 h3 h4 ⊢
    have e : (a2.length : Int) = a1 := by omega
    rw [e]
    exact ⟨h1, h2.2, h4⟩
  · have := h.cut ((x.length : Int), x) k ⟨⟨by omega, hx.1⟩, by simp, hx.2⟩ hk
    exact this
end Go.Proofs.Ytomhofppcogojaa

/- a log record in plain mathematics (stage 7): its fields, its bytes by its kind, and how they are read back: the readings of Codec put together. No program is named. -/
namespace Go.Proofs.Ytomhofppcogojaa
open Go.RowKit

theorem Codec.map' {α β : Type} {p : Sg → α × Sg} {ea : α → List Int} {DA : α → Prop} (hp : Codec p ea DA) (f : α → β) (g : β → α) (hgf : ∀ a, g (f a) = a) :
    Codec (fun σ => (f (p σ).1, (p σ).2)) (fun b => ea (g b)) (fun b => DA (g b) ∧ f (g b) = b) :=
  ⟨hp.stick, hp.rng, fun x r hx => by rw [hp.back _ _ hx.1, hx.2], fun l hl h => by
    have := hp.exact l hl h
    simp only [hgf]
    exact ⟨this.1, this.2, trivial⟩, fun x k hx hk => hp.cut _ k hx.1 hk⟩

/-- A value, a lock, a row, a dirty page, a deed. -/
structure Vl where
  has : Bool
  data : ByteArray
structure Lk where
  key : ByteArray
  x : Bool
structure Rw where
  tx : Int
  st : Int
  fi : Int
  la : Int
  un : Int
  co : Int
  mem : List Int
  lks : List Lk
structure Dt where
  page : Int
  lsn : Int
structure Dd where
  tx : Int
  mem : List Int
/-- A record. -/
structure Rc where
  kind : Int
  tx : Int
  prev : Int
  next : Int
  key : ByteArray
  old : Vl
  new : Vl
  co : Int
  mem : List Int
  lks : List Lk
  rows : List Rw
  dirty : List Dt
  deeds : List Dd
  past : List Int
def vl0 : Vl := ⟨false, ByteArray.empty⟩
def rc0 (kind : Int) : Rc := ⟨kind, 0, 0, 0, ByteArray.empty, vl0, vl0, 0, [], [], [], [], [], []⟩

/-- What each writes. -/
def valL (v : Vl) : List Int := flagL v.has ++ if v.has then textL (nums v.data) else []
def lkL (k : Lk) : List Int := textL (nums k.key) ++ flagL k.x
def intsL (l : List Int) : List Int := encList numL l
def lksL (l : List Lk) : List Int := encList lkL l
def rwL (r : Rw) : List Int := ((((((numL r.tx ++ numL r.st) ++ numL r.fi) ++ numL r.la) ++ numL r.un) ++ numL r.co) ++ intsL r.mem) ++ lksL r.lks
def dtL (d : Dt) : List Int := numL d.page ++ numL d.lsn
def ddL (d : Dd) : List Int := numL d.tx ++ intsL d.mem

/-- What may be read: numbers of at most 2^40, texts of at most 32 bytes, lists of at most 256. -/
def rdNum (z : Int) : Prop := 0 ≤ z ∧ z ≤ 1099511627776
def rdVl (v : Vl) : Prop := if v.has then (v.data.size : Int) ≤ 32 else v.data = ByteArray.empty
def rdLk (k : Lk) : Prop := (k.key.size : Int) ≤ 32
def rdInts (l : List Int) : Prop := (l.length : Int) ≤ 256 ∧ ∀ x ∈ l, rdNum x
def rdLks (l : List Lk) : Prop := (l.length : Int) ≤ 256 ∧ ∀ x ∈ l, rdLk x

def pN : Sg → Int × Sg := pNum 1099511627776
theorem codec_N : Codec pN numL rdNum := codec_num 1099511627776 (by omega)

/-- A value: a flag, and behind one that is set a text. -/
def pVl (σ : Sg) : Vl × Sg := (⟨(pFlag σ).1, (if (pFlag σ).1 then pText 32 (pFlag σ).2 else (ByteArray.empty, (pFlag σ).2)).1⟩, (if (pFlag σ).1 then pText 32 (pFlag σ).2 else (ByteArray.empty, (pFlag σ).2)).2)
theorem codec_vlq (b : Bool) : Codec (fun σ : Sg => if b then pText 32 σ else (ByteArray.empty, σ)) (fun s => if b then textL (nums s) else []) (fun s => if b then (s.size : Int) ≤ 32 else s = ByteArray.empty) := by
  cases b with
  | true => exact codec_text 32 (by omega)
  | false => exact Codec.pure ByteArray.empty
theorem codec_vl : Codec pVl valL rdVl := by
  have h := Codec.map (Codec.bind codec_flag codec_vlq) (fun x : Bool × ByteArray => (⟨x.1, x.2⟩ : Vl)) (fun v : Vl => (v.has, v.data)) (fun _ => rfl) (fun _ => rfl)
  exact ⟨h.stick, h.rng, fun x r hx => h.back x r ⟨trivial, hx⟩, fun l hl h0 => ⟨(h.exact l hl h0).1, (h.exact l hl h0).2.2⟩, fun x k hx hk => h.cut x k ⟨trivial, hx⟩ hk⟩

/-- A lock, a list of locks, of numbers. -/
def pLk (σ : Sg) : Lk × Sg := (⟨(pText 32 σ).1, (pFlag (pText 32 σ).2).1⟩, (pFlag (pText 32 σ).2).2)
theorem codec_lk : Codec pLk lkL rdLk := by
  have h := Codec.map (Codec.bind (codec_text 32 (by omega)) (fun _ => codec_flag)) (fun x : ByteArray × Bool => (⟨x.1, x.2⟩ : Lk)) (fun v : Lk => (v.key, v.x)) (fun _ => rfl) (fun _ => rfl)
  exact ⟨h.stick, h.rng, fun x r hx => h.back x r ⟨hx, trivial⟩, fun l hl h0 => ⟨(h.exact l hl h0).1, (h.exact l hl h0).2.1⟩, fun x k hx hk => h.cut x k ⟨hx, trivial⟩ hk⟩
def pInts : Sg → List Int × Sg := pList 256 pN
theorem codec_ints : Codec pInts intsL rdInts := codec_list codec_N 256 (by omega)
def pLks : Sg → List Lk × Sg := pList 256 pLk
theorem codec_lks : Codec pLks lksL rdLks := codec_list codec_lk 256 (by omega)

/-- A row. -/
def pRw (σ : Sg) : Rw × Sg :=
  let q := pBind (pBind (pBind (pBind (pBind (pBind (pBind pN (fun _ => pN)) (fun _ => pN)) (fun _ => pN)) (fun _ => pN)) (fun _ => pN)) (fun _ => pInts)) (fun _ => pLks) σ
  (⟨q.1.1.1.1.1.1.1.1, q.1.1.1.1.1.1.1.2, q.1.1.1.1.1.1.2, q.1.1.1.1.1.2, q.1.1.1.1.2, q.1.1.1.2, q.1.1.2, q.1.2⟩, q.2)
def rdRw (r : Rw) : Prop := ((((((rdNum r.tx ∧ rdNum r.st) ∧ rdNum r.fi) ∧ rdNum r.la) ∧ rdNum r.un) ∧ rdNum r.co) ∧ rdInts r.mem) ∧ rdLks r.lks
theorem codec_rw : Codec pRw rwL rdRw :=
  Codec.map (Codec.bind (Codec.bind (Codec.bind (Codec.bind (Codec.bind (Codec.bind (Codec.bind codec_N (fun _ => codec_N)) (fun _ => codec_N)) (fun _ => codec_N)) (fun _ => codec_N)) (fun _ => codec_N)) (fun _ => codec_ints)) (fun _ => codec_lks))
    (fun q : ((((((Int × Int) × Int) × Int) × Int) × Int) × List Int) × List Lk => (⟨q.1.1.1.1.1.1.1, q.1.1.1.1.1.1.2, q.1.1.1.1.1.2, q.1.1.1.1.2, q.1.1.1.2, q.1.1.2, q.1.2, q.2⟩ : Rw))
    (fun r : Rw => (((((((r.tx, r.st), r.fi), r.la), r.un), r.co), r.mem), r.lks)) (fun _ => rfl) (fun _ => rfl)
/-- A dirty page, a deed. -/
def pDt (σ : Sg) : Dt × Sg := (⟨(pN σ).1, (pN (pN σ).2).1⟩, (pN (pN σ).2).2)
def rdDt (d : Dt) : Prop := rdNum d.page ∧ rdNum d.lsn
theorem codec_dt : Codec pDt dtL rdDt := Codec.map (Codec.bind codec_N (fun _ => codec_N)) (fun q : Int × Int => (⟨q.1, q.2⟩ : Dt)) (fun d : Dt => (d.page, d.lsn)) (fun _ => rfl) (fun _ => rfl)
def pDd (σ : Sg) : Dd × Sg := (⟨(pN σ).1, (pInts (pN σ).2).1⟩, (pInts (pN σ).2).2)
def rdDd (d : Dd) : Prop := rdNum d.tx ∧ rdInts d.mem
theorem codec_dd : Codec pDd ddL rdDd := Codec.map (Codec.bind codec_N (fun _ => codec_ints)) (fun q : Int × List Int => (⟨q.1, q.2⟩ : Dd)) (fun d : Dd => (d.tx, d.mem)) (fun _ => rfl) (fun _ => rfl)

/-- The fields of each kind, as pairs; a record of them. -/
abbrev pU := pBind (pBind (pBind (pBind pN (fun _ => pN)) (fun _ => pText 32)) (fun _ => pVl)) (fun _ => pVl)
abbrev pC := pBind (pBind (pBind (pBind pN (fun _ => pN)) (fun _ => pN)) (fun _ => pText 32)) (fun _ => pVl)
abbrev pP := pBind (pBind (pBind (pBind pN (fun _ => pN)) (fun _ => pN)) (fun _ => pInts)) (fun _ => pLks)
abbrev pE := pBind pN (fun _ => pN)
abbrev pK := pBind (pBind (pBind (pList 256 pRw) (fun _ => pList 256 pDt)) (fun _ => pList 256 pDd)) (fun _ => pInts)
abbrev pD := pBind pN (fun _ => pInts)
theorem codec_rws : Codec (pList 256 pRw) (encList rwL) (fun l => (l.length : Int) ≤ 256 ∧ ∀ x ∈ l, rdRw x) := codec_list codec_rw 256 (by omega)
theorem codec_dts : Codec (pList 256 pDt) (encList dtL) (fun l => (l.length : Int) ≤ 256 ∧ ∀ x ∈ l, rdDt x) := codec_list codec_dt 256 (by omega)
theorem codec_dds : Codec (pList 256 pDd) (encList ddL) (fun l => (l.length : Int) ≤ 256 ∧ ∀ x ∈ l, rdDd x) := codec_list codec_dd 256 (by omega)

def mkU (q : (((Int × Int) × ByteArray) × Vl) × Vl) : Rc := { rc0 1 with tx := q.1.1.1.1, prev := q.1.1.1.2, key := q.1.1.2, old := q.1.2, new := q.2 }
def mkC (q : (((Int × Int) × Int) × ByteArray) × Vl) : Rc := { rc0 2 with tx := q.1.1.1.1, prev := q.1.1.1.2, next := q.1.1.2, key := q.1.2, new := q.2 }
def mkP (q : (((Int × Int) × Int) × List Int) × List Lk) : Rc := { rc0 3 with tx := q.1.1.1.1, prev := q.1.1.1.2, co := q.1.1.2, mem := q.1.2, lks := q.2 }
def mkE (kind : Int) (q : Int × Int) : Rc := { rc0 kind with tx := q.1, prev := q.2 }
def mkK (q : ((List Rw × List Dt) × List Dd) × List Int) : Rc := { rc0 8 with rows := q.1.1.1, dirty := q.1.1.2, deeds := q.1.2, past := q.2 }
def mkD (q : Int × List Int) : Rc := { rc0 9 with tx := q.1, mem := q.2 }
def mkF (q : Int) : Rc := { rc0 10 with tx := q }

/-- What each kind writes, and what may be read of it. -/
def bU (r : Rc) : List Int := (((numL r.tx ++ numL r.prev) ++ textL (nums r.key)) ++ valL r.old) ++ valL r.new
def bC (r : Rc) : List Int := (((numL r.tx ++ numL r.prev) ++ numL r.next) ++ textL (nums r.key)) ++ valL r.new
def bP (r : Rc) : List Int := (((numL r.tx ++ numL r.prev) ++ numL r.co) ++ intsL r.mem) ++ lksL r.lks
def bE (r : Rc) : List Int := numL r.tx ++ numL r.prev
def bK (r : Rc) : List Int := ((encList rwL r.rows ++ encList dtL r.dirty) ++ encList ddL r.deeds) ++ intsL r.past
def bD (r : Rc) : List Int := numL r.tx ++ intsL r.mem
def bF (r : Rc) : List Int := numL r.tx
def uU (r : Rc) := ((((r.tx, r.prev), r.key), r.old), r.new)
def uC (r : Rc) := ((((r.tx, r.prev), r.next), r.key), r.new)
def uP (r : Rc) := ((((r.tx, r.prev), r.co), r.mem), r.lks)
def uE (r : Rc) := (r.tx, r.prev)
def uK (r : Rc) := (((r.rows, r.dirty), r.deeds), r.past)
def uD (r : Rc) := (r.tx, r.mem)
theorem codec_U : Codec (fun σ => (mkU (pU σ).1, (pU σ).2)) bU (fun r => ((((rdNum r.tx ∧ rdNum r.prev) ∧ (r.key.size : Int) ≤ 32) ∧ rdVl r.old) ∧ rdVl r.new) ∧ mkU (uU r) = r) :=
  Codec.map' (Codec.bind (Codec.bind (Codec.bind (Codec.bind codec_N (fun _ => codec_N)) (fun _ => codec_text 32 (by omega))) (fun _ => codec_vl)) (fun _ => codec_vl)) mkU uU (fun _ => rfl)
theorem codec_C : Codec (fun σ => (mkC (pC σ).1, (pC σ).2)) bC (fun r => ((((rdNum r.tx ∧ rdNum r.prev) ∧ rdNum r.next) ∧ (r.key.size : Int) ≤ 32) ∧ rdVl r.new) ∧ mkC (uC r) = r) :=
  Codec.map' (Codec.bind (Codec.bind (Codec.bind (Codec.bind codec_N (fun _ => codec_N)) (fun _ => codec_N)) (fun _ => codec_text 32 (by omega))) (fun _ => codec_vl)) mkC uC (fun _ => rfl)
theorem codec_P : Codec (fun σ => (mkP (pP σ).1, (pP σ).2)) bP (fun r => ((((rdNum r.tx ∧ rdNum r.prev) ∧ rdNum r.co) ∧ rdInts r.mem) ∧ rdLks r.lks) ∧ mkP (uP r) = r) :=
  Codec.map' (Codec.bind (Codec.bind (Codec.bind (Codec.bind codec_N (fun _ => codec_N)) (fun _ => codec_N)) (fun _ => codec_ints)) (fun _ => codec_lks)) mkP uP (fun _ => rfl)
theorem codec_E (kind : Int) : Codec (fun σ => (mkE kind (pE σ).1, (pE σ).2)) bE (fun r => (rdNum r.tx ∧ rdNum r.prev) ∧ mkE kind (uE r) = r) :=
  Codec.map' (Codec.bind codec_N (fun _ => codec_N)) (mkE kind) uE (fun _ => rfl)
theorem codec_B : Codec (fun σ => (rc0 7, σ)) (fun _ => []) (· = rc0 7) := Codec.pure (rc0 7)
theorem codec_K : Codec (fun σ => (mkK (pK σ).1, (pK σ).2)) bK (fun r => (((((r.rows.length : Int) ≤ 256 ∧ ∀ x ∈ r.rows, rdRw x) ∧ ((r.dirty.length : Int) ≤ 256 ∧ ∀ x ∈ r.dirty, rdDt x)) ∧ ((r.deeds.length : Int) ≤ 256 ∧ ∀ x ∈ r.deeds, rdDd x)) ∧ rdInts r.past) ∧ mkK (uK r) = r) :=
  Codec.map' (Codec.bind (Codec.bind (Codec.bind codec_rws (fun _ => codec_dts)) (fun _ => codec_dds)) (fun _ => codec_ints)) mkK uK (fun _ => rfl)
theorem codec_D : Codec (fun σ => (mkD (pD σ).1, (pD σ).2)) bD (fun r => (rdNum r.tx ∧ rdInts r.mem) ∧ mkD (uD r) = r) :=
  Codec.map' (Codec.bind codec_N (fun _ => codec_ints)) mkD uD (fun _ => rfl)
theorem codec_F : Codec (fun σ => (mkF (pN σ).1, (pN σ).2)) bF (fun r => rdNum r.tx ∧ mkF r.tx = r) :=
  Codec.map' codec_N mkF (fun r => r.tx) (fun _ => rfl)

/-- A record's bytes behind its kind. -/
def restL (r : Rc) : List Int :=
  if r.kind = 1 then bU r else if r.kind = 2 then bC r else if r.kind = 3 then bP r else if r.kind = 4 ∨ r.kind = 5 ∨ r.kind = 6 then bE r else if r.kind = 7 then [] else if r.kind = 8 then bK r else if r.kind = 9 then bD r else bF r
def rcL (r : Rc) : List Int := numL r.kind ++ restL r
/-- The readings behind a kind. -/
def restP (kind : Int) (σ : Sg) : Rc × Sg :=
  if kind = 1 then (mkU (pU σ).1, (pU σ).2) else if kind = 2 then (mkC (pC σ).1, (pC σ).2) else if kind = 3 then (mkP (pP σ).1, (pP σ).2) else if kind = 4 ∨ kind = 5 ∨ kind = 6 then (mkE kind (pE σ).1, (pE σ).2) else if kind = 7 then (rc0 7, σ) else if kind = 8 then (mkK (pK σ).1, (pK σ).2) else if kind = 9 then (mkD (pD σ).1, (pD σ).2) else (mkF (pN σ).1, (pN σ).2)
end Go.Proofs.Ytomhofppcogojaa

/- which log records may be (stage 7), what Encode and Decode answer of them, in plain mathematics: what may be is read back, what is read has just its bytes, no beginning is read. No program is named. -/
namespace Go.Proofs.Ytomhofppcogojaa
open Go.RowKit

/-- A key ahead of another. -/
def kLt (a b : ByteArray) : Prop := Op.bytesLess a.toList b.toList = true
instance (a b : ByteArray) : Decidable (kLt a b) := by unfold kLt; infer_instance
instance : Inhabited Lk := ⟨⟨ByteArray.empty, false⟩⟩
instance : Inhabited Rw := ⟨⟨0, 0, 0, 0, 0, 0, [], []⟩⟩
instance : Inhabited Dt := ⟨⟨0, 0⟩⟩
instance : Inhabited Dd := ⟨⟨0, []⟩⟩

def seqOk (least z : Int) : Prop := least ≤ z ∧ z ≤ 1099511627776
instance (a b : Int) : Decidable (seqOk a b) := by unfold seqOk; infer_instance
def keyOk (k : ByteArray) : Prop := 1 ≤ k.size ∧ k.size ≤ 16
instance (k : ByteArray) : Decidable (keyOk k) := by unfold keyOk; infer_instance
def vlOk (v : Vl) : Prop := if v.has then (v.data.size : Int) ≤ 32 else v.data = ByteArray.empty
/-- Each element as p says, and behind the first as q says of the one ahead of it. -/
def rises {α : Type} [Inhabited α] (p : α → Prop) (q : α → α → Prop) (l : List α) : Prop := ∀ i, i < l.length → p (l.getD i default) ∧ (0 < i → q (l.getD (i - 1) default) (l.getD i default))
def memOk (l : List Int) : Prop := rises (fun x => 0 ≤ x ∧ x ≤ 7) (· < ·) l
def lksOk (l : List Lk) : Prop := l.length ≤ 64 ∧ rises (fun k => keyOk k.key) (fun a b => kLt a.key b.key) l
def rwOk (r : Rw) : Prop := seqOk 1 r.tx ∧ (1 ≤ r.st ∧ r.st ≤ 4) ∧ seqOk 0 r.fi ∧ seqOk 0 r.la ∧ seqOk 0 r.un ∧ (0 ≤ r.co ∧ r.co ≤ 7) ∧ memOk r.mem ∧ lksOk r.lks
def rwsOk (l : List Rw) : Prop := l.length ≤ 64 ∧ rises rwOk (fun a b => a.tx < b.tx) l
def dtsOk (l : List Dt) : Prop := l.length ≤ 64 ∧ rises (fun d => (0 ≤ d.page ∧ d.page ≤ 63) ∧ seqOk 1 d.lsn) (fun a b => a.page < b.page) l
def ddsOk (l : List Dd) : Prop := l.length ≤ 64 ∧ rises (fun d => seqOk 1 d.tx ∧ memOk d.mem) (fun a b => a.tx < b.tx) l
def pastOk (l : List Int) : Prop := l.length ≤ 256 ∧ rises (seqOk 1) (· < ·) l
def checkOk (r : Rc) : Prop := rwsOk r.rows ∧ dtsOk r.dirty ∧ ddsOk r.deeds ∧ pastOk r.past
/-- The fields of its kind alone. -/
def onlyRc (r : Rc) : Rc :=
  if r.kind = 1 then mkU (uU r) else if r.kind = 2 then mkC (uC r) else if r.kind = 3 then mkP (uP r) else if r.kind = 4 ∨ r.kind = 5 ∨ r.kind = 6 then mkE r.kind (uE r) else if r.kind = 7 then rc0 7 else if r.kind = 8 then mkK (uK r) else if r.kind = 9 then mkD (uD r) else mkF r.tx
structure Rc.ok (r : Rc) : Prop where
  kind : 1 ≤ r.kind ∧ r.kind ≤ 10
  only : onlyRc r = r
  check : r.kind = 8 → checkOk r
  seq : r.kind ≠ 7 → r.kind ≠ 8 → seqOk 1 r.tx ∧ seqOk 0 r.prev ∧ seqOk 0 r.next
  vals : r.kind = 1 ∨ r.kind = 2 → keyOk r.key ∧ vlOk r.old ∧ vlOk r.new
  rest : r.kind ≠ 7 → r.kind ≠ 8 → r.kind ≠ 1 → r.kind ≠ 2 → (0 ≤ r.co ∧ r.co ≤ 7) ∧ memOk r.mem ∧ lksOk r.lks

theorem rises_all {α : Type} [Inhabited α] {p : α → Prop} {q : α → α → Prop} {l : List α} (h : rises p q l) : ∀ x ∈ l, p x := fun x hx => by
  obtain ⟨i, hi, rfl⟩ := List.getElem_of_mem hx
  have := (h i hi).1
  rwa [List.getD_eq_getElem?_getD, List.getElem?_eq_getElem hi] at this
theorem memOk_len {l : List Int} (h : memOk l) : l.length ≤ 8 := by
  have key : ∀ i, i < l.length → (i : Int) ≤ l.getD i default := by
    intro i
    induction i with
    | zero => intro hi; have := (h 0 hi).1; omega
    | succ i ih =>
      intro hi
      have h1 := ih (by omega)
      have h2 := (h (i + 1) hi).2 (by omega)
      have e : i + 1 - 1 = i := by omega
      rw [e] at h2
      have h2' : l.getD i default < l.getD (i + 1) default := h2
      omega
  by_cases hl : l.length ≤ 8
  · exact hl
  · have h1 := key 8 (by omega)
    have h2 := (h 8 (by omega)).1
    omega
theorem seqOk_rd {least z : Int} (h : seqOk least z) (hl : 0 ≤ least) : rdNum z := ⟨by have := h.1; omega, h.2⟩
theorem memOk_rd {l : List Int} (h : memOk l) : rdInts l := ⟨by have := memOk_len h; omega, fun x hx => by have := rises_all h x hx; unfold rdNum; omega⟩
theorem lksOk_rd {l : List Lk} (h : lksOk l) : rdLks l := ⟨by have := h.1; omega, fun x hx => by
  have h1 := rises_all h.2 x hx
  have h2 := h1.2
  show (x.key.size : Int) ≤ 32
  omega⟩
theorem rwOk_rd {r : Rw} (h : rwOk r) : rdRw r := by
  obtain ⟨h1, h2, h3, h4, h5, h6, h7, h8⟩ := h
  exact ⟨⟨⟨⟨⟨⟨⟨seqOk_rd h1 (by omega), by unfold rdNum; omega⟩, seqOk_rd h3 (by omega)⟩, seqOk_rd h4 (by omega)⟩, seqOk_rd h5 (by omega)⟩, by unfold rdNum; omega⟩, memOk_rd h7⟩, lksOk_rd h8⟩
theorem pastOk_rd {l : List Int} (h : pastOk l) : rdInts l := ⟨by have := h.1; omega, fun x hx => seqOk_rd (rises_all h.2 x hx) (by omega)⟩
theorem keyOk_rd {k : ByteArray} (h : keyOk k) : (k.size : Int) ≤ 32 := by have := h.2; omega

/-- What a kind writes behind itself, and what may be read of it. -/
def restLk (kind : Int) (r : Rc) : List Int :=
  if kind = 1 then bU r else if kind = 2 then bC r else if kind = 3 then bP r else if kind = 4 ∨ kind = 5 ∨ kind = 6 then bE r else if kind = 7 then [] else if kind = 8 then bK r else if kind = 9 then bD r else bF r
theorem restL_eq (r : Rc) : restL r = restLk r.kind r := rfl
def rdU (r : Rc) : Prop := ((((rdNum r.tx ∧ rdNum r.prev) ∧ (r.key.size : Int) ≤ 32) ∧ rdVl r.old) ∧ rdVl r.new) ∧ mkU (uU r) = r
def rdC (r : Rc) : Prop := ((((rdNum r.tx ∧ rdNum r.prev) ∧ rdNum r.next) ∧ (r.key.size : Int) ≤ 32) ∧ rdVl r.new) ∧ mkC (uC r) = r
def rdP (r : Rc) : Prop := ((((rdNum r.tx ∧ rdNum r.prev) ∧ rdNum r.co) ∧ rdInts r.mem) ∧ rdLks r.lks) ∧ mkP (uP r) = r
def rdE_ (kind : Int) (r : Rc) : Prop := (rdNum r.tx ∧ rdNum r.prev) ∧ mkE kind (uE r) = r
def rdK (r : Rc) : Prop := (((((r.rows.length : Int) ≤ 256 ∧ ∀ x ∈ r.rows, rdRw x) ∧ ((r.dirty.length : Int) ≤ 256 ∧ ∀ x ∈ r.dirty, rdDt x)) ∧ ((r.deeds.length : Int) ≤ 256 ∧ ∀ x ∈ r.deeds, rdDd x)) ∧ rdInts r.past) ∧ mkK (uK r) = r
def rdD (r : Rc) : Prop := (rdNum r.tx ∧ rdInts r.mem) ∧ mkD (uD r) = r
def rdF (r : Rc) : Prop := rdNum r.tx ∧ mkF r.tx = r
def rdKind (kind : Int) (r : Rc) : Prop :=
  if kind = 1 then rdU r else if kind = 2 then rdC r else if kind = 3 then rdP r else if kind = 4 ∨ kind = 5 ∨ kind = 6 then rdE_ kind r else if kind = 7 then r = rc0 7 else if kind = 8 then rdK r else if kind = 9 then rdD r else rdF r
theorem codec_rest (kind : Int) : Codec (restP kind) (restLk kind) (rdKind kind) := by
  unfold restP restLk rdKind
  by_cases h1 : kind = 1
  · simp only [if_pos h1]; exact codec_U
  by_cases h2 : kind = 2
  · simp only [if_neg h1, if_pos h2]; exact codec_C
  by_cases h3 : kind = 3
  · simp only [if_neg h1, if_neg h2, if_pos h3]; exact codec_P
  by_cases h4 : kind = 4 ∨ kind = 5 ∨ kind = 6
  · simp only [if_neg h1, if_neg h2, if_neg h3, if_pos h4]; exact codec_E kind
  by_cases h7 : kind = 7
  · simp only [if_neg h1, if_neg h2, if_neg h3, if_neg h4, if_pos h7]; exact codec_B
  by_cases h8 : kind = 8
  · simp only [if_neg h1, if_neg h2, if_neg h3, if_neg h4, if_neg h7, if_pos h8]; exact codec_K
  by_cases h9 : kind = 9
  · simp only [if_neg h1, if_neg h2, if_neg h3, if_neg h4, if_neg h7, if_neg h8, if_pos h9]; exact codec_D
  · simp only [if_neg h1, if_neg h2, if_neg h3, if_neg h4, if_neg h7, if_neg h8, if_neg h9]; exact codec_F
theorem rdKind_kind {kind : Int} {r : Rc} (hk : 1 ≤ kind ∧ kind ≤ 10) (h : rdKind kind r) : r.kind = kind := by
  unfold rdKind at h
  by_cases h1 : kind = 1
  · rw [if_pos h1] at h; rw [← h.2, h1]; rfl
  rw [if_neg h1] at h
  by_cases h2 : kind = 2
  · rw [if_pos h2] at h; rw [← h.2, h2]; rfl
  rw [if_neg h2] at h
  by_cases h3 : kind = 3
  · rw [if_pos h3] at h; rw [← h.2, h3]; rfl
  rw [if_neg h3] at h
  by_cases h4 : kind = 4 ∨ kind = 5 ∨ kind = 6
  · rw [if_pos h4] at h; rw [← h.2]; rfl
  rw [if_neg h4] at h
  by_cases h7 : kind = 7
  · rw [if_pos h7] at h; rw [h, h7]; rfl
  rw [if_neg h7] at h
  by_cases h8 : kind = 8
  · rw [if_pos h8] at h; rw [← h.2, h8]; rfl
  rw [if_neg h8] at h
  by_cases h9 : kind = 9
  · rw [if_pos h9] at h; rw [← h.2, h9]; rfl
  rw [if_neg h9] at h
  have : kind = 10 := by omega
  rw [← h.2, this]; rfl
theorem ok_rd {r : Rc} (h : r.ok) : rdKind r.kind r := by
  have ho := h.only
  have hk := h.kind
  unfold onlyRc at ho
  unfold rdKind
  by_cases h1 : r.kind = 1
  · rw [if_pos h1] at ho ⊢
    obtain ⟨a, b, _⟩ := h.seq (by omega) (by omega)
    obtain ⟨c, d, e⟩ := h.vals (.inl h1)
    exact ⟨⟨⟨⟨⟨seqOk_rd a (by omega), seqOk_rd b (by omega)⟩, keyOk_rd c⟩, d⟩, e⟩, ho⟩
  rw [if_neg h1] at ho ⊢
  by_cases h2 : r.kind = 2
  · rw [if_pos h2] at ho ⊢
    obtain ⟨a, b, n⟩ := h.seq (by omega) (by omega)
    obtain ⟨c, d, e⟩ := h.vals (.inr h2)
    exact ⟨⟨⟨⟨⟨seqOk_rd a (by omega), seqOk_rd b (by omega)⟩, seqOk_rd n (by omega)⟩, keyOk_rd c⟩, e⟩, ho⟩
  rw [if_neg h2] at ho ⊢
  by_cases h3 : r.kind = 3
  · rw [if_pos h3] at ho ⊢
    obtain ⟨a, b, _⟩ := h.seq (by omega) (by omega)
    obtain ⟨c, d, e⟩ := h.rest (by omega) (by omega) (by omega) (by omega)
    exact ⟨⟨⟨⟨⟨seqOk_rd a (by omega), seqOk_rd b (by omega)⟩, by unfold rdNum; omega⟩, memOk_rd d⟩, lksOk_rd e⟩, ho⟩
  rw [if_neg h3] at ho ⊢
  by_cases h4 : r.kind = 4 ∨ r.kind = 5 ∨ r.kind = 6
  · rw [if_pos h4] at ho ⊢
    obtain ⟨a, b, _⟩ := h.seq (by omega) (by omega)
    exact ⟨⟨seqOk_rd a (by omega), seqOk_rd b (by omega)⟩, ho⟩
  rw [if_neg h4] at ho ⊢
  by_cases h7 : r.kind = 7
  · rw [if_pos h7] at ho ⊢
    exact ho.symm
  rw [if_neg h7] at ho ⊢
  by_cases h8 : r.kind = 8
  · rw [if_pos h8] at ho ⊢
    obtain ⟨a, b, c, d⟩ := h.check h8
    exact ⟨⟨⟨⟨⟨by have := a.1; omega, fun x hx => rwOk_rd (rises_all a.2 x hx)⟩, ⟨by have := b.1; omega, fun x hx => by
      have q := rises_all b.2 x hx
      exact ⟨by have := q.1; unfold rdNum; omega, seqOk_rd q.2 (by omega)⟩⟩⟩, ⟨by have := c.1; omega, fun x hx => by
      have q := rises_all c.2 x hx
      exact ⟨seqOk_rd q.1 (by omega), memOk_rd q.2⟩⟩⟩, pastOk_rd d⟩, ho⟩
  rw [if_neg h8] at ho ⊢
  by_cases h9 : r.kind = 9
  · rw [if_pos h9] at ho ⊢
    obtain ⟨a, _, _⟩ := h.seq (by omega) (by omega)
    obtain ⟨_, d, _⟩ := h.rest (by omega) (by omega) (by omega) (by omega)
    exact ⟨⟨seqOk_rd a (by omega), memOk_rd d⟩, ho⟩
  rw [if_neg h9] at ho ⊢
  obtain ⟨a, _, _⟩ := h.seq (by omega) (by omega)
  exact ⟨seqOk_rd a (by omega), ho⟩

/-- The kind, and what lies behind it. -/
def wholeP : Sg → (Int × Rc) × Sg := pBind pN restP
theorem codec_whole : Codec wholeP (fun x => numL x.1 ++ restLk x.1 x.2) (fun x => rdNum x.1 ∧ rdKind x.1 x.2) := Codec.bind codec_N codec_rest
def endS (σ : Sg) : Nat := if σ.2 = 0 ∧ 0 < σ.1.length then 13 else σ.2
/-- What Decode answers, of bytes that are few enough: the record, and the error. -/
def decRc (l : List Int) : Rc × Nat :=
  if (pN (l, 0)).2.2 = 0 ∧ ¬ (1 ≤ (pN (l, 0)).1 ∧ (pN (l, 0)).1 ≤ 10) then (rc0 0, 11)
  else ((wholeP (l, 0)).1.2, endS (wholeP (l, 0)).2)
theorem dec_back {r : Rc} (h : r.ok) : decRc (rcL r) = (r, 0) := by
  have hk := h.kind
  have hr : rdNum r.kind := by unfold rdNum; omega
  have b := codec_whole.back (r.kind, r) [] ⟨hr, ok_rd h⟩
  rw [List.append_nil] at b
  have b' : wholeP (rcL r, 0) = ((r.kind, r), ([], 0)) := b
  have k := codec_N.back r.kind (restL r) hr
  have k' : pN (rcL r, 0) = (r.kind, (restL r, 0)) := k
  unfold decRc
  rw [k', b', if_neg (by simp only; omega)]
  rfl
theorem dec_exact {l : List Int} (hl : ∀ y ∈ l, 0 ≤ y ∧ y < 256) (h : (decRc l).2 = 0) : l = rcL (decRc l).1 := by
  unfold decRc at h ⊢
  by_cases hk : (pN (l, 0)).2.2 = 0 ∧ ¬ (1 ≤ (pN (l, 0)).1 ∧ (pN (l, 0)).1 ≤ 10)
  · rw [if_pos hk] at h; simp at h
  · rw [if_neg hk] at h ⊢
    have he : (wholeP (l, 0)).2.2 = 0 ∧ (wholeP (l, 0)).2.1.length = 0 := by
      unfold endS at h
      split at h
      · simp at h
      · rename_i q; omega
    obtain ⟨e1, e2⟩ := codec_whole.exact l hl he.1
    have hn : (pN (l, 0)).2.2 = 0 := by
      by_cases q : (pN (l, 0)).2.2 = 0
      · exact q
      · have := (codec_rest (pN (l, 0)).1).stick (pN (l, 0)).2 q
        have h2 : (wholeP (l, 0)).2 = (pN (l, 0)).2 := this
        rw [h2] at he
        exact absurd he.1 q
    have hkk : (wholeP (l, 0)).1.1 = (pN (l, 0)).1 := rfl
    have hkd : 1 ≤ (wholeP (l, 0)).1.1 ∧ (wholeP (l, 0)).1.1 ≤ 10 := by rw [hkk]; omega
    have kd := rdKind_kind hkd e2.2
    have e0 : (wholeP (l, 0)).2.1 = [] := List.eq_nil_of_length_eq_zero he.2
    rw [e0, List.append_nil] at e1
    show l = rcL (wholeP (l, 0)).1.2
    unfold rcL
    rw [restL_eq, kd]
    exact e1
theorem dec_cut {r : Rc} (h : r.ok) (k : Nat) (hk : k < (rcL r).length) : (decRc ((rcL r).take k)).2 = 10 := by
  have hkd := h.kind
  have hr : rdNum r.kind := by unfold rdNum; omega
  have c := codec_whole.cut (r.kind, r) k ⟨hr, ok_rd h⟩ hk
  have c' : (wholeP ((rcL r).take k, 0)).2.2 = 10 := c
  unfold decRc
  by_cases hka : k < (numL r.kind).length
  · have e : (rcL r).take k = (numL r.kind).take k := by unfold rcL; rw [List.take_append_of_le_length (by omega)]
    have cn := codec_N.cut r.kind k hr hka
    rw [if_neg (by rw [e, cn]; simp)]
    show endS (wholeP ((rcL r).take k, 0)).2 = 10
    unfold endS
    rw [if_neg (by rw [c']; simp), c']
  · have e : (rcL r).take k = numL r.kind ++ (restL r).take (k - (numL r.kind).length) := by unfold rcL; rw [List.take_append, List.take_of_length_le (by omega)]
    have kb := codec_N.back r.kind ((restL r).take (k - (numL r.kind).length)) hr
    have kb' : pN ((rcL r).take k, 0) = (r.kind, ((restL r).take (k - (numL r.kind).length), 0)) := by rw [e]; exact kb
    rw [if_neg (by rw [kb']; simp only; omega)]
    show endS (wholeP ((rcL r).take k, 0)).2 = 10
    unfold endS
    rw [if_neg (by rw [c']; simp), c']
end Go.Proofs.Ytomhofppcogojaa
