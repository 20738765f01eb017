/- What it says: contracts and plain mathematics that the laws' walks use, 3 of 34: each part's own remark says what; no condition. -/
import Derived.Test.YtfldcddbmikfiaaPw1
import Derived.Test.YtfldcddbmikfiaaPw2
import Derived.Below
import Derived.Test.YtfldcddbmikfiaaRows
import Derived.Laws.BitsAllLaws
import Derived.Deep.QuietTactic
import Derived.BigQuiet
import Derived.RegionTactic
import Derived.BigRegion
import Derived.Deep.RegionHeld3

set_option linter.unusedSimpArgs false
set_option linter.unusedVariables false
set_option linter.deprecated false
set_option linter.unusedSectionVars false
set_option linter.all false

/- a master record in plain mathematics: which may be, its bytes, what is read back out of a sector, which of two counts. -/
namespace Go.Proofs.Ytfldcddbmikfiaa
open Go.RowKit

/-- A record's numbers. -/
structure Ms where
  gen : Int
  inc : Int
  first : Int
  lsn : Int
  chk : Int
/-- Its value. -/
def msV (m : Ms) : Value := .agg #[.int .i64 m.gen, .int .i64 m.inc, .int .i64 m.first, .int .i64 m.lsn, .int .i64 m.chk]
/-- Number k of it. -/
def Ms.at_ (m : Ms) : Nat → Int
  | 0 => m.gen
  | 1 => m.inc
  | 2 => m.first
  | 3 => m.lsn
  | _ => m.chk
def ms0 : Ms := ⟨0, 0, 0, 0, 0⟩
theorem Ms.ext5 {a b : Ms} (h0 : a.gen = b.gen) (h1 : a.inc = b.inc) (h2 : a.first = b.first) (h3 : a.lsn = b.lsn) (h4 : a.chk = b.chk) : a = b := by
  cases a; cases b; simp only at h0 h1 h2 h3 h4; subst h0 h1 h2 h3 h4; rfl
/-- All its numbers are int's. -/
def Ms.fits (m : Ms) : Prop := ∀ k, -9223372036854775808 ≤ m.at_ k ∧ m.at_ k ≤ 9223372036854775807
theorem Ms.fits.all {m : Ms} (h : m.fits) : (-9223372036854775808 ≤ m.gen ∧ m.gen ≤ 9223372036854775807) ∧ (-9223372036854775808 ≤ m.inc ∧ m.inc ≤ 9223372036854775807) ∧ (-9223372036854775808 ≤ m.first ∧ m.first ≤ 9223372036854775807) ∧ (-9223372036854775808 ≤ m.lsn ∧ m.lsn ≤ 9223372036854775807) ∧ (-9223372036854775808 ≤ m.chk ∧ m.chk ≤ 9223372036854775807) := ⟨h 0, h 1, h 2, h 3, h 4⟩

/-- May it be? -/
structure Ms.ok (m : Ms) : Prop where
  gen : 1 ≤ m.gen ∧ m.gen ≤ 1099511627776
  inc : 0 ≤ m.inc ∧ m.inc ≤ 1099511627776
  first : 0 ≤ m.first ∧ m.first ≤ 1099511627776
  lsn : 0 ≤ m.lsn ∧ m.lsn ≤ 1099511627776
  chk : 0 ≤ m.chk ∧ m.chk ≤ 1099511627776
instance (m : Ms) : Decidable m.ok := decidable_of_iff ((1 ≤ m.gen ∧ m.gen ≤ 1099511627776) ∧ (0 ≤ m.inc ∧ m.inc ≤ 1099511627776) ∧ (0 ≤ m.first ∧ m.first ≤ 1099511627776) ∧ (0 ≤ m.lsn ∧ m.lsn ≤ 1099511627776) ∧ (0 ≤ m.chk ∧ m.chk ≤ 1099511627776)) ⟨fun ⟨a, b, c, d, e⟩ => ⟨a, b, c, d, e⟩, fun h => ⟨h.gen, h.inc, h.first, h.lsn, h.chk⟩⟩
theorem Ms.ok.at0 {m : Ms} (h : m.ok) (k : Nat) : 0 ≤ m.at_ k ∧ m.at_ k ≤ 1099511627776 := by
  match k with
  | 0 => exact ⟨by have := h.gen; show 0 ≤ m.gen; omega, h.gen.2⟩
  | 1 => exact h.inc
  | 2 => exact h.first
  | 3 => exact h.lsn
  | _ + 4 => exact h.chk
theorem Ms.ok.fits {m : Ms} (h : m.ok) : m.fits := fun k => by have := h.at0 k; omega
theorem Ms.ok_of {m : Ms} (h : ∀ k, k < 5 → 0 ≤ m.at_ k ∧ m.at_ k ≤ 1099511627776) (h1 : 0 < m.gen) : m.ok :=
  ⟨⟨by omega, (h 0 (by omega)).2⟩, h 1 (by omega), h 2 (by omega), h 3 (by omega), h 4 (by omega)⟩
theorem ms0_no : ¬ ms0.ok := fun h => by have h1 := h.gen.1; simp [ms0] at h1

/-- Its bytes. -/
def bodyM (m : Ms) : List Int := numL m.gen ++ numL m.inc ++ numL m.first ++ numL m.lsn ++ numL m.chk
/-- The first k numbers' bytes. -/
def bodyN (m : Ms) : Nat → List Int
  | 0 => []
  | k + 1 => bodyN m k ++ numL (m.at_ k)
theorem bodyN_all (m : Ms) : bodyN m 5 = bodyM m := by simp [bodyN, bodyM, Ms.at_]
theorem bodyM_rng (m : Ms) : ∀ x ∈ bodyM m, 0 ≤ x ∧ x < 256 := fun x hx => by
  simp only [bodyM, List.mem_append] at hx
  rcases hx with (((hx | hx) | hx) | hx) | hx <;> exact numL_rng _ x hx
theorem bodyN_len {m : Ms} (h : m.fits) : ∀ k, (bodyN m k).length ≤ 10 * k
  | 0 => by simp [bodyN]
  | k + 1 => by
    have h1 := bodyN_len h k
    have h2 := numL_len (m.at_ k) (h k).2
    simp only [bodyN, List.length_append]
    omega
theorem bodyM_len {m : Ms} (h : m.fits) : (bodyM m).length ≤ 50 := by have := bodyN_len h 5; rw [bodyN_all] at this; omega

/-- One number that is read, the rest, the error. -/
def rdV (l : List Int) (e : Nat) : Int := if e ≠ 0 then 0 else if (numF l 1099511627776).2.2 ≠ 0 then 0 else ((numF l 1099511627776).1 : Int)
def rdL (l : List Int) (e : Nat) : List Int := stepL l (numF l 1099511627776).2.1 e (numF l 1099511627776).2.2
def rdE (l : List Int) (e : Nat) : Nat := stepE e (numF l 1099511627776).2.2
theorem rdV_step (l : List Int) (e : Nat) : stepV (.int .i64 0) (.int .i64 ((numF l 1099511627776).1 : Int)) e (numF l 1099511627776).2.2 = .int .i64 (rdV l e) := by
  unfold stepV rdV
  split
  · rfl
  · split <;> rfl
theorem rdV_rng {l : List Int} (hr : ∀ x ∈ l, 0 ≤ x ∧ x < 256) (e : Nat) : 0 ≤ rdV l e ∧ rdV l e ≤ 1099511627776 := by
  unfold rdV
  split
  · omega
  · split
    · omega
    · rename_i h0 h1
      have := (numF_ok hr (most := 1099511627776) (by omega)).1
      omega
theorem rdL_rng {l : List Int} (hr : ∀ x ∈ l, 0 ≤ x ∧ x < 256) (e : Nat) : ∀ x ∈ rdL l e, 0 ≤ x ∧ x < 256 := by
  unfold rdL stepL
  split
  · exact hr
  · split
    · exact hr
    · exact fun x hx => hr x (List.mem_of_mem_drop hx)
/-- Behind k numbers. -/
def rdAt (l : List Int) : Nat → List Int × Nat
  | 0 => (l, 0)
  | k + 1 => (rdL (rdAt l k).1 (rdAt l k).2, rdE (rdAt l k).1 (rdAt l k).2)
theorem rdAt_rng {l : List Int} (hr : ∀ x ∈ l, 0 ≤ x ∧ x < 256) : ∀ k, ∀ x ∈ (rdAt l k).1, 0 ≤ x ∧ x < 256
  | 0 => hr
  | k + 1 => rdL_rng (rdAt_rng hr k) _
def rdN (l : List Int) (k : Nat) : Int := rdV (rdAt l k).1 (rdAt l k).2
theorem rdN_rng {l : List Int} (hr : ∀ x ∈ l, 0 ≤ x ∧ x < 256) (k : Nat) : 0 ≤ rdN l k ∧ rdN l k ≤ 1099511627776 := rdV_rng (rdAt_rng hr k) _
def decR (l : List Int) : Ms := ⟨rdN l 0, rdN l 1, rdN l 2, rdN l 3, rdN l 4⟩
def decE (l : List Int) : Nat := (rdAt l 5).2
theorem decR_fits {l : List Int} (hr : ∀ x ∈ l, 0 ≤ x ∧ x < 256) (k : Nat) : 0 ≤ (decR l).at_ k ∧ (decR l).at_ k ≤ 1099511627776 := by
  match k with
  | 0 => exact rdN_rng hr 0
  | 1 => exact rdN_rng hr 1
  | 2 => exact rdN_rng hr 2
  | 3 => exact rdN_rng hr 3
  | _ + 4 => exact rdN_rng hr 4
theorem decR_ok {l : List Int} (hr : ∀ x ∈ l, 0 ≤ x ∧ x < 256) : (decR l).ok ↔ 1 ≤ (decR l).gen :=
  ⟨fun h => h.gen.1, fun h => Ms.ok_of (fun k _ => decR_fits hr k) (by omega)⟩
def decM (l : List Int) : Ms := if decE l ≠ 0 then ms0 else decR l

/-- A number at the beginning. -/
theorem numF_at (z : Int) (hz : 0 ≤ z ∧ z ≤ 1099511627776) (r : List Int) : numF (numL z ++ r) 1099511627776 = (z.toNat, (numL z).length, 0) := by
  obtain ⟨n, rfl⟩ := Int.eq_ofNat_of_zero_le hz.1
  rw [numL_nat]
  unfold numF
  rw [takeF_short n (by omega) r]
  simp only [ne_eq, not_true_eq_false, if_false]
  rw [if_neg (by omega)]
  rfl
theorem rd_at (z : Int) (hz : 0 ≤ z ∧ z ≤ 1099511627776) (r : List Int) : rdV (numL z ++ r) 0 = z ∧ rdL (numL z ++ r) 0 = r ∧ rdE (numL z ++ r) 0 = 0 := by
  unfold rdV rdL rdE stepL stepE
  rw [numF_at z hz r]
  refine ⟨?_, ?_, ?_⟩
  · simp only [ne_eq, not_true_eq_false, if_false]
    omega
  · simp
  · simp
theorem rdAt_next {l : List Int} {k : Nat} {z : Int} {r : List Int} (h : rdAt l k = (numL z ++ r, 0)) (hz : 0 ≤ z ∧ z ≤ 1099511627776) : rdN l k = z ∧ rdAt l (k + 1) = (r, 0) := by
  obtain ⟨a, b, c⟩ := rd_at z hz r
  refine ⟨?_, ?_⟩
  · unfold rdN; rw [h]; exact a
  · have e : rdAt l (k + 1) = (rdL (rdAt l k).1 (rdAt l k).2, rdE (rdAt l k).1 (rdAt l k).2) := rfl
    rw [e, h]
    exact Prod.ext b c
/-- A record's bytes, whatever follows them, are read as the record. -/
theorem dec_body {m : Ms} (h : m.ok) (r : List Int) : decR (bodyM m ++ r) = m ∧ decE (bodyM m ++ r) = 0 := by
  have h0 : rdAt (bodyM m ++ r) 0 = (numL m.gen ++ (numL m.inc ++ (numL m.first ++ (numL m.lsn ++ (numL m.chk ++ r)))), 0) := by
    show (bodyM m ++ r, 0) = _
    simp [bodyM]
  obtain ⟨a0, h1⟩ := rdAt_next h0 (h.at0 0)
  obtain ⟨a1, h2⟩ := rdAt_next h1 (h.at0 1)
  obtain ⟨a2, h3⟩ := rdAt_next h2 (h.at0 2)
  obtain ⟨a3, h4⟩ := rdAt_next h3 (h.at0 3)
  obtain ⟨a4, h5⟩ := rdAt_next h4 (h.at0 4)
  have g : decE (bodyM m ++ r) = (rdAt (bodyM m ++ r) 5).2 := rfl
  rw [h5] at g
  refine ⟨?_, g⟩
  unfold decR
  rw [a0, a1, a2, a3, a4]

/-- The record of sector n. -/
def recM (n : Int) (l : List Int) : Ms := if openE l = 0 ∧ decE (openB l) = 0 ∧ (decR (openB l)).ok ∧ (decR (openB l)).gen % 2 = n then decR (openB l) else ms0
theorem recM_no {n : Int} {l : List Int} (h : ¬ (openE l = 0 ∧ decE (openB l) = 0 ∧ (decR (openB l)).ok ∧ (decR (openB l)).gen % 2 = n)) : recM n l = ms0 := if_neg h
theorem recM_yes {n : Int} {l : List Int} (h : openE l = 0 ∧ decE (openB l) = 0 ∧ (decR (openB l)).ok ∧ (decR (openB l)).gen % 2 = n) : recM n l = decR (openB l) := if_pos h
theorem recM_two (n : Int) (l : List Int) : recM n l = ms0 ∨ (recM n l).ok := by
  by_cases h : openE l = 0 ∧ decE (openB l) = 0 ∧ (decR (openB l)).ok ∧ (decR (openB l)).gen % 2 = n
  · rw [recM_yes h]; exact .inr h.2.2.1
  · exact .inl (recM_no h)
theorem recM_gen (n : Int) (l : List Int) : 0 ≤ (recM n l).gen := by
  rcases recM_two n l with h | h
  · rw [h]; exact Int.le_refl _
  · have := h.gen; omega
theorem recM_zero {n : Int} {l : List Int} (h : (recM n l).gen = 0) : recM n l = ms0 := by
  rcases recM_two n l with q | q
  · exact q
  · have := q.gen; omega
theorem recM_fits (n : Int) (l : List Int) : (recM n l).fits := by
  rcases recM_two n l with h | h
  · rw [h]; intro k; match k with
    | 0 => exact ⟨by decide, by decide⟩
    | 1 => exact ⟨by decide, by decide⟩
    | 2 => exact ⟨by decide, by decide⟩
    | 3 => exact ⟨by decide, by decide⟩
    | _ + 4 => exact ⟨by show (-9223372036854775808 : Int) ≤ 0; decide, by show (0 : Int) ≤ _; decide⟩
  · exact h.fits
/-- A record that was put is read. -/
theorem recM_wrap {m : Ms} (h : m.ok) {t : Int} (ht : 1 ≤ t ∧ t ≤ 3) : recM (m.gen % 2) (wrapL t (bodyM m)) = m := by
  have hl : (bodyM m).length ≤ 254 := by have := bodyM_len h.fits; omega
  have hs : (wrapL t (bodyM m)).length = 256 := by simp [wrapL, padL_len hl]
  have e := openE_right hs (right_wrap ht hl)
  have eb : openB (wrapL t (bodyM m)) = bodyM m ++ List.replicate (254 - (bodyM m).length) 0 := by rw [openB_right hs (right_wrap ht hl), bodyL_wrap hl]; rfl
  obtain ⟨d1, d2⟩ := dec_body h (List.replicate (254 - (bodyM m).length) 0)
  rw [recM_yes, eb, d1]
  rw [eb, d1, d2]
  exact ⟨e, rfl, h, rfl⟩
/-- A torn sector has none. -/
theorem recM_torn {n : Int} {l : List Int} (h : openE l = 50) : recM n l = ms0 := recM_no (fun q => by omega)

/-- Which of both counts. -/
def loadM (a b : List Int) : Ms := if (recM 0 a).gen < (recM 1 b).gen then recM 1 b else recM 0 a
theorem loadM_zero {a b : List Int} (h : (loadM a b).gen = 0) : loadM a b = ms0 := by
  unfold loadM at h ⊢
  split
  · rename_i q; rw [if_pos q] at h; exact recM_zero h
  · rename_i q; rw [if_neg q] at h; exact recM_zero h
theorem loadM_gen (a b : List Int) : 0 ≤ (loadM a b).gen := by
  unfold loadM
  split
  · exact recM_gen _ _
  · exact recM_gen _ _
def lostE (m : Ms) : Int := if m.gen = 0 then 60 else 0
end Go.Proofs.Ytfldcddbmikfiaa

/- what a reader's methods answer, and where they leave it; of a nil one. -/
namespace Go.Proofs.Ytfldcddbmikfiaa
open Go.RowKit

/-- A byte, a flag: value, how many bytes, error. -/
def byteF : List Int → Int × Nat × Nat
  | [] => (0, 0, 10)
  | c :: _ => (c, 1, 0)
def flagF : List Int → Bool × Nat × Nat
  | [] => (false, 0, 10)
  | c :: _ => if 1 < c then (false, 0, 11) else (c == 1, 1, 0)

theorem numDec (A : Option Addr) (n c : Nat) (l : List Int) (most : Int) (q : Addr) (w : World) (h : Byt w A n c l) (hq : w.cell? q = some (.int .i64 most)) (hm : -9223372036854775808 ≤ most ∧ most ≤ 9223372036854775807) (x k e : Nat) (hF : numF l most = (x, k, e)) :
    Calls Try.prog 88 #[.slice A n c, .pointer (some q)] w (Dec (.int .i64 x) k e w) := by
  have C := Lib.hid (firstNum_any A n c l most w h hm x k e hF)
  clear h hm hF
  go_enter Try.func88, Try.ntmps88
  go_wp2_with fail
  refine C.out.mono ?_
  rintro e w1 ⟨rfl, m, rfl⟩
  go_wp2_with fail
  go_ret3
  exact ⟨rfl, m, rfl⟩

theorem flagDec (A : Option Addr) (n c : Nat) (l : List Int) (w : World) (h : Byt w A n c l) :
    Calls Try.prog 102 #[.slice A n c] w (Dec (.bool (flagF l).1) (flagF l).2.1 (flagF l).2.2 w) := by
  cases l with
  | nil =>
    have hn : n = 0 := by have := h.len; simpa using this.symm
    subst hn
    clear h
    go_enter Try.func102, Try.ntmps102
    go_wp2_with fail
    go_ret3
    exact ⟨rfl, 0, rfl⟩
  | cons x r =>
    have hn : r.length + 1 = n := h.len
    obtain ⟨g, off, rfl, hc⟩ := h.at_ (by omega)
    have hc0 : w.cell? ⟨g, off, none⟩ = some (.int .u8 x) := by
      have := hc 0 (by omega)
      simpa using this
    have hn0 : ((n : Int) == 0) = false := by simp; omega
    have hn1 : (0 : Int) < (n : Int) := by omega
    have hcap := h.cap
    have hmax := h.max
    unfold maxLen at hmax
    clear h hc hn
    by_cases h1 : 1 < x
    · rw [show flagF (x :: r) = (false, 0, 11) from if_pos h1]
      go_enter Try.func102, Try.ntmps102
      go_wp2_with fail
      go_ret3
      exact ⟨rfl, 0, rfl⟩
    · rw [show flagF (x :: r) = (x == 1, 1, 0) from if_neg h1]
      go_enter Try.func102, Try.ntmps102
      go_wp2_with fail
      go_ret3
      exact ⟨rfl, 0, rfl⟩

theorem textDec (A : Option Addr) (n c : Nat) (l : List Int) (most : Int) (q : Addr) (w : World) (h : Byt w A n c l) (hq : w.cell? q = some (.int .i64 most)) (hm : -9223372036854775808 ≤ most ∧ most ≤ 9223372036854775807) (b : List Int) (u e : Nat) (hF : textF l most = (b, u, e)) :
    Calls Try.prog 99 #[.slice A n c, .pointer (some q)] w (Dec (.string (strOfNums b)) u e w) := by
  have C := Lib.hid (firstText_quiet A n c l most w h hm b u e hF)
  clear h hm hF
  go_enter Try.func99, Try.ntmps99
  go_wp2_with fail
  refine C.out.mono ?_
  rintro e w1 ⟨A1, n1, c1, rfl, hb, m, rfl⟩
  have kc := conv_byt (hb.drewN m)
  clear hb
  go_wp2_with fail
  go_ret3
  exact ⟨rfl, m, rfl⟩

theorem numF_le {l : List Int} (hr : ∀ x ∈ l, 0 ≤ x ∧ x < 256) {most : Int} {x k e : Nat} (hF : numF l most = (x, k, e)) : e = 0 → k ≤ l.length := fun h => by
  have := (numF_ok hr (l := l) (most := most) (by rw [hF]; exact h)).2.1
  rw [hF] at this
  exact this

theorem textF_le {l : List Int} (hr : ∀ x ∈ l, 0 ≤ x ∧ x < 256) {most : Int} {b : List Int} {u e : Nat} (hF : textF l most = (b, u, e)) : e = 0 → u ≤ l.length := fun h => by
  have hF2 := hF
  unfold textF at hF
  split at hF
  · rename_i h0
    injection hF with _ e2
    injection e2 with _ e3
    exact absurd (e3.trans h) h0
  · rename_i h0
    split at hF
    · injection hF with _ e2
      injection e2 with _ e3
      omega
    · rename_i h1
      injection hF with _ e2
      injection e2 with e2 _
      have := (numF_ok hr (l := l) (most := most) (by omega)).2.1
      omega

theorem byteF_le (l : List Int) : (byteF l).2.2 = 0 → (byteF l).2.1 ≤ l.length := by
  cases l with
  | nil => simp [byteF]
  | cons x r => simp [byteF]

theorem flagF_le (l : List Int) : (flagF l).2.2 = 0 → (flagF l).2.1 ≤ l.length := by
  cases l with
  | nil => simp [flagF]
  | cons x r =>
    by_cases h1 : 1 < x
    · rw [show flagF (x :: r) = (false, 0, 11) from if_pos h1]; simp
    · rw [show flagF (x :: r) = (x == 1, 1, 0) from if_neg h1]; simp

theorem Rd.byt {w : World} {t : TypeId} {b g : Nat} {l : List Int} {e : Nat} (h : Rd w t b g l e) : ∃ A n c, Byt w A n c l ∧ w.cell? ⟨b, 0, none⟩ = some (.slice A n c) ∧ w.cell? ⟨b, 1, none⟩ = some (.int .i64 e) ∧ n = l.length := by
  obtain ⟨A, n, c, h1, h2, _⟩ := h.ex
  exact ⟨A, n, c, h2, h1.cell 0, h1.cell 1, h2.len.symm⟩

theorem Rd.rng {w : World} {t : TypeId} {b g : Nat} {l : List Int} {e : Nat} (h : Rd w t b g l e) : ∀ x ∈ l, 0 ≤ x ∧ x < 256 := by
  obtain ⟨A, n, c, h2, _⟩ := h.byt
  exact h2.rng

theorem RdPost.later {t : TypeId} {b g : Nat} {l : List Int} {e0 : Nat} {v : Value} {w w1 : World} {e : Ending} {w' : World} (hg : w.grownBy w1 (some b)) (h : RdPost t b g l e0 v w1 e w') : RdPost t b g l e0 v w e w' :=
  ⟨h.1, h.2.1, grown_trans hg h.2.2⟩

theorem Rd.alloc {w : World} {t : TypeId} {b g : Nat} {l : List Int} {e : Nat} (h : Rd w t b g l e) (o : Obj) : Rd (w.alloc o) t b g l e :=
  h.grown (World.grownBy_alloc w o none) (by simp) (by simp)

set_option maxHeartbeats 1000000 in
theorem rNum_any (b g : Nat) (l : List Int) (e0 : Nat) (most : Int) (w : World) (h : Rd w 93 b g l e0) (hm : -9223372036854775808 ≤ most ∧ most ≤ 9223372036854775807) (x k er : Nat) (hF : numF l most = (x, k, er)) :
    Calls Try.prog 67 #[.pointer (some ⟨b, 0, none⟩), .int .i64 most] w (RdPost 93 b g (stepL l k e0 er) (stepE e0 er) (stepV (.int .i64 0) (.int .i64 x) e0 er) w) := by
  have hq : (w.alloc (.cells #[.int .i64 most] 3)).cell? ⟨w.heap.size, 0, none⟩ = some (.int .i64 most) := (Bk.new w _ _).cell 0
  have C := takeInt_step b g ⟨w.heap.size, 0, none⟩ l e0 (.int .i64 x) k er _ (h.alloc (.cells #[.int .i64 most] 3)) (numF_le h.rng hF) (fun _ A n c hb => numDec A n c l most _ _ hb hq hm x k er hF)
  have C := Lib.hid (C.mono fun e w' hp => hp.later (World.grownBy_alloc w _ (some b)))
  clear h hm hF hq
  go_enter Try.func67, Try.ntmps67
  go_wp2_with fail
  refine C.out.mono ?_
  rintro e w1 ⟨rfl, R⟩
  have R := Lib.hid R
  go_wp2_with fail
  go_ret
  exact ⟨rfl, R.out⟩

set_option maxHeartbeats 1000000 in
theorem rText_any (b g : Nat) (l : List Int) (e0 : Nat) (most : Int) (w : World) (h : Rd w 93 b g l e0) (hm : -9223372036854775808 ≤ most ∧ most ≤ 9223372036854775807) (s : List Int) (k er : Nat) (hF : textF l most = (s, k, er)) :
    Calls Try.prog 92 #[.pointer (some ⟨b, 0, none⟩), .int .i64 most] w (RdPost 93 b g (stepL l k e0 er) (stepE e0 er) (stepV (.string ByteArray.empty) (.string (strOfNums s)) e0 er) w) := by
  have hq : (w.alloc (.cells #[.int .i64 most] 3)).cell? ⟨w.heap.size, 0, none⟩ = some (.int .i64 most) := (Bk.new w _ _).cell 0
  have C := takeStr_step b g ⟨w.heap.size, 0, none⟩ l e0 (.string (strOfNums s)) k er _ (h.alloc (.cells #[.int .i64 most] 3)) (textF_le h.rng hF) (fun _ A n c hb => textDec A n c l most _ _ hb hq hm s k er hF)
  have C := Lib.hid (C.mono fun e w' hp => hp.later (World.grownBy_alloc w _ (some b)))
  clear h hm hF hq
  go_enter Try.func92, Try.ntmps92
  go_wp2_with fail
  refine C.out.mono ?_
  rintro e w1 ⟨rfl, R⟩
  have R := Lib.hid R
  go_wp2_with fail
  go_ret
  exact ⟨rfl, R.out⟩

set_option maxHeartbeats 1000000 in
theorem rFlag_any (b g : Nat) (l : List Int) (e0 : Nat) (w : World) (h : Rd w 93 b g l e0) :
    Calls Try.prog 94 #[.pointer (some ⟨b, 0, none⟩)] w (RdPost 93 b g (stepL l (flagF l).2.1 e0 (flagF l).2.2) (stepE e0 (flagF l).2.2) (stepV (.bool false) (.bool (flagF l).1) e0 (flagF l).2.2) w) := by
  have C := Lib.hid (takeBool_step b g l e0 _ _ _ w h (flagF_le l) (fun _ A n c hb => flagDec A n c l w hb))
  clear h
  go_enter Try.func94, Try.ntmps94
  go_wp2_with fail
  refine C.out.mono ?_
  rintro e w1 ⟨rfl, R⟩
  have R := Lib.hid R
  go_wp2_with fail
  go_ret
  exact ⟨rfl, R.out⟩
end Go.Proofs.Ytfldcddbmikfiaa

/- plain mathematics of CRC-32: the register's step over one bit is linear and one to one; bytes put in one behind the other are one great number put in at the start. No program is named; no condition. -/
namespace Go.Proofs.Ytfldcddbmikfiaa

def poly : Nat := 3988292384

/-- One bit more. -/
def stepBit (c : Nat) : Nat := if c % 2 = 1 then (c / 2) ^^^ poly else c / 2

/-- k bits more. -/
def steps : Nat → Nat → Nat
  | 0, c => c
  | k + 1, c => steps k (stepBit c)

theorem steps_add (j k c : Nat) : steps (j + k) c = steps k (steps j c) := by
  induction j generalizing c with
  | zero => rw [Nat.zero_add]; rfl
  | succ j ih => rw [Nat.add_right_comm]; exact ih (stepBit c)

theorem steps_succ (k c : Nat) : steps (k + 1) c = stepBit (steps k c) := by rw [steps_add k 1]; rfl

theorem xor_half (a b : Nat) : (a ^^^ b) / 2 = (a / 2) ^^^ (b / 2) := by
  apply Nat.eq_of_testBit_eq
  intro i
  simp [Nat.testBit_div_two]

theorem xor_low (a b : Nat) : (a ^^^ b) % 2 = (a % 2 + b % 2) % 2 := by
  have h := Nat.testBit_xor a b 0
  simp only [Nat.testBit_zero] at h
  rcases Nat.mod_two_eq_zero_or_one a with ha | ha <;> rcases Nat.mod_two_eq_zero_or_one b with hb | hb <;>
    rcases Nat.mod_two_eq_zero_or_one (a ^^^ b) with hc | hc <;> simp [ha, hb, hc] at h ⊢

theorem stepBit_xor (a b : Nat) : stepBit (a ^^^ b) = stepBit a ^^^ stepBit b := by
  unfold stepBit
  rw [xor_half, xor_low]
  rcases Nat.mod_two_eq_zero_or_one a with ha | ha <;> rcases Nat.mod_two_eq_zero_or_one b with hb | hb <;> simp [ha, hb]
  · rw [Nat.xor_assoc]
  · rw [Nat.xor_assoc, Nat.xor_assoc, Nat.xor_comm (b / 2)]
  · rw [Nat.xor_assoc, Nat.xor_comm (b / 2) poly, ← Nat.xor_assoc poly, Nat.xor_self, Nat.zero_xor]

theorem steps_xor (k a b : Nat) : steps k (a ^^^ b) = steps k a ^^^ steps k b := by
  induction k generalizing a b with
  | zero => rfl
  | succ k ih => rw [steps, stepBit_xor, ih]; rfl

theorem stepBit_zero : stepBit 0 = 0 := rfl
theorem steps_zero (k : Nat) : steps k 0 = 0 := by
  induction k with
  | zero => rfl
  | succ k ih => rw [steps, stepBit_zero, ih]

theorem stepBit_lt {c : Nat} (h : c < 4294967296) : stepBit c < 4294967296 := by
  unfold stepBit
  split
  · exact Nat.xor_lt_two_pow (n := 32) (by omega) (by decide)
  · omega

theorem steps_lt (k : Nat) {c : Nat} (h : c < 4294967296) : steps k c < 4294967296 := by
  induction k generalizing c with
  | zero => exact h
  | succ k ih => exact ih (stepBit_lt h)

theorem xor_eq_zero {a b : Nat} (h : a ^^^ b = 0) : a = b := by
  have : (a ^^^ b) ^^^ b = b := by rw [h, Nat.zero_xor]
  rwa [Nat.xor_assoc, Nat.xor_self, Nat.xor_zero] at this

theorem stepBit_ne {c : Nat} (h : c < 4294967296) (h0 : c ≠ 0) : stepBit c ≠ 0 := by
  unfold stepBit
  split
  · intro e
    have := xor_eq_zero e
    unfold poly at this
    omega
  · omega

theorem steps_ne (k : Nat) {c : Nat} (h : c < 4294967296) (h0 : c ≠ 0) : steps k c ≠ 0 := by
  induction k generalizing c with
  | zero => exact h0
  | succ k ih => exact ih (stepBit_lt h) (stepBit_ne h h0)

theorem steps_inj (k : Nat) {a b : Nat} (ha : a < 4294967296) (hb : b < 4294967296) (h : steps k a = steps k b) : a = b := by
  by_cases e : a ^^^ b = 0
  · exact xor_eq_zero e
  · exfalso
    refine steps_ne k (Nat.xor_lt_two_pow (n := 32) ha hb) e ?_
    rw [steps_xor, h, Nat.xor_self]

/-- What stands high up comes down. -/
theorem steps_shift (k c : Nat) : steps k (c * 2 ^ k) = c := by
  induction k with
  | zero => simp [steps]
  | succ k ih =>
    have e : c * 2 ^ (k + 1) = (c * 2 ^ k) * 2 := by rw [Nat.pow_succ, Nat.mul_assoc]
    rw [steps, stepBit, e, if_neg (by omega), Nat.mul_div_cancel _ (by decide), ih]

/-- Bytes as one number, the first one lowest. -/
def leN : List Int → Nat
  | [] => 0
  | x :: r => x.toNat + 256 * leN r

/-- A byte more. -/
def stepByte (c : Nat) (x : Int) : Nat := steps 8 (c ^^^ x.toNat)

/-- Bytes more. -/
def crcFrom (c : Nat) (l : List Int) : Nat := l.foldl stepByte c

theorem crcFrom_cons (c : Nat) (x : Int) (l : List Int) : crcFrom c (x :: l) = crcFrom (stepByte c x) l := rfl
theorem crcFrom_append (c : Nat) (l m : List Int) : crcFrom c (l ++ m) = crcFrom (crcFrom c l) m := by simp [crcFrom]
theorem crcFrom_snoc (c : Nat) (l : List Int) (x : Int) : crcFrom c (l ++ [x]) = stepByte (crcFrom c l) x := by simp [crcFrom]

theorem add_eq_xor (x n : Nat) (h : x < 256) : x + 256 * n = x ^^^ (n * 256) := by
  have e : n * 256 = n <<< 8 := by rw [Nat.shiftLeft_eq]
  rw [e, Nat.mul_comm]
  have h1 : n * 256 + x = n <<< 8 ||| x := by rw [← Nat.shiftLeft_add_eq_or_of_lt (by simpa using h) n, Nat.shiftLeft_eq]
  have h2 : (n <<< 8) ^^^ x = n <<< 8 ||| x := by
    apply Nat.eq_of_testBit_eq
    intro i
    simp only [Nat.testBit_xor, Nat.testBit_or, Nat.testBit_shiftLeft]
    by_cases hi : 8 ≤ i
    · have : x.testBit i = false := Nat.testBit_lt_two_pow (Nat.lt_of_lt_of_le h (by
        have : 2 ^ 8 ≤ 2 ^ i := Nat.pow_le_pow_right (by decide) hi
        simpa using this))
      simp [this]
    · simp [hi]
  rw [Nat.add_comm, h1, ← h2, Nat.xor_comm]

theorem crcFrom_num (l : List Int) (hr : ∀ x ∈ l, 0 ≤ x ∧ x < 256) (c : Nat) : crcFrom c l = steps (8 * l.length) (c ^^^ leN l) := by
  induction l generalizing c with
  | nil => simp [crcFrom, leN, steps]
  | cons x r ih =>
    have hx := hr x (by simp)
    rw [crcFrom_cons, ih (fun y hy => hr y (by simp [hy])), leN, add_eq_xor _ _ (by omega)]
    rw [List.length_cons, show 8 * (r.length + 1) = 8 + 8 * r.length from by omega, steps_add]
    congr 1
    rw [← Nat.xor_assoc, steps_xor 8 _ (leN r * 256), stepByte]
    congr 1
    exact (steps_shift 8 (leN r)).symm

def ones : Nat := 4294967295

/-- The checksum. -/
def crcL (l : List Int) : Nat := crcFrom ones l ^^^ ones

theorem crcFrom_lt (l : List Int) (hr : ∀ x ∈ l, 0 ≤ x ∧ x < 256) (c : Nat) (hc : c < 4294967296) : crcFrom c l < 4294967296 := by
  induction l generalizing c with
  | nil => exact hc
  | cons x r ih =>
    have hx := hr x (by simp)
    exact ih (fun y hy => hr y (by simp [hy])) _ (steps_lt 8 (Nat.xor_lt_two_pow (n := 32) hc (by omega)))

theorem crcL_lt (l : List Int) (hr : ∀ x ∈ l, 0 ≤ x ∧ x < 256) : crcL l < 4294967296 :=
  Nat.xor_lt_two_pow (n := 32) (crcFrom_lt l hr _ (by decide)) (by decide)

/-- Two checksums told by their texts' numbers. -/
theorem crcL_xor (l m : List Int) (hl : ∀ x ∈ l, 0 ≤ x ∧ x < 256) (hm : ∀ x ∈ m, 0 ≤ x ∧ x < 256) (he : l.length = m.length) : crcL l ^^^ crcL m = steps (8 * l.length) (leN l ^^^ leN m) := by
  unfold crcL
  rw [crcFrom_num l hl, crcFrom_num m hm, ← he, steps_xor, steps_xor, steps_xor]
  generalize steps (8 * l.length) ones = a
  generalize steps (8 * l.length) (leN l) = b
  generalize steps (8 * l.length) (leN m) = c
  apply Nat.eq_of_testBit_eq
  intro i
  simp only [Nat.testBit_xor]
  cases a.testBit i <;> cases b.testBit i <;> cases c.testBit i <;> cases ones.testBit i <;> rfl

/-- P2.4: where up to 32 neighbouring bits are other ones the checksum is another one. -/
theorem crc_turned (l m : List Int) (hl : ∀ x ∈ l, 0 ≤ x ∧ x < 256) (hm : ∀ x ∈ m, 0 ≤ x ∧ x < 256) (he : l.length = m.length) (at_ u : Nat) (hat : at_ ≤ 8 * l.length) (hu : u < 4294967296) (h : leN m = leN l ^^^ (u * 2 ^ at_)) : crcL l = crcL m ↔ u = 0 := by
  have e : leN l ^^^ leN m = u * 2 ^ at_ := by rw [h, ← Nat.xor_assoc, Nat.xor_self, Nat.zero_xor]
  have x := crcL_xor l m hl hm he
  rw [e, show 8 * l.length = at_ + (8 * l.length - at_) from by omega, steps_add, steps_shift] at x
  constructor
  · intro hc
    by_cases h0 : u = 0
    · exact h0
    · exfalso
      rw [hc, Nat.xor_self] at x
      exact steps_ne _ hu h0 x.symm
  · intro h0
    rw [h0, steps_zero] at x
    exact xor_eq_zero x

theorem leN_cons (x : Int) (r : List Int) (h : 0 ≤ x ∧ x < 256) : leN (x :: r) = x.toNat ^^^ (leN r * 256) := by
  rw [leN, add_eq_xor _ _ (by omega)]

theorem xor_mul256 (a b : Nat) : (a ^^^ b) * 256 = (a * 256) ^^^ (b * 256) := by
  have e : ∀ n : Nat, n * 256 = n <<< 8 := fun n => by rw [Nat.shiftLeft_eq]
  rw [e, e, e]
  apply Nat.eq_of_testBit_eq
  intro i
  simp only [Nat.testBit_xor, Nat.testBit_shiftLeft]
  by_cases h : 8 ≤ i <;> simp [h]

/-- One bit of one byte is turned. -/
theorem leN_turn (l : List Int) (hr : ∀ x ∈ l, 0 ≤ x ∧ x < 256) (j b : Nat) (hj : j < l.length) (hb : b < 8) :
    leN (l.set j (((l.getD j 0).toNat ^^^ 2 ^ b : Nat) : Int)) = leN l ^^^ 2 ^ (8 * j + b) := by
  have hpb : 2 ^ b < 256 := Nat.lt_of_le_of_lt (Nat.pow_le_pow_right (by decide) (show b ≤ 7 by omega)) (by decide)
  induction l generalizing j with
  | nil => simp at hj
  | cons x r ih =>
    have hx := hr x (by simp)
    have hr' : ∀ y ∈ r, 0 ≤ y ∧ y < 256 := fun y hy => hr y (by simp [hy])
    cases j with
    | zero =>
      have hlt : x.toNat ^^^ 2 ^ b < 256 := Nat.xor_lt_two_pow (n := 8) (by omega) hpb
      simp only [List.set_cons_zero, List.getD_cons_zero, Nat.mul_zero, Nat.zero_add]
      rw [leN_cons _ _ (by omega), leN_cons _ _ hx, Int.toNat_natCast, Nat.xor_assoc, Nat.xor_assoc, Nat.xor_comm (2 ^ b)]
    | succ j =>
      simp only [List.set_cons_succ, List.getD_cons_succ]
      rw [leN_cons _ _ hx, leN_cons _ _ hx, ih hr' j (by simpa using hj), xor_mul256, ← Nat.xor_assoc]
      congr 1
      rw [show 8 * (j + 1) + b = 8 * j + b + 8 from by omega, Nat.pow_add _ _ 8]

/-- P2.2: a text behind another one. -/
theorem crc_join (l m : List Int) (hm : ∀ x ∈ m, 0 ≤ x ∧ x < 256) : crcL (l ++ m) = steps (8 * m.length) (crcL l) ^^^ crcL m := by
  unfold crcL
  rw [crcFrom_append, crcFrom_num m hm, crcFrom_num m hm, steps_xor, steps_xor, steps_xor]
  generalize steps (8 * m.length) ones = a
  generalize steps (8 * m.length) (leN m) = b
  generalize steps (8 * m.length) (crcFrom ones l) = c
  apply Nat.eq_of_testBit_eq
  intro i
  simp only [Nat.testBit_xor]
  cases a.testBit i <;> cases b.testBit i <;> cases c.testBit i <;> cases ones.testBit i <;> rfl

/-- What stands below bit k, and what stands from it on. -/
theorem split_xor (k c : Nat) : (c % 2 ^ k) ^^^ (c / 2 ^ k * 2 ^ k) = c := by
  have e : c / 2 ^ k * 2 ^ k = (c >>> k) <<< k := by rw [Nat.shiftLeft_eq, Nat.shiftRight_eq_div_pow]
  rw [e]
  apply Nat.eq_of_testBit_eq
  intro i
  simp only [Nat.testBit_xor, Nat.testBit_mod_two_pow, Nat.testBit_shiftLeft, Nat.testBit_shiftRight]
  by_cases h : i < k
  · have h2 : ¬ k ≤ i := by omega
    simp [h, h2]
  · have h1 : k ≤ i := by omega
    have : k + (i - k) = i := by omega
    simp [h, h1, this]

/-- What the four lowest bits leave behind. -/
def nib : Nat → Nat
  | 0 => 0x00000000 | 1 => 0x1DB71064 | 2 => 0x3B6E20C8 | 3 => 0x26D930AC
  | 4 => 0x76DC4190 | 5 => 0x6B6B51F4 | 6 => 0x4DB26158 | 7 => 0x5005713C
  | 8 => 0xEDB88320 | 9 => 0xF00F9344 | 10 => 0xD6D6A3E8 | 11 => 0xCB61B38C
  | 12 => 0x9B64C2B0 | 13 => 0x86D3D2D4 | 14 => 0xA00AE278 | 15 => 0xBDBDF21C
  | _ => 0

theorem nib_steps (c : Nat) (h : c < 16) : steps 4 c = nib c := by
  have : c = 0 ∨ c = 1 ∨ c = 2 ∨ c = 3 ∨ c = 4 ∨ c = 5 ∨ c = 6 ∨ c = 7 ∨ c = 8 ∨ c = 9 ∨ c = 10 ∨ c = 11 ∨ c = 12 ∨ c = 13 ∨ c = 14 ∨ c = 15 := by omega
  rcases this with h | h | h | h | h | h | h | h | h | h | h | h | h | h | h | h <;> subst h <;> decide +kernel

theorem steps4 (c : Nat) : steps 4 c = (c / 16) ^^^ nib (c % 16) := by
  have e := split_xor 4 c
  have h16 : (2 : Nat) ^ 4 = 16 := rfl
  rw [h16] at e
  have : steps 4 c = steps 4 ((c % 16) ^^^ (c / 16 * 16)) := by rw [e]
  rw [this, steps_xor, nib_steps _ (Nat.mod_lt _ (by decide)), Nat.xor_comm]
  congr 1
  exact steps_shift 4 _

theorem steps8 (c : Nat) : steps 8 c = (steps 4 c / 16) ^^^ nib (steps 4 c % 16) := by
  rw [show (8 : Nat) = 4 + 4 from rfl, steps_add, steps4 (steps 4 c)]

/-- A register behind a linear change of which column i is m i: its first n bits. -/
def timesL (m : Nat → Nat) (c : Nat) : Nat → Nat
  | 0 => 0
  | n + 1 => if c / 2 ^ n % 2 = 1 then timesL m c n ^^^ m n else timesL m c n

theorem timesL_steps (k c : Nat) (n : Nat) : timesL (fun i => steps k (2 ^ i)) c n = steps k (c % 2 ^ n) := by
  induction n with
  | zero => simp [timesL, steps_zero, Nat.mod_one]
  | succ n ih =>
    rw [timesL, ih]
    have e := split_xor n (c % 2 ^ (n + 1))
    have e1 : c % 2 ^ (n + 1) % 2 ^ n = c % 2 ^ n := Nat.mod_mod_of_dvd _ ⟨2, by rw [Nat.pow_succ]⟩
    have e2 : c % 2 ^ (n + 1) / 2 ^ n = c / 2 ^ n % 2 := by rw [Nat.pow_succ, Nat.mod_mul_right_div_self]
    rw [e1, e2] at e
    rw [← e, steps_xor]
    split
    · rename_i h
      rw [h, Nat.one_mul]
    · rename_i h
      rw [show c / 2 ^ n % 2 = 0 from by omega, Nat.zero_mul, steps_zero, Nat.xor_zero]

theorem timesL_congr (m m' : Nat → Nat) (c n : Nat) (h : ∀ i, i < n → m i = m' i) : timesL m c n = timesL m' c n := by
  induction n with
  | zero => rfl
  | succ n ih => rw [timesL, timesL, ih (fun i hi => h i (by omega)), h n (by omega)]

theorem timesL_all (k c : Nat) (hc : c < 4294967296) (m : Nat → Nat) (h : ∀ i, i < 32 → m i = steps k (2 ^ i)) : timesL m c 32 = steps k c := by
  rw [timesL_congr m (fun i => steps k (2 ^ i)) c 32 h, timesL_steps, Nat.mod_eq_of_lt (by simpa using hc)]

/-- One bit back. -/
def unstep (r : Nat) : Nat := if r / 2147483648 = 1 then (r ^^^ poly) * 2 + 1 else r * 2

theorem xor_poly_lt (r : Nat) (_h : r < 4294967296) (h1 : r / 2147483648 = 1) : (r ^^^ poly) < 2147483648 := by
  have h31 : (r ^^^ poly) / 2147483648 = 0 := by
    have e : ∀ x : Nat, x / 2147483648 = x >>> 31 := fun x => by rw [Nat.shiftRight_eq_div_pow]
    rw [e, Nat.shiftRight_xor_distrib, ← e, ← e, h1]
    rfl
  omega

theorem unstep_lt (r : Nat) (h : r < 4294967296) : unstep r < 4294967296 := by
  unfold unstep
  split
  · rename_i h1
    have := xor_poly_lt r h h1
    omega
  · omega

theorem step_unstep (r : Nat) (_h : r < 4294967296) : stepBit (unstep r) = r := by
  unfold unstep
  split
  · rename_i h1
    rw [stepBit, if_pos (by omega), show ((r ^^^ poly) * 2 + 1) / 2 = r ^^^ poly from by omega, Nat.xor_assoc, Nat.xor_self, Nat.xor_zero]
  · rw [stepBit, if_neg (by omega)]
    omega

/-- k bits back. -/
def unsteps : Nat → Nat → Nat
  | 0, r => r
  | k + 1, r => unstep (unsteps k r)

theorem unsteps_lt (k r : Nat) (h : r < 4294967296) : unsteps k r < 4294967296 := by
  induction k with
  | zero => exact h
  | succ k ih => exact unstep_lt _ ih

theorem steps_unsteps (k r : Nat) (h : r < 4294967296) : steps k (unsteps k r) = r := by
  induction k with
  | zero => rfl
  | succ k ih => rw [steps, unsteps, step_unstep _ (unsteps_lt k r h), ih]

/-- The four bytes of a word, the lowest one first. -/
def le4 (x : Nat) : List Int := [((x % 256 : Nat) : Int), ((x / 256 % 256 : Nat) : Int), ((x / 65536 % 256 : Nat) : Int), ((x / 16777216 % 256 : Nat) : Int)]

theorem le4_rng (x : Nat) : ∀ y ∈ le4 x, 0 ≤ y ∧ y < 256 := by
  intro y hy
  simp only [le4, List.mem_cons, List.not_mem_nil, or_false] at hy
  rcases hy with h | h | h | h <;> subst h <;> omega

theorem leN_le4 (x : Nat) (h : x < 4294967296) : leN (le4 x) = x := by
  simp only [le4, leN, Int.toNat_natCast]
  omega

/-- P2.3: the four bytes that make the register what it was wanted to be. -/
theorem crc_patched (l : List Int) (hl : ∀ x ∈ l, 0 ≤ x ∧ x < 256) (want : Nat) (hw : want < 4294967296) :
    crcL (l ++ le4 ((crcL l ^^^ ones) ^^^ unsteps 32 (want ^^^ ones))) = want := by
  have hx : want ^^^ ones < 4294967296 := Nat.xor_lt_two_pow (n := 32) hw (by decide)
  have hu := unsteps_lt 32 _ hx
  have hc : crcL l ^^^ ones = crcFrom ones l := by unfold crcL; rw [Nat.xor_assoc, Nat.xor_self, Nat.xor_zero]
  rw [hc]
  have hlt := crcFrom_lt l hl ones (by decide)
  have hp : crcFrom ones l ^^^ unsteps 32 (want ^^^ ones) < 4294967296 := Nat.xor_lt_two_pow (n := 32) hlt hu
  unfold crcL
  rw [crcFrom_append, crcFrom_num _ (le4_rng _), leN_le4 _ hp, ← Nat.xor_assoc, Nat.xor_self, Nat.zero_xor]
  rw [show 8 * (le4 (crcFrom ones l ^^^ unsteps 32 (want ^^^ ones))).length = 32 from rfl, steps_unsteps _ _ hx, Nat.xor_assoc, Nat.xor_self, Nat.xor_zero]

theorem crcL_nil : crcL [] = 0 := by decide +kernel
theorem crcL_awake : crcL [49, 50, 51, 52, 53, 54, 55, 56, 57] = 3421780262 := by decide +kernel

end Go.Proofs.Ytfldcddbmikfiaa

/- crc.shiftByte and trothref02.Step shift a register by eight bits, crc.unshift back by 32; nothing is turned. The table reads as its text lays it. -/
namespace Go.Proofs.Ytfldcddbmikfiaa
open Go.RowKit

/-- What a call answers; nothing is turned. -/
def Same32 (x : Int) (w : World) (e : Ending) (w' : World) : Prop := e = .returned (.int .u32 x) ∧ w = w'

theorem xor32 (a b : Nat) (ha : a < 4294967296) (hb : b < 4294967296) : bits .xor .u32 (a : Int) (b : Int) = ((a ^^^ b : Nat) : Int) := u32_xor_nat a b ha hb

theorem and15 (c : Nat) (hc : c < 4294967296) : bits .and .u32 (c : Int) 15 = ((c % 16 : Nat) : Int) := by
  have := u32_and_nat c 15 hc (by omega)
  rw [show ((15 : Nat) : Int) = 15 from rfl] at this
  rw [this]
  congr 1
  exact Nat.and_two_pow_sub_one_eq_mod c 4

theorem nib_lt (m : Nat) (h : m < 16) : nib m < 4294967296 := by
  rw [← nib_steps m h]
  exact steps_lt 4 (by omega)

theorem stepBit_odd (c r : Nat) (hc : c < 4294967296) (h : c % 2 = 1) (hr : stepBit c = r) : bits .xor .u32 ((c / 2 : Nat) : Int) 3988292384 = (r : Int) := by
  rw [stepBit, if_pos h] at hr
  have := xor32 (c / 2) poly (by omega) (by decide)
  rw [hr] at this
  exact this

theorem stepBit_even (c r : Nat) (h : ¬ c % 2 = 1) (hr : stepBit c = r) : c / 2 = r := by rwa [stepBit, if_neg h] at hr

theorem bit_of (c i : Nat) (hc : c < 4294967296) : bits .and .u32 ((c : Int) / 2 ^ i) 1 = ((c / 2 ^ i % 2 : Nat) : Int) := by
  have e : (c : Int) / 2 ^ i = ((c / 2 ^ i : Nat) : Int) := by simp
  rw [e]
  have hlt : c / 2 ^ i < 4294967296 := Nat.lt_of_le_of_lt (Nat.div_le_self _ _) hc
  have := u32_and_nat (c / 2 ^ i) 1 hlt (by omega)
  rw [show ((1 : Nat) : Int) = 1 from rfl] at this
  rw [this, Nat.and_one_is_mod]
end Go.Proofs.Ytfldcddbmikfiaa

/- crc.Sum and trothref02.Sum answer the checksum of what a slice reads as; nothing is turned. -/
namespace Go.Proofs.Ytfldcddbmikfiaa
open Go.RowKit

theorem crc_next (l : List Int) (k : Nat) (hk : k < l.length) (x : Nat) (hx : l.getD k 0 = (x : Int)) : crcFrom ones (l.take (k + 1)) = steps 8 (crcFrom ones (l.take k) ^^^ x) := by
  rw [List.take_succ_eq_append_getElem hk, crcFrom_snoc, stepByte]
  simp [List.getD, List.getElem?_eq_getElem hk] at hx
  rw [hx, Int.toNat_natCast]

theorem not32 (v : Nat) (h : v < 4294967296) : bits .xor .u32 (v : Int) 4294967295 = ((v ^^^ ones : Nat) : Int) := by
  have := xor32 v 4294967295 h (by omega)
  exact this

theorem not_u32 (v : Nat) (h : v < 4294967296) : bits .xor .u32 IntKind.u32.max (v : Int) = ((v ^^^ ones : Nat) : Int) := by
  have := xor32 4294967295 v (by omega) h
  rw [Nat.xor_comm] at this
  exact this

theorem ret32 {a b : Int} (h : a = b) : Ending.returned (.int .u32 a) = .returned (.int .u32 b) := by rw [h]

end Go.Proofs.Ytfldcddbmikfiaa

/- bytes.Clone of any slice, bytes.Equal, the writer's Bytes, and the four bytes of a checksum. -/
namespace Go.Proofs.Ytfldcddbmikfiaa
open Go.RowKit

theorem cloneNil (c : Nat) (l : List Int) (w : World) (h : Byt w none 0 c l) : Calls Try.prog 50 #[.slice none 0 0] w (RetOwn l w) := by
  have e : l = [] := List.eq_nil_of_length_eq_zero h.len
  subst e
  have q := fun w : World => Lib.run_eql_slice_nil (P := Try.prog) w 33 5 none 0 0 0 0 Try.underlying33
  clear h
  go_enter Try.func50, Try.ntmps50
  go_wp2_with fail
  go_ret
  exact ⟨none, 0, 0, rfl, World.ownsRow_nil _ _ _ _, by simp, Below.refl _ _⟩

/-- bytes.Clone, nil or not. -/
theorem clone_all_own (A : Option Addr) (n c : Nat) (l : List Int) (w : World) (h : Byt w A n c l) (hn : n ≤ 140737488355328) :
    Calls Try.prog 50 #[.slice A n c] w (RetOwn l w) := by
  cases A with
  | none =>
    obtain ⟨rfl, rfl⟩ := h.nil_ rfl
    exact cloneNil 0 l w h
  | some a => exact clone_own a n c l w h hn

theorem clone_all (A : Option Addr) (n c : Nat) (l : List Int) (w : World) (h : Byt w A n c l) (hn : n ≤ 140737488355328) :
    Calls Try.prog 50 #[.slice A n c] w (RetByt l w) := (clone_all_own A n c l w h hn).mono fun _ _ h => h.byt

set_option maxHeartbeats 1000000 in
theorem wBytes_own (base b : Nat) (l : List Int) (w : World) (h : Wrt w base b l) (hl : l.length ≤ 140737488355328) :
    Calls Try.prog 47 #[.pointer (some ⟨b, 0, none⟩)] w (RetOwn l w) := by
  obtain ⟨A, n, c, hb, ho⟩ := h.ex
  have hn : l.length = n := by simpa using ho.1
  have hcell : w.cell? ⟨b, 0, none⟩ = some (.slice A n c) := hb.cell 0
  have C := Lib.hid (clone_all_own A n c l w (Byt.of_own ho h.rng) (by omega))
  clear h hb ho hn
  go_enter Try.func47, Try.ntmps47
  go_wp2_with fail
  refine C.out.mono ?_
  rintro e w1 ⟨A1, n1, c1, rfl, R⟩
  have R := Lib.hid R
  go_wp2_with fail
  go_ret
  exact ⟨A1, n1, c1, rfl, R.out⟩

theorem wBytes_any (base b : Nat) (l : List Int) (w : World) (h : Wrt w base b l) (hl : l.length ≤ 140737488355328) :
    Calls Try.prog 47 #[.pointer (some ⟨b, 0, none⟩)] w (RetByt l w) := (wBytes_own base b l w h hl).mono fun _ _ h => h.byt

/-- The four bytes of a checksum. -/
def sumL (l : List Int) : List Int := le4 (crcL l)
theorem sumL_rng (l : List Int) : ∀ x ∈ sumL l, 0 ≤ x ∧ x < 256 := le4_rng _
theorem sumL_len (l : List Int) : (sumL l).length = 4 := rfl

/-- What is gathered of a sum: i bytes, the rest is z. -/
structure SumRel (w : World) (x i z : Nat) (A : Option Addr) (k c : Nat) (acc : List Int) (wr : World) : Prop where
  own : wr.ownsRow w.heap.size 5 1 (.slice A k c) k (acc.map (Value.int .u8))
  rng : ∀ y ∈ acc, 0 ≤ y ∧ y < 256
  len : k = i
  num : z = x / 256 ^ i
  all : acc = (le4 x).take i
  bel : Below w.heap.size w wr

theorem le4_next (x i : Nat) (h : i < 4) : (le4 x).take (i + 1) = (le4 x).take i ++ [((x / 256 ^ i : Nat) : Int) % 256] := by
  have : i = 0 ∨ i = 1 ∨ i = 2 ∨ i = 3 := by omega
  rcases this with h | h | h | h <;> subst h <;> simp [le4]

theorem SumRel.step {w : World} {x i z : Nat} {A A' : Option Addr} {k c c' k' : Nat} {acc : List Int} {wr w' : World} (h : SumRel w x i z A k c acc wr) (hi : i < 4)
    (h1 : w'.ownsRow w.heap.size 5 1 (.slice A' k' c') k' (acc.map (Value.int .u8) ++ [(z : Int) % 256].map (Value.int .u8))) (hk : k' = k + 1)
    (h2 : (wr.alloc (.cells #[.int .u8 ((z : Int) % 256)] 5)).grownBy w' (Value.ownBlock (.slice A k c))) :
    SumRel w x (i + 1) (z / 256) A' k' c' (acc ++ [(z : Int) % 256]) w' := by
  rw [← List.map_append] at h1
  refine ⟨h1, fun y hy => ?_, by rw [hk, h.len], by rw [h.num, Nat.pow_succ, Nat.div_div_eq_div_mul], by rw [le4_next x i hi, ← h.num, ← h.all], (h.bel.alloc h.bel.size _).grown h2 (by have := h.bel.size; simp; omega) (fun j hj => (h.own.lt j hj).1)⟩
  rcases List.mem_append.1 hy with h3 | h3
  · exact h.rng y h3
  · simp at h3; subst h3; omega

end Go.Proofs.Ytfldcddbmikfiaa

/- seal.Open answers the body at the beginning of bytes, how many bytes it has with its sum, or the first error. -/
namespace Go.Proofs.Ytfldcddbmikfiaa
open Go.RowKit

theorem textF_ok {l : List Int} (hr : ∀ x ∈ l, 0 ≤ x ∧ x < 256) {most : Int} (h : (textF l most).2.2 = 0) :
    (textF l most).2.1 ≤ l.length ∧ l.take (textF l most).2.1 = textL (textF l most).1 ∧ ((textF l most).1.length : Int) ≤ most := by
  unfold textF at h ⊢
  split at h
  · rename_i h0; exact absurd h h0
  · rename_i h0
    split at h
    · simp at h
    · rename_i h1
      rw [if_neg h0, if_neg h1]
      obtain ⟨hx, hk, hs⟩ := numF_ok hr (l := l) (most := most) (by omega)
      have hl : ((l.drop (numF l most).2.1).take (numF l most).1).length = (numF l most).1 := by rw [List.length_take, List.length_drop]; omega
      refine ⟨by simp only; omega, ?_, by simp only; rw [hl]; exact hx⟩
      simp only
      unfold textL
      rw [hl, hs, List.take_add]

/-- What Open answers. -/
def openF (l : List Int) : List Int × Nat × Nat :=
  if (textF l 4096).2.2 ≠ 0 then ([], 0, (textF l 4096).2.2) else if l.length - (textF l 4096).2.1 < 4 then ([], 0, 10) else
    if (l.drop (textF l 4096).2.1).take 4 = sumL (l.take (textF l 4096).2.1) then ((textF l 4096).1, (textF l 4096).2.1 + 4, 0) else ([], 0, 30)

theorem triple {α β γ : Type} {a a' : α} {b b' : β} {c c' : γ} (h : (a, b, c) = (a', b', c')) : a = a' ∧ b = b' ∧ c = c' := by
  injection h with e1 e2
  injection e2 with e2 e3
  exact ⟨e1, e2, e3⟩

/-- A row of the call's own, a number and an error. -/
def Ret3O (l : List Int) (u e0 : Nat) (w : World) (e : Ending) (w' : World) : Prop :=
  ∃ A n c, e = .returned (.tuple #[.slice A n c, .int .i64 u, .int .i64 e0]) ∧ w'.ownsRow w.heap.size 5 1 (.slice A n c) n (l.map (Value.int .u8)) ∧ (∀ x ∈ l, 0 ≤ x ∧ x < 256) ∧ Below w.heap.size w w'

theorem Ret3O.nil {w w' : World} (u e0 : Nat) (hb : Below w.heap.size w w') : Ret3O [] u e0 w (.returned (.tuple #[.slice none 0 0, .int .i64 u, .int .i64 e0])) w' := ⟨none, 0, 0, rfl, World.ownsRow_nil _ _ _ _, by simp, hb⟩

theorem own_base {w : World} {b b' n : Nat} {v : Value} {xs : List Value} (h : w.ownsRow b 5 1 v n xs) (hb : b' ≤ b) : w.ownsRow b' 5 1 v n xs := by
  refine ⟨h.1, ?_⟩
  rcases h.2 with h | ⟨g, cap, cur, h1, h2, h3⟩
  · exact .inl h
  · exact .inr ⟨g, cap, cur, h1, Nat.le_trans hb h2, h3⟩

end Go.Proofs.Ytfldcddbmikfiaa
