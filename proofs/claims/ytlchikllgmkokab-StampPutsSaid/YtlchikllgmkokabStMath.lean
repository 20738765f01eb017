/- What it says: stamped sectors in plain mathematics: the next stamp, a wrapped payload, what is opened. No program is named. -/
import Derived.Test.YtlchikllgmkokabDMath
namespace Go.Proofs.Ytlchikllgmkokab

/-- The stamp for a sector with these two ends. -/
def nextB (a b : Int) : Int := if a ≠ 1 ∧ b ≠ 1 then 1 else if a ≠ 2 ∧ b ≠ 2 then 2 else 3
theorem nextB_rng (a b : Int) : 1 ≤ nextB a b ∧ nextB a b ≤ 3 := by unfold nextB; split <;> (try split) <;> omega
theorem nextB_ne (a b : Int) : nextB a b ≠ a ∧ nextB a b ≠ b := by
  unfold nextB
  split
  · omega
  · split <;> omega
theorem nextB_one {a b : Int} (h : a ≠ 1 ∧ b ≠ 1) : nextB a b = 1 := by unfold nextB; rw [if_pos h]
theorem nextB_two {a b : Int} (h1 : a = 1 ∨ b = 1) (h : a ≠ 2 ∧ b ≠ 2) : nextB a b = 2 := by unfold nextB; rw [if_neg (by omega), if_pos h]
theorem nextB_three {a b : Int} (h1 : a = 1 ∨ b = 1) (h : a = 2 ∨ b = 2) : nextB a b = 3 := by unfold nextB; rw [if_neg (by omega), if_neg (by omega)]
def nextOf (l : List Int) : Int := nextB (l.getD 0 0) (l.getD 255 0)
theorem nextOf_rng (l : List Int) : 1 ≤ nextOf l ∧ nextOf l ≤ 3 := nextB_rng _ _

/-- A payload, noughts behind it. -/
def padL (p : List Int) : List Int := p ++ List.replicate (254 - p.length) 0
theorem padL_len {p : List Int} (h : p.length ≤ 254) : (padL p).length = 254 := by simp [padL]; omega
theorem padL_rng {p : List Int} (h : ∀ x ∈ p, 0 ≤ x ∧ x < 256) : ∀ x ∈ padL p, 0 ≤ x ∧ x < 256 := by
  intro x hx
  rcases List.mem_append.1 hx with q | q
  · exact h x q
  · obtain ⟨_, rfl⟩ := List.mem_replicate.1 q
    omega
theorem padL_full {p : List Int} (h : p.length = 254) : padL p = p := by simp [padL, h]

/-- A sector of a stamp and a payload. -/
def wrapL (m : Int) (p : List Int) : List Int := m :: (padL p ++ [m])
theorem wrapL_sec {m : Int} {p : List Int} (hm : 0 ≤ m ∧ m < 256) (hp : ∀ x ∈ p, 0 ≤ x ∧ x < 256) (h : p.length ≤ 254) : Sec (wrapL m p) := by
  refine ⟨by simp [wrapL, padL_len h], fun x hx => ?_⟩
  rcases List.mem_cons.1 hx with q | q
  · rw [q]; exact hm
  · rcases List.mem_append.1 q with q | q
    · exact padL_rng hp x q
    · simp at q; rw [q]; exact hm
theorem wrapL_first (m : Int) (p : List Int) : (wrapL m p).getD 0 0 = m := rfl
theorem wrapL_last {m : Int} {p : List Int} (h : p.length ≤ 254) : (wrapL m p).getD 255 0 = m := by
  have hl := padL_len h
  unfold wrapL
  rw [List.getD_eq_getElem?_getD, List.getElem?_cons_succ, List.getElem?_append_right (by omega), hl]
  rfl

/-- What lies between a sector's ends. -/
def bodyL (l : List Int) : List Int := (l.drop 1).take 254
theorem bodyL_len {l : List Int} (h : l.length = 256) : (bodyL l).length = 254 := by simp [bodyL, h]
theorem bodyL_rng {l : List Int} (h : ∀ x ∈ l, 0 ≤ x ∧ x < 256) : ∀ x ∈ bodyL l, 0 ≤ x ∧ x < 256 := fun x hx => h x (List.mem_of_mem_drop (List.mem_of_mem_take hx))
theorem bodyL_wrap {m : Int} {p : List Int} (h : p.length ≤ 254) : bodyL (wrapL m p) = padL p := by
  unfold bodyL wrapL
  rw [List.drop_succ_cons, List.drop_zero, List.take_append_of_le_length (by rw [padL_len h]; omega), List.take_of_length_le (by rw [padL_len h]; omega)]
theorem ends_eq {l : List Int} (h : l.length = 256) : l = l.getD 0 0 :: (bodyL l ++ [l.getD 255 0]) := by
  obtain ⟨x, r, rfl⟩ : ∃ x r, l = x :: r := by
    cases l with
    | nil => simp at h
    | cons x r => exact ⟨x, r, rfl⟩
  have hr : r.length = 255 := by simpa using h
  show x :: r = x :: _
  congr 1
  unfold bodyL
  rw [List.drop_succ_cons, List.drop_zero]
  have e : r.drop 254 = [(x :: r).getD 255 0] := by
    rw [List.getD_eq_getElem?_getD, List.getElem?_cons_succ, List.getElem?_eq_getElem (by omega), List.drop_eq_getElem_cons (by omega), List.drop_of_length_le (by omega)]
    rfl
  rw [← e, List.take_append_drop]
theorem wrap_body {l : List Int} (h : l.length = 256) (he : l.getD 0 0 = l.getD 255 0) : wrapL (l.getD 0 0) (bodyL l) = l := by
  unfold wrapL
  rw [padL_full (bodyL_len h)]
  have q := ends_eq h
  rw [← he] at q
  exact q.symm

/-- Is a sector right? -/
def rightL (l : List Int) : Prop := l.getD 0 0 = l.getD 255 0 ∧ 1 ≤ l.getD 0 0 ∧ l.getD 0 0 ≤ 3
instance (l : List Int) : Decidable (rightL l) := by unfold rightL; infer_instance
def openE (l : List Int) : Int := if l.length ≠ 256 then 12 else if rightL l then 0 else 50
def openB (l : List Int) : List Int := if openE l = 0 then bodyL l else []
theorem openE_len {l : List Int} (h : l.length ≠ 256) : openE l = 12 := by unfold openE; rw [if_pos h]
theorem openE_right {l : List Int} (h : l.length = 256) (hr : rightL l) : openE l = 0 := by unfold openE; rw [if_neg (by omega), if_pos hr]
theorem openE_torn {l : List Int} (h : l.length = 256) (hr : ¬ rightL l) : openE l = 50 := by unfold openE; rw [if_neg (by omega), if_neg hr]
theorem openB_right {l : List Int} (h : l.length = 256) (hr : rightL l) : openB l = bodyL l := by unfold openB; rw [if_pos (openE_right h hr)]
theorem openB_bad {l : List Int} (h : openE l ≠ 0) : openB l = [] := by unfold openB; rw [if_neg h]
theorem right_wrap {m : Int} {p : List Int} (hm : 1 ≤ m ∧ m ≤ 3) (h : p.length ≤ 254) : rightL (wrapL m p) := by
  unfold rightL
  rw [wrapL_first, wrapL_last h]
  exact ⟨rfl, hm.1, hm.2⟩

/-- What Wrap answers. -/
def wrapE (m : Int) (p : List Int) : Int := if m < 1 ∨ 3 < m then 1 else if 254 < p.length then 12 else 0
def wrapB (m : Int) (p : List Int) : List Int := if wrapE m p = 0 then wrapL m p else []
theorem wrapE_arg {m : Int} {p : List Int} (h : m < 1 ∨ 3 < m) : wrapE m p = 1 := by unfold wrapE; rw [if_pos h]
theorem wrapE_long {m : Int} {p : List Int} (h : ¬ (m < 1 ∨ 3 < m)) (hl : 254 < p.length) : wrapE m p = 12 := by unfold wrapE; rw [if_neg h, if_pos hl]
theorem wrapE_ok {m : Int} {p : List Int} (h : ¬ (m < 1 ∨ 3 < m)) (hl : ¬ 254 < p.length) : wrapE m p = 0 := by unfold wrapE; rw [if_neg h, if_neg hl]
theorem wrapB_ok {m : Int} {p : List Int} (h : ¬ (m < 1 ∨ 3 < m)) (hl : ¬ 254 < p.length) : wrapB m p = wrapL m p := by unfold wrapB; rw [if_pos (wrapE_ok h hl)]
theorem wrapB_bad {m : Int} {p : List Int} (h : wrapE m p ≠ 0) : wrapB m p = [] := by unfold wrapB; rw [if_neg h]

/-- What Next answers. -/
def nextE (l : List Int) : Int := if l.length ≠ 256 then 12 else 0
def nextV (l : List Int) : Int := if l.length ≠ 256 then 0 else nextOf l

/-- The first k bytes of a new sector, over one that had another stamp at both ends. -/
theorem torn_mix {m : Int} {p old : List Int} (hp : p.length ≤ 254) (ho : old.length = 256) (hm : m ≠ old.getD 255 0) (k : Nat) (h0 : 0 < k) (hk : k < 256) : ¬ rightL ((wrapL m p).take k ++ old.drop k) := by
  have hw : (wrapL m p).length = 256 := by simp [wrapL, padL_len hp]
  have h1 : ((wrapL m p).take k ++ old.drop k).getD 0 0 = m := by
    obtain ⟨j, rfl⟩ : ∃ j, k = j + 1 := ⟨k - 1, by omega⟩
    rfl
  have h2 : ((wrapL m p).take k ++ old.drop k).getD 255 0 = old.getD 255 0 := by
    have hl : ((wrapL m p).take k).length = k := by rw [List.length_take, hw]; omega
    rw [List.getD_eq_getElem?_getD, List.getD_eq_getElem?_getD, List.getElem?_append_right (by omega), List.getElem?_drop, hl]
    congr 2
    omega
  intro ⟨q, _⟩
  rw [h1, h2] at q
  exact hm q
end Go.Proofs.Ytlchikllgmkokab
