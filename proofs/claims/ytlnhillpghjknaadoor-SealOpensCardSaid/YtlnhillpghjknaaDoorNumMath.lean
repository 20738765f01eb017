/- What it says: plain mathematics of layer 1: digits to the base 128, what is read of them, big-endian bytes. No program is named; no condition. -/
import Derived.Below
namespace Go.Proofs.YtlnhillpghjknaaDoor

/-- The digits ahead of the last one, 128 added to each. -/
def hiD (n : Nat) : List Int := if _h : n = 0 then [] else hiD (n / 128) ++ [((n : Int) % 128) + 128]
termination_by n
decreasing_by omega

/-- The varint encoding. -/
def shortL (n : Nat) : List Int := hiD (n / 128) ++ [((n : Int) % 128)]

theorem hiD_zero : hiD 0 = [] := by rw [hiD]; simp
theorem hiD_pos {n : Nat} (h : n ≠ 0) : hiD n = hiD (n / 128) ++ [((n : Int) % 128) + 128] := by rw [hiD]; simp [h]

theorem hiD_rng (n : Nat) : ∀ x ∈ hiD n, 128 ≤ x ∧ x < 256 := by
  induction n using Nat.strongRecOn with
  | _ n ih =>
    intro x hx
    by_cases h : n = 0
    · rw [h, hiD_zero] at hx; simp at hx
    · rw [hiD_pos h, List.mem_append] at hx
      rcases hx with hx | hx
      · exact ih (n / 128) (by omega) x hx
      · simp at hx; omega

theorem shortL_rng (n : Nat) : ∀ x ∈ shortL n, 0 ≤ x ∧ x < 256 := by
  intro x hx
  unfold shortL at hx
  rw [List.mem_append] at hx
  rcases hx with hx | hx
  · have := hiD_rng _ x hx; omega
  · simp at hx; omega

theorem hiD_len (n k : Nat) (h : n < 128 ^ k) : (hiD n).length ≤ k := by
  induction k generalizing n with
  | zero => have : n = 0 := by simpa using h
            rw [this, hiD_zero]; simp
  | succ k ih =>
    by_cases h0 : n = 0
    · rw [h0, hiD_zero]; simp
    · rw [hiD_pos h0]
      have := ih (n / 128) (by rw [Nat.pow_succ] at h; omega)
      simp; omega

theorem shortL_len (n : Nat) (h : n < 18446744073709551616) : (shortL n).length ≤ 10 := by
  unfold shortL
  have := hiD_len (n / 128) 9 (by omega)
  simp; omega

theorem shortL_pos (n : Nat) : 0 < (shortL n).length := by unfold shortL; simp

theorem hiD_mono (a : Nat) : ∀ b, a ≤ b → (hiD a).length ≤ (hiD b).length := by
  induction a using Nat.strongRecOn with
  | _ a ih =>
    intro b hab
    by_cases h : a = 0
    · rw [h, hiD_zero]; simp
    · rw [hiD_pos h, hiD_pos (n := b) (by omega)]
      have := ih (a / 128) (by omega) (b / 128) (by omega)
      simp; omega

theorem shortL_mono {a b : Nat} (h : a ≤ b) : (shortL a).length ≤ (shortL b).length := by
  unfold shortL
  have := hiD_mono (a / 128) (b / 128) (by omega)
  simp; omega

theorem short300 : shortL 300 = [130, 44] := by
  unfold shortL
  rw [hiD_pos (by decide), show 300 / 128 / 128 = 0 from rfl, hiD_zero]
  rfl

/-- What is read at the beginning: the number, how many bytes it has, the error's number. n: what is gathered; i: how many bytes are gone through. -/
def takeF : List Int → Nat → Nat → Nat × Nat × Nat
  | [], _, _ => (0, 0, 10)
  | c :: r, n, i => if i = 0 ∧ c = 128 then (0, 0, 11) else if 144115188075855872 ≤ n then (0, 0, 12) else
      if c < 128 then (n * 128 + (c % 128).toNat, i + 1, 0) else takeF r (n * 128 + (c % 128).toNat) (i + 1)

theorem takeF_cons (c : Int) (r : List Int) (n i : Nat) : takeF (c :: r) n i = if i = 0 ∧ c = 128 then (0, 0, 11) else if 144115188075855872 ≤ n then (0, 0, 12) else
      if c < 128 then (n * 128 + (c % 128).toNat, i + 1, 0) else takeF r (n * 128 + (c % 128).toNat) (i + 1) := rfl

/-- The digits of a number are gone through, and what stands behind them is read on. -/
theorem takeF_hiD (m : Nat) (hm : m < 144115188075855872) (rest : List Int) (hd : m = 0 → True) : takeF (hiD m ++ rest) 0 0 = takeF rest m (hiD m).length := by
  induction m using Nat.strongRecOn generalizing rest with
  | _ m ih =>
    by_cases h : m = 0
    · rw [h, hiD_zero]; rfl
    · rw [hiD_pos h, List.append_assoc, ih (m / 128) (by omega) (by omega) _ (fun _ => trivial)]
      have hl : (hiD (m / 128)).length = 0 → m / 128 = 0 := by
        intro hl
        by_cases h0 : m / 128 = 0
        · exact h0
        · rw [hiD_pos h0] at hl; simp at hl
      rw [List.cons_append, List.nil_append, takeF_cons, if_neg (by intro ⟨h1, h2⟩; have := hl h1; omega), if_neg (by omega), if_neg (by omega)]
      have e : m / 128 * 128 + ((((m : Int) % 128) + 128) % 128).toNat = m := by omega
      rw [e, List.length_append]
      congr 1

theorem takeF_short (n : Nat) (hn : n < 18446744073709551616) (rest : List Int) : takeF (shortL n ++ rest) 0 0 = (n, (shortL n).length, 0) := by
  unfold shortL
  rw [List.append_assoc, takeF_hiD _ (by omega) _ (fun _ => trivial)]
  rw [List.cons_append, List.nil_append, takeF_cons, if_neg (by omega), if_neg (by omega), if_pos (by omega)]
  have e : n / 128 * 128 + (((n : Int) % 128) % 128).toNat = n := by omega
  rw [e, List.length_append]
  congr 1

theorem takeF_cut (m : Nat) (hm : m < 144115188075855872) (c : Nat) (hc : c ≤ (hiD m).length) : takeF ((hiD m).take c) 0 0 = (0, 0, 10) := by
  induction m using Nat.strongRecOn generalizing c with
  | _ m ih =>
    by_cases h : m = 0
    · rw [h, hiD_zero]; simp [takeF]
    · by_cases hc1 : c ≤ (hiD (m / 128)).length
      · rw [hiD_pos h, List.take_append_of_le_length hc1]
        exact ih (m / 128) (by omega) (by omega) c hc1
      · have hl : (hiD m).length = (hiD (m / 128)).length + 1 := by rw [hiD_pos h]; simp
        rw [List.take_of_length_le (by omega)]
        have := takeF_hiD m hm [] (fun _ => trivial)
        rw [List.append_nil] at this
        rw [this]; rfl

/-- No beginning of a number's digits is read. -/
theorem takeF_short_cut (n : Nat) (hn : n < 18446744073709551616) (c : Nat) (hc : c < (shortL n).length) : takeF ((shortL n).take c) 0 0 = (0, 0, 10) := by
  unfold shortL at hc ⊢
  simp at hc
  rw [List.take_append_of_le_length (by omega)]
  exact takeF_cut _ (by omega) c (by omega)

/-- What is read is below 2^64, and its digits are just the bytes gone through. -/
theorem takeF_back (l : List Int) (hr : ∀ x ∈ l, 0 ≤ x ∧ x < 256) (done : List Int) (n i : Nat) (hd : done = hiD n) (hi : i = done.length) :
    ∀ z k, takeF l n i = (z, k, 0) → z < 18446744073709551616 ∧ i < k ∧ k ≤ i + l.length ∧ shortL z = (done ++ l).take k := by
  induction l generalizing done n i with
  | nil => intro z k h; simp [takeF] at h
  | cons c r ih =>
    intro z k h
    have hc := hr c (by simp)
    have hr' : ∀ x ∈ r, 0 ≤ x ∧ x < 256 := fun x hx => hr x (by simp [hx])
    rw [takeF_cons] at h
    by_cases h1 : i = 0 ∧ c = 128
    · rw [if_pos h1] at h; simp at h
    rw [if_neg h1] at h
    by_cases h2 : 144115188075855872 ≤ n
    · rw [if_pos h2] at h; simp at h
    rw [if_neg h2] at h
    have hn0 : i = 0 → n = 0 := by
      intro h0
      by_cases hn : n = 0
      · exact hn
      · rw [hd, hiD_pos hn] at hi; simp at hi; omega
    by_cases h3 : c < 128
    · rw [if_pos h3] at h
      simp only [Prod.mk.injEq, and_true] at h
      obtain ⟨hz, hk⟩ := h
      subst hk
      have hz' : z / 128 = n := by omega
      have hzm : ((z : Int) % 128) = c := by omega
      refine ⟨by omega, by omega, by simp, ?_⟩
      unfold shortL
      rw [hz', hzm, ← hd]
      rw [List.take_append, List.take_of_length_le (by omega)]
      have : i + 1 - done.length = 1 := by omega
      rw [this]; simp
    · rw [if_neg h3] at h
      have hne : n * 128 + (c % 128).toNat ≠ 0 := by
        intro h0
        have hn0' : n = 0 := by omega
        have hc0 : c = 128 := by omega
        have : i = 0 := by rw [hi, hd, hn0', hiD_zero]; rfl
        exact h1 ⟨this, hc0⟩
      have hstep : done ++ [c] = hiD (n * 128 + (c % 128).toNat) := by
        rw [hiD_pos hne]
        have e1 : (n * 128 + (c % 128).toNat) / 128 = n := by omega
        have e2 : ((n * 128 + (c % 128).toNat : Nat) : Int) % 128 + 128 = c := by omega
        rw [e1, e2, hd]
      obtain ⟨a1, a2, a3, a4⟩ := ih hr' (done ++ [c]) _ (i + 1) hstep (by simp [hi]) z k h
      refine ⟨a1, by omega, by simp; omega, ?_⟩
      rw [a4]; simp

theorem takeF_read (l : List Int) (hr : ∀ x ∈ l, 0 ≤ x ∧ x < 256) (z k : Nat) (h : takeF l 0 0 = (z, k, 0)) : z < 18446744073709551616 ∧ k ≤ l.length ∧ shortL z = l.take k := by
  obtain ⟨h1, _, h3, h4⟩ := takeF_back l hr [] 0 0 (by rw [hiD_zero]) rfl z k h
  exact ⟨h1, by omega, by simpa using h4⟩

theorem takeF_err (l : List Int) (n i : Nat) : (takeF l n i).2.2 = 0 ∨ (takeF l n i).2.2 = 10 ∨ (takeF l n i).2.2 = 11 ∨ (takeF l n i).2.2 = 12 := by
  induction l generalizing n i with
  | nil => simp [takeF]
  | cons c r ih =>
    rw [takeF_cons]
    by_cases h1 : i = 0 ∧ c = 128
    · rw [if_pos h1]; simp
    rw [if_neg h1]
    by_cases h2 : 144115188075855872 ≤ n
    · rw [if_pos h2]; simp
    rw [if_neg h2]
    by_cases h3 : c < 128
    · rw [if_pos h3]; simp
    · rw [if_neg h3]; exact ih _ _

/-- The big-endian bytes of n, k of them. -/
def wideL : Nat → Nat → List Int
  | 0, _ => []
  | k + 1, n => wideL k (n / 256) ++ [((n : Int) % 256)]

theorem wideL_len (k n : Nat) : (wideL k n).length = k := by
  induction k generalizing n with
  | zero => rfl
  | succ k ih => simp [wideL, ih]

theorem wideL_rng (k n : Nat) : ∀ x ∈ wideL k n, 0 ≤ x ∧ x < 256 := by
  induction k generalizing n with
  | zero => simp [wideL]
  | succ k ih =>
    intro x hx
    rw [wideL, List.mem_append] at hx
    rcases hx with hx | hx
    · exact ih _ x hx
    · simp at hx; omega

theorem wideL_at (k n i : Nat) (h : i < k) : (wideL k n).getD (k - 1 - i) 0 = ((n / 256 ^ i : Nat) : Int) % 256 := by
  induction k generalizing n i with
  | zero => omega
  | succ k ih =>
    cases i with
    | zero => simp [wideL, wideL_len, List.getD]
    | succ i =>
      have hlt : k + 1 - 1 - (i + 1) < (wideL k (n / 256)).length := by rw [wideL_len]; omega
      rw [wideL, List.getD, List.getElem?_append_left hlt]
      have := ih (n / 256) i (by omega)
      rw [List.getD, show k - 1 - i = k + 1 - 1 - (i + 1) from by omega] at this
      rw [this, Nat.div_div_eq_div_mul, Nat.pow_succ, Nat.mul_comm 256]

/-- The number whose big-endian bytes these are. -/
def ofWide (l : List Int) : Nat := l.foldl (fun n c => n * 256 + c.toNat) 0

theorem ofWide_snoc (l : List Int) (c : Int) : ofWide (l ++ [c]) = ofWide l * 256 + c.toNat := by simp [ofWide]

theorem ofWide_wideL (k n : Nat) (h : n < 256 ^ k) : ofWide (wideL k n) = n := by
  induction k generalizing n with
  | zero => have : n = 0 := by simpa using h
            rw [this]; rfl
  | succ k ih =>
    rw [wideL, ofWide_snoc, ih (n / 256) (by rw [Nat.pow_succ] at h; omega)]
    omega

theorem snocRec {α : Type} {p : List α → Prop} (nil : p []) (snoc : ∀ l c, p l → p (l ++ [c])) (l : List α) : p l := by
  have : ∀ n (l : List α), l.length = n → p l := by
    intro n
    induction n with
    | zero => intro l h; rw [List.eq_nil_of_length_eq_zero h]; exact nil
    | succ n ih =>
      intro l h
      have hne : l ≠ [] := by intro e; rw [e] at h; simp at h
      rw [← List.dropLast_concat_getLast hne]
      exact snoc _ _ (ih _ (by simp [h]))
  exact this _ l rfl

theorem ofWide_lt (l : List Int) (hr : ∀ x ∈ l, 0 ≤ x ∧ x < 256) : ofWide l < 256 ^ l.length := by
  induction l using snocRec with
  | nil => simp [ofWide]
  | snoc l c ih =>
    have := ih (fun x hx => hr x (by simp [hx]))
    have hc := hr c (by simp)
    rw [ofWide_snoc, List.length_append, List.length_singleton, Nat.pow_succ]
    omega

/-- What bytes are folded to. -/
def foldL (l : List Int) (n : Nat) : Nat := l.foldl (fun v c => (v * 31 + c.toNat) % n) 0

theorem foldL_snoc (l : List Int) (c : Int) (n : Nat) : foldL (l ++ [c]) n = (foldL l n * 31 + c.toNat) % n := by simp [foldL]

theorem foldL_lt (l : List Int) (n : Nat) (h : 0 < n) : foldL l n < n := by
  induction l using snocRec with
  | nil => exact h
  | snoc l c _ => rw [foldL_snoc]; exact Nat.mod_lt _ h

theorem foldL_step (l : List Int) (n k : Nat) (h : k < l.length) : foldL (l.take (k + 1)) n = (foldL (l.take k) n * 31 + (l.getD k 0).toNat) % n := by
  rw [List.take_succ_eq_append_getElem h, foldL_snoc]
  simp [List.getD, List.getElem?_eq_getElem h]
end Go.Proofs.YtlnhillpghjknaaDoor
