/- What it says: a sealed body in which, or in whose sum, up to 32 neighbouring bits are turned is not opened. Plain; no program. -/
import Derived.Test.YtlnhillpghjknaaDoorSealAwake
namespace Go.Proofs.YtlnhillpghjknaaDoor
open Go.RowKit

theorem leN_inj : ∀ (l m : List Int), (∀ x ∈ l, 0 ≤ x ∧ x < 256) → (∀ x ∈ m, 0 ≤ x ∧ x < 256) → l.length = m.length → leN l = leN m → l = m
  | [], [], _, _, _, _ => rfl
  | [], _ :: _, _, _, h, _ => by simp at h
  | _ :: _, [], _, _, h, _ => by simp at h
  | x :: r, y :: s, hl, hm, h, e => by
    simp only [leN] at e
    have hx := hl x (by simp)
    have hy := hm y (by simp)
    have exy : x = y := by omega
    have ers : leN r = leN s := by omega
    rw [exy, leN_inj r s (fun z hz => hl z (by simp [hz])) (fun z hz => hm z (by simp [hz])) (by simpa using h) ers]

theorem leN_drop : ∀ (k : Nat) (l : List Int), (∀ x ∈ l, 0 ≤ x ∧ x < 256) → leN (l.drop k) = leN l / 2 ^ (8 * k)
  | 0, l, _ => by simp
  | k + 1, [], _ => by simp [leN]
  | k + 1, x :: r, h => by
    have hx := h x (by simp)
    rw [List.drop_succ_cons, leN_drop k r (fun z hz => h z (by simp [hz]))]
    have e : 2 ^ (8 * (k + 1)) = 256 * 2 ^ (8 * k) := by rw [show 8 * (k + 1) = 8 + 8 * k from by omega, Nat.pow_add]
    rw [e, ← Nat.div_div_eq_div_mul]
    congr 1
    simp only [leN]
    omega

theorem leN_take : ∀ (k : Nat) (l : List Int), (∀ x ∈ l, 0 ≤ x ∧ x < 256) → leN (l.take k) = leN l % 2 ^ (8 * k)
  | 0, l, _ => by simp [leN, Nat.mod_one]
  | k + 1, [], _ => by simp [leN]
  | k + 1, x :: r, h => by
    have hx := h x (by simp)
    rw [List.take_succ_cons]
    have e : 2 ^ (8 * (k + 1)) = 256 * 2 ^ (8 * k) := by rw [show 8 * (k + 1) = 8 + 8 * k from by omega, Nat.pow_add]
    simp only [leN]
    rw [leN_take k r (fun z hz => h z (by simp [hz])), e, Nat.mod_mul, show (x.toNat + 256 * leN r) % 256 = x.toNat from by omega, show (x.toNat + 256 * leN r) / 256 = leN r from by omega]

theorem steps_high (k q u : Nat) (hq : q ≤ k) : steps k (u * 2 ^ q) = steps (k - q) u := by
  have : k = q + (k - q) := by omega
  rw [this, steps_add, steps_shift, Nat.add_sub_cancel_left]

/-- Bits that are turned don't vanish under so many shifts. -/
theorem steps_turn (k q u : Nat) (hu : u < 4294967296) (h0 : u ≠ 0) : steps k (u * 2 ^ q) ≠ 0 := by
  by_cases hq : q ≤ k
  · rw [steps_high k q u hq]
    exact steps_ne _ hu h0
  · have : u * 2 ^ q = (u * 2 ^ (q - k)) * 2 ^ k := by rw [Nat.mul_assoc, ← Nat.pow_add]; congr 2; omega
    rw [this, steps_shift]
    exact Nat.mul_ne_zero h0 (by simp)

theorem mul_xor (a b k : Nat) : (a ^^^ b) * 2 ^ k = (a * 2 ^ k) ^^^ (b * 2 ^ k) := by
  rw [← Nat.shiftLeft_eq, ← Nat.shiftLeft_eq, ← Nat.shiftLeft_eq, Nat.shiftLeft_xor_distrib]

theorem xor_cancel (a b : Nat) : (a ^^^ (a ^^^ b)) = b := by rw [← Nat.xor_assoc, Nat.xor_self, Nat.zero_xor]

/-- Two words of k bytes and a sum each, which differ by turned bits: the sum that should be there isn't. -/
theorem turn_seen (k : Nat) (x m : List Int) (hx : ∀ y ∈ x, 0 ≤ y ∧ y < 256) (hm : ∀ y ∈ m, 0 ≤ y ∧ y < 256) (lx : x.length = k + 4) (lm : m.length = k + 4) (hs : x.drop k = sumL (x.take k)) (q u : Nat) (hu : u < 4294967296) (h0 : u ≠ 0)
    (h : leN m = leN x ^^^ (u * 2 ^ q)) : (m.drop k).take 4 ≠ sumL (m.take k) := by
  intro e
  rw [List.take_of_length_le (by rw [List.length_drop]; omega)] at e
  have hX := leN_drop k x hx
  have hM := leN_drop k m hm
  have tX := leN_take k x hx
  have tM := leN_take k m hm
  have rX : ∀ y ∈ x.take k, 0 ≤ y ∧ y < 256 := fun y hy => hx y (List.mem_of_mem_take hy)
  have rM : ∀ y ∈ m.take k, 0 ≤ y ∧ y < 256 := fun y hy => hm y (List.mem_of_mem_take hy)
  rw [hs] at hX
  rw [e] at hM
  unfold sumL at hX hM
  rw [leN_le4 _ (crcL_lt _ rX)] at hX
  rw [leN_le4 _ (crcL_lt _ rM)] at hM
  have hxor := crcL_xor (x.take k) (m.take k) rX rM (by rw [List.length_take, List.length_take, lx, lm])
  rw [show (x.take k).length = k from by rw [List.length_take]; omega, tX, tM, hX, hM] at hxor
  have sX := split_xor (8 * k) (leN x)
  have sM := split_xor (8 * k) (leN m)
  have hD : leN x ^^^ leN m = u * 2 ^ q := by rw [h, xor_cancel]
  have hne := steps_turn (8 * k) q u hu h0
  rw [← hD, ← sX, ← sM] at hne
  apply hne
  have e1 : ((leN x % 2 ^ (8 * k)) ^^^ (leN x / 2 ^ (8 * k) * 2 ^ (8 * k))) ^^^ ((leN m % 2 ^ (8 * k)) ^^^ (leN m / 2 ^ (8 * k) * 2 ^ (8 * k))) = ((leN x % 2 ^ (8 * k)) ^^^ (leN m % 2 ^ (8 * k))) ^^^ ((leN x / 2 ^ (8 * k)) ^^^ (leN m / 2 ^ (8 * k))) * 2 ^ (8 * k) := by
    rw [mul_xor]
    simp only [Nat.xor_assoc]
    congr 1
    rw [← Nat.xor_assoc, ← Nat.xor_assoc (leN m % 2 ^ (8 * k)), Nat.xor_comm (leN x / 2 ^ (8 * k) * 2 ^ (8 * k))]
  rw [e1, steps_xor, steps_shift, ← hxor, Nat.xor_self]

/-- The bytes ahead of the turned ones are as they were. -/
theorem turn_head (h : Nat) (x m : List Int) (hx : ∀ y ∈ x, 0 ≤ y ∧ y < 256) (hm : ∀ y ∈ m, 0 ≤ y ∧ y < 256) (hl : x.length = m.length) (a u : Nat) (e : leN m = leN x ^^^ (u * 2 ^ (8 * h + a))) : m.take h = x.take h := by
  refine leN_inj _ _ (fun y hy => hm y (List.mem_of_mem_take hy)) (fun y hy => hx y (List.mem_of_mem_take hy)) (by simp [hl]) ?_
  rw [leN_take h m hm, leN_take h x hx, e, Nat.xor_mod_two_pow]
  have : u * 2 ^ (8 * h + a) % 2 ^ (8 * h) = 0 := by
    rw [Nat.pow_add, Nat.mul_left_comm]
    exact Nat.mul_mod_right _ _
  rw [this, Nat.xor_zero]

theorem open_turned (l m : List Int) (hl : l.length ≤ 4096) (hr : ∀ y ∈ l, 0 ≤ y ∧ y < 256) (hm : ∀ y ∈ m, 0 ≤ y ∧ y < 256) (he : m.length = (sealL l).length) (a u : Nat) (hu : u < 4294967296) (h0 : u ≠ 0)
    (e : leN m = leN (sealL l) ^^^ (u * 2 ^ (8 * (shortL l.length).length + a))) : openF m = ([], 0, 30) := by
  have hx := sealL_rng hr
  have hhead := turn_head (shortL l.length).length (sealL l) m hx hm he.symm a u e
  have ehead : (sealL l).take (shortL l.length).length = shortL l.length := by
    unfold sealL textL
    rw [List.append_assoc, List.take_append_of_le_length (Nat.le_refl _), List.take_of_length_le (Nat.le_refl _)]
  rw [ehead] at hhead
  have em : m = shortL l.length ++ m.drop (shortL l.length).length := by
    conv => lhs; rw [← List.take_append_drop (shortL l.length).length m, hhead]
  have hlen : (sealL l).length = (textL l).length + 4 := sealL_len l
  have htl : (textL l).length = (shortL l.length).length + l.length := by simp [textL]
  have eN := numF_short l.length (by omega) (m.drop (shortL l.length).length) 4096
  rw [if_neg (by omega), ← em] at eN
  have eT : textF m 4096 = ((m.drop (shortL l.length).length).take l.length, (textL l).length, 0) := by
    unfold textF
    rw [eN, if_neg (by simp), if_neg (by simp only; omega), htl]
  unfold openF
  rw [eT, if_neg (by simp), if_neg (by simp only; omega), if_neg]
  refine turn_seen (textL l).length (sealL l) m hx hm hlen (by omega) ?_ _ u hu h0 e
  unfold sealL
  rw [List.drop_left, List.take_left]

theorem unturned (l m : List Int) (hr : ∀ y ∈ l, 0 ≤ y ∧ y < 256) (hm : ∀ y ∈ m, 0 ≤ y ∧ y < 256) (he : m.length = l.length) (q : Nat) (e : leN m = leN l ^^^ (0 * 2 ^ q)) : m = l :=
  leN_inj _ _ hm hr he (by rw [e, Nat.zero_mul, Nat.xor_zero])
end Go.Proofs.YtlnhillpghjknaaDoor
