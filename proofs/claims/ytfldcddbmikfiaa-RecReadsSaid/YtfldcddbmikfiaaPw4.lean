/- What it says: contracts and plain mathematics that the laws' walks use, 4 of 34: each part's own remark says what; no condition. -/
import Derived.Test.YtfldcddbmikfiaaPw3

set_option linter.unusedSimpArgs false
set_option linter.unusedVariables false
set_option linter.deprecated false
set_option linter.unusedSectionVars false
set_option linter.all false

/- readings that go one behind the other: each hands back what was written, and the rest; what is read has just the bytes that were read; no beginning of what was written is read. Put together of numbers, flags and texts. No program is named. -/
namespace Go.Proofs.Ytfldcddbmikfiaa
open Go.RowKit

/-- What is left, and the error. -/
abbrev Sg := List Int × Nat

structure Codec {α : Type} (p : Sg → α × Sg) (enc : α → List Int) (D : α → Prop) : Prop where
  stick : ∀ σ : Sg, σ.2 ≠ 0 → (p σ).2 = σ
  rng : ∀ σ : Sg, (∀ y ∈ σ.1, 0 ≤ y ∧ y < 256) → ∀ y ∈ (p σ).2.1, 0 ≤ y ∧ y < 256
  back : ∀ x r, D x → p (enc x ++ r, 0) = (x, (r, 0))
  exact : ∀ l, (∀ y ∈ l, 0 ≤ y ∧ y < 256) → (p (l, 0)).2.2 = 0 → l = enc (p (l, 0)).1 ++ (p (l, 0)).2.1 ∧ D (p (l, 0)).1
  cut : ∀ x k, D x → k < (enc x).length → (p ((enc x).take k, 0)).2.2 = 10

/-- One reading of seal's, as a step. -/
def pPrim {α : Type} (F : List Int → α × Nat × Nat) (z : α) (σ : Sg) : α × Sg :=
  (if σ.2 ≠ 0 then z else if (F σ.1).2.2 ≠ 0 then z else (F σ.1).1, (stepL σ.1 (F σ.1).2.1 σ.2 (F σ.1).2.2, stepE σ.2 (F σ.1).2.2))
section
variable {α β : Type}
theorem pPrim_stick (F : List Int → α × Nat × Nat) (z : α) (σ : Sg) (h : σ.2 ≠ 0) : (pPrim F z σ).2 = σ := by
  unfold pPrim stepL stepE
  simp only [if_pos h]
theorem pPrim_rng (F : List Int → α × Nat × Nat) (z : α) (σ : Sg) (h : ∀ y ∈ σ.1, 0 ≤ y ∧ y < 256) : ∀ y ∈ (pPrim F z σ).2.1, 0 ≤ y ∧ y < 256 := by
  show ∀ y ∈ stepL _ _ _ _, _
  unfold stepL
  split
  · exact h
  · split
    · exact h
    · exact fun y hy => h y (List.mem_of_mem_drop hy)
theorem pPrim_ok {F : List Int → α × Nat × Nat} {z : α} {l : List Int} (h : (F l).2.2 = 0) : pPrim F z (l, 0) = ((F l).1, (l.drop (F l).2.1, 0)) := by
  unfold pPrim stepL stepE
  simp [h]
theorem pPrim_err (F : List Int → α × Nat × Nat) (z : α) (l : List Int) : (pPrim F z (l, 0)).2.2 = (F l).2.2 := by
  show stepE 0 _ = _
  rfl
theorem Codec.prim {F : List Int → α × Nat × Nat} {z : α} {enc : α → List Int} {D : α → Prop} (hb : ∀ x r, D x → F (enc x ++ r) = (x, (enc x).length, 0))
    (he : ∀ l, (∀ y ∈ l, 0 ≤ y ∧ y < 256) → (F l).2.2 = 0 → l.take (F l).2.1 = enc (F l).1 ∧ D (F l).1) (hc : ∀ x k, D x → k < (enc x).length → (F ((enc x).take k)).2.2 = 10) : Codec (pPrim F z) enc D := by
  refine ⟨pPrim_stick F z, pPrim_rng F z, fun x r hx => ?_, fun l hl h => ?_, fun x k hx hk => ?_⟩
  · have e := hb x r hx
    rw [pPrim_ok (by rw [e]), e]
    simp
  · rw [pPrim_err] at h
    rw [pPrim_ok h]
    obtain ⟨h1, h2⟩ := he l hl h
    refine ⟨?_, h2⟩
    show l = enc (F l).1 ++ l.drop (F l).2.1
    rw [← h1, List.take_append_drop]
  · rw [pPrim_err]
    exact hc x k hx hk

/-- Nothing is read. -/
theorem Codec.pure (z : α) : Codec (fun σ => (z, σ)) (fun _ => []) (· = z) :=
  ⟨fun _ _ => rfl, fun _ h => h, fun x r hx => by subst hx; rfl, fun l _ _ => ⟨rfl, rfl⟩, fun _ k _ hk => absurd hk (by simp)⟩

/-- One behind the other; how the second is read may hang on the first. -/
def pBind (p : Sg → α × Sg) (q : α → Sg → β × Sg) (σ : Sg) : (α × β) × Sg := (((p σ).1, (q (p σ).1 (p σ).2).1), (q (p σ).1 (p σ).2).2)
theorem Codec.bind {p : Sg → α × Sg} {q : α → Sg → β × Sg} {ea : α → List Int} {eb : α → β → List Int} {DA : α → Prop} {DB : α → β → Prop} (hp : Codec p ea DA) (hq : ∀ a, Codec (q a) (eb a) (DB a)) :
    Codec (pBind p q) (fun x => ea x.1 ++ eb x.1 x.2) (fun x => DA x.1 ∧ DB x.1 x.2) := by
  refine ⟨fun σ h => ?_, fun σ h => ?_, fun x r hx => ?_, fun l hl h => ?_, fun x k hx hk => ?_⟩
  · show (q (p σ).1 (p σ).2).2 = σ
    rw [(hq _).stick _ (by rw [hp.stick σ h]; exact h), hp.stick σ h]
  · exact (hq _).rng _ (hp.rng σ h)
  · unfold pBind
    rw [List.append_assoc, hp.back _ _ hx.1]
    show ((x.1, (q x.1 (eb x.1 x.2 ++ r, 0)).1), (q x.1 (eb x.1 x.2 ++ r, 0)).2) = _
    rw [(hq x.1).back _ _ hx.2]
  · have h' : (q (p (l, 0)).1 (p (l, 0)).2).2.2 = 0 := h
    have h0 : (p (l, 0)).2.2 = 0 := by
      by_cases e : (p (l, 0)).2.2 = 0
      · exact e
      · rw [(hq _).stick _ e] at h'
        exact absurd h' e
    obtain ⟨a, ha⟩ : ∃ a, p (l, 0) = a := ⟨_, rfl⟩
    obtain ⟨h1, h2⟩ := hp.exact l hl h0
    have hr := hp.rng (l, 0) hl
    show l = (ea (p (l, 0)).1 ++ eb (p (l, 0)).1 (q (p (l, 0)).1 (p (l, 0)).2).1) ++ (q (p (l, 0)).1 (p (l, 0)).2).2.1 ∧ DA (p (l, 0)).1 ∧ DB (p (l, 0)).1 (q (p (l, 0)).1 (p (l, 0)).2).1
    rw [ha] at h0 h1 h2 hr h' ⊢
    obtain ⟨a1, a2, a3⟩ := a
    simp only at h0 h1 h2 hr h' ⊢
    subst h0
    obtain ⟨h3, h4⟩ := (hq a1).exact a2 hr h'
    refine ⟨?_, h2, h4⟩
    rw [List.append_assoc, ← h3]
    exact h1
  · by_cases hka : k < (ea x.1).length
    · have e : (ea x.1 ++ eb x.1 x.2).take k = (ea x.1).take k := by rw [List.take_append_of_le_length (by omega)]
      show (q (p ((ea x.1 ++ eb x.1 x.2).take k, 0)).1 (p ((ea x.1 ++ eb x.1 x.2).take k, 0)).2).2.2 = 10
      rw [e]
      have c := hp.cut x.1 k hx.1 hka
      rw [(hq _).stick _ (by rw [c]; simp), c]
    · have e : (ea x.1 ++ eb x.1 x.2).take k = ea x.1 ++ (eb x.1 x.2).take (k - (ea x.1).length) := by rw [List.take_append, List.take_of_length_le (by omega)]
      show (q (p ((ea x.1 ++ eb x.1 x.2).take k, 0)).1 (p ((ea x.1 ++ eb x.1 x.2).take k, 0)).2).2.2 = 10
      rw [e, hp.back _ _ hx.1]
      exact (hq x.1).cut x.2 _ hx.2 (by rw [List.length_append] at hk; omega)

/-- The same under other names. -/
theorem Codec.map {p : Sg → α × Sg} {ea : α → List Int} {DA : α → Prop} (hp : Codec p ea DA) (f : α → β) (g : β → α) (hfg : ∀ b, f (g b) = b) (hgf : ∀ a, g (f a) = a) :
    Codec (fun σ => (f (p σ).1, (p σ).2)) (fun b => ea (g b)) (fun b => DA (g b)) :=
  ⟨hp.stick, hp.rng, fun x r hx => by rw [hp.back _ _ hx, hfg], fun l hl h => by
    have := hp.exact l hl h
    simp only [hgf]
    exact this, fun x k hx hk => hp.cut _ k hx hk⟩

/-- n of them. -/
def pRep (p : Sg → α × Sg) (σ : Sg) : Nat → List α × Sg
  | 0 => ([], σ)
  | k + 1 => ((pRep p σ k).1 ++ [(p (pRep p σ k).2).1], (p (pRep p σ k).2).2)
theorem pRep_len (p : Sg → α × Sg) (σ : Sg) : ∀ k, (pRep p σ k).1.length = k
  | 0 => rfl
  | k + 1 => by show ((pRep p σ k).1 ++ [_]).length = _; rw [List.length_append, pRep_len p σ k]; rfl
theorem pRep_stick {p : Sg → α × Sg} {enc : α → List Int} {D : α → Prop} (hp : Codec p enc D) (σ : Sg) (h : σ.2 ≠ 0) : ∀ k, (pRep p σ k).2 = σ
  | 0 => rfl
  | k + 1 => by
    show (p (pRep p σ k).2).2 = σ
    rw [pRep_stick hp σ h k]
    exact hp.stick σ h
theorem pRep_rng {p : Sg → α × Sg} {enc : α → List Int} {D : α → Prop} (hp : Codec p enc D) (σ : Sg) (h : ∀ y ∈ σ.1, 0 ≤ y ∧ y < 256) : ∀ k, ∀ y ∈ (pRep p σ k).2.1, 0 ≤ y ∧ y < 256
  | 0 => h
  | k + 1 => hp.rng _ (pRep_rng hp σ h k)
theorem pRep_back {p : Sg → α × Sg} {enc : α → List Int} {D : α → Prop} (hp : Codec p enc D) (r : List Int) : ∀ (xs ys : List α), (∀ x ∈ xs, D x) → pRep p ((xs ++ ys).flatMap enc ++ r, 0) xs.length = (xs, (ys.flatMap enc ++ r, 0)) := by
  intro xs
  induction xs using snocRec with
  | nil => intro ys _; simp [pRep]
  | snoc xs x ih =>
    intro ys hD
    have h := ih (x :: ys) (fun y hy => hD y (List.mem_append_left _ hy))
    rw [List.length_append]
    show ((pRep p _ xs.length).1 ++ [(p (pRep p _ xs.length).2).1], (p (pRep p _ xs.length).2).2) = _
    rw [List.append_assoc]
    show ((pRep p ((xs ++ x :: ys).flatMap enc ++ r, 0) xs.length).1 ++ [_], _) = _
    have e : [x] ++ ys = x :: ys := rfl
    rw [e, h]
    simp only [List.flatMap_cons, List.append_assoc]
    rw [hp.back x _ (hD x (by simp))]
theorem pRep_exact {p : Sg → α × Sg} {enc : α → List Int} {D : α → Prop} (hp : Codec p enc D) (l : List Int) (hl : ∀ y ∈ l, 0 ≤ y ∧ y < 256) : ∀ k, (pRep p (l, 0) k).2.2 = 0 → l = (pRep p (l, 0) k).1.flatMap enc ++ (pRep p (l, 0) k).2.1 ∧ ∀ x ∈ (pRep p (l, 0) k).1, D x
  | 0, _ => by simp [pRep]
  | k + 1, h => by
    have h' : (p (pRep p (l, 0) k).2).2.2 = 0 := h
    have h0 : (pRep p (l, 0) k).2.2 = 0 := by
      by_cases e : (pRep p (l, 0) k).2.2 = 0
      · exact e
      · rw [hp.stick _ e] at h'
        exact absurd h' e
    obtain ⟨h1, h2⟩ := pRep_exact hp l hl k h0
    have hr := pRep_rng hp (l, 0) hl k
    show l = ((pRep p (l, 0) k).1 ++ [(p (pRep p (l, 0) k).2).1]).flatMap enc ++ (p (pRep p (l, 0) k).2).2.1 ∧ ∀ x ∈ (pRep p (l, 0) k).1 ++ [(p (pRep p (l, 0) k).2).1], D x
    obtain ⟨a, ha⟩ : ∃ a, pRep p (l, 0) k = a := ⟨_, rfl⟩
    rw [ha] at h0 h1 h2 hr h' ⊢
    obtain ⟨a1, a2, a3⟩ := a
    simp only at h0 h1 h2 hr h' ⊢
    subst h0
    obtain ⟨h3, h4⟩ := hp.exact a2 hr h'
    refine ⟨?_, fun x hx => ?_⟩
    · rw [List.flatMap_append, List.flatMap_singleton, List.append_assoc, ← h3]
      exact h1
    · rcases List.mem_append.1 hx with q | q
      · exact h2 x q
      · simp at q; rw [q]; exact h4
theorem pRep_cut {p : Sg → α × Sg} {enc : α → List Int} {D : α → Prop} (hp : Codec p enc D) : ∀ (xs : List α) (k : Nat), (∀ x ∈ xs, D x) → k < (xs.flatMap enc).length → (pRep p ((xs.flatMap enc).take k, 0) xs.length).2.2 = 10 := by
  intro xs
  induction xs using snocRec with
  | nil => intro k _ hk; simp at hk
  | snoc xs x ih =>
    intro k hD hk
    have hD1 : ∀ y ∈ xs, D y := fun y hy => hD y (List.mem_append_left _ hy)
    rw [List.length_append]
    show (p (pRep p _ xs.length).2).2.2 = 10
    have e0 : (xs ++ [x]).flatMap enc = xs.flatMap enc ++ enc x := by rw [List.flatMap_append, List.flatMap_singleton]
    rw [e0] at hk ⊢
    by_cases hka : k < (xs.flatMap enc).length
    · rw [List.take_append_of_le_length (by omega)]
      have c := ih k hD1 hka
      rw [hp.stick _ (by rw [c]; simp), c]
    · rw [List.take_append, List.take_of_length_le (by omega)]
      have h := pRep_back hp ((enc x).take (k - (xs.flatMap enc).length)) xs [] hD1
      rw [List.append_nil] at h
      rw [h]
      show (p ([].flatMap enc ++ (enc x).take _, 0)).2.2 = 10
      rw [List.flatMap_nil, List.nil_append]
      exact hp.cut x _ (hD x (by simp)) (by rw [List.length_append] at hk; omega)
theorem Codec.rep {p : Sg → α × Sg} {enc : α → List Int} {D : α → Prop} (hp : Codec p enc D) (n : Nat) : Codec (fun σ => pRep p σ n) (fun l => l.flatMap enc) (fun l => l.length = n ∧ ∀ x ∈ l, D x) := by
  refine ⟨fun σ h => pRep_stick hp σ h n, fun σ h => pRep_rng hp σ h n, fun x r hx => ?_, fun l hl h => ?_, fun x k hx hk => ?_⟩
  · have := pRep_back hp r x [] hx.2
    rw [List.append_nil, List.flatMap_nil, List.nil_append, hx.1] at this
    exact this
  · obtain ⟨h1, h2⟩ := pRep_exact hp l hl n h
    exact ⟨h1, pRep_len p (l, 0) n, h2⟩
  · rw [← hx.1]
    exact pRep_cut hp x k hx.2 hk
end

/-- A number of at most 'most', as an int. -/
def numI (most : Int) (l : List Int) : Int × Nat × Nat := (((numF l most).1 : Int), (numF l most).2.1, (numF l most).2.2)
theorem numF_back {z : Int} {most : Int} (hz : 0 ≤ z ∧ z ≤ most) (hm : most ≤ 9223372036854775807) (r : List Int) : numF (numL z ++ r) most = (z.toNat, (numL z).length, 0) := by
  obtain ⟨n, rfl⟩ := Int.eq_ofNat_of_zero_le hz.1
  rw [numL_nat]
  unfold numF
  rw [takeF_short n (by omega) r]
  simp only [ne_eq, not_true_eq_false, if_false]
  rw [if_neg (by omega)]
  rfl
theorem numF_cutZ {z : Int} {most : Int} (hz : 0 ≤ z ∧ z ≤ most) (hm : most ≤ 9223372036854775807) (k : Nat) (hk : k < (numL z).length) : (numF ((numL z).take k) most).2.2 = 10 := by
  obtain ⟨n, rfl⟩ := Int.eq_ofNat_of_zero_le hz.1
  rw [numL_nat] at hk ⊢
  unfold numF
  rw [takeF_short_cut n (by omega) k hk]
  rfl
def pNum (most : Int) : Sg → Int × Sg := pPrim (numI most) 0
theorem codec_num (most : Int) (hm : most ≤ 9223372036854775807) : Codec (pNum most) numL (fun z => 0 ≤ z ∧ z ≤ most) :=
  Codec.prim (fun x r hx => by
    unfold numI
    rw [numF_back hx hm r]
    exact Prod.ext (by show ((x.toNat : Nat) : Int) = x; omega) rfl)
    (fun l hl h => by
      obtain ⟨h1, _, h3⟩ := numF_ok hl (most := most) h
      refine ⟨?_, by show (0 : Int) ≤ ((numF l most).1 : Int) ∧ ((numF l most).1 : Int) ≤ most; omega⟩
      show l.take (numF l most).2.1 = numL ((numF l most).1 : Int)
      rw [numL_nat, h3])
    (fun x k hx hk => numF_cutZ hx hm k hk)

/-- A flag. -/
def pFlag : Sg → Bool × Sg := pPrim flagF false
theorem codec_flag : Codec pFlag flagL (fun _ => True) :=
  Codec.prim (fun x r _ => by cases x <;> rfl)
    (fun l hl h => by
      refine ⟨?_, trivial⟩
      cases l with
      | nil => simp [flagF] at h
      | cons c r =>
        by_cases h1 : 1 < c
        · rw [show flagF (c :: r) = (false, 0, 11) from if_pos h1] at h
          simp at h
        · rw [show flagF (c :: r) = (c == 1, 1, 0) from if_neg h1]
          have := hl c (by simp)
          by_cases h2 : c = 1
          · subst h2; rfl
          · have h0 : c = 0 := by omega
            subst h0; rfl)
    (fun x k _ hk => by
      obtain rfl : k = 0 := by simp [flagL] at hk; exact hk
      rfl)

/-- A text of at most 'most' bytes. -/
def textS (most : Int) (l : List Int) : ByteArray × Nat × Nat := (strOfNums (textF l most).1, (textF l most).2.1, (textF l most).2.2)
def pText (most : Int) : Sg → ByteArray × Sg := pPrim (textS most) ByteArray.empty
theorem codec_text (most : Int) (hm : most ≤ 1000000000) : Codec (pText most) (fun s => textL (nums s)) (fun s => (s.size : Int) ≤ most) := by
  refine Codec.prim (fun x r hx => ?_) (fun l hl h => ?_) (fun x k hx hk => ?_)
  · have hn : ((nums x).length : Int) ≤ most := by rw [nums_len]; exact hx
    have e : numF (textL (nums x) ++ r) most = ((nums x).length, (shortL (nums x).length).length, 0) := by
      have := numF_back (z := ((nums x).length : Int)) (most := most) ⟨by omega, hn⟩ (by omega) (nums x ++ r)
      rw [numL_nat] at this
      unfold textL
      rw [List.append_assoc, this]
      rfl
    have e2 : textF (textL (nums x) ++ r) most = (nums x, (textL (nums x)).length, 0) := by
      unfold textF
      rw [e]
      simp only [ne_eq, not_true_eq_false, if_false]
      rw [if_neg (by simp [textL])]
      refine Prod.ext ?_ (Prod.ext ?_ rfl)
      · show ((textL (nums x) ++ r).drop (shortL (nums x).length).length).take (nums x).length = nums x
        unfold textL
        rw [List.append_assoc, List.drop_left, List.take_left]
      · show (shortL (nums x).length).length + (nums x).length = _
        simp [textL]
    unfold textS
    rw [e2, str_nums]
  · obtain ⟨h1, h2, h3⟩ := textF_ok hl (most := most) h
    have hr : ∀ y ∈ (textF l most).1, 0 ≤ y ∧ y < 256 := fun y hy => by
      have : y ∈ textL (textF l most).1 := by simp [textL, hy]
      rw [← h2] at this
      exact hl y (List.mem_of_mem_take this)
    refine ⟨?_, ?_⟩
    · show l.take (textF l most).2.1 = textL (nums (strOfNums (textF l most).1))
      rw [nums_str _ hr]
      exact h2
    · show ((strOfNums (textF l most).1).size : Int) ≤ most
      rw [← nums_len, nums_str _ hr]
      exact h3
  · show (textF ((textL (nums x)).take k) most).2.2 = 10
    have hn : ((nums x).length : Int) ≤ most := by rw [nums_len]; exact hx
    have hz : 0 ≤ ((nums x).length : Int) ∧ ((nums x).length : Int) ≤ most := ⟨by omega, hn⟩
    by_cases hka : k < (shortL (nums x).length).length
    · have c := numF_cutZ hz (by omega) k (by rw [numL_nat]; exact hka)
      rw [numL_nat] at c
      have e : (textL (nums x)).take k = (shortL (nums x).length).take k := by unfold textL; rw [List.take_append_of_le_length (by omega)]
      rw [e]
      unfold textF
      rw [if_pos (by rw [c]; simp)]
      exact c
    · have e : (textL (nums x)).take k = shortL (nums x).length ++ (nums x).take (k - (shortL (nums x).length).length) := by unfold textL; rw [List.take_append, List.take_of_length_le (by omega)]
      have hb := numF_back hz (by omega) ((nums x).take (k - (shortL (nums x).length).length))
      rw [numL_nat] at hb
      rw [e]
      unfold textF
      rw [hb]
      simp only [ne_eq, not_true_eq_false, if_false]
      rw [if_pos]
      have hk' : k < (shortL (nums x).length).length + (nums x).length := by simpa [textL] using hk
      rw [List.length_append, List.length_take]
      show _ - _ < ((nums x).length : Int).toNat
      omega

/-- A list of at most 'most' elements, each as p reads it. -/
def pList {α : Type} (most : Int) (p : Sg → α × Sg) (σ : Sg) : List α × Sg := ((pBind (pNum most) (fun n σ => pRep p σ n.toNat) σ).1.2, (pBind (pNum most) (fun n σ => pRep p σ n.toNat) σ).2)
def encList {α : Type} (enc : α → List Int) (l : List α) : List Int := numL l.length ++ l.flatMap enc
theorem codec_list {α : Type} {p : Sg → α × Sg} {enc : α → List Int} {D : α → Prop} (hp : Codec p enc D) (most : Int) (hm : most ≤ 1000000000) : Codec (pList most p) (encList enc) (fun l => (l.length : Int) ≤ most ∧ ∀ x ∈ l, D x) := by
  have h := Codec.bind (codec_num most (by omega)) (fun n => Codec.rep hp n.toNat)
  refine ⟨h.stick, h.rng, fun x r hx => ?_, fun l hl h0 => ?_, fun x k hx hk => ?_⟩
  · have := h.back ((x.length : Int), x) r ⟨⟨by omega, hx.1⟩, by simp, hx.2⟩
    unfold pList encList
    simp only at this
    rw [this]
  · obtain ⟨h1, h2, h3, h4⟩ := h.exact l hl h0
    obtain ⟨a, ha⟩ : ∃ a, pBind (pNum most) (fun n σ => pRep p σ n.toNat) (l, 0) = a := ⟨_, rfl⟩
    unfold pList encList
    rw [ha] at h1 h2 h3 h4 ⊢
    obtain ⟨⟨a1, a2⟩, a3⟩ := a
    simp only at h1 h2 h3 h4 ⊢
    have e : (a2.length : Int) = a1 := by omega
    rw [e]
    exact ⟨h1, h2.2, h4⟩
  · have := h.cut ((x.length : Int), x) k ⟨⟨by omega, hx.1⟩, by simp, hx.2⟩ hk
    exact this
end Go.Proofs.Ytfldcddbmikfiaa

/- a log record in plain mathematics (stage 7): its fields, its bytes by its kind, and how they are read back: the readings of Codec put together. No program is named. -/
namespace Go.Proofs.Ytfldcddbmikfiaa
open Go.RowKit

theorem Codec.map' {α β : Type} {p : Sg → α × Sg} {ea : α → List Int} {DA : α → Prop} (hp : Codec p ea DA) (f : α → β) (g : β → α) (hgf : ∀ a, g (f a) = a) :
    Codec (fun σ => (f (p σ).1, (p σ).2)) (fun b => ea (g b)) (fun b => DA (g b) ∧ f (g b) = b) :=
  ⟨hp.stick, hp.rng, fun x r hx => by rw [hp.back _ _ hx.1, hx.2], fun l hl h => by
    have := hp.exact l hl h
    simp only [hgf]
    exact ⟨this.1, this.2, trivial⟩, fun x k hx hk => hp.cut _ k hx.1 hk⟩

/-- A value, a lock, a row, a dirty page, a deed. -/
structure Vl where
  has : Bool
  data : ByteArray
structure Lk where
  key : ByteArray
  x : Bool
structure Rw where
  tx : Int
  st : Int
  fi : Int
  la : Int
  un : Int
  co : Int
  mem : List Int
  lks : List Lk
structure Dt where
  page : Int
  lsn : Int
structure Dd where
  tx : Int
  mem : List Int
/-- A record. -/
structure Rc where
  kind : Int
  tx : Int
  prev : Int
  next : Int
  key : ByteArray
  old : Vl
  new : Vl
  co : Int
  mem : List Int
  lks : List Lk
  rows : List Rw
  dirty : List Dt
  deeds : List Dd
  past : List Int
def vl0 : Vl := ⟨false, ByteArray.empty⟩
def rc0 (kind : Int) : Rc := ⟨kind, 0, 0, 0, ByteArray.empty, vl0, vl0, 0, [], [], [], [], [], []⟩

/-- What each writes. -/
def valL (v : Vl) : List Int := flagL v.has ++ if v.has then textL (nums v.data) else []
def lkL (k : Lk) : List Int := textL (nums k.key) ++ flagL k.x
def intsL (l : List Int) : List Int := encList numL l
def lksL (l : List Lk) : List Int := encList lkL l
def rwL (r : Rw) : List Int := ((((((numL r.tx ++ numL r.st) ++ numL r.fi) ++ numL r.la) ++ numL r.un) ++ numL r.co) ++ intsL r.mem) ++ lksL r.lks
def dtL (d : Dt) : List Int := numL d.page ++ numL d.lsn
def ddL (d : Dd) : List Int := numL d.tx ++ intsL d.mem

/-- What may be read: numbers of at most 2^40, texts of at most 32 bytes, lists of at most 256. -/
def rdNum (z : Int) : Prop := 0 ≤ z ∧ z ≤ 1099511627776
def rdVl (v : Vl) : Prop := if v.has then (v.data.size : Int) ≤ 32 else v.data = ByteArray.empty
def rdLk (k : Lk) : Prop := (k.key.size : Int) ≤ 32
def rdInts (l : List Int) : Prop := (l.length : Int) ≤ 256 ∧ ∀ x ∈ l, rdNum x
def rdLks (l : List Lk) : Prop := (l.length : Int) ≤ 256 ∧ ∀ x ∈ l, rdLk x

def pN : Sg → Int × Sg := pNum 1099511627776
theorem codec_N : Codec pN numL rdNum := codec_num 1099511627776 (by omega)

/-- A value: a flag, and behind one that is set a text. -/
def pVl (σ : Sg) : Vl × Sg := (⟨(pFlag σ).1, (if (pFlag σ).1 then pText 32 (pFlag σ).2 else (ByteArray.empty, (pFlag σ).2)).1⟩, (if (pFlag σ).1 then pText 32 (pFlag σ).2 else (ByteArray.empty, (pFlag σ).2)).2)
theorem codec_vlq (b : Bool) : Codec (fun σ : Sg => if b then pText 32 σ else (ByteArray.empty, σ)) (fun s => if b then textL (nums s) else []) (fun s => if b then (s.size : Int) ≤ 32 else s = ByteArray.empty) := by
  cases b with
  | true => exact codec_text 32 (by omega)
  | false => exact Codec.pure ByteArray.empty
theorem codec_vl : Codec pVl valL rdVl := by
  have h := Codec.map (Codec.bind codec_flag codec_vlq) (fun x : Bool × ByteArray => (⟨x.1, x.2⟩ : Vl)) (fun v : Vl => (v.has, v.data)) (fun _ => rfl) (fun _ => rfl)
  exact ⟨h.stick, h.rng, fun x r hx => h.back x r ⟨trivial, hx⟩, fun l hl h0 => ⟨(h.exact l hl h0).1, (h.exact l hl h0).2.2⟩, fun x k hx hk => h.cut x k ⟨trivial, hx⟩ hk⟩

/-- A lock, a list of locks, of numbers. -/
def pLk (σ : Sg) : Lk × Sg := (⟨(pText 32 σ).1, (pFlag (pText 32 σ).2).1⟩, (pFlag (pText 32 σ).2).2)
theorem codec_lk : Codec pLk lkL rdLk := by
  have h := Codec.map (Codec.bind (codec_text 32 (by omega)) (fun _ => codec_flag)) (fun x : ByteArray × Bool => (⟨x.1, x.2⟩ : Lk)) (fun v : Lk => (v.key, v.x)) (fun _ => rfl) (fun _ => rfl)
  exact ⟨h.stick, h.rng, fun x r hx => h.back x r ⟨hx, trivial⟩, fun l hl h0 => ⟨(h.exact l hl h0).1, (h.exact l hl h0).2.1⟩, fun x k hx hk => h.cut x k ⟨hx, trivial⟩ hk⟩
def pInts : Sg → List Int × Sg := pList 256 pN
theorem codec_ints : Codec pInts intsL rdInts := codec_list codec_N 256 (by omega)
def pLks : Sg → List Lk × Sg := pList 256 pLk
theorem codec_lks : Codec pLks lksL rdLks := codec_list codec_lk 256 (by omega)

/-- A row. -/
def pRw (σ : Sg) : Rw × Sg :=
  let q := pBind (pBind (pBind (pBind (pBind (pBind (pBind pN (fun _ => pN)) (fun _ => pN)) (fun _ => pN)) (fun _ => pN)) (fun _ => pN)) (fun _ => pInts)) (fun _ => pLks) σ
  (⟨q.1.1.1.1.1.1.1.1, q.1.1.1.1.1.1.1.2, q.1.1.1.1.1.1.2, q.1.1.1.1.1.2, q.1.1.1.1.2, q.1.1.1.2, q.1.1.2, q.1.2⟩, q.2)
def rdRw (r : Rw) : Prop := ((((((rdNum r.tx ∧ rdNum r.st) ∧ rdNum r.fi) ∧ rdNum r.la) ∧ rdNum r.un) ∧ rdNum r.co) ∧ rdInts r.mem) ∧ rdLks r.lks
theorem codec_rw : Codec pRw rwL rdRw :=
  Codec.map (Codec.bind (Codec.bind (Codec.bind (Codec.bind (Codec.bind (Codec.bind (Codec.bind codec_N (fun _ => codec_N)) (fun _ => codec_N)) (fun _ => codec_N)) (fun _ => codec_N)) (fun _ => codec_N)) (fun _ => codec_ints)) (fun _ => codec_lks))
    (fun q : ((((((Int × Int) × Int) × Int) × Int) × Int) × List Int) × List Lk => (⟨q.1.1.1.1.1.1.1, q.1.1.1.1.1.1.2, q.1.1.1.1.1.2, q.1.1.1.1.2, q.1.1.1.2, q.1.1.2, q.1.2, q.2⟩ : Rw))
    (fun r : Rw => (((((((r.tx, r.st), r.fi), r.la), r.un), r.co), r.mem), r.lks)) (fun _ => rfl) (fun _ => rfl)
/-- A dirty page, a deed. -/
def pDt (σ : Sg) : Dt × Sg := (⟨(pN σ).1, (pN (pN σ).2).1⟩, (pN (pN σ).2).2)
def rdDt (d : Dt) : Prop := rdNum d.page ∧ rdNum d.lsn
theorem codec_dt : Codec pDt dtL rdDt := Codec.map (Codec.bind codec_N (fun _ => codec_N)) (fun q : Int × Int => (⟨q.1, q.2⟩ : Dt)) (fun d : Dt => (d.page, d.lsn)) (fun _ => rfl) (fun _ => rfl)
def pDd (σ : Sg) : Dd × Sg := (⟨(pN σ).1, (pInts (pN σ).2).1⟩, (pInts (pN σ).2).2)
def rdDd (d : Dd) : Prop := rdNum d.tx ∧ rdInts d.mem
theorem codec_dd : Codec pDd ddL rdDd := Codec.map (Codec.bind codec_N (fun _ => codec_ints)) (fun q : Int × List Int => (⟨q.1, q.2⟩ : Dd)) (fun d : Dd => (d.tx, d.mem)) (fun _ => rfl) (fun _ => rfl)

/-- The fields of each kind, as pairs; a record of them. -/
abbrev pU := pBind (pBind (pBind (pBind pN (fun _ => pN)) (fun _ => pText 32)) (fun _ => pVl)) (fun _ => pVl)
abbrev pC := pBind (pBind (pBind (pBind pN (fun _ => pN)) (fun _ => pN)) (fun _ => pText 32)) (fun _ => pVl)
abbrev pP := pBind (pBind (pBind (pBind pN (fun _ => pN)) (fun _ => pN)) (fun _ => pInts)) (fun _ => pLks)
abbrev pE := pBind pN (fun _ => pN)
abbrev pK := pBind (pBind (pBind (pList 256 pRw) (fun _ => pList 256 pDt)) (fun _ => pList 256 pDd)) (fun _ => pInts)
abbrev pD := pBind pN (fun _ => pInts)
theorem codec_rws : Codec (pList 256 pRw) (encList rwL) (fun l => (l.length : Int) ≤ 256 ∧ ∀ x ∈ l, rdRw x) := codec_list codec_rw 256 (by omega)
theorem codec_dts : Codec (pList 256 pDt) (encList dtL) (fun l => (l.length : Int) ≤ 256 ∧ ∀ x ∈ l, rdDt x) := codec_list codec_dt 256 (by omega)
theorem codec_dds : Codec (pList 256 pDd) (encList ddL) (fun l => (l.length : Int) ≤ 256 ∧ ∀ x ∈ l, rdDd x) := codec_list codec_dd 256 (by omega)

def mkU (q : (((Int × Int) × ByteArray) × Vl) × Vl) : Rc := { rc0 1 with tx := q.1.1.1.1, prev := q.1.1.1.2, key := q.1.1.2, old := q.1.2, new := q.2 }
def mkC (q : (((Int × Int) × Int) × ByteArray) × Vl) : Rc := { rc0 2 with tx := q.1.1.1.1, prev := q.1.1.1.2, next := q.1.1.2, key := q.1.2, new := q.2 }
def mkP (q : (((Int × Int) × Int) × List Int) × List Lk) : Rc := { rc0 3 with tx := q.1.1.1.1, prev := q.1.1.1.2, co := q.1.1.2, mem := q.1.2, lks := q.2 }
def mkE (kind : Int) (q : Int × Int) : Rc := { rc0 kind with tx := q.1, prev := q.2 }
def mkK (q : ((List Rw × List Dt) × List Dd) × List Int) : Rc := { rc0 8 with rows := q.1.1.1, dirty := q.1.1.2, deeds := q.1.2, past := q.2 }
def mkD (q : Int × List Int) : Rc := { rc0 9 with tx := q.1, mem := q.2 }
def mkF (q : Int) : Rc := { rc0 10 with tx := q }

/-- What each kind writes, and what may be read of it. -/
def bU (r : Rc) : List Int := (((numL r.tx ++ numL r.prev) ++ textL (nums r.key)) ++ valL r.old) ++ valL r.new
def bC (r : Rc) : List Int := (((numL r.tx ++ numL r.prev) ++ numL r.next) ++ textL (nums r.key)) ++ valL r.new
def bP (r : Rc) : List Int := (((numL r.tx ++ numL r.prev) ++ numL r.co) ++ intsL r.mem) ++ lksL r.lks
def bE (r : Rc) : List Int := numL r.tx ++ numL r.prev
def bK (r : Rc) : List Int := ((encList rwL r.rows ++ encList dtL r.dirty) ++ encList ddL r.deeds) ++ intsL r.past
def bD (r : Rc) : List Int := numL r.tx ++ intsL r.mem
def bF (r : Rc) : List Int := numL r.tx
def uU (r : Rc) := ((((r.tx, r.prev), r.key), r.old), r.new)
def uC (r : Rc) := ((((r.tx, r.prev), r.next), r.key), r.new)
def uP (r : Rc) := ((((r.tx, r.prev), r.co), r.mem), r.lks)
def uE (r : Rc) := (r.tx, r.prev)
def uK (r : Rc) := (((r.rows, r.dirty), r.deeds), r.past)
def uD (r : Rc) := (r.tx, r.mem)
theorem codec_U : Codec (fun σ => (mkU (pU σ).1, (pU σ).2)) bU (fun r => ((((rdNum r.tx ∧ rdNum r.prev) ∧ (r.key.size : Int) ≤ 32) ∧ rdVl r.old) ∧ rdVl r.new) ∧ mkU (uU r) = r) :=
  Codec.map' (Codec.bind (Codec.bind (Codec.bind (Codec.bind codec_N (fun _ => codec_N)) (fun _ => codec_text 32 (by omega))) (fun _ => codec_vl)) (fun _ => codec_vl)) mkU uU (fun _ => rfl)
theorem codec_C : Codec (fun σ => (mkC (pC σ).1, (pC σ).2)) bC (fun r => ((((rdNum r.tx ∧ rdNum r.prev) ∧ rdNum r.next) ∧ (r.key.size : Int) ≤ 32) ∧ rdVl r.new) ∧ mkC (uC r) = r) :=
  Codec.map' (Codec.bind (Codec.bind (Codec.bind (Codec.bind codec_N (fun _ => codec_N)) (fun _ => codec_N)) (fun _ => codec_text 32 (by omega))) (fun _ => codec_vl)) mkC uC (fun _ => rfl)
theorem codec_P : Codec (fun σ => (mkP (pP σ).1, (pP σ).2)) bP (fun r => ((((rdNum r.tx ∧ rdNum r.prev) ∧ rdNum r.co) ∧ rdInts r.mem) ∧ rdLks r.lks) ∧ mkP (uP r) = r) :=
  Codec.map' (Codec.bind (Codec.bind (Codec.bind (Codec.bind codec_N (fun _ => codec_N)) (fun _ => codec_N)) (fun _ => codec_ints)) (fun _ => codec_lks)) mkP uP (fun _ => rfl)
theorem codec_E (kind : Int) : Codec (fun σ => (mkE kind (pE σ).1, (pE σ).2)) bE (fun r => (rdNum r.tx ∧ rdNum r.prev) ∧ mkE kind (uE r) = r) :=
  Codec.map' (Codec.bind codec_N (fun _ => codec_N)) (mkE kind) uE (fun _ => rfl)
theorem codec_B : Codec (fun σ => (rc0 7, σ)) (fun _ => []) (· = rc0 7) := Codec.pure (rc0 7)
theorem codec_K : Codec (fun σ => (mkK (pK σ).1, (pK σ).2)) bK (fun r => (((((r.rows.length : Int) ≤ 256 ∧ ∀ x ∈ r.rows, rdRw x) ∧ ((r.dirty.length : Int) ≤ 256 ∧ ∀ x ∈ r.dirty, rdDt x)) ∧ ((r.deeds.length : Int) ≤ 256 ∧ ∀ x ∈ r.deeds, rdDd x)) ∧ rdInts r.past) ∧ mkK (uK r) = r) :=
  Codec.map' (Codec.bind (Codec.bind (Codec.bind codec_rws (fun _ => codec_dts)) (fun _ => codec_dds)) (fun _ => codec_ints)) mkK uK (fun _ => rfl)
theorem codec_D : Codec (fun σ => (mkD (pD σ).1, (pD σ).2)) bD (fun r => (rdNum r.tx ∧ rdInts r.mem) ∧ mkD (uD r) = r) :=
  Codec.map' (Codec.bind codec_N (fun _ => codec_ints)) mkD uD (fun _ => rfl)
theorem codec_F : Codec (fun σ => (mkF (pN σ).1, (pN σ).2)) bF (fun r => rdNum r.tx ∧ mkF r.tx = r) :=
  Codec.map' codec_N mkF (fun r => r.tx) (fun _ => rfl)

/-- A record's bytes behind its kind. -/
def restL (r : Rc) : List Int :=
  if r.kind = 1 then bU r else if r.kind = 2 then bC r else if r.kind = 3 then bP r else if r.kind = 4 ∨ r.kind = 5 ∨ r.kind = 6 then bE r else if r.kind = 7 then [] else if r.kind = 8 then bK r else if r.kind = 9 then bD r else bF r
def rcL (r : Rc) : List Int := numL r.kind ++ restL r
/-- The readings behind a kind. -/
def restP (kind : Int) (σ : Sg) : Rc × Sg :=
  if kind = 1 then (mkU (pU σ).1, (pU σ).2) else if kind = 2 then (mkC (pC σ).1, (pC σ).2) else if kind = 3 then (mkP (pP σ).1, (pP σ).2) else if kind = 4 ∨ kind = 5 ∨ kind = 6 then (mkE kind (pE σ).1, (pE σ).2) else if kind = 7 then (rc0 7, σ) else if kind = 8 then (mkK (pK σ).1, (pK σ).2) else if kind = 9 then (mkD (pD σ).1, (pD σ).2) else (mkF (pN σ).1, (pN σ).2)
end Go.Proofs.Ytfldcddbmikfiaa

/- which log records may be (stage 7), what Encode and Decode answer of them, in plain mathematics: what may be is read back, what is read has just its bytes, no beginning is read. No program is named. -/
namespace Go.Proofs.Ytfldcddbmikfiaa
open Go.RowKit

/-- A key ahead of another. -/
def kLt (a b : ByteArray) : Prop := Op.bytesLess a.toList b.toList = true
instance (a b : ByteArray) : Decidable (kLt a b) := by unfold kLt; infer_instance
instance : Inhabited Lk := ⟨⟨ByteArray.empty, false⟩⟩
instance : Inhabited Rw := ⟨⟨0, 0, 0, 0, 0, 0, [], []⟩⟩
instance : Inhabited Dt := ⟨⟨0, 0⟩⟩
instance : Inhabited Dd := ⟨⟨0, []⟩⟩

def seqOk (least z : Int) : Prop := least ≤ z ∧ z ≤ 1099511627776
instance (a b : Int) : Decidable (seqOk a b) := by unfold seqOk; infer_instance
def keyOk (k : ByteArray) : Prop := 1 ≤ k.size ∧ k.size ≤ 16
instance (k : ByteArray) : Decidable (keyOk k) := by unfold keyOk; infer_instance
def vlOk (v : Vl) : Prop := if v.has then (v.data.size : Int) ≤ 32 else v.data = ByteArray.empty
/-- Each element as p says, and behind the first as q says of the one ahead of it. -/
def rises {α : Type} [Inhabited α] (p : α → Prop) (q : α → α → Prop) (l : List α) : Prop := ∀ i, i < l.length → p (l.getD i default) ∧ (0 < i → q (l.getD (i - 1) default) (l.getD i default))
def memOk (l : List Int) : Prop := rises (fun x => 0 ≤ x ∧ x ≤ 7) (· < ·) l
def lksOk (l : List Lk) : Prop := l.length ≤ 64 ∧ rises (fun k => keyOk k.key) (fun a b => kLt a.key b.key) l
def rwOk (r : Rw) : Prop := seqOk 1 r.tx ∧ (1 ≤ r.st ∧ r.st ≤ 4) ∧ seqOk 0 r.fi ∧ seqOk 0 r.la ∧ seqOk 0 r.un ∧ (0 ≤ r.co ∧ r.co ≤ 7) ∧ memOk r.mem ∧ lksOk r.lks
def rwsOk (l : List Rw) : Prop := l.length ≤ 64 ∧ rises rwOk (fun a b => a.tx < b.tx) l
def dtsOk (l : List Dt) : Prop := l.length ≤ 64 ∧ rises (fun d => (0 ≤ d.page ∧ d.page ≤ 63) ∧ seqOk 1 d.lsn) (fun a b => a.page < b.page) l
def ddsOk (l : List Dd) : Prop := l.length ≤ 64 ∧ rises (fun d => seqOk 1 d.tx ∧ memOk d.mem) (fun a b => a.tx < b.tx) l
def pastOk (l : List Int) : Prop := l.length ≤ 256 ∧ rises (seqOk 1) (· < ·) l
def checkOk (r : Rc) : Prop := rwsOk r.rows ∧ dtsOk r.dirty ∧ ddsOk r.deeds ∧ pastOk r.past
/-- The fields of its kind alone. -/
def onlyRc (r : Rc) : Rc :=
  if r.kind = 1 then mkU (uU r) else if r.kind = 2 then mkC (uC r) else if r.kind = 3 then mkP (uP r) else if r.kind = 4 ∨ r.kind = 5 ∨ r.kind = 6 then mkE r.kind (uE r) else if r.kind = 7 then rc0 7 else if r.kind = 8 then mkK (uK r) else if r.kind = 9 then mkD (uD r) else mkF r.tx
structure Rc.ok (r : Rc) : Prop where
  kind : 1 ≤ r.kind ∧ r.kind ≤ 10
  only : onlyRc r = r
  check : r.kind = 8 → checkOk r
  seq : r.kind ≠ 7 → r.kind ≠ 8 → seqOk 1 r.tx ∧ seqOk 0 r.prev ∧ seqOk 0 r.next
  vals : r.kind = 1 ∨ r.kind = 2 → keyOk r.key ∧ vlOk r.old ∧ vlOk r.new
  rest : r.kind ≠ 7 → r.kind ≠ 8 → r.kind ≠ 1 → r.kind ≠ 2 → (0 ≤ r.co ∧ r.co ≤ 7) ∧ memOk r.mem ∧ lksOk r.lks

theorem rises_all {α : Type} [Inhabited α] {p : α → Prop} {q : α → α → Prop} {l : List α} (h : rises p q l) : ∀ x ∈ l, p x := fun x hx => by
  obtain ⟨i, hi, rfl⟩ := List.getElem_of_mem hx
  have := (h i hi).1
  rwa [List.getD_eq_getElem?_getD, List.getElem?_eq_getElem hi] at this
theorem memOk_len {l : List Int} (h : memOk l) : l.length ≤ 8 := by
  have key : ∀ i, i < l.length → (i : Int) ≤ l.getD i default := by
    intro i
    induction i with
    | zero => intro hi; have := (h 0 hi).1; omega
    | succ i ih =>
      intro hi
      have h1 := ih (by omega)
      have h2 := (h (i + 1) hi).2 (by omega)
      have e : i + 1 - 1 = i := by omega
      rw [e] at h2
      have h2' : l.getD i default < l.getD (i + 1) default := h2
      omega
  by_cases hl : l.length ≤ 8
  · exact hl
  · have h1 := key 8 (by omega)
    have h2 := (h 8 (by omega)).1
    omega
theorem seqOk_rd {least z : Int} (h : seqOk least z) (hl : 0 ≤ least) : rdNum z := ⟨by have := h.1; omega, h.2⟩
theorem memOk_rd {l : List Int} (h : memOk l) : rdInts l := ⟨by have := memOk_len h; omega, fun x hx => by have := rises_all h x hx; unfold rdNum; omega⟩
theorem lksOk_rd {l : List Lk} (h : lksOk l) : rdLks l := ⟨by have := h.1; omega, fun x hx => by
  have h1 := rises_all h.2 x hx
  have h2 := h1.2
  show (x.key.size : Int) ≤ 32
  omega⟩
theorem rwOk_rd {r : Rw} (h : rwOk r) : rdRw r := by
  obtain ⟨h1, h2, h3, h4, h5, h6, h7, h8⟩ := h
  exact ⟨⟨⟨⟨⟨⟨⟨seqOk_rd h1 (by omega), by unfold rdNum; omega⟩, seqOk_rd h3 (by omega)⟩, seqOk_rd h4 (by omega)⟩, seqOk_rd h5 (by omega)⟩, by unfold rdNum; omega⟩, memOk_rd h7⟩, lksOk_rd h8⟩
theorem pastOk_rd {l : List Int} (h : pastOk l) : rdInts l := ⟨by have := h.1; omega, fun x hx => seqOk_rd (rises_all h.2 x hx) (by omega)⟩
theorem keyOk_rd {k : ByteArray} (h : keyOk k) : (k.size : Int) ≤ 32 := by have := h.2; omega

/-- What a kind writes behind itself, and what may be read of it. -/
def restLk (kind : Int) (r : Rc) : List Int :=
  if kind = 1 then bU r else if kind = 2 then bC r else if kind = 3 then bP r else if kind = 4 ∨ kind = 5 ∨ kind = 6 then bE r else if kind = 7 then [] else if kind = 8 then bK r else if kind = 9 then bD r else bF r
theorem restL_eq (r : Rc) : restL r = restLk r.kind r := rfl
def rdU (r : Rc) : Prop := ((((rdNum r.tx ∧ rdNum r.prev) ∧ (r.key.size : Int) ≤ 32) ∧ rdVl r.old) ∧ rdVl r.new) ∧ mkU (uU r) = r
def rdC (r : Rc) : Prop := ((((rdNum r.tx ∧ rdNum r.prev) ∧ rdNum r.next) ∧ (r.key.size : Int) ≤ 32) ∧ rdVl r.new) ∧ mkC (uC r) = r
def rdP (r : Rc) : Prop := ((((rdNum r.tx ∧ rdNum r.prev) ∧ rdNum r.co) ∧ rdInts r.mem) ∧ rdLks r.lks) ∧ mkP (uP r) = r
def rdE_ (kind : Int) (r : Rc) : Prop := (rdNum r.tx ∧ rdNum r.prev) ∧ mkE kind (uE r) = r
def rdK (r : Rc) : Prop := (((((r.rows.length : Int) ≤ 256 ∧ ∀ x ∈ r.rows, rdRw x) ∧ ((r.dirty.length : Int) ≤ 256 ∧ ∀ x ∈ r.dirty, rdDt x)) ∧ ((r.deeds.length : Int) ≤ 256 ∧ ∀ x ∈ r.deeds, rdDd x)) ∧ rdInts r.past) ∧ mkK (uK r) = r
def rdD (r : Rc) : Prop := (rdNum r.tx ∧ rdInts r.mem) ∧ mkD (uD r) = r
def rdF (r : Rc) : Prop := rdNum r.tx ∧ mkF r.tx = r
def rdKind (kind : Int) (r : Rc) : Prop :=
  if kind = 1 then rdU r else if kind = 2 then rdC r else if kind = 3 then rdP r else if kind = 4 ∨ kind = 5 ∨ kind = 6 then rdE_ kind r else if kind = 7 then r = rc0 7 else if kind = 8 then rdK r else if kind = 9 then rdD r else rdF r
theorem codec_rest (kind : Int) : Codec (restP kind) (restLk kind) (rdKind kind) := by
  unfold restP restLk rdKind
  by_cases h1 : kind = 1
  · simp only [if_pos h1]; exact codec_U
  by_cases h2 : kind = 2
  · simp only [if_neg h1, if_pos h2]; exact codec_C
  by_cases h3 : kind = 3
  · simp only [if_neg h1, if_neg h2, if_pos h3]; exact codec_P
  by_cases h4 : kind = 4 ∨ kind = 5 ∨ kind = 6
  · simp only [if_neg h1, if_neg h2, if_neg h3, if_pos h4]; exact codec_E kind
  by_cases h7 : kind = 7
  · simp only [if_neg h1, if_neg h2, if_neg h3, if_neg h4, if_pos h7]; exact codec_B
  by_cases h8 : kind = 8
  · simp only [if_neg h1, if_neg h2, if_neg h3, if_neg h4, if_neg h7, if_pos h8]; exact codec_K
  by_cases h9 : kind = 9
  · simp only [if_neg h1, if_neg h2, if_neg h3, if_neg h4, if_neg h7, if_neg h8, if_pos h9]; exact codec_D
  · simp only [if_neg h1, if_neg h2, if_neg h3, if_neg h4, if_neg h7, if_neg h8, if_neg h9]; exact codec_F
theorem rdKind_kind {kind : Int} {r : Rc} (hk : 1 ≤ kind ∧ kind ≤ 10) (h : rdKind kind r) : r.kind = kind := by
  unfold rdKind at h
  by_cases h1 : kind = 1
  · rw [if_pos h1] at h; rw [← h.2, h1]; rfl
  rw [if_neg h1] at h
  by_cases h2 : kind = 2
  · rw [if_pos h2] at h; rw [← h.2, h2]; rfl
  rw [if_neg h2] at h
  by_cases h3 : kind = 3
  · rw [if_pos h3] at h; rw [← h.2, h3]; rfl
  rw [if_neg h3] at h
  by_cases h4 : kind = 4 ∨ kind = 5 ∨ kind = 6
  · rw [if_pos h4] at h; rw [← h.2]; rfl
  rw [if_neg h4] at h
  by_cases h7 : kind = 7
  · rw [if_pos h7] at h; rw [h, h7]; rfl
  rw [if_neg h7] at h
  by_cases h8 : kind = 8
  · rw [if_pos h8] at h; rw [← h.2, h8]; rfl
  rw [if_neg h8] at h
  by_cases h9 : kind = 9
  · rw [if_pos h9] at h; rw [← h.2, h9]; rfl
  rw [if_neg h9] at h
  have : kind = 10 := by omega
  rw [← h.2, this]; rfl
theorem ok_rd {r : Rc} (h : r.ok) : rdKind r.kind r := by
  have ho := h.only
  have hk := h.kind
  unfold onlyRc at ho
  unfold rdKind
  by_cases h1 : r.kind = 1
  · rw [if_pos h1] at ho ⊢
    obtain ⟨a, b, _⟩ := h.seq (by omega) (by omega)
    obtain ⟨c, d, e⟩ := h.vals (.inl h1)
    exact ⟨⟨⟨⟨⟨seqOk_rd a (by omega), seqOk_rd b (by omega)⟩, keyOk_rd c⟩, d⟩, e⟩, ho⟩
  rw [if_neg h1] at ho ⊢
  by_cases h2 : r.kind = 2
  · rw [if_pos h2] at ho ⊢
    obtain ⟨a, b, n⟩ := h.seq (by omega) (by omega)
    obtain ⟨c, d, e⟩ := h.vals (.inr h2)
    exact ⟨⟨⟨⟨⟨seqOk_rd a (by omega), seqOk_rd b (by omega)⟩, seqOk_rd n (by omega)⟩, keyOk_rd c⟩, e⟩, ho⟩
  rw [if_neg h2] at ho ⊢
  by_cases h3 : r.kind = 3
  · rw [if_pos h3] at ho ⊢
    obtain ⟨a, b, _⟩ := h.seq (by omega) (by omega)
    obtain ⟨c, d, e⟩ := h.rest (by omega) (by omega) (by omega) (by omega)
    exact ⟨⟨⟨⟨⟨seqOk_rd a (by omega), seqOk_rd b (by omega)⟩, by unfold rdNum; omega⟩, memOk_rd d⟩, lksOk_rd e⟩, ho⟩
  rw [if_neg h3] at ho ⊢
  by_cases h4 : r.kind = 4 ∨ r.kind = 5 ∨ r.kind = 6
  · rw [if_pos h4] at ho ⊢
    obtain ⟨a, b, _⟩ := h.seq (by omega) (by omega)
    exact ⟨⟨seqOk_rd a (by omega), seqOk_rd b (by omega)⟩, ho⟩
  rw [if_neg h4] at ho ⊢
  by_cases h7 : r.kind = 7
  · rw [if_pos h7] at ho ⊢
    exact ho.symm
  rw [if_neg h7] at ho ⊢
  by_cases h8 : r.kind = 8
  · rw [if_pos h8] at ho ⊢
    obtain ⟨a, b, c, d⟩ := h.check h8
    exact ⟨⟨⟨⟨⟨by have := a.1; omega, fun x hx => rwOk_rd (rises_all a.2 x hx)⟩, ⟨by have := b.1; omega, fun x hx => by
      have q := rises_all b.2 x hx
      exact ⟨by have := q.1; unfold rdNum; omega, seqOk_rd q.2 (by omega)⟩⟩⟩, ⟨by have := c.1; omega, fun x hx => by
      have q := rises_all c.2 x hx
      exact ⟨seqOk_rd q.1 (by omega), memOk_rd q.2⟩⟩⟩, pastOk_rd d⟩, ho⟩
  rw [if_neg h8] at ho ⊢
  by_cases h9 : r.kind = 9
  · rw [if_pos h9] at ho ⊢
    obtain ⟨a, _, _⟩ := h.seq (by omega) (by omega)
    obtain ⟨_, d, _⟩ := h.rest (by omega) (by omega) (by omega) (by omega)
    exact ⟨⟨seqOk_rd a (by omega), memOk_rd d⟩, ho⟩
  rw [if_neg h9] at ho ⊢
  obtain ⟨a, _, _⟩ := h.seq (by omega) (by omega)
  exact ⟨seqOk_rd a (by omega), ho⟩

/-- The kind, and what lies behind it. -/
def wholeP : Sg → (Int × Rc) × Sg := pBind pN restP
theorem codec_whole : Codec wholeP (fun x => numL x.1 ++ restLk x.1 x.2) (fun x => rdNum x.1 ∧ rdKind x.1 x.2) := Codec.bind codec_N codec_rest
def endS (σ : Sg) : Nat := if σ.2 = 0 ∧ 0 < σ.1.length then 13 else σ.2
/-- What Decode answers, of bytes that are few enough: the record, and the error. -/
def decRc (l : List Int) : Rc × Nat :=
  if (pN (l, 0)).2.2 = 0 ∧ ¬ (1 ≤ (pN (l, 0)).1 ∧ (pN (l, 0)).1 ≤ 10) then (rc0 0, 11)
  else ((wholeP (l, 0)).1.2, endS (wholeP (l, 0)).2)
theorem dec_back {r : Rc} (h : r.ok) : decRc (rcL r) = (r, 0) := by
  have hk := h.kind
  have hr : rdNum r.kind := by unfold rdNum; omega
  have b := codec_whole.back (r.kind, r) [] ⟨hr, ok_rd h⟩
  rw [List.append_nil] at b
  have b' : wholeP (rcL r, 0) = ((r.kind, r), ([], 0)) := b
  have k := codec_N.back r.kind (restL r) hr
  have k' : pN (rcL r, 0) = (r.kind, (restL r, 0)) := k
  unfold decRc
  rw [k', b', if_neg (by simp only; omega)]
  rfl
theorem dec_exact {l : List Int} (hl : ∀ y ∈ l, 0 ≤ y ∧ y < 256) (h : (decRc l).2 = 0) : l = rcL (decRc l).1 := by
  unfold decRc at h ⊢
  by_cases hk : (pN (l, 0)).2.2 = 0 ∧ ¬ (1 ≤ (pN (l, 0)).1 ∧ (pN (l, 0)).1 ≤ 10)
  · rw [if_pos hk] at h; simp at h
  · rw [if_neg hk] at h ⊢
    have he : (wholeP (l, 0)).2.2 = 0 ∧ (wholeP (l, 0)).2.1.length = 0 := by
      unfold endS at h
      split at h
      · simp at h
      · rename_i q; omega
    obtain ⟨e1, e2⟩ := codec_whole.exact l hl he.1
    have hn : (pN (l, 0)).2.2 = 0 := by
      by_cases q : (pN (l, 0)).2.2 = 0
      · exact q
      · have := (codec_rest (pN (l, 0)).1).stick (pN (l, 0)).2 q
        have h2 : (wholeP (l, 0)).2 = (pN (l, 0)).2 := this
        rw [h2] at he
        exact absurd he.1 q
    have hkk : (wholeP (l, 0)).1.1 = (pN (l, 0)).1 := rfl
    have hkd : 1 ≤ (wholeP (l, 0)).1.1 ∧ (wholeP (l, 0)).1.1 ≤ 10 := by rw [hkk]; omega
    have kd := rdKind_kind hkd e2.2
    have e0 : (wholeP (l, 0)).2.1 = [] := List.eq_nil_of_length_eq_zero he.2
    rw [e0, List.append_nil] at e1
    show l = rcL (wholeP (l, 0)).1.2
    unfold rcL
    rw [restL_eq, kd]
    exact e1
theorem dec_cut {r : Rc} (h : r.ok) (k : Nat) (hk : k < (rcL r).length) : (decRc ((rcL r).take k)).2 = 10 := by
  have hkd := h.kind
  have hr : rdNum r.kind := by unfold rdNum; omega
  have c := codec_whole.cut (r.kind, r) k ⟨hr, ok_rd h⟩ hk
  have c' : (wholeP ((rcL r).take k, 0)).2.2 = 10 := c
  unfold decRc
  by_cases hka : k < (numL r.kind).length
  · have e : (rcL r).take k = (numL r.kind).take k := by unfold rcL; rw [List.take_append_of_le_length (by omega)]
    have cn := codec_N.cut r.kind k hr hka
    rw [if_neg (by rw [e, cn]; simp)]
    show endS (wholeP ((rcL r).take k, 0)).2 = 10
    unfold endS
    rw [if_neg (by rw [c']; simp), c']
  · have e : (rcL r).take k = numL r.kind ++ (restL r).take (k - (numL r.kind).length) := by unfold rcL; rw [List.take_append, List.take_of_length_le (by omega)]
    have kb := codec_N.back r.kind ((restL r).take (k - (numL r.kind).length)) hr
    have kb' : pN ((rcL r).take k, 0) = (r.kind, ((restL r).take (k - (numL r.kind).length), 0)) := by rw [e]; exact kb
    rw [if_neg (by rw [kb']; simp only; omega)]
    show endS (wholeP ((rcL r).take k, 0)).2 = 10
    unfold endS
    rw [if_neg (by rw [c']; simp), c']
end Go.Proofs.Ytfldcddbmikfiaa

/- passing values on, one behind the other: where they are written, what is gathered; where they are read, what is left; and whether all of them are as they may be. Plain mathematics: no program is named. -/
namespace Go.Proofs.Ytfldcddbmikfiaa
open Go.RowKit

/-- Where a pass stands: what it has gathered (in at most B bytes), or what is left. -/
inductive Ps where
  | out (l : List Int) (B : Nat)
  | inp (σ : Sg)

/-- A kind of value: how it is read and written, when it may be, what is passed on of it, how many bytes it has at most. -/
structure Spc (α : Type) where
  p : Sg → α × Sg
  enc : α → List Int
  ok : α → Prop
  keep : α → α
  cost : Nat

/-- The value x is passed on: y comes of it. -/
def Goes {α : Type} (S : Spc α) (x : α) (s : Ps) (wr : Bool) (y : α) (s' : Ps) (wr' : Bool) : Prop :=
  match s with
  | .out l B => ∃ l', s' = .out l' (B + S.cost) ∧ (wr' = false ↔ wr = false ∧ S.ok x) ∧ (wr' = false → y = S.keep x ∧ l' = l ++ S.enc x)
  | .inp σ => s' = .inp (S.p σ).2 ∧ y = (S.p σ).1 ∧ (wr' = false ↔ wr = false ∧ S.ok y)

/-- There is room for so many bytes more. -/
def Ps.room (s : Ps) (c : Nat) : Prop := match s with
  | .out _ B => B + c ≤ 100000000000000
  | .inp _ => True
theorem Ps.room.mono {s : Ps} {c d : Nat} (h : s.room c) (hd : d ≤ c) : s.room d := by
  cases s with
  | out l B => simp only [Ps.room] at h ⊢; omega
  | inp σ => trivial
theorem Goes.room {α : Type} {S : Spc α} {x y : α} {s s' : Ps} {wr wr' : Bool} (h : Goes S x s wr y s' wr') {c : Nat} (hr : s.room (S.cost + c)) : s'.room c := by
  cases s with
  | out l B =>
    obtain ⟨l', rfl, _⟩ := h
    simp only [Ps.room] at hr ⊢; omega
  | inp σ =>
    obtain ⟨rfl, _⟩ := h
    trivial

/-- More room was reckoned. -/
def Ps.le (s t : Ps) : Prop := match s, t with
  | .out l B, .out l' B' => l = l' ∧ B ≤ B'
  | .inp σ, .inp σ' => σ = σ'
  | _, _ => False

section
variable {α β : Type}
def Spc.pair (S : Spc α) (T : Spc β) : Spc (α × β) := ⟨pBind S.p (fun _ => T.p), fun x => S.enc x.1 ++ T.enc x.2, fun x => S.ok x.1 ∧ T.ok x.2, fun x => (S.keep x.1, T.keep x.2), S.cost + T.cost⟩
theorem Goes.pair {S : Spc α} {T : Spc β} {x y : α} {x2 y2 : β} {s s1 s2 : Ps} {wr wr1 wr2 : Bool} (h : Goes S x s wr y s1 wr1) (k : Goes T x2 s1 wr1 y2 s2 wr2) : Goes (S.pair T) (x, x2) s wr (y, y2) s2 wr2 := by
  cases s with
  | out l B =>
    obtain ⟨l1, rfl, h1, h2⟩ := h
    obtain ⟨l2, rfl, k1, k2⟩ := k
    refine ⟨l2, ?_, ?_, fun hw => ?_⟩
    · show Ps.out l2 (B + S.cost + T.cost) = Ps.out l2 (B + (S.cost + T.cost))
      rw [Nat.add_assoc]
    · rw [k1, h1, and_assoc]; rfl
    · obtain ⟨a, b⟩ := k2 hw
      obtain ⟨c, d⟩ := h2 (k1.1 hw).1
      subst a c d
      refine ⟨rfl, ?_⟩
      rw [b, List.append_assoc]; rfl
  | inp σ =>
    obtain ⟨rfl, rfl, h1⟩ := h
    obtain ⟨rfl, rfl, k1⟩ := k
    refine ⟨rfl, rfl, ?_⟩
    rw [k1, h1, and_assoc]; rfl
def Spc.map (S : Spc α) (f : α → β) (g : β → α) : Spc β := ⟨fun σ => (f (S.p σ).1, (S.p σ).2), fun b => S.enc (g b), fun b => S.ok (g b), fun b => f (S.keep (g b)), S.cost⟩
theorem Goes.map {S : Spc α} {f : α → β} {g : β → α} (hgf : ∀ a, g (f a) = a) {x : β} {y : α} {s s' : Ps} {wr wr' : Bool} (h : Goes S (g x) s wr y s' wr') : Goes (S.map f g) x s wr (f y) s' wr' := by
  cases s with
  | out l B =>
    obtain ⟨l1, rfl, h1, h2⟩ := h
    exact ⟨l1, rfl, h1, fun hw => ⟨by rw [(h2 hw).1]; rfl, (h2 hw).2⟩⟩
  | inp σ =>
    obtain ⟨rfl, rfl, h1⟩ := h
    refine ⟨rfl, rfl, ?_⟩
    rw [h1]
    show _ ↔ wr = false ∧ S.ok (g (f _))
    rw [hgf]

/-- How many there are. -/
def cntS (most : Nat) : Spc Int := ⟨pNum 256, numL, fun z => z ≤ (most : Int), id, 10⟩
def Spc.list [Inhabited α] (S : Spc α) (most : Nat) (lt : α → α → Prop) : Spc (List α) := ⟨pList 256 S.p, encList S.enc, fun l => l.length ≤ most ∧ rises S.ok lt l, id, 10 + 256 * S.cost⟩

/-- The first k of a list are passed on. -/
def GoesN [Inhabited α] (S : Spc α) (lt : α → α → Prop) (xs : List α) (s : Ps) (wr : Bool) (k : Nat) (ys : List α) (s' : Ps) (wr' : Bool) : Prop :=
  ys.length = k ∧ match s with
  | .out l B => ∃ l', s' = .out l' (B + k * S.cost) ∧ (wr' = false ↔ wr = false ∧ ∀ i, i < k → S.ok (xs.getD i default) ∧ (0 < i → lt (xs.getD (i - 1) default) (xs.getD i default))) ∧ (wr' = false → ys = xs.take k ∧ l' = l ++ (xs.take k).flatMap S.enc)
  | .inp σ => s' = .inp (pRep S.p σ k).2 ∧ ys = (pRep S.p σ k).1 ∧ (wr' = false ↔ wr = false ∧ ∀ i, i < k → S.ok (ys.getD i default) ∧ (0 < i → lt (ys.getD (i - 1) default) (ys.getD i default)))
theorem GoesN.zero [Inhabited α] (S : Spc α) (lt : α → α → Prop) (xs : List α) (s : Ps) (wr : Bool) : GoesN S lt xs s wr 0 [] s wr := by
  refine ⟨rfl, ?_⟩
  cases s with
  | out l B => exact ⟨l, by simp, by simp, fun _ => by simp⟩
  | inp σ => exact ⟨rfl, rfl, by simp⟩
theorem GoesN.room [Inhabited α] {S : Spc α} {lt : α → α → Prop} {xs ys : List α} {s s' : Ps} {wr wr' : Bool} {k : Nat} (h : GoesN S lt xs s wr k ys s' wr') {c : Nat} (hr : s.room (k * S.cost + c)) : s'.room c := by
  obtain ⟨_, h⟩ := h
  cases s with
  | out l B =>
    obtain ⟨l', rfl, _⟩ := h
    simp only [Ps.room] at hr ⊢; omega
  | inp σ =>
    obtain ⟨rfl, _⟩ := h
    trivial
theorem getD_snoc [Inhabited α] (ys : List α) (y : α) (i : Nat) : (ys ++ [y]).getD i default = if i < ys.length then ys.getD i default else if i = ys.length then y else default := by
  split
  · rename_i h; simp [List.getElem?_append_left h]
  · split
    · rename_i h; subst h; simp
    · rename_i h1 h2; simp [List.getElem?_eq_none (show (ys ++ [y]).length ≤ i by simp; omega)]
theorem forall_succ {p : Nat → Prop} {k : Nat} : (∀ i, i < k + 1 → p i) ↔ (∀ i, i < k → p i) ∧ p k :=
  ⟨fun h => ⟨fun i hi => h i (by omega), h k (by omega)⟩, fun ⟨h1, h2⟩ i hi => by
    by_cases e : i = k
    · subst e; exact h2
    · exact h1 i (by omega)⟩
theorem GoesN.succ [Inhabited α] {S : Spc α} {lt : α → α → Prop} {xs ys : List α} {y : α} {s s1 s2 : Ps} {wr wr1 wr2 wr3 : Bool} {k : Nat} (h : GoesN S lt xs s wr k ys s1 wr1) (hk : k < xs.length) (hkeep : ∀ x, S.keep x = x)
    (g : Goes S (xs.getD k default) s1 wr1 y s2 wr2) (h3 : wr3 = false ↔ wr2 = false ∧ (0 < k → lt (ys.getD (k - 1) default) y)) : GoesN S lt xs s wr (k + 1) (ys ++ [y]) s2 wr3 := by
  obtain ⟨hl, h⟩ := h
  refine ⟨by simp [hl], ?_⟩
  cases s with
  | out l B =>
    obtain ⟨l1, rfl, h1, h2⟩ := h
    obtain ⟨l2, rfl, g1, g2⟩ := g
    refine ⟨l2, ?_, ?_, fun hw => ?_⟩
    · show Ps.out l2 (B + k * S.cost + S.cost) = Ps.out l2 (B + (k + 1) * S.cost)
      congr 1
      rw [Nat.add_mul, Nat.one_mul, Nat.add_assoc]
    · rw [h3, forall_succ, g1]
      constructor
      · rintro ⟨⟨a, b⟩, c⟩
        obtain ⟨d, e⟩ := h1.1 a
        refine ⟨d, e, b, fun hk0 => ?_⟩
        have q := c hk0
        rw [(h2 a).1, (g2 (g1.2 ⟨a, b⟩)).1, hkeep] at q
        have e1 : (xs.take k).getD (k - 1) default = xs.getD (k - 1) default := by
          simp [List.getD_eq_getElem?_getD, List.getElem?_take, show k - 1 < k by omega]
        rw [e1] at q
        exact q
      · rintro ⟨a, b, c, d⟩
        have hw1 := h1.2 ⟨a, b⟩
        refine ⟨⟨hw1, c⟩, fun hk0 => ?_⟩
        have q := d hk0
        rw [(h2 hw1).1, (g2 (g1.2 ⟨hw1, c⟩)).1, hkeep]
        have e1 : (xs.take k).getD (k - 1) default = xs.getD (k - 1) default := by
          simp [List.getD_eq_getElem?_getD, List.getElem?_take, show k - 1 < k by omega]
        rw [e1]
        exact q
    · have hw2 := (h3.1 hw).1
      obtain ⟨a, b⟩ := g2 hw2
      obtain ⟨c, d⟩ := h2 (g1.1 hw2).1
      have e : xs.take (k + 1) = xs.take k ++ [xs.getD k default] := by
        rw [List.take_succ]
        congr 1
        simp [List.getElem?_eq_getElem hk]
      rw [e, c, a, hkeep, b, d, List.flatMap_append, List.flatMap_singleton, List.append_assoc]
      exact ⟨rfl, rfl⟩
  | inp σ =>
    obtain ⟨rfl, rfl, h1⟩ := h
    obtain ⟨rfl, rfl, g1⟩ := g
    refine ⟨rfl, rfl, ?_⟩
    rw [h3, g1, h1, forall_succ]
    have e1 : ∀ i, i < k → (((pRep S.p σ k).1 ++ [(S.p (pRep S.p σ k).2).1]).getD i default) = (pRep S.p σ k).1.getD i default := fun i hi => by rw [getD_snoc, if_pos (by omega)]
    have e2 : (((pRep S.p σ k).1 ++ [(S.p (pRep S.p σ k).2).1]).getD k default) = (S.p (pRep S.p σ k).2).1 := by rw [getD_snoc, if_neg (by omega), if_pos hl.symm]
    constructor
    · rintro ⟨⟨⟨a, b⟩, c⟩, d⟩
      refine ⟨a, fun i hi => ?_, ?_, fun hk0 => ?_⟩
      · rw [e1 i hi, e1 (i - 1) (by omega)]; exact b i hi
      · rw [e2]; exact c
      · rw [e2, e1 (k - 1) (by omega)]; exact d hk0
    · rintro ⟨a, b, c, d⟩
      refine ⟨⟨⟨a, fun i hi => ?_⟩, ?_⟩, fun hk0 => ?_⟩
      · have := b i hi; rw [e1 i hi, e1 (i - 1) (by omega)] at this; exact this
      · rw [e2] at c; exact c
      · have := d hk0; rw [e2, e1 (k - 1) (by omega)] at this; exact this

/-- A list: how many there are, and then each of them. -/
theorem Goes.list [Inhabited α] {S : Spc α} {most : Nat} {lt : α → α → Prop} (hm : most ≤ 256) {xs zs ys : List α} {z : Int} {n : Nat} {s s1 s2 : Ps} {wr wr1 wr2 : Bool} (c : Goes (cntS most) (xs.length : Int) s wr z s1 wr1)
    (hn : (n : Int) = min z 256) (hz : zs.length = n) (hzx : ∀ i, i < n → i < xs.length → zs.getD i default = xs.getD i default) (h : GoesN S lt zs s1 wr1 n ys s2 wr2) :
    ∃ s3, s2.le s3 ∧ Goes (S.list most lt) xs s wr ys s3 wr2 := by
  obtain ⟨hl, h⟩ := h
  cases s with
  | out l B =>
    obtain ⟨l1, rfl, c1, c2⟩ := c
    obtain ⟨l2, rfl, h1, h2⟩ := h
    have hn256 : n ≤ 256 := by omega
    have hmul : n * S.cost ≤ 256 * S.cost := Nat.mul_le_mul_right _ hn256
    have key : wr1 = false → zs = xs := fun hw => by
      have e := (c2 hw).1
      have e' : z = (xs.length : Int) := e
      have o := (c1.1 hw).2
      have o' : (xs.length : Int) ≤ (most : Int) := o
      have hnx : n = xs.length := by omega
      refine List.ext_getElem (by omega) fun i hi hi' => ?_
      have := hzx i (by omega) hi'
      simpa [List.getElem?_eq_getElem hi, List.getElem?_eq_getElem hi'] using this
    refine ⟨.out l2 (B + (10 + 256 * S.cost)), ⟨rfl, ?_⟩, l2, rfl, ?_, fun hw => ?_⟩
    · show B + 10 + n * S.cost ≤ B + (10 + 256 * S.cost); omega
    · rw [h1]
      constructor
      · rintro ⟨a, b⟩
        have e := key a
        subst e
        obtain ⟨w, o⟩ := c1.1 a
        have o' : (zs.length : Int) ≤ (most : Int) := o
        exact ⟨w, by omega, fun i hi => b i (by omega)⟩
      · rintro ⟨a, o, r⟩
        have hw1 : wr1 = false := c1.2 ⟨a, show (xs.length : Int) ≤ (most : Int) by omega⟩
        have e := key hw1
        subst e
        exact ⟨hw1, fun i hi => r i (by omega)⟩
    · obtain ⟨a, b⟩ := h1.1 hw
      have e := key a
      subst e
      obtain ⟨p, q⟩ := h2 hw
      have t : zs.take n = zs := List.take_of_length_le (by omega)
      rw [t] at p q
      obtain ⟨_, r⟩ := c2 a
      refine ⟨p, ?_⟩
      rw [q, r, List.append_assoc]
      rfl
  | inp σ =>
    obtain ⟨rfl, e, c1⟩ := c
    obtain ⟨rfl, rfl, h1⟩ := h
    have hz0 : z = (pNum 256 σ).1 := e
    have hb : 0 ≤ z ∧ z ≤ 256 := by
      rw [hz0]
      unfold pNum pPrim numI
      split
      · exact ⟨Int.le_refl _, by omega⟩
      · split
        · exact ⟨Int.le_refl _, by omega⟩
        · rename_i q
          show (0 : Int) ≤ ((numF σ.1 256).1 : Int) ∧ ((numF σ.1 256).1 : Int) ≤ 256
          refine ⟨by omega, ?_⟩
          unfold numF at q ⊢
          split
          · simp
          · split
            · simp
            · rename_i q2; simp only [not_or, Int.not_lt] at q2; exact q2.2
    have hzn : z.toNat = n := by omega
    have hp : (pList 256 S.p σ) = pRep S.p (pNum 256 σ).2 n := by
      unfold pList pBind
      rw [← hzn, hz0]
    refine ⟨.inp (pList 256 S.p σ).2, ?_, rfl, ?_, ?_⟩
    · show (pRep S.p (pNum 256 σ).2 n).2 = _
      rw [hp]
    · show _ = (pList 256 S.p σ).1
      rw [hp]; rfl
    · rw [h1, c1]
      have hlen : (pRep S.p (pNum 256 σ).2 n).1.length = n := pRep_len _ _ _
      constructor
      · rintro ⟨⟨a, b⟩, r⟩
        have b' : z ≤ (most : Int) := b
        refine ⟨a, ?_, fun i hi => r i ?_⟩
        · show (pRep S.p (pNum 256 σ).2 n).1.length ≤ most; omega
        · have hi' : i < (pRep S.p (pNum 256 σ).2 n).1.length := hi; omega
      · rintro ⟨a, b, r⟩
        have b' : (pRep S.p (pNum 256 σ).2 n).1.length ≤ most := b
        exact ⟨⟨a, show z ≤ (most : Int) by omega⟩, fun i hi => r i (show i < (pRep S.p (pNum 256 σ).2 n).1.length by omega)⟩
end
end Go.Proofs.Ytfldcddbmikfiaa
