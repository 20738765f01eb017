/- What it says: contracts and plain mathematics that the laws' walks use, 5 of 10: each part's own remark says what; no condition. -/
import Derived.Test.YtomhofppcogojaaPs1
import Derived.Test.YtomhofppcogojaaPs3
import Derived.Test.YtomhofppcogojaaPs4

set_option linter.unusedSimpArgs false
set_option linter.unusedVariables false
set_option linter.deprecated false
set_option linter.unusedSectionVars false
set_option linter.all false

/- pages in plain mathematics (stage 10): their bytes, how they are read back, what Set makes of them, what is got of them. No program is named. -/
namespace Go.Proofs.Ytomhofppcogojaa
open Go.RowKit

/-- A cell, a page. -/
structure Cl where
  key : ByteArray
  val : Vl
structure Pg where
  lsn : Int
  cells : List Cl
instance : Inhabited Cl := ⟨⟨ByteArray.empty, vl0⟩⟩
def pg0 : Pg := ⟨0, []⟩

def clL (c : Cl) : List Int := textL (nums c.key) ++ valL c.val
def pgL (p : Pg) : List Int := numL p.lsn ++ encList clL p.cells
def pCl (σ : Sg) : Cl × Sg := (⟨(pText 16 σ).1, (pVl (pText 16 σ).2).1⟩, (pVl (pText 16 σ).2).2)
def rdCl (c : Cl) : Prop := (c.key.size : Int) ≤ 16 ∧ rdVl c.val
theorem codec_cl : Codec pCl clL rdCl :=
  Codec.map (Codec.bind (codec_text 16 (by omega)) (fun _ => codec_vl)) (fun q : ByteArray × Vl => (⟨q.1, q.2⟩ : Cl)) (fun c : Cl => (c.key, c.val)) (fun _ => rfl) (fun _ => rfl)
def pPg (σ : Sg) : Pg × Sg := (⟨(pN σ).1, (pList 4 pCl (pN σ).2).1⟩, (pList 4 pCl (pN σ).2).2)
def rdPg (p : Pg) : Prop := rdNum p.lsn ∧ (p.cells.length : Int) ≤ 4 ∧ ∀ x ∈ p.cells, rdCl x
theorem codec_pg : Codec pPg pgL rdPg :=
  Codec.map (Codec.bind codec_N (fun _ => codec_list codec_cl 4 (by omega))) (fun q : Int × List Cl => (⟨q.1, q.2⟩ : Pg)) (fun p : Pg => (p.lsn, p.cells)) (fun _ => rfl) (fun _ => rfl)

/-- What may be. -/
def clOk (c : Cl) : Prop := keyOk c.key ∧ vlOk c.val
instance (v : Vl) : Decidable (vlOk v) := by unfold vlOk; infer_instance
instance (c : Cl) : Decidable (clOk c) := by unfold clOk; infer_instance
def Pg.ok (p : Pg) : Prop := (0 ≤ p.lsn ∧ p.lsn ≤ 1099511627776) ∧ p.cells.length ≤ 4 ∧ rises clOk (fun a b => kLt a.key b.key) p.cells
noncomputable instance (p : Pg) : Decidable p.ok := Classical.propDecidable _
theorem ok_rdPg {p : Pg} (h : p.ok) : rdPg p :=
  ⟨h.1, by have := h.2.1; omega, fun x hx => by
    obtain ⟨a, b⟩ := rises_all h.2.2 x hx
    exact ⟨by have := a.2; omega, b⟩⟩

/-- What Decode answers. -/
noncomputable def decPg (l : List Int) : Pg × Nat :=
  if (pPg (l, 0)).2.2 ≠ 0 then (pg0, (pPg (l, 0)).2.2) else if (pPg (l, 0)).1.ok then ((pPg (l, 0)).1, 0) else (pg0, 11)
theorem decPg_err {l : List Int} (h : (pPg (l, 0)).2.2 ≠ 0) : decPg l = (pg0, (pPg (l, 0)).2.2) := by unfold decPg; rw [if_pos h]
theorem decPg_ok {l : List Int} (h : (pPg (l, 0)).2.2 = 0) (ho : (pPg (l, 0)).1.ok) : decPg l = ((pPg (l, 0)).1, 0) := by unfold decPg; rw [if_neg (by simp [h]), if_pos ho]
theorem decPg_no {l : List Int} (h : (pPg (l, 0)).2.2 = 0) (ho : ¬ (pPg (l, 0)).1.ok) : decPg l = (pg0, 11) := by unfold decPg; rw [if_neg (by simp [h]), if_neg ho]
theorem decPg_back {p : Pg} (h : p.ok) (r : List Int) : decPg (pgL p ++ r) = (p, 0) := by
  have := codec_pg.back p r (ok_rdPg h)
  rw [decPg_ok (by rw [this]) (by rw [this]; exact h), this]
theorem decPg_exact {l : List Int} (hl : ∀ y ∈ l, 0 ≤ y ∧ y < 256) (h : (decPg l).2 = 0) : (decPg l).1.ok ∧ ∃ r, l = pgL (decPg l).1 ++ r := by
  by_cases h0 : (pPg (l, 0)).2.2 = 0
  · by_cases ho : (pPg (l, 0)).1.ok
    · rw [decPg_ok h0 ho]
      exact ⟨ho, _, (codec_pg.exact l hl h0).1⟩
    · rw [decPg_no h0 ho] at h; cases h
  · rw [decPg_err h0] at h; exact absurd h h0

/-- Bytes of what may be. -/
theorem numL_rd_len {z : Int} (h : rdNum z) : (numL z).length ≤ 10 := numL_len z (by have := h.2; omega)
theorem valL_rng (v : Vl) : ∀ x ∈ valL v, 0 ≤ x ∧ x < 256 := by
  intro x hx
  unfold valL at hx
  rcases List.mem_append.1 hx with h | h
  · exact flagL_rng _ x h
  · split at h
    · exact textL_rng (nums_rng _) x h
    · cases h
theorem clL_rng (c : Cl) : ∀ x ∈ clL c, 0 ≤ x ∧ x < 256 := by
  intro x hx
  rcases List.mem_append.1 hx with h | h
  · exact textL_rng (nums_rng _) x h
  · exact valL_rng _ x h
theorem pgL_rng (p : Pg) : ∀ x ∈ pgL p, 0 ≤ x ∧ x < 256 := by
  intro x hx
  rcases List.mem_append.1 hx with h | h
  · exact numL_rng _ x h
  · rcases List.mem_append.1 h with h | h
    · exact numL_rng _ x h
    · obtain ⟨c, _, hc⟩ := List.mem_flatMap.1 h
      exact clL_rng c x hc
theorem shortL_len1 (n : Nat) (h : n ≤ 127) : (shortL n).length = 1 := by
  unfold shortL
  rw [show n / 128 = 0 by omega, hiD_zero]
  rfl
theorem clL_len {c : Cl} (h : clOk c) : (clL c).length ≤ 51 := by
  have h1 := h.1.2
  have e1 : (textL (nums c.key)).length = 1 + c.key.size := by
    unfold textL
    rw [List.length_append, nums_len, shortL_len1 _ (by omega)]
  have e2 : (valL c.val).length ≤ 34 := by
    have hv := h.2
    unfold vlOk at hv
    unfold valL
    rw [List.length_append]
    have : (flagL c.val.has).length = 1 := rfl
    split
    · rename_i hh
      rw [if_pos hh] at hv
      have : (textL (nums c.val.data)).length = 1 + c.val.data.size := by
        unfold textL
        rw [List.length_append, nums_len, shortL_len1 _ (by omega)]
      omega
    · simp; omega
  unfold clL
  rw [List.length_append]
  omega
theorem cells_len {l : List Cl} (h : ∀ c ∈ l, clOk c) : (l.flatMap clL).length ≤ 51 * l.length := by
  induction l with
  | nil => simp
  | cons c r ih =>
    rw [List.flatMap_cons, List.length_append, List.length_cons]
    have := clL_len (h c (by simp))
    have := ih (fun x hx => h x (by simp [hx]))
    omega
theorem pgL_len {p : Pg} (h : p.ok) : (pgL p).length ≤ 254 := by
  have h1 : (numL p.lsn).length ≤ 10 := numL_rd_len h.1
  have h2 : (numL (p.cells.length : Int)).length ≤ 10 := numL_len _ (by have := h.2.1; omega)
  have h3 := cells_len (rises_all h.2.2)
  have h4 := h.2.1
  unfold pgL encList
  rw [List.length_append, List.length_append]
  omega

/-- Keys by order. -/
theorem bytesLess_iff : ∀ (x y : List UInt8), Op.bytesLess x y = decide (x < y)
  | [], [] => by simp [Op.bytesLess]
  | _ :: _, [] => by simp [Op.bytesLess]
  | [], _ :: _ => by simp [Op.bytesLess]
  | a :: x, b :: y => by
    rw [Op.bytesLess, bytesLess_iff x y]
    simp only [List.cons_lt_cons_iff]
    by_cases h1 : a < b <;> by_cases h2 : a = b <;> by_cases h3 : x < y <;> simp [h1, h2, h3]
theorem kLt_iff (a b : ByteArray) : kLt a b ↔ a.toList < b.toList := by unfold kLt; rw [bytesLess_iff]; simp
theorem ba_inj {a b : ByteArray} (h : a.toList = b.toList) : a = b := by
  rw [Lib.toList_data, Lib.toList_data] at h
  exact ByteArray.ext (Array.ext' h)
theorem kLt_irrefl (a : ByteArray) : ¬ kLt a a := by rw [kLt_iff]; exact List.lt_irrefl _
theorem kLt_trans {a b c : ByteArray} (h1 : kLt a b) (h2 : kLt b c) : kLt a c := by rw [kLt_iff] at *; exact List.lt_trans h1 h2
theorem kLt_tri {a b : ByteArray} (h : ¬ kLt a b) (hne : a ≠ b) : kLt b a := by
  rw [kLt_iff] at *
  rcases List.le_iff_lt_or_eq.1 (List.not_lt.1 h) with q | q
  · exact q
  · exact absurd (ba_inj q.symm) hne
theorem kLt_ne {a b : ByteArray} (h : kLt a b) : a ≠ b := fun e => kLt_irrefl b (e ▸ h)
theorem kLt_asym {a b : ByteArray} (h : kLt a b) : ¬ kLt b a := fun q => kLt_irrefl a (kLt_trans h q)

theorem rises_pw {α : Type} [Inhabited α] {p : α → Prop} {q : α → α → Prop} (ht : ∀ a b c, q a b → q b c → q a c) (l : List α) : rises p q l ↔ (∀ x ∈ l, p x) ∧ l.Pairwise q := by
  constructor
  · intro h
    refine ⟨rises_all h, List.pairwise_iff_getElem.2 ?_⟩
    intro i j hi hj hij
    have key : ∀ d, i + d + 1 < l.length → q (l.getD i default) (l.getD (i + d + 1) default) := by
      intro d
      induction d with
      | zero => intro hd; exact (h (i + 0 + 1) hd).2 (by omega)
      | succ d ih => intro hd; exact ht _ _ _ (ih (by omega)) ((h (i + (d + 1) + 1) hd).2 (by omega))
    have := key (j - i - 1) (by omega)
    rw [show i + (j - i - 1) + 1 = j by omega] at this
    rwa [List.getD_eq_getElem?_getD, List.getElem?_eq_getElem hi, List.getD_eq_getElem?_getD, List.getElem?_eq_getElem hj] at this
  · rintro ⟨h1, h2⟩ i hi
    have e : ∀ j (hj : j < l.length), l.getD j default = l[j] := fun j hj => by rw [List.getD_eq_getElem?_getD, List.getElem?_eq_getElem hj]; rfl
    refine ⟨by rw [e i hi]; exact h1 _ (List.getElem_mem hi), fun h0 => ?_⟩
    rw [e (i - 1) (by omega), e i hi]
    exact List.pairwise_iff_getElem.1 h2 (i - 1) i (by omega) hi (by omega)

abbrev qCl (a b : Cl) : Prop := kLt a.key b.key
/-- Cells that may be. -/
def clsOk (l : List Cl) : Prop := rises clOk qCl l
theorem clsOk_pw (l : List Cl) : clsOk l ↔ (∀ x ∈ l, clOk x) ∧ l.Pairwise qCl := rises_pw (q := qCl) (fun _ _ _ h1 h2 => kLt_trans h1 h2) l

/-- How many cells stand ahead of a key. -/
def atC : List Cl → ByteArray → Nat
  | [], _ => 0
  | c :: r, k => if kLt c.key k then atC r k + 1 else 0
theorem atC_le : ∀ (l : List Cl) (k : ByteArray), atC l k ≤ l.length
  | [], _ => Nat.le_refl _
  | c :: r, k => by unfold atC; have := atC_le r k; split <;> simp; omega
theorem atC_uniq {k : ByteArray} : ∀ {l : List Cl} {n : Nat}, n ≤ l.length → (∀ i, i < n → kLt (l.getD i default).key k) → (∀ i, n ≤ i → i < l.length → ¬ kLt (l.getD i default).key k) → atC l k = n
  | [], n, h1, _, _ => by simp at h1; subst h1; rfl
  | c :: r, 0, _, _, h3 => by
    have := h3 0 (Nat.le_refl _) (by simp)
    unfold atC
    rw [if_neg (by simpa using this)]
  | c :: r, n + 1, h1, h2, h3 => by
    have := h2 0 (by omega)
    unfold atC
    rw [if_pos (by simpa using this), atC_uniq (l := r) (n := n) (by simpa using h1) (fun i hi => by simpa using h2 (i + 1) (by omega)) (fun i hi hl => by simpa using h3 (i + 1) (by omega) (by simpa using hl))]
theorem atC_lo {k : ByteArray} : ∀ {l : List Cl} {i : Nat}, i < atC l k → kLt (l.getD i default).key k
  | [], _, h => by simp [atC] at h
  | c :: r, i, h => by
    unfold atC at h
    split at h
    · rename_i hc
      cases i with
      | zero => simpa using hc
      | succ i => simpa using atC_lo (l := r) (i := i) (by omega)
    · omega
theorem atC_at {k : ByteArray} : ∀ {l : List Cl}, atC l k < l.length → ¬ kLt (l.getD (atC l k) default).key k
  | [], h => by simp at h
  | c :: r, h => by
    unfold atC at h ⊢
    split
    · rename_i hc
      rw [if_pos hc] at h
      simpa using atC_at (l := r) (by simpa using h)
    · rename_i hc
      simpa using hc
theorem pw_get {l : List Cl} (h : l.Pairwise qCl) {i j : Nat} (hij : i < j) (hj : j < l.length) : kLt (l.getD i default).key (l.getD j default).key := by
  have := List.pairwise_iff_getElem.1 h i j (by omega) hj hij
  rwa [List.getD_eq_getElem?_getD, List.getElem?_eq_getElem (by omega), List.getD_eq_getElem?_getD, List.getElem?_eq_getElem hj]
theorem atC_hi {l : List Cl} (h : l.Pairwise qCl) {k : ByteArray} {i : Nat} (h1 : atC l k ≤ i) (h2 : i < l.length) : ¬ kLt (l.getD i default).key k := by
  rcases Nat.lt_or_ge (atC l k) i with q | q
  · intro hk
    exact atC_at (by omega) (kLt_trans (pw_get h q h2) hk)
  · have : i = atC l k := by omega
    rw [this]; exact atC_at (by omega)

/-- Whether the key has the cell there. -/
def isAt (l : List Cl) (k : ByteArray) : Bool := decide (atC l k < l.length ∧ (l.getD (atC l k) default).key = k)
def behC (l : List Cl) (k : ByteArray) : Nat := if isAt l k then atC l k + 1 else atC l k
def setC (l : List Cl) (c : Cl) : List Cl := l.take (atC l c.key) ++ [c] ++ l.drop (behC l c.key)
/-- The first cell of a key. -/
def getC (l : List Cl) (k : ByteArray) : Option Cl := l.find? (fun c => decide (c.key = k))
def getV (l : List Cl) (k : ByteArray) : Vl := ((getC l k).map Cl.val).getD vl0
def hasC (l : List Cl) (k : ByteArray) : Bool := l.any (fun c => decide (c.key = k))

theorem behC_le (l : List Cl) (k : ByteArray) : behC l k ≤ l.length := by
  unfold behC isAt
  split
  · rename_i h; have := of_decide_eq_true h; omega
  · exact atC_le l k
theorem take_lo {l : List Cl} {k : ByteArray} : ∀ x ∈ l.take (atC l k), kLt x.key k := by
  intro x hx
  obtain ⟨i, hi, rfl⟩ := List.getElem_of_mem hx
  have h1 : i < atC l k := by rw [List.length_take] at hi; omega
  have h2 : i < l.length := by rw [List.length_take] at hi; omega
  have := atC_lo h1
  rw [List.getElem_take]
  rwa [List.getD_eq_getElem?_getD, List.getElem?_eq_getElem h2] at this
theorem drop_hi {l : List Cl} (h : l.Pairwise qCl) {k : ByteArray} : ∀ x ∈ l.drop (behC l k), kLt k x.key := by
  intro x hx
  obtain ⟨i, hi, rfl⟩ := List.getElem_of_mem hx
  rw [List.length_drop] at hi
  have h2 : behC l k + i < l.length := by omega
  have e : l.getD (behC l k + i) default = l[behC l k + i] := by rw [List.getD_eq_getElem?_getD, List.getElem?_eq_getElem h2]; rfl
  rw [List.getElem_drop, ← e]
  have hb : atC l k ≤ behC l k := by unfold behC; split <;> omega
  have hn := atC_hi h (k := k) (i := behC l k + i) (by omega) h2
  refine kLt_tri hn (fun eq => ?_)
  by_cases ha : isAt l k = true
  · have hb' : behC l k = atC l k + 1 := by unfold behC; rw [if_pos ha]
    have ha' := of_decide_eq_true ha
    have := pw_get h (i := atC l k) (j := behC l k + i) (by omega) h2
    rw [ha'.2, eq] at this
    exact kLt_irrefl _ this
  · have hb' : behC l k = atC l k := by unfold behC; rw [if_neg ha]
    rcases Nat.eq_zero_or_pos i with q | q
    · subst q
      apply ha
      refine decide_eq_true ⟨by omega, ?_⟩
      rw [← hb']
      simpa using eq
    · have h3 := pw_get h (i := atC l k) (j := behC l k + i) (by omega) h2
      rw [eq] at h3
      exact atC_at (by omega) h3
theorem split3 {l : List Cl} {k : ByteArray} : ∃ m, l = l.take (atC l k) ++ m ++ l.drop (behC l k) ∧ (∀ x ∈ m, x.key = k) ∧ (isAt l k = true → m ≠ []) ∧ (isAt l k = false → m = []) := by
  by_cases ha : isAt l k = true
  · have hb : behC l k = atC l k + 1 := by unfold behC; rw [if_pos ha]
    have ha' := of_decide_eq_true ha
    refine ⟨[l.getD (atC l k) default], ?_, by simpa using ha'.2, by simp, fun q => by rw [ha] at q; cases q⟩
    have hl := ha'.1
    have e : l.getD (atC l k) default = l[atC l k]'hl := by rw [List.getD_eq_getElem?_getD, List.getElem?_eq_getElem hl]; rfl
    rw [hb, e, List.append_assoc, List.singleton_append, List.getElem_cons_drop, List.take_append_drop]
  · have ha0 : isAt l k = false := by simpa using ha
    have hb : behC l k = atC l k := by unfold behC; rw [if_neg ha]
    exact ⟨[], by rw [hb, List.append_nil, List.take_append_drop], by simp, fun q => absurd q ha, fun _ => rfl⟩
theorem find_none {l : List Cl} {k : ByteArray} (h : ∀ x ∈ l, x.key ≠ k) : l.find? (fun c => decide (c.key = k)) = none := by
  rw [List.find?_eq_none]
  intro x hx
  simpa using h x hx
theorem has_iff (l : List Cl) (k : ByteArray) : hasC l k = true ↔ ∃ x ∈ l, x.key = k := by unfold hasC; simp [List.any_eq_true]
theorem has_at {l : List Cl} (h : l.Pairwise qCl) (k : ByteArray) : hasC l k = isAt l k := by
  obtain ⟨m, hm, hk, h1, h2⟩ := split3 (l := l) (k := k)
  cases ha : isAt l k with
  | true =>
    have := h1 ha
    rw [has_iff]
    obtain ⟨x, r, rfl⟩ := List.exists_cons_of_ne_nil this
    exact ⟨x, by rw [hm]; simp, hk x (by simp)⟩
  | false =>
    have hm0 := h2 ha
    subst hm0
    cases hh : hasC l k with
    | false => rfl
    | true =>
      obtain ⟨x, hx, hxk⟩ := (has_iff l k).1 hh
      rw [hm, List.append_nil] at hx
      rcases List.mem_append.1 hx with q | q
      · exact absurd hxk (kLt_ne (take_lo x q))
      · exact absurd hxk.symm (kLt_ne (drop_hi h x q))
theorem setC_get {l : List Cl} (c : Cl) : getC (setC l c) c.key = some c := by
  unfold getC setC
  rw [List.append_assoc, List.find?_append, find_none (fun x hx => kLt_ne (take_lo x hx))]
  simp
theorem setC_other {l : List Cl} (h : l.Pairwise qCl) (c : Cl) {k : ByteArray} (hk : k ≠ c.key) : getC (setC l c) k = getC l k := by
  obtain ⟨m, hm, hmk, _, _⟩ := split3 (l := l) (k := c.key)
  have e : getC l k = getC (l.take (atC l c.key) ++ m ++ l.drop (behC l c.key)) k := by rw [← hm]
  rw [e]
  unfold getC setC
  rw [List.find?_append, List.find?_append, List.find?_append, List.find?_append, find_none (l := m) (fun x hx => by rw [hmk x hx]; exact fun q => hk q.symm), find_none (l := [c]) (fun x hx => by simp at hx; subst hx; exact fun q => hk q.symm)]
theorem setC_ok {l : List Cl} (h : clsOk l) {c : Cl} (hc : clOk c) : clsOk (setC l c) := by
  rw [clsOk_pw] at h ⊢
  obtain ⟨h1, h2⟩ := h
  unfold setC
  refine ⟨fun x hx => ?_, ?_⟩
  · rcases List.mem_append.1 hx with q | q
    · rcases List.mem_append.1 q with q | q
      · exact h1 x (List.mem_of_mem_take q)
      · simp at q; subst q; exact hc
    · exact h1 x (List.mem_of_mem_drop q)
  · rw [List.pairwise_append, List.pairwise_append]
    refine ⟨⟨h2.sublist (List.take_sublist _ _), List.pairwise_singleton _ _, fun a ha b hb => ?_⟩, h2.sublist (List.drop_sublist _ _), fun a ha b hb => ?_⟩
    · simp at hb; subst hb; exact take_lo a ha
    · have hb' := drop_hi h2 b hb
      rcases List.mem_append.1 ha with q | q
      · exact kLt_trans (take_lo a q) hb'
      · simp at q; subst q; exact hb'
theorem setC_len {l : List Cl} (h : l.Pairwise qCl) (c : Cl) (hl : l.length ≤ 4) (hr : hasC l c.key = true ∨ l.length < 4) : (setC l c).length ≤ 4 := by
  have ha := atC_le l c.key
  have hb := behC_le l c.key
  unfold setC
  rw [List.length_append, List.length_append, List.length_take, List.length_drop]
  simp only [List.length_singleton]
  rcases hr with q | q
  · rw [has_at h] at q
    have : behC l c.key = atC l c.key + 1 := by unfold behC; rw [if_pos q]
    omega
  · have : atC l c.key ≤ behC l c.key := by unfold behC; split <;> omega
    omega
theorem setC_has {l : List Cl} (c : Cl) : hasC (setC l c) c.key = true := by
  rw [has_iff]
  exact ⟨c, by unfold setC; simp, rfl⟩
theorem getV_ok {l : List Cl} (h : ∀ x ∈ l, clOk x) (k : ByteArray) : vlOk (getV l k) := by
  unfold getV getC
  cases hf : l.find? (fun c => decide (c.key = k)) with
  | none => show vlOk vl0; unfold vlOk vl0; simp
  | some c => exact (h c (List.mem_of_find?_eq_some hf)).2

/-- What Set answers. -/
def roomC (l : List Cl) (k : ByteArray) : Bool := hasC l k || decide (l.length < 4)
noncomputable def setPg (p : Pg) (lsn : Int) (c : Cl) : Pg × Nat :=
  if p.ok ∧ clOk c ∧ 1 ≤ lsn ∧ lsn ≤ 1099511627776 then (if roomC p.cells c.key then (⟨lsn, setC p.cells c⟩, 0) else (pg0, 100)) else (pg0, 1)
theorem setPg_arg {p : Pg} {lsn : Int} {c : Cl} (h : ¬ (p.ok ∧ clOk c ∧ 1 ≤ lsn ∧ lsn ≤ 1099511627776)) : setPg p lsn c = (pg0, 1) := if_neg h
theorem setPg_page {p : Pg} {lsn : Int} {c : Cl} (h : p.ok ∧ clOk c ∧ 1 ≤ lsn ∧ lsn ≤ 1099511627776) (hr : roomC p.cells c.key = false) : setPg p lsn c = (pg0, 100) := by unfold setPg; rw [if_pos h, hr]; rfl
theorem setPg_ok {p : Pg} {lsn : Int} {c : Cl} (h : p.ok ∧ clOk c ∧ 1 ≤ lsn ∧ lsn ≤ 1099511627776) (hr : roomC p.cells c.key = true) : setPg p lsn c = (⟨lsn, setC p.cells c⟩, 0) := by unfold setPg; rw [if_pos h, hr]; rfl
theorem setPg_isok {p : Pg} {lsn : Int} {c : Cl} (h : p.ok ∧ clOk c ∧ 1 ≤ lsn ∧ lsn ≤ 1099511627776) (hr : roomC p.cells c.key = true) : (⟨lsn, setC p.cells c⟩ : Pg).ok :=
  ⟨⟨Int.le_trans (by omega) h.2.2.1, h.2.2.2⟩, setC_len ((clsOk_pw _).1 h.1.2.2).2 c h.1.2.1 (by unfold roomC at hr; simpa using hr), setC_ok h.1.2.2 h.2.1⟩
end Go.Proofs.Ytomhofppcogojaa

/- versions of a page in plain mathematics (stage 11): a version's payload, the version that a sector has, the one of two that counts. No program is named. -/
namespace Go.Proofs.Ytomhofppcogojaa
open Go.RowKit

/-- The payload of a version. -/
def bodyV (t : Int) (p : Pg) : List Int := numL t ++ pgL p
theorem bodyV_rng (t : Int) (p : Pg) : ∀ x ∈ bodyV t p, 0 ≤ x ∧ x < 256 := by
  intro x hx
  rcases List.mem_append.1 hx with h | h
  · exact numL_rng _ x h
  · exact pgL_rng _ x h
theorem bodyV_len {t : Int} {p : Pg} (ht : t ≤ 1099511627776) (h : p.ok) : (bodyV t p).length ≤ 254 := by
  have h0 : (numL t).length ≤ 10 := numL_len t (by omega)
  have h1 : (numL p.lsn).length ≤ 10 := numL_rd_len h.1
  have h2 : (numL (p.cells.length : Int)).length ≤ 10 := numL_len _ (by have := h.2.1; omega)
  have h3 := cells_len (rises_all h.2.2)
  have h4 := h.2.1
  unfold bodyV pgL encList
  rw [List.length_append, List.length_append, List.length_append]
  omega

/-- The number at the beginning of a sector's payload, what stands behind it, the error. -/
def verT (l : List Int) : Int := (pN (openB l, 0)).1
def verR (l : List Int) : List Int := (pN (openB l, 0)).2.1
def verX (l : List Int) : Nat := (pN (openB l, 0)).2.2
theorem pNum_rngS (most : Int) (hm : 0 ≤ most) (σ : Sg) : 0 ≤ (pNum most σ).1 ∧ (pNum most σ).1 ≤ most := by
  unfold pNum pPrim numI
  split
  · exact ⟨Int.le_refl _, hm⟩
  · split
    · exact ⟨Int.le_refl _, hm⟩
    · rename_i q
      show (0 : Int) ≤ ((numF σ.1 most).1 : Int) ∧ ((numF σ.1 most).1 : Int) ≤ most
      refine ⟨by omega, ?_⟩
      unfold numF at q ⊢
      split
      · simpa using hm
      · split
        · simpa using hm
        · rename_i h
          simp only [not_or, Int.not_lt] at h
          exact h.2
theorem verT_rng (l : List Int) : 0 ≤ verT l ∧ verT l ≤ 1099511627776 := pNum_rngS 1099511627776 (by omega) _
theorem verT_err {l : List Int} (h : verX l ≠ 0) : verT l = 0 := by
  unfold verT verX pN pNum pPrim stepE at *
  simp only at *
  rw [if_neg (by simp)]
  split
  · rfl
  · rename_i q
    exact absurd (by simpa using q) h
theorem openB_rng {l : List Int} (hl : ∀ x ∈ l, 0 ≤ x ∧ x < 256) : ∀ x ∈ openB l, 0 ≤ x ∧ x < 256 := by
  unfold openB
  split
  · exact bodyL_rng hl
  · intro y hy; cases hy
theorem verR_rng {l : List Int} (hl : ∀ x ∈ l, 0 ≤ x ∧ x < 256) : ∀ x ∈ verR l, 0 ≤ x ∧ x < 256 := codec_N.rng (openB l, 0) (openB_rng hl)
theorem verR_drop {l : List Int} (hl : ∀ x ∈ l, 0 ≤ x ∧ x < 256) (h : verX l = 0) : (verR l).length ≤ (openB l).length ∧ (openB l).drop ((openB l).length - (verR l).length) = verR l := by
  have e := (codec_N.exact (openB l) (openB_rng hl) h).1
  have e' : openB l = numL (verT l) ++ verR l := e
  have hn := congrArg List.length e'
  rw [List.length_append] at hn
  refine ⟨by omega, ?_⟩
  rw [show (openB l).length - (verR l).length = (numL (verT l)).length by omega]
  rw [e']
  exact List.drop_left

/-- Has the sector of parity z a version? -/
def isV (z : Int) (l : List Int) : Prop := openE l = 0 ∧ 1 ≤ verT l ∧ verT l % 2 = z ∧ (decPg (verR l)).2 = 0
noncomputable instance (z : Int) (l : List Int) : Decidable (isV z l) := Classical.propDecidable _
/-- A version: its turn, its page. -/
structure Vr where
  turn : Int
  pg : Pg
def vr0 : Vr := ⟨0, pg0⟩
noncomputable def verP (z : Int) (l : List Int) : Vr := if isV z l then ⟨verT l, (decPg (verR l)).1⟩ else vr0
theorem verP_no {z : Int} {l : List Int} (h : ¬ isV z l) : verP z l = vr0 := if_neg h
theorem verP_yes {z : Int} {l : List Int} (h : isV z l) : verP z l = ⟨verT l, (decPg (verR l)).1⟩ := if_pos h
theorem verP_turn (z : Int) (l : List Int) : 0 ≤ (verP z l).turn ∧ (verP z l).turn ≤ 1099511627776 := by
  by_cases h : isV z l
  · rw [verP_yes h]; exact verT_rng l
  · rw [verP_no h]; exact ⟨Int.le_refl _, by show (0 : Int) ≤ 1099511627776; omega⟩
theorem verP_torn {z : Int} {l : List Int} (h : openE l = 50) : verP z l = vr0 := verP_no (fun q => by have := q.1; omega)

/-- A version that was put is there. -/
theorem verP_wrap {t : Int} {p : Pg} (ht : 1 ≤ t ∧ t ≤ 1099511627776) (h : p.ok) {m : Int} (hm : 1 ≤ m ∧ m ≤ 3) : verP (t % 2) (wrapL m (bodyV t p)) = ⟨t, p⟩ := by
  have hl : (bodyV t p).length ≤ 254 := bodyV_len ht.2 h
  have hs : (wrapL m (bodyV t p)).length = 256 := by simp [wrapL, padL_len hl]
  have e := openE_right hs (right_wrap hm hl)
  have eb : openB (wrapL m (bodyV t p)) = numL t ++ (pgL p ++ List.replicate (254 - (bodyV t p).length) 0) := by
    rw [openB_right hs (right_wrap hm hl), bodyL_wrap hl, ← List.append_assoc]; rfl
  have hb := codec_N.back t (pgL p ++ List.replicate (254 - (bodyV t p).length) 0) ⟨by omega, ht.2⟩
  have e1 : verT (wrapL m (bodyV t p)) = t := by unfold verT; rw [eb, hb]
  have e2 : verR (wrapL m (bodyV t p)) = pgL p ++ List.replicate (254 - (bodyV t p).length) 0 := by unfold verR; rw [eb, hb]
  have hd := decPg_back h (List.replicate (254 - (bodyV t p).length) 0)
  have hv : isV (t % 2) (wrapL m (bodyV t p)) := ⟨e, by rw [e1]; exact ht.1, by rw [e1], by rw [e2, hd]⟩
  rw [verP_yes hv, e1, e2, hd]

/-- Which of both counts. -/
noncomputable def loadV (a b : List Int) : Vr := if (verP 0 a).turn < (verP 1 b).turn then verP 1 b else verP 0 a
theorem loadV_turn (a b : List Int) : 0 ≤ (loadV a b).turn ∧ (loadV a b).turn ≤ 1099511627776 := by
  unfold loadV
  split
  · exact verP_turn _ _
  · exact verP_turn _ _
/-- What counts of the first k sectors. -/
noncomputable def cvV (a b : List Int) : Nat → Vr
  | 0 => vr0
  | 1 => verP 0 a
  | _ + 2 => loadV a b
theorem verP_zero {z : Int} {l : List Int} (h : (verP z l).turn = 0) : verP z l = vr0 := by
  by_cases hv : isV z l
  · rw [verP_yes hv] at h
    have := hv.2.1
    have h' : verT l = 0 := h
    omega
  · exact verP_no hv
theorem cvV_next (a b : List Int) (k : Nat) (hk : k < 2) : cvV a b (k + 1) = if (cvV a b k).turn < (verP k (if k = 0 then a else b)).turn then verP k (if k = 0 then a else b) else cvV a b k := by
  have : k = 0 ∨ k = 1 := by omega
  rcases this with rfl | rfl
  · show verP 0 a = if vr0.turn < (verP 0 a).turn then verP 0 a else vr0
    split
    · rfl
    · rename_i q
      have h0 := (verP_turn 0 a).1
      exact verP_zero (by have : vr0.turn = 0 := rfl; omega)
  · rfl
theorem cvV_turn (a b : List Int) (k : Nat) : 0 ≤ (cvV a b k).turn ∧ (cvV a b k).turn ≤ 1099511627776 := by
  match k with
  | 0 => exact ⟨Int.le_refl _, by show (0 : Int) ≤ 1099511627776; omega⟩
  | 1 => exact verP_turn _ _
  | _ + 2 => exact loadV_turn _ _
theorem verP_zeros (z : Int) : verP z zeros = vr0 := verP_torn (openE_torn zeros_sec.1 (fun q => by
  have : zeros.getD 0 0 = 0 := rfl
  have := q.2.1
  omega))
theorem verP_ok {z : Int} {l : List Int} (hl : ∀ x ∈ l, 0 ≤ x ∧ x < 256) : verP z l = vr0 ∨ (verP z l).pg.ok := by
  by_cases h : isV z l
  · rw [verP_yes h]
    refine .inr (decPg_exact (l := verR l) ?_ h.2.2.2).1
    have : ∀ y ∈ openB l, 0 ≤ y ∧ y < 256 := by
      unfold openB
      split
      · exact bodyL_rng hl
      · intro y hy; cases hy
    exact codec_N.rng (openB l, 0) this
  · exact .inl (verP_no h)
theorem pg0_isok : pg0.ok := ⟨⟨Int.le_refl 0, by show (0 : Int) ≤ 1099511627776; omega⟩, by simp [pg0], fun i hi => absurd hi (by simp [pg0])⟩
end Go.Proofs.Ytomhofppcogojaa

/- what a sector's save, a fuse and a crash make of a plain disk of N sectors, where all was synchronized. No program is named. -/
namespace Go.Proofs.Ytomhofppcogojaa
open Go.RowKit

/-- Put, then Sync: what is answered, and left. -/
def svE (s : St) (n : Int) (p : List Int) : Int := if putE s n p ≠ 0 then putE s n p else (putS s n p).sErr
def svS (s : St) (n : Int) (p : List Int) : St := if putE s n p ≠ 0 then putS s n p else (putS s n p).sync

/-- N sectors, all is synchronized. -/
structure Sld (N : Nat) (s : St) (k : Nat) : Prop where
  num : s.num = N
  left : s.left = -1
  gone : s.gone = false
  pend : s.pend = []
  syncs : s.syncs ≤ k
theorem Sld.start (N : Nat) : Sld N (St.new N) 0 := ⟨rfl, rfl, rfl, rfl, Nat.le_refl _⟩
section
variable {N : Nat} {s : St} {k n : Nat} {p : List Int}
theorem Sld.mono {j : Nat} (h : Sld N s k) (hj : k ≤ j) : Sld N s j := ⟨h.num, h.left, h.gone, h.pend, Nat.le_trans h.syncs hj⟩
theorem Sld.rd (h : Sld N s k) (hn : n < N) : s.rErr n = 0 ∧ s.rBytes n = s.syn n := by
  have e : s.rErr n = 0 := by
    unfold St.rErr
    rw [if_neg (by rw [h.num]; omega), if_neg (by rw [h.gone]; simp)]
  refine ⟨e, ?_⟩
  unfold St.rBytes
  rw [if_pos e, now_nothing h.pend]
  rfl
theorem Sld.fuse_neg (h : Sld N s k) {f : Int} (hf : f < 0) : s.fuse f = s := by
  have e : max f (-1) = -1 := by omega
  have hl := h.left
  unfold St.fuse
  rw [e, ← hl]
theorem sl_fuse_rd (h : Sld N s k) (f : Int) (hn : n < N) : (s.fuse f).rErr n = 0 ∧ (s.fuse f).rBytes n = s.syn n := by
  have e : (s.fuse f).rErr n = 0 := by
    unfold St.rErr
    rw [if_neg (by show ¬ ((n : Int) < 0 ∨ (s.num : Int) ≤ n); rw [h.num]; omega), if_neg (by show ¬ s.gone = true; rw [h.gone]; simp)]
  refine ⟨e, ?_⟩
  unfold St.rBytes
  rw [if_pos e]
  have hp : (s.fuse f).pend = [] := h.pend
  rw [now_nothing hp]
  rfl
theorem sl_left (f : Int) : (s.fuse f).left = max f (-1) := rfl
theorem sl_fuse_put (h : Sld N s k) (hn : n < N) (hp : p.length ≤ 254) (hr : ∀ x ∈ p, 0 ≤ x ∧ x < 256) (f : Int) : putE (s.fuse f) n p = (if (s.fuse f).can then 0 else 40) ∧ putS (s.fuse f) n p = (if (s.fuse f).can then (s.fuse f).wrote n (putL s n p) else (s.fuse f).step) := by
  obtain ⟨h1, h2⟩ := sl_fuse_rd h f hn
  have hl : (putL s n p).length = 256 := (putL_sec (s := s) hp hr).1
  have hb : ¬ 254 < p.length := by omega
  have e : ¬ (((n : Nat) : Int) < 0 ∨ ((s.fuse f).num : Int) ≤ (n : Nat)) := by show ¬ (_ ∨ (s.num : Int) ≤ _); rw [h.num]; omega
  refine ⟨?_, ?_⟩
  · unfold putE
    rw [if_neg hb, if_neg (by rw [h1]; simp), h2]
    show (s.fuse f).wErr _ (putL s n p) = _
    unfold St.wErr
    rw [if_neg e, if_neg (by rw [hl]; simp)]
  · unfold putS
    rw [if_neg hb, if_neg (by rw [h1]; simp), h2]
    show (s.fuse f).write _ (putL s n p) = _
    unfold St.write
    rw [if_neg e, if_neg (by rw [hl]; simp)]
    rfl
theorem sl_fuse_can (h : Sld N s k) (f : Int) : (s.fuse f).can = !(max f (-1) == 0) := by
  unfold St.can
  show (!s.gone && !(max f (-1) == 0)) = _
  rw [h.gone]
  rfl
theorem sl_fuse_step (h : Sld N s k) {f : Int} (hf : f ≠ 0) : (s.fuse f).step.left = (if 0 < f then f - 1 else -1) ∧ (s.fuse f).step.gone = false ∧ (s.fuse f).step.syn = s.syn ∧ (s.fuse f).step.num = N ∧ (s.fuse f).step.syncs = s.syncs := by
  have hg : ¬ (s.fuse f).gone = true := by show ¬ s.gone = true; rw [h.gone]; simp
  have hg' : (s.fuse f).gone = false := h.gone
  refine ⟨?_, ?_, by rw [St.step_syn]; rfl, by rw [St.step_num]; exact h.num, by rw [St.step_syncs]; rfl⟩
  · unfold St.step
    rw [if_neg hg, if_neg (by rw [sl_left]; omega)]
    by_cases h0 : 0 < f
    · rw [if_pos (by rw [sl_left]; omega), if_pos h0]
      show max f (-1) - 1 = _
      omega
    · rw [if_neg (by rw [sl_left]; omega), if_neg h0]
      show max f (-1) = _
      omega
  · unfold St.step
    rw [if_neg hg, if_neg (by rw [sl_left]; omega)]
    split
    · exact hg'
    · exact hg'

/-- A fuse of nought: nothing is written, the disk is down. -/
theorem sv_zero (h : Sld N s k) (hn : n < N) (hp : p.length ≤ 254) (hr : ∀ x ∈ p, 0 ≤ x ∧ x < 256) : svE (s.fuse 0) n p = 40 ∧ (svS (s.fuse 0) n p).gone = true ∧ ∀ c, Sld N ((svS (s.fuse 0) n p).crash c) 0 ∧ ((svS (s.fuse 0) n p).crash c).syn = s.syn := by
  obtain ⟨p1, p2⟩ := sl_fuse_put h hn hp hr 0
  have hc : (s.fuse 0).can = false := by rw [sl_fuse_can h]; decide
  rw [hc] at p1 p2
  rw [if_neg (by simp)] at p1 p2
  have e : svS (s.fuse 0) n p = (s.fuse 0).step := by unfold svS; rw [if_pos (by rw [p1]; simp), p2]
  refine ⟨by unfold svE; rw [if_pos (by rw [p1]; simp), p1], ?_, fun c => ?_⟩
  · rw [e]
    unfold St.step
    rw [if_neg (by show ¬ s.gone = true; rw [h.gone]; simp), if_pos (by rw [sl_left]; omega)]
  · rw [e]
    have hq : (s.fuse 0).step.pend = [] := by rw [St.step_pend]; exact h.pend
    refine ⟨⟨by show (s.fuse 0).step.num = N; rw [St.step_num]; exact h.num, rfl, rfl, rfl, Nat.le_refl _⟩, ?_⟩
    show (s.fuse 0).step.left_ _ (s.fuse 0).step.pend.length = _
    rw [hq]
    show (s.fuse 0).step.syn = _
    rw [St.step_syn]
    rfl

/-- A fuse of one: the write is made, not synchronized; the disk is down. -/
theorem sv_one (h : Sld N s k) (hn : n < N) (hp : p.length ≤ 254) (hr : ∀ x ∈ p, 0 ≤ x ∧ x < 256) : svE (s.fuse 1) n p = 40 ∧ (svS (s.fuse 1) n p).gone = true ∧ ∀ c, Sld N ((svS (s.fuse 1) n p).crash c) 0 ∧ ((svS (s.fuse 1) n p).crash c).syn = upd s.syn n (over (putL s n p) (s.syn n) (c.of 1 0)) := by
  obtain ⟨p1, p2⟩ := sl_fuse_put h hn hp hr 1
  have hc : (s.fuse 1).can = true := by rw [sl_fuse_can h]; decide
  rw [hc] at p1 p2
  rw [if_pos rfl] at p1 p2
  obtain ⟨q1, q2, q3, q4, q5⟩ := sl_fuse_step h (f := 1) (by omega)
  have g1 : ((s.fuse 1).wrote n (putL s n p)).left = 0 := by
    show (s.fuse 1).step.left = 0
    rw [q1]; rfl
  have g2 : ((s.fuse 1).wrote n (putL s n p)).gone = false := q2
  have hc2 : ((s.fuse 1).wrote n (putL s n p)).can = false := by
    unfold St.can
    rw [g1, g2]; rfl
  have e : svS (s.fuse 1) n p = ((s.fuse 1).wrote n (putL s n p)).step := by
    unfold svS
    rw [if_neg (by rw [p1]; simp), p2]
    unfold St.sync
    rw [hc2, if_neg (by simp)]
  refine ⟨?_, ?_, fun c => ?_⟩
  · unfold svE
    rw [if_neg (by rw [p1]; simp), p2]
    unfold St.sErr
    rw [hc2, if_neg (by simp)]
  · rw [e]
    unfold St.step
    rw [if_neg (by rw [g2]; simp), if_pos g1]
  · rw [e]
    have hcr : (((s.fuse 1).wrote n (putL s n p)).step).crash c = ((s.fuse 1).wrote n (putL s n p)).crash c := by
      have a1 := St.step_num ((s.fuse 1).wrote n (putL s n p))
      have a2 := St.step_syn ((s.fuse 1).wrote n (putL s n p))
      have a3 := St.step_pend ((s.fuse 1).wrote n (putL s n p))
      have a4 : ∀ j, ((s.fuse 1).wrote n (putL s n p)).step.left_ (c.of ((s.fuse 1).wrote n (putL s n p)).step.pend.length) j = ((s.fuse 1).wrote n (putL s n p)).left_ (c.of ((s.fuse 1).wrote n (putL s n p)).pend.length) j := by
        intro j
        rw [a3]
        induction j with
        | zero => exact a2
        | succ j ih =>
          have a5 : ((s.fuse 1).wrote n (putL s n p)).step.at_ j = ((s.fuse 1).wrote n (putL s n p)).at_ j := by unfold St.at_; rw [a3]
          show upd (((s.fuse 1).wrote n (putL s n p)).step.left_ _ j) _ _ = upd (((s.fuse 1).wrote n (putL s n p)).left_ _ j) _ _
          rw [ih, a5]
      unfold St.crash
      rw [a4, a1, a3]
    rw [hcr]
    have hq : (s.fuse 1).pend = [] := h.pend
    refine ⟨⟨q4, rfl, rfl, rfl, Nat.le_refl _⟩, ?_⟩
    have := crash_one (s := s.fuse 1) (n := n) (l := putL s n p) hq c
    rw [this]
    rfl

/-- Another fuse: it is saved. -/
theorem sv_more (h : Sld N s k) (hn : n < N) (hp : p.length ≤ 254) (hr : ∀ x ∈ p, 0 ≤ x ∧ x < 256) {f : Int} (h0 : f ≠ 0) (h1 : f ≠ 1) : svE (s.fuse f) n p = 0 ∧ (svS (s.fuse f) n p).gone = false ∧ (svS (s.fuse f) n p).syn = upd s.syn n (putL s n p) ∧ (f < 0 → Sld N (svS (s.fuse f) n p) (k + 1)) ∧ (svS (s.fuse f) n p).syncs = s.syncs + 1 ∧ ∀ c, Sld N ((svS (s.fuse f) n p).crash c) 0 ∧ ((svS (s.fuse f) n p).crash c).syn = upd s.syn n (putL s n p) := by
  obtain ⟨p1, p2⟩ := sl_fuse_put h hn hp hr f
  have hc : (s.fuse f).can = true := by
    rw [sl_fuse_can h]
    have : (max f (-1) == 0) = false := by rw [beq_eq_false_iff_ne]; omega
    rw [this]; rfl
  rw [hc] at p1 p2
  rw [if_pos rfl] at p1 p2
  obtain ⟨q1, q2, q3, q4, q5⟩ := sl_fuse_step h (f := f) h0
  obtain ⟨t, ht⟩ : ∃ t, (s.fuse f).wrote n (putL s n p) = t := ⟨_, rfl⟩
  have g1 : t.left = (if 0 < f then f - 1 else -1) := by rw [← ht]; exact q1
  have g2 : t.gone = false := by rw [← ht]; exact q2
  have g3 : t.now = upd s.syn n (putL s n p) := by
    rw [← ht, wrote_now, now_nothing (s := s.fuse f) h.pend]; rfl
  have g4 : t.num = N := by rw [← ht]; exact q4
  have g5 : t.syncs = s.syncs := by rw [← ht]; exact q5
  have hl : t.left ≠ 0 := by rw [g1]; split <;> omega
  have hc2 : t.can = true := by
    unfold St.can
    rw [g2]
    simp [hl]
  have e : svS (s.fuse f) n p = t.synced := by
    unfold svS
    rw [if_neg (by rw [p1]; simp), p2, ht]
    unfold St.sync
    rw [hc2, if_pos rfl]
  have hst : t.step.gone = false ∧ t.step.num = N ∧ (f < 0 → t.step.left = -1) := by
    refine ⟨?_, by rw [St.step_num]; exact g4, fun hf => ?_⟩
    · unfold St.step
      rw [if_neg (by rw [g2]; simp), if_neg hl]
      split
      · exact g2
      · exact g2
    · unfold St.step
      rw [if_neg (by rw [g2]; simp), if_neg hl, if_neg (by rw [g1, if_neg (by omega)]; omega), g1, if_neg (by omega)]
  refine ⟨?_, ?_, ?_, ?_, ?_, fun c => ?_⟩
  · unfold svE
    rw [if_neg (by rw [p1]; simp), p2, ht]
    unfold St.sErr
    rw [hc2, if_pos rfl]
  · rw [e]; exact hst.1
  · rw [e]; exact g3
  · intro hf
    rw [e]
    exact ⟨hst.2.1, hst.2.2 hf, hst.1, rfl, by show t.syncs + 1 ≤ k + 1; rw [g5]; have := h.syncs; omega⟩
  · rw [e]; show t.syncs + 1 = _; rw [g5]
  · rw [e]
    exact ⟨⟨hst.2.1, rfl, rfl, rfl, Nat.le_refl _⟩, by rw [← g3]; rfl⟩
/-- Without a fuse. -/
theorem Sld.save (h : Sld N s k) (hn : n < N) (hp : p.length ≤ 254) (hr : ∀ x ∈ p, 0 ≤ x ∧ x < 256) : svE s n p = 0 ∧ (svS s n p).syn = upd s.syn n (putL s n p) ∧ Sld N (svS s n p) (k + 1) ∧ (svS s n p).syncs = s.syncs + 1 := by
  have e := h.fuse_neg (f := -1) (by omega)
  obtain ⟨a, _, b, c, d, _⟩ := sv_more h hn hp hr (f := -1) (by omega) (by omega)
  rw [e] at a b c d
  exact ⟨a, b, c (by omega), d⟩
theorem sl_putS_syncs (s : St) (n : Int) (p : List Int) : (putS s n p).syncs = s.syncs := by
  unfold putS
  split
  · rfl
  · split
    · rfl
    · unfold St.write
      split
      · rfl
      · split
        · rfl
        · split
          · show s.step.syncs = _; rw [St.step_syncs]
          · rw [St.step_syncs]
end

/-- Save at a place. -/
def slOk (base n turn : Int) (p : Pg) : Prop := (1 ≤ turn ∧ turn ≤ 1099511627776) ∧ ((0 ≤ base ∧ base ≤ 4096) ∧ (0 ≤ n ∧ n ≤ 4096)) ∧ p.ok
def slSec (base n turn : Int) : Int := base + 2 * n + turn % 2
noncomputable instance (base n turn : Int) (p : Pg) : Decidable (slOk base n turn p) := Classical.propDecidable _
noncomputable def slE (s : St) (base n turn : Int) (p : Pg) : Int := if slOk base n turn p then svE s (slSec base n turn) (bodyV turn p) else 1
noncomputable def slS (s : St) (base n turn : Int) (p : Pg) : St := if slOk base n turn p then svS s (slSec base n turn) (bodyV turn p) else s

/-- Load at a place, of what is read there. -/
def ldE (L : Int → Int) (base n : Int) : Int := if (0 ≤ base ∧ base ≤ 4096) ∧ (0 ≤ n ∧ n ≤ 4096) then (if L (base + 2 * n) ≠ 0 then L (base + 2 * n) else L (base + 2 * n + 1)) else 1
noncomputable def ldV (L : Int → Int) (R : Int → List Int) (base n : Int) : Vr := if ldE L base n ≠ 0 then vr0 else loadV (R (base + 2 * n)) (R (base + 2 * n + 1))
end Go.Proofs.Ytomhofppcogojaa
