/- What it says: contracts and plain mathematics that the laws' walks use, 16 of 32: each part's own remark says what; no condition. -/
import Derived.Test.YtjllpihkjlblaaaGreatDoorPk1
import Derived.Test.YtjllpihkjlblaaaGreatDoorPk5
import Derived.Test.YtjllpihkjlblaaaGreatDoorPk15
import Derived.Deep.AppendLies

set_option linter.unusedSimpArgs false
set_option linter.unusedVariables false
set_option linter.deprecated false
set_option linter.unusedSectionVars false
set_option linter.all false
namespace Go.Proofs.YtjllpihkjlblaaaGreatDoor

/- plain mathematics of sheets: what is found in them, how bodies are laid into them; what was laid is found. No program is named; no condition. -/
section
open Go.RowKit
def isB (l : List Int) : Prop := ∀ x ∈ l, 0 ≤ x ∧ x < 256
theorem isB.drop {l : List Int} (h : isB l) (n : Nat) : isB (l.drop n) := fun x hx => h x (List.mem_of_mem_drop hx)
theorem isB.take {l : List Int} (h : isB l) (n : Nat) : isB (l.take n) := fun x hx => h x (List.mem_of_mem_take hx)
theorem isB.app {l m : List Int} (h : isB l) (k : isB m) : isB (l ++ m) := fun x hx => by
  rcases List.mem_append.1 hx with q | q
  · exact h x q
  · exact k x q
def opensF : Nat → List Int → List (List Int) × List Int × Bool
  | 0, _ => ([], [], true)
  | f + 1, b => if b = [] then ([], [], true) else
      if (openF b).2.2 = 0 then ((openF b).1 :: (opensF f (b.drop (openF b).2.1)).1, (opensF f (b.drop (openF b).2.1)).2) else if (openF b).2.2 = 10 then ([], b, true) else ([], [], false)
theorem sealL_pos (b : List Int) : 4 < (sealL b).length := by
  rw [sealL_len]
  have h := shortL_pos b.length
  unfold textL
  rw [List.length_append]
  omega
theorem opensF_more : ∀ (f g : Nat) (b : List Int), isB b → b.length < f → b.length < g → opensF f b = opensF g b
  | 0, _, b, _, h, _ => absurd h (by omega)
  | _, 0, b, _, _, h => absurd h (by omega)
  | f + 1, g + 1, b, hb, h1, h2 => by
    unfold opensF
    by_cases h0 : b = []
    · rw [if_pos h0, if_pos h0]
    · rw [if_neg h0, if_neg h0]
      by_cases he : (openF b).2.2 = 0
      · rw [if_pos he, if_pos he]
        obtain ⟨hu, ht, _⟩ := openF_ok hb (b := (openF b).1) (u := (openF b).2.1) (by rw [← he])
        have hp := sealL_pos (openF b).1
        have : (b.take (openF b).2.1).length = (sealL (openF b).1).length := by rw [ht]
        rw [List.length_take] at this
        have hl : (b.drop (openF b).2.1).length < b.length := by rw [List.length_drop]; omega
        rw [opensF_more f g _ (hb.drop _) (by omega) (by omega)]
      · rw [if_neg he, if_neg he]
def opens (b : List Int) : List (List Int) × List Int × Bool := opensF (b.length + 1) b
theorem opens_nil : opens [] = ([], [], true) := rfl
theorem opens_ok {b x : List Int} {u : Nat} (hb : isB b) (h0 : b ≠ []) (h : openF b = (x, u, 0)) : opens b = (x :: (opens (b.drop u)).1, (opens (b.drop u)).2) := by
  unfold opens
  have e : opensF (b.length + 1) b = (x :: (opensF b.length (b.drop u)).1, (opensF b.length (b.drop u)).2) := by
    rw [opensF, if_neg h0, h, if_pos rfl]
  rw [e]
  obtain ⟨hu, ht, _⟩ := openF_ok hb h
  have hp := sealL_pos x
  have : (b.take u).length = (sealL x).length := by rw [ht]
  rw [List.length_take] at this
  have hl : (b.drop u).length < b.length := by rw [List.length_drop]; omega
  rw [opensF_more b.length ((b.drop u).length + 1) _ (hb.drop _) hl (by omega)]
theorem opens_short {b x : List Int} {u : Nat} (h0 : b ≠ []) (h : openF b = (x, u, 10)) : opens b = ([], b, true) := by
  unfold opens
  rw [opensF, if_neg h0, h, if_neg (by simp), if_pos rfl]
theorem opens_bad {b x : List Int} {u e : Nat} (h0 : b ≠ []) (h : openF b = (x, u, e)) (he : e ≠ 0) (h10 : e ≠ 10) : opens b = ([], [], false) := by
  unfold opens
  rw [opensF, if_neg h0, h, if_neg he, if_neg h10]
structure Fs where
  out : List (List Int × Int)
  beg : List Int
  frm : Int
def headF (s : Fs) (h : List Int) : Fs × Bool :=
  if s.beg = [] then (s, true) else
    if (openF (s.beg ++ h)).2.2 = 10 then (⟨s.out, s.beg ++ h, s.frm⟩, true)
    else if (openF (s.beg ++ h)).2.2 = 0 ∧ (openF (s.beg ++ h)).2.1 = (s.beg ++ h).length then (⟨s.out ++ [((openF (s.beg ++ h)).1, s.frm)], [], s.frm⟩, true) else (s, false)
def bodsF (s : Fs) (b : List Int) (i : Int) : Fs × Bool := (⟨s.out ++ (opens b).1.map (fun x => (x, i)), (opens b).2.1, i⟩, (opens b).2.2)
def inS (first : Int) (d : List Int) : Prop := 0 ≤ first ∧ first ≤ (d.length : Int)
instance (first : Int) (d : List Int) : Decidable (inS first d) := inferInstanceAs (Decidable (_ ∧ _))
def cutS (first : Int) (d : List Int) : Nat := if inS first d then first.toNat else d.length
theorem cutS_le (first : Int) (d : List Int) : cutS first d ≤ d.length := by
  unfold cutS
  split
  · rename_i h; have := h.1; have := h.2; omega
  · exact Nat.le_refl _
def sheetF (s : Fs) (i : Int) (first : Int) (d : List Int) : Fs × Bool :=
  if (headF s (d.take (cutS first d))).2 = false then headF s (d.take (cutS first d))
  else if inS first d then bodsF (headF s (d.take (cutS first d))).1 (d.drop (cutS first d)) i else headF s (d.take (cutS first d))
def findF : Fs → Nat → List (Int × List Int) → List (List Int × Int)
  | s, _, [] => s.out
  | s, i, x :: r => if (sheetF s i x.1 x.2).2 then findF (sheetF s i x.1 x.2).1 (i + 1) r else (sheetF s i x.1 x.2).1.out
def fs0 : Fs := ⟨[], [], 0⟩
def found (l : List (Int × List Int)) : List (List Int × Int) := findF fs0 0 l
/- What was found are bytes, and what is begun. -/
def Fs.Ok (s : Fs) : Prop := isB s.beg ∧ ∀ x ∈ s.out, isB x.1 ∧ x.1.length ≤ 4096
theorem sealL_inB {b : List Int} {x : List Int} {n : Nat} (hb : isB b) (h : b.take n = sealL x) : isB x := fun y hy => by
  refine hb.take n y ?_
  rw [h]
  unfold sealL textL
  simp [hy]
theorem opensF_isB : ∀ (f : Nat) (b : List Int), isB b → isB (opensF f b).2.1 ∧ ∀ x ∈ (opensF f b).1, isB x ∧ x.length ≤ 4096
  | 0, b, h => ⟨fun x hx => (by cases hx), fun x hx => (by cases hx)⟩
  | f + 1, b, h => by
    unfold opensF
    split
    · exact ⟨fun x hx => (by cases hx), fun x hx => (by cases hx)⟩
    · split
      · rename_i he
        obtain ⟨hu, ht, hl⟩ := openF_ok h (b := (openF b).1) (u := (openF b).2.1) (by rw [← he])
        obtain ⟨h1, h2⟩ := opensF_isB f (b.drop (openF b).2.1) (h.drop _)
        refine ⟨h1, fun x hx => ?_⟩
        rcases List.mem_cons.1 hx with rfl | hx
        · exact ⟨sealL_inB h ht, hl⟩
        · exact h2 x hx
      · split
        · exact ⟨h, fun x hx => (by cases hx)⟩
        · exact ⟨fun x hx => (by cases hx), fun x hx => (by cases hx)⟩
theorem headF_ok {s : Fs} {h : List Int} (hs : s.Ok) (hh : isB h) : (headF s h).1.Ok := by
  unfold headF
  split
  · exact hs
  · split
    · exact ⟨hs.1.app hh, hs.2⟩
    · split
      · rename_i hc
        obtain ⟨hu, ht, hl⟩ := openF_ok (hs.1.app hh) (b := (openF (s.beg ++ h)).1) (u := (openF (s.beg ++ h)).2.1) (by rw [← hc.1])
        refine ⟨fun x hx => (by cases hx), fun x hx => ?_⟩
        rcases List.mem_append.1 hx with q | q
        · exact hs.2 x q
        · simp at q
          subst q
          exact ⟨sealL_inB (hs.1.app hh) ht, hl⟩
      · exact hs
theorem bodsF_ok {s : Fs} {b : List Int} (i : Int) (hs : s.Ok) (hb : isB b) : (bodsF s b i).1.Ok := by
  obtain ⟨h1, h2⟩ := opensF_isB (b.length + 1) b hb
  refine ⟨h1, fun x hx => ?_⟩
  rcases List.mem_append.1 hx with q | q
  · exact hs.2 x q
  · obtain ⟨y, hy, rfl⟩ := List.mem_map.1 q
    exact h2 y hy
theorem sheetF_ok {s : Fs} {i first : Int} {d : List Int} (hs : s.Ok) (hd : isB d) : (sheetF s i first d).1.Ok := by
  unfold sheetF
  split
  · exact headF_ok hs (hd.take _)
  · split
    · exact bodsF_ok _ (headF_ok hs (hd.take _)) (hd.drop _)
    · exact headF_ok hs (hd.take _)
/- How long what is begun may be, and how much is found. -/
theorem opensF_len : ∀ (f : Nat) (b : List Int), isB b → (opensF f b).1.length * 5 + (opensF f b).2.1.length ≤ b.length
  | 0, b, _ => by simp [opensF]
  | f + 1, b, h => by
    unfold opensF
    split
    · simp
    · split
      · rename_i he
        obtain ⟨hu, ht, hl⟩ := openF_ok h (b := (openF b).1) (u := (openF b).2.1) (by rw [← he])
        have hp := sealL_pos (openF b).1
        have e : (b.take (openF b).2.1).length = (sealL (openF b).1).length := by rw [ht]
        rw [List.length_take] at e
        have := opensF_len f (b.drop (openF b).2.1) (h.drop _)
        rw [List.length_drop] at this
        simp only [List.length_cons]
        omega
      · split
        · simp
        · simp
theorem headF_len {s : Fs} {h : List Int} : (headF s h).1.beg.length ≤ s.beg.length + h.length ∧ (headF s h).1.out.length ≤ s.out.length + 1 := by
  unfold headF
  split
  · exact ⟨by simp, by simp⟩
  · split
    · simp
    · split
      · simp
      · exact ⟨by simp, by simp⟩
theorem bodsF_len {s : Fs} {b : List Int} {i : Int} (hb : isB b) : (bodsF s b i).1.beg.length ≤ b.length ∧ (bodsF s b i).1.out.length ≤ s.out.length + b.length := by
  have := opensF_len (b.length + 1) b hb
  unfold bodsF opens
  simp only [List.length_append, List.length_map]
  omega
theorem sheetF_len {s : Fs} {i first : Int} {d : List Int} (hd : isB d) : (sheetF s i first d).1.beg.length ≤ s.beg.length + d.length ∧ (sheetF s i first d).1.out.length ≤ s.out.length + 1 + d.length := by
  have hc := cutS_le first d
  have h1 := @headF_len s (d.take (cutS first d))
  rw [List.length_take, Nat.min_eq_left hc] at h1
  unfold sheetF
  split
  · omega
  · split
    · have h2 := @bodsF_len (headF s (d.take (cutS first d))).1 (d.drop (cutS first d)) i (hd.drop _)
      rw [List.length_drop] at h2
      omega
    · omega
end

/- plain mathematics of sheets: bodies laid into sheets, by place; of the first sheets of what was laid just those bodies are found that end in them; what was laid later is found too. No program is named; no condition. -/
section
open Go.RowKit
def allL (bs : List (List Int)) : List Int := bs.flatMap sealL
def bgn (bs : List (List Int)) (j : Nat) : Nat := (allL (bs.take j)).length
def bgns (bs : List (List Int)) : List Nat := (List.range bs.length).map (bgn bs)
def fstIn (l : List Nat) (i : Nat) : Int := match l.find? (fun b => b / 242 == i) with
  | some b => ((b % 242 : Nat) : Int)
  | none => 255
def shN (n : Nat) : Nat := (n + 241) / 242
def laidAt (bs : List (List Int)) (i : Nat) : Int × List Int := (fstIn (bgns bs) i, ((allL bs).drop (242 * i)).take 242)
theorem allL_cons (b : List Int) (r : List (List Int)) : allL (b :: r) = sealL b ++ allL r := by simp [allL]
theorem allL_app (a r : List (List Int)) : allL (a ++ r) = allL a ++ allL r := by simp [allL]
theorem allL_isB {bs : List (List Int)} (h : ∀ b ∈ bs, isB b) : isB (allL bs) := fun x hx => by
  obtain ⟨b, hb, hx⟩ := List.mem_flatMap.1 hx
  exact sealL_rng (h b hb) x hx
section
variable {bs : List (List Int)}
theorem bgn_zero : bgn bs 0 = 0 := by simp [bgn, allL]
theorem bgn_end {j : Nat} (h : bs.length ≤ j) : bgn bs j = (allL bs).length := by unfold bgn; rw [List.take_of_length_le h]
theorem take_succ_getD {α : Type} (l : List α) (d : α) (j : Nat) (h : j < l.length) : l.take (j + 1) = l.take j ++ [l.getD j d] := by
  rw [List.take_add_one]
  congr 1
  simp [List.getElem?_eq_getElem h]
theorem bgn_next {j : Nat} (h : j < bs.length) : bgn bs (j + 1) = bgn bs j + (sealL (bs.getD j [])).length := by
  unfold bgn
  rw [take_succ_getD bs [] j h, allL_app, List.length_append]
  simp [allL]
theorem bgn_lt {j : Nat} (h : j < bs.length) : bgn bs j < bgn bs (j + 1) := by
  rw [bgn_next h]
  have := sealL_pos (bs.getD j [])
  omega
theorem bgn_mono {i j : Nat} (h : i ≤ j) : bgn bs i ≤ bgn bs j := by
  induction j with
  | zero => rw [Nat.le_zero.1 h]; exact Nat.le_refl _
  | succ j ih =>
    by_cases e : i = j + 1
    · rw [e]; exact Nat.le_refl _
    · have h1 := ih (by omega)
      by_cases hj : j < bs.length
      · have := bgn_lt hj; omega
      · rw [bgn_end (by omega : bs.length ≤ j)] at h1
        rw [bgn_end (j := j + 1) (by omega)]
        exact h1
theorem bgn_le (j : Nat) : bgn bs j ≤ (allL bs).length := by
  rw [← bgn_end (Nat.le_refl bs.length)]
  by_cases h : j ≤ bs.length
  · exact bgn_mono h
  · rw [bgn_end (by omega), bgn_end (Nat.le_refl _)]; exact Nat.le_refl _
theorem bgn_smono {i j : Nat} (h : i < j) (hj : j ≤ bs.length) : bgn bs i < bgn bs j :=
  Nat.lt_of_lt_of_le (bgn_lt (by omega)) (bgn_mono h)
theorem all_drop (j : Nat) : (allL bs).drop (bgn bs j) = allL (bs.drop j) := by
  have e : allL bs = allL (bs.take j) ++ allL (bs.drop j) := by rw [← allL_app, List.take_append_drop]
  rw [e]
  unfold bgn
  rw [List.drop_left]
theorem drop_getD_cons {α : Type} (l : List α) (d : α) (j : Nat) (h : j < l.length) : l.drop j = l.getD j d :: l.drop (j + 1) := by
  rw [List.drop_eq_getElem_cons h]
  simp [List.getD, List.getElem?_eq_getElem h]
/- The first begin in a sheet. -/
theorem bgns_get (j : Nat) (h : j < bs.length) : (bgns bs)[j]? = some (bgn bs j) := by simp [bgns, h]
theorem fst_is {i j : Nat} (hj : j < bs.length) (h1 : bgn bs j / 242 = i) (h2 : ∀ k, k < j → bgn bs k / 242 ≠ i) : fstIn (bgns bs) i = ((bgn bs j % 242 : Nat) : Int) := by
  have : (bgns bs).find? (fun b => b / 242 == i) = some (bgn bs j) := by
    rw [List.find?_eq_some_iff_getElem]
    refine ⟨by simpa using h1, j, by simpa [bgns] using hj, by simp [bgns], fun k hk => ?_⟩
    simpa [bgns] using h2 k hk
  unfold fstIn
  rw [this]
theorem fst_none {i : Nat} (h : ∀ k, k < bs.length → bgn bs k / 242 ≠ i) : fstIn (bgns bs) i = 255 := by
  have : (bgns bs).find? (fun b => b / 242 == i) = none := by
    rw [List.find?_eq_none]
    intro x hx
    obtain ⟨k, hk, rfl⟩ := List.mem_map.1 hx
    simpa using h k (by simpa using hk)
  unfold fstIn
  rw [this]
end
theorem opens_all : ∀ (bs : List (List Int)) (n : Nat), (∀ b ∈ bs, isB b ∧ b.length ≤ 4096) → n ≤ (allL bs).length → ∃ q, q ≤ bs.length ∧ bgn bs q ≤ n ∧ (q < bs.length → n < bgn bs (q + 1)) ∧
    opens ((allL bs).take n) = (bs.take q, ((allL bs).drop (bgn bs q)).take (n - bgn bs q), true)
  | [], n, _, hn => ⟨0, Nat.le_refl _, by simp [bgn, allL], fun h => absurd h (by simp), by simp [allL, opens_nil]⟩
  | b :: r, n, hb, hn => by
    obtain ⟨hb1, hb2⟩ := hb b (by simp)
    have hp := sealL_pos b
    by_cases h0 : n = 0
    · subst h0
      refine ⟨0, Nat.zero_le _, by simp [bgn_zero], fun _ => ?_, by simp [bgn_zero, opens_nil]⟩
      rw [bgn_next (by simp), bgn_zero]
      simp
      omega
    · rw [allL_cons, List.length_append] at hn
      by_cases h1 : n < (sealL b).length
      · have e : (allL (b :: r)).take n = (sealL b).take n := by rw [allL_cons, List.take_append_of_le_length (by omega)]
        refine ⟨0, Nat.zero_le _, by simp [bgn_zero], fun _ => ?_, ?_⟩
        · rw [bgn_next (by simp), bgn_zero]
          simpa using h1
        · have hne : (sealL b).take n ≠ [] := by
            intro q
            have := congrArg List.length q
            rw [List.length_take] at this
            simp only [List.length_nil] at this
            omega
          rw [bgn_zero, List.drop_zero, Nat.sub_zero, e, opens_short hne (open_cut b hb2 n h1)]
          simp
      · obtain ⟨q, hq, hq1, hq2, hq3⟩ := opens_all r (n - (sealL b).length) (fun x hx => hb x (by simp [hx])) (by omega)
        have bq : ∀ k, bgn (b :: r) (k + 1) = (sealL b).length + bgn r k := by
          intro k
          unfold bgn
          rw [List.take_succ_cons, allL_cons, List.length_append]
        refine ⟨q + 1, by simp; omega, by rw [bq]; omega, fun h => ?_, ?_⟩
        · rw [bq]
          have := hq2 (by simpa using h)
          omega
        · have e : (allL (b :: r)).take n = sealL b ++ (allL r).take (n - (sealL b).length) := by
            rw [allL_cons, List.take_append, List.take_of_length_le (by omega)]
          have hB : isB ((allL (b :: r)).take n) := (allL_isB (fun x hx => (hb x hx).1)).take n
          have hne : (allL (b :: r)).take n ≠ [] := by
            rw [e]
            intro q
            have := congrArg List.length q
            simp at this
            have := sealL_pos b
            simp_all
          rw [opens_ok hB hne (by rw [e]; exact open_seal b _ hb2), e, List.drop_left, hq3, bq]
          have e2 : (allL (b :: r)).drop ((sealL b).length + bgn r q) = (allL r).drop (bgn r q) := by
            rw [allL_cons, List.drop_append, List.drop_of_length_le (by omega), List.nil_append]
            congr 1
            omega
          rw [e2, List.take_succ_cons, Nat.sub_sub]
structure InvL (bs : List (List Int)) (o : List (List Int)) (k : Nat) (s : Fs) (j : Nat) : Prop where
  le : j ≤ bs.length
  out : s.out.map Prod.fst = o ++ bs.take j
  low : bgn bs j ≤ 242 * k
  high : j < bs.length → 242 * k < bgn bs (j + 1)
  beg : s.beg = ((allL bs).take (242 * k)).drop (bgn bs j)
theorem take_more {α : Type} (l : List α) (a b c : Nat) (h : a ≤ b) : (l.drop a).take (b - a) ++ (l.drop b).take c = (l.drop a).take (b - a + c) := by
  rw [List.take_add, List.drop_drop]
  congr 3
  omega
section
variable {bs : List (List Int)} {o : List (List Int)} {k j : Nat} {s : Fs}
theorem InvL.step (h : InvL bs o k s j) (hb : ∀ b ∈ bs, isB b ∧ b.length ≤ 4096) (hk : 242 * k < (allL bs).length) (i : Int) :
    (sheetF s i (laidAt bs k).1 (laidAt bs k).2).2 = true ∧ ∃ j', InvL bs o (k + 1) (sheetF s i (laidAt bs k).1 (laidAt bs k).2).1 j' := by
  obtain ⟨hle, hout, hlow, hhigh, hbeg⟩ := h
  have hj : j < bs.length := by
    rcases Nat.lt_or_ge j bs.length with q | q
    · exact q
    · rw [bgn_end q] at hlow; omega
  have hnx := hhigh hj
  have hnl : bgn bs (j + 1) ≤ (allL bs).length := bgn_le _
  obtain ⟨T, hT⟩ : ∃ T, T = (allL bs).length := ⟨_, rfl⟩
  obtain ⟨d, hd⟩ : ∃ d, d = ((allL bs).drop (242 * k)).take 242 := ⟨_, rfl⟩
  have hdl : d.length = min 242 (T - 242 * k) := by rw [hd, List.length_take, List.length_drop, hT]
  have hla : laidAt bs k = (fstIn (bgns bs) k, d) := by unfold laidAt; rw [hd]
  rw [hla]
  have hS := bgn_next hj
  have hbj : isB (bs.getD j []) ∧ (bs.getD j []).length ≤ 4096 := by
    have : bs.getD j [] = bs[j] := by simp [List.getD, List.getElem?_eq_getElem hj]
    rw [this]
    exact hb _ (List.getElem_mem hj)
  have hrest : (allL bs).drop (bgn bs j) = sealL (bs.getD j []) ++ allL (bs.drop (j + 1)) := by rw [all_drop, drop_getD_cons bs [] j hj, allL_cons]
  have hbeg' : s.beg = ((allL bs).drop (bgn bs j)).take (242 * k - bgn bs j) := by rw [hbeg, List.drop_take]
  have hbl : s.beg.length = 242 * k - bgn bs j := by rw [hbeg', List.length_take, List.length_drop]; omega
  have happ : ∀ c, s.beg ++ (d.take c) = ((allL bs).drop (bgn bs j)).take (242 * k - bgn bs j + min c 242) := by
    intro c
    rw [hbeg', hd, List.take_take, take_more _ _ _ _ hlow]
  have hbefore : ∀ i, i ≤ j → bgn bs i ≤ 242 * k := fun i hi => Nat.le_trans (bgn_mono hi) hlow
  have hbods : ∀ (q c : Nat) (s1 : Fs), q ≤ bs.length → c ≤ d.length → bgn bs q = 242 * k + c → s1.out.map Prod.fst = o ++ bs.take q → (bodsF s1 (d.drop c) i).2 = true ∧ ∃ j', InvL bs o (k + 1) (bodsF s1 (d.drop c) i).1 j' := by
    intro q c s1 hq hc hbq ho1
    have hdc : d.drop c = (allL (bs.drop q)).take (d.length - c) := by
      rw [hd, List.drop_take, List.drop_drop, ← hbq, all_drop]
      have hl : (allL (bs.drop q)).length = T - bgn bs q := by rw [← all_drop, List.length_drop, hT]
      by_cases h242 : 242 ≤ T - 242 * k
      · rw [← hd, hdl, Nat.min_eq_left h242]
      · rw [← hd, hdl, Nat.min_eq_right (by omega), List.take_of_length_le (by omega), List.take_of_length_le (by omega)]
    have hl : (allL (bs.drop q)).length = T - bgn bs q := by rw [← all_drop, List.length_drop, hT]
    obtain ⟨r, hr, hr1, hr2, hr3⟩ := opens_all (bs.drop q) (d.length - c) (fun b hb' => hb b (List.mem_of_mem_drop hb')) (by omega)
    have hbr : ∀ m, bgn (bs.drop q) m = bgn bs (q + m) - bgn bs q := by
      intro m
      unfold bgn
      rw [List.take_add, allL_app, List.length_append]
      omega
    have hge : ∀ m, bgn bs q ≤ bgn bs (q + m) := fun m => bgn_mono (by omega)
    rw [List.length_drop] at hr hr2
    unfold bodsF
    rw [hdc, hr3]
    refine ⟨rfl, q + r, by omega, ?_, ?_, fun hlt => ?_, ?_⟩
    · simp only [List.map_append, ho1, List.map_map]
      rw [List.append_assoc, List.take_add]
      congr 2
      exact List.map_id _
    · rw [hbr] at hr1
      have := hge r
      omega
    · have h1 := hr2 (by omega)
      rw [hbr] at h1
      have h2 := hge (r + 1)
      have h3 : q + r + 1 = q + (r + 1) := by omega
      rw [h3]
      rcases Nat.lt_or_ge T (242 * (k + 1)) with q1 | q1
      · have := bgn_le (bs := bs) (q + (r + 1))
        have := bgn_smono (bs := bs) (i := q + r) (j := q + (r + 1)) (by omega) (by omega)
        omega
      · omega
    · simp only
      rw [hbr] at hr1 ⊢
      have := hge r
      rw [← all_drop, List.drop_drop, List.drop_take]
      have e : bgn bs q + (bgn bs (q + r) - bgn bs q) = bgn bs (q + r) := by omega
      rw [e]
      by_cases h242 : 242 ≤ T - 242 * k
      · congr 1
        omega
      · rw [List.take_of_length_le (by rw [List.length_drop]; omega), List.take_of_length_le (by rw [List.length_drop]; omega)]
  have hnone : ¬ (bgn bs (j + 1) < 242 * (k + 1) ∧ j + 1 < bs.length) → bgn bs j < 242 * k → fstIn (bgns bs) k = 255 := by
    intro hno hjl
    refine fst_none (fun m hm hmk => ?_)
    rcases Nat.lt_or_ge j m with q | q
    · have := bgn_mono (bs := bs) (i := j + 1) (j := m) q
      have : 242 * k ≤ bgn bs m ∧ bgn bs m < 242 * (k + 1) := by omega
      apply hno
      omega
    · have := bgn_mono (bs := bs) q
      omega
  unfold sheetF
  by_cases hcase : bgn bs j < 242 * k
  · have hbne : s.beg ≠ [] := by intro q; rw [q] at hbl; simp at hbl; omega
    by_cases hin : bgn bs (j + 1) < 242 * (k + 1) ∧ j + 1 < bs.length
    · -- the body ends, and another one begins
      have hf : fstIn (bgns bs) k = ((bgn bs (j + 1) - 242 * k : Nat) : Int) := by
        rw [fst_is (bs := bs) (j := j + 1) hin.2 (by omega) (fun m hm => by have := hbefore m (by omega); have := bgn_mono (bs := bs) (i := m) (j := j) (by omega); omega)]
        congr 1
        omega
      have hlt : bgn bs (j + 1) < T := by
        have := bgn_smono (bs := bs) (i := j + 1) (j := j + 2) (by omega) (by omega)
        have := bgn_le (bs := bs) (j + 2)
        omega
      have hIn : inS (fstIn (bgns bs) k) d := by rw [hf]; exact ⟨by omega, by omega⟩
      have hcut : cutS (fstIn (bgns bs) k) d = bgn bs (j + 1) - 242 * k := by
        unfold cutS
        rw [if_pos hIn, hf]
        omega
      rw [hcut]
      have hx : s.beg ++ d.take (bgn bs (j + 1) - 242 * k) = sealL (bs.getD j []) := by
        rw [happ, hrest, List.take_append_of_le_length (by omega), List.take_of_length_le (by omega)]
      have hH : headF s (d.take (bgn bs (j + 1) - 242 * k)) = (⟨s.out ++ [(bs.getD j [], s.frm)], [], s.frm⟩, true) := by
        unfold headF
        rw [if_neg hbne, hx, open_seal0 _ hbj.2, if_neg (by simp), if_pos ⟨rfl, rfl⟩]
      rw [hH, if_neg (by simp), if_pos hIn]
      refine hbods (j + 1) (bgn bs (j + 1) - 242 * k) _ (by omega) (by omega) (by omega) ?_
      simp only [List.map_append, hout, List.map_cons, List.map_nil, List.append_assoc]
      rw [take_succ_getD bs [] j hj]
    · have hf := hnone hin hcase
      have hIn : ¬ inS (fstIn (bgns bs) k) d := by rw [hf]; intro q; have := q.2; omega
      have hcut : cutS (fstIn (bgns bs) k) d = d.length := by unfold cutS; rw [if_neg hIn]
      rw [hcut, List.take_of_length_le (Nat.le_refl _)]
      have happ' : s.beg ++ d = ((allL bs).drop (bgn bs j)).take (242 * k - bgn bs j + 242) := by
        have := happ 242
        rw [List.take_of_length_le (by omega), Nat.min_self] at this
        exact this
      by_cases hend : bgn bs (j + 1) ≤ 242 * (k + 1)
      · -- the body ends with the sheet
        have hE : bgn bs (j + 1) = 242 * (k + 1) ∨ bgn bs (j + 1) = T := by
          by_cases hl : j + 1 < bs.length
          · left; omega
          · right; rw [bgn_end (by omega), hT]
        have hx : s.beg ++ d = sealL (bs.getD j []) := by
          rw [happ']
          rcases hE with q | q
          · rw [hrest, List.take_append_of_le_length (by omega), List.take_of_length_le (by omega)]
          · have hlast : bs.drop (j + 1) = [] := by
              rcases Nat.lt_or_ge (j + 1) bs.length with r | r
              · have := bgn_smono (bs := bs) (i := j + 1) (j := j + 2) (by omega) (by omega)
                have := bgn_le (bs := bs) (j + 2)
                omega
              · exact List.drop_of_length_le r
            rw [hrest, hlast]
            simp only [allL, List.flatMap_nil, List.append_nil]
            rw [List.take_of_length_le (by omega)]
        have hH : headF s d = (⟨s.out ++ [(bs.getD j [], s.frm)], [], s.frm⟩, true) := by
          unfold headF
          rw [if_neg hbne, hx, open_seal0 _ hbj.2, if_neg (by simp), if_pos ⟨rfl, rfl⟩]
        rw [hH, if_neg (by simp), if_neg hIn]
        refine ⟨rfl, j + 1, by omega, ?_, hend, fun hl => ?_, ?_⟩
        · simp only [List.map_append, hout, List.map_cons, List.map_nil, List.append_assoc]
          rw [take_succ_getD bs [] j hj]
        · have := bgn_lt hl
          rcases hE with q | q
          · omega
          · have := bgn_le (bs := bs) (j + 1 + 1)
            omega
        · simp only
          symm
          apply List.drop_of_length_le
          rw [List.length_take]
          rcases hE with q | q
          · omega
          · omega
      · -- it goes on
        have hx : s.beg ++ d = (sealL (bs.getD j [])).take (242 * (k + 1) - bgn bs j) := by
          rw [happ', hrest, List.take_append_of_le_length (by omega)]
          congr 1
          omega
        have hH : headF s d = (⟨s.out, s.beg ++ d, s.frm⟩, true) := by
          unfold headF
          rw [if_neg hbne, hx, open_cut _ hbj.2 _ (by omega), if_pos rfl]
        rw [hH, if_neg (by simp), if_neg hIn]
        refine ⟨rfl, j, hle, hout, by omega, fun _ => by omega, ?_⟩
        simp only
        rw [happ', List.drop_take]
        congr 1
        omega
  · have hjk : bgn bs j = 242 * k := by omega
    have hb0 : s.beg = [] := List.eq_nil_of_length_eq_zero (by omega)
    have hf : fstIn (bgns bs) k = 0 := by
      rw [fst_is (bs := bs) (j := j) hj (by omega) (fun m hm => by have := bgn_smono (bs := bs) hm hle; omega), hjk]
      simp
    have hIn : inS (fstIn (bgns bs) k) d := by rw [hf]; exact ⟨by omega, by omega⟩
    have hcut : cutS (fstIn (bgns bs) k) d = 0 := by unfold cutS; rw [if_pos hIn, hf]; rfl
    rw [hcut]
    have hH : headF s (d.take 0) = (s, true) := by unfold headF; rw [if_pos hb0]
    rw [hH, if_neg (by simp), if_pos hIn]
    exact hbods j 0 s hle (by omega) (by omega) hout
theorem InvL.go (hb : ∀ b ∈ bs, isB b ∧ b.length ≤ 4096) : ∀ (m k : Nat) (i : Nat) (s : Fs) (j : Nat) (rest : List (Int × List Int)), InvL bs o k s j → k + m ≤ shN (allL bs).length →
    ∃ s' j', InvL bs o (k + m) s' j' ∧ findF s i (((List.range m).map (fun n => laidAt bs (k + n))) ++ rest) = findF s' (i + m) rest
  | 0, k, i, s, j, rest, h, _ => ⟨s, j, h, by simp⟩
  | m + 1, k, i, s, j, rest, h, hk => by
    obtain ⟨h1, j1, h2⟩ := h.step hb (by unfold shN at hk; omega) (i : Int)
    obtain ⟨s', j', h3, h4⟩ := InvL.go hb m (k + 1) (i + 1) _ j1 rest h2 (by omega)
    refine ⟨s', j', by rw [show k + (m + 1) = k + 1 + m by omega]; exact h3, ?_⟩
    have e : (List.range (m + 1)).map (fun n => laidAt bs (k + n)) = laidAt bs k :: (List.range m).map (fun n => laidAt bs (k + 1 + n)) := by
      rw [List.range_succ_eq_map, List.map_cons, List.map_map]
      congr 1
      refine List.map_congr_left (fun n _ => ?_)
      simp only [Function.comp]
      congr 1
      omega
    rw [e, List.cons_append, findF, if_pos h1, h4]
    congr 1
    omega
end
theorem InvL.start (bs : List (List Int)) (o : List (List Int)) (s : Fs) (ho : s.out.map Prod.fst = o) (hb : s.beg = []) : InvL bs o 0 s 0 :=
  ⟨Nat.zero_le _, by simp [ho], by simp [bgn_zero], fun h => by have := bgn_lt h; rw [bgn_zero] at this; omega, by simp [hb]⟩
end

/- bytes in a block of bytes; slices of elements of several cells; rows of one's own of unlike types stay apart; one element more; parts of bytes by three indices. No condition. -/
section
open Go.RowKit
theorem own_ty {w : World} {base n q : Nat} {e : TypeId} {size : Nat} {v : Value} {xs : List Value} (h : w.ownsRow base e size v n xs) (hq : v.ownBlock = some q) : ∃ cur, w.heap[q]? = some (.cells cur e (0, 0)) := by
  rcases h.2 with ⟨h1, h2⟩ | ⟨g, cap, cur, h1, _, hg, _⟩
  · rw [h1] at hq; simp [Value.ownBlock] at hq
  · rw [h1] at hq
    simp [Value.ownBlock] at hq
    subst hq
    exact ⟨cur, hg⟩
theorem own_stay {w w' : World} {base n : Nat} {e : TypeId} {size : Nat} {v : Value} {xs : List Value} (h : w.ownsRow base e size v n xs) (hk : ∀ k, v.ownBlock = some k → w'.heap[k]? = w.heap[k]?) : w'.ownsRow base e size v n xs := by
  obtain ⟨h1, h2⟩ := h
  refine ⟨h1, ?_⟩
  rcases h2 with h2 | ⟨g, cap, cur, hv, hb, hg, r⟩
  · exact .inl h2
  · exact .inr ⟨g, cap, cur, hv, hb, (hk g (by rw [hv]; rfl)).trans hg, r⟩
theorem own_apart {w w' : World} {b b' k k' n n' : Nat} {e e' : TypeId} {v v' : Value} {xs xs' : List Value} (h : w.ownsRow b e k v n xs) (h' : w.ownsRow b' e' k' v' n' xs') (he : e ≠ e') (hg : w.grownBy w' v.ownBlock) : w'.ownsRow b' e' k' v' n' xs' :=
  own_stay h' (fun q hq => hg.block q (h'.lt q hq).2 (fun eq => by
    obtain ⟨c1, h1⟩ := own_ty h eq.symm
    obtain ⟨c2, h2⟩ := own_ty h' hq
    rw [h1] at h2
    injection h2 with h2
    injection h2 with _ h2
    exact he h2))
theorem bk_apart {w w' : World} {b k n g : Nat} {e t : TypeId} {v : Value} {xs : List Value} {cs : Array Value} (h : w.ownsRow b e k v n xs) (hb : Bk w g t cs) (he : e ≠ t) (hg : w.grownBy w' v.ownBlock) : Bk w' g t cs :=
  (hg.block g hb.lt (fun eq => by
    obtain ⟨c1, h1⟩ := own_ty h eq.symm
    unfold Bk at hb
    rw [h1] at hb
    injection hb with hb
    injection hb with _ hb
    exact he hb)).trans hb
theorem own_set {w : World} {b k n g i : Nat} {e t : TypeId} {v u : Value} {xs : List Value} {cs : Array Value} (h : w.ownsRow b e k v n xs) (hb : Bk w g t cs) (he : e ≠ t) : (w.setCell ⟨g, i, none⟩ u).ownsRow b e k v n xs :=
  own_stay h (fun q hq => Below.heap_setCell w ⟨g, i, none⟩ u q (fun eq => by
    obtain ⟨c1, h1⟩ := own_ty h hq
    have eq' : q = g := eq
    subst eq'
    unfold Bk at hb
    rw [h1] at hb
    injection hb with hb
    injection hb with _ hb
    exact he hb))
def u8At (w : World) (A : Option Addr) : Prop := ∀ a, A = some a → ∃ cs fr, w.heap[a.block]? = some (.cells cs 5 fr)
structure Bty (w : World) (A : Option Addr) (n c : Nat) (l : List Int) : Prop where
  byt : Byt w A n c l
  ty : u8At w A
section
variable {w w' : World} {A : Option Addr} {n c : Nat} {l : List Int}
theorem u8At.lt (h : u8At w A) : ∀ a, A = some a → a.block < w.heap.size := fun a ha => by
  obtain ⟨cs, fr, e⟩ := h a ha
  exact (Array.getElem?_eq_some_iff.1 e).1
theorem u8At.stay (h : u8At w A) (hk : ∀ a, A = some a → w'.heap[a.block]? = w.heap[a.block]?) : u8At w' A := fun a ha => by
  obtain ⟨cs, fr, e⟩ := h a ha
  exact ⟨cs, fr, (hk a ha).trans e⟩
theorem Byt.stay_ (h : Byt w A n c l) (hk : ∀ a, A = some a → w'.heap[a.block]? = w.heap[a.block]?) : Byt w' A n c l :=
  ⟨h.len, h.cap, h.max, h.rng, h.nil_, fun hn => by
    obtain ⟨g, off, e, hc⟩ := h.at_ hn
    exact ⟨g, off, e, fun i hi => (World.cell?_of_block (w := w) (w' := w') (a := ⟨g, off + i, none⟩) (hk ⟨g, off, none⟩ e)).trans (hc i hi)⟩⟩
theorem Bty.stay (h : Bty w A n c l) (hk : ∀ a, A = some a → w'.heap[a.block]? = w.heap[a.block]?) : Bty w' A n c l := ⟨h.byt.stay_ hk, h.ty.stay hk⟩
theorem Bty.below (h : Bty w A n c l) (hb : Below w.heap.size w w') : Bty w' A n c l := h.stay (fun a ha => hb.block _ (h.ty.lt a ha))
theorem Bty.nil (w : World) : Bty w none 0 0 [] := ⟨Byt.nil w, fun _ h => nomatch h⟩
theorem Bty.of_own {base : Nat} (h : w.ownsRow base 5 1 (.slice A n c) n (l.map (Value.int .u8))) (hr : ∀ x ∈ l, 0 ≤ x ∧ x < 256) : Bty w A n c l := by
  refine ⟨Byt.of_own h hr, fun a ha => ?_⟩
  obtain ⟨cur, hc⟩ := own_ty h (q := a.block) (by rw [ha]; rfl)
  exact ⟨cur, _, hc⟩
theorem Bty.ofString (w : World) (s : ByteArray) (hs : s.size ≤ maxLen) : Bty (Lib.bytesWorld w 5 s) (some ⟨w.heap.size, 0, none⟩) s.size (grownCap w s.size 0 5) (nums s) := by
  refine ⟨Byt.ofString w _ s hs, fun a ha => ?_⟩
  injection ha with ha
  subst ha
  exact ⟨_, _, Lib.bytesWorld_at_new w 5 s⟩
theorem Bty.apart {b k m : Nat} {e : TypeId} {v : Value} {xs : List Value} (h : Bty w A n c l) (ho : w.ownsRow b e k v m xs) (he : e ≠ 5) (hg : w.grownBy w' v.ownBlock) : Bty w' A n c l :=
  h.stay (fun a ha => hg.block _ (h.ty.lt a ha) (fun eq => by
    obtain ⟨c1, h1⟩ := own_ty ho eq.symm
    obtain ⟨cs, fr, h2⟩ := h.ty a ha
    rw [h1] at h2
    injection h2 with h2
    injection h2 with _ h2
    exact he h2))
theorem Bty.set {g i : Nat} {t : TypeId} {u : Value} {cs : Array Value} (h : Bty w A n c l) (hb : Bk w g t cs) (ht : t ≠ 5) : Bty (w.setCell ⟨g, i, none⟩ u) A n c l :=
  h.stay (fun a ha => Below.heap_setCell w ⟨g, i, none⟩ u _ (fun eq => by
    obtain ⟨cs', fr, h2⟩ := h.ty a ha
    have eq' : a.block = g := eq
    unfold Bk at hb
    rw [eq', hb] at h2
    injection h2 with h2
    injection h2 with _ h2
    exact ht h2))
theorem cut_lhm (h : Bty w A n c l) (j k : Nat) (hjk : j ≤ k) (hk : k ≤ n) :
    ∃ B, (∀ v, (Instr.slice 88 (.slice A n c) (some (.int .i64 (j : Int))) (some (.int .i64 (k : Int))) (some (.int .i64 (k : Int)))).run Tryz.prog v = .ok (.slice B (k - j) (k - j)) v) ∧ Bty w B (k - j) (k - j) ((l.drop j).take (k - j)) := by
  have hcap := h.byt.cap
  refine ⟨if k = j then A else A.map (·.add (j * 1)), fun v => ?_, ?_, ?_⟩
  · rw [run_slice_lhm (P := Tryz.prog) (w := v) 88 A n c under25 .i64 .i64 .i64 j k k (by omega) (by omega) (by omega) (by omega), elem25, sz_u8]
    simp [sliced, Result.andThen]
  · by_cases e : k = j
    · subst e
      rw [if_pos rfl, Nat.sub_self, List.take_zero]
      exact ⟨rfl, Nat.le_refl _, Nat.zero_le _, by simp, fun _ => ⟨rfl, rfl⟩, fun h => absurd h (by omega)⟩
    · rw [if_neg e]
      have := h.byt.sub j k hjk hk
      have hmax := h.byt.max
      unfold subA at this
      rw [if_neg (by omega)] at this
      exact ⟨this.len, Nat.le_refl _, by omega, this.rng, fun e => by have := this.nil_ e; omega, this.at_⟩
  · intro a ha
    split at ha
    · exact h.ty a ha
    · cases A with
      | none => simp at ha
      | some a' =>
        simp at ha
        obtain ⟨cs, fr, e⟩ := h.ty a' rfl
        refine ⟨cs, fr, ?_⟩
        have : a.block = a'.block := by rw [← ha]; unfold Addr.add; split <;> rfl
        rw [this]
        exact e
end
structure Flt (w : World) (A : Option Addr) (n c k : Nat) (vs : List Value) : Prop where
  len : vs.length = n * k
  cap : n ≤ c
  max : c ≤ maxLen
  nil_ : A = none → n = 0 ∧ c = 0
  at_ : 0 < n → ∃ g off, A = some ⟨g, off, none⟩ ∧ ∀ j v, vs[j]? = some v → w.cell? ⟨g, off + j, none⟩ = some v
section
variable {w w' : World} {A : Option Addr} {n c k : Nat} {vs : List Value}
theorem Flt.nil (w : World) (k : Nat) : Flt w none 0 0 k [] := ⟨by simp, Nat.le_refl _, Nat.zero_le _, fun _ => ⟨rfl, rfl⟩, fun h => absurd h (by omega)⟩
theorem Flt.keep (h : Flt w A n c k vs) (hk : ∀ (p : Addr) u, w.cell? p = some u → w'.cell? p = some u) : Flt w' A n c k vs :=
  ⟨h.len, h.cap, h.max, h.nil_, fun hn => by
    obtain ⟨g, off, e, hc⟩ := h.at_ hn
    exact ⟨g, off, e, fun j v hv => hk _ _ (hc j v hv)⟩⟩
theorem Flt.below (h : Flt w A n c k vs) (hb : Below w.heap.size w w') : Flt w' A n c k vs := h.keep fun p _ hu => (hb.cell (World.block_lt_of_cell? w p hu)).trans hu
theorem Flt.of_own {base : Nat} {e : TypeId} (h : w.ownsRow base e k (.slice A n c) n vs) : Flt w A n c k vs := by
  have hl := h.1
  rcases h.2 with ⟨hv, hn⟩ | ⟨g, cap, cur, hv, hb, hg, hnc, hm, hs, ht⟩
  · injection hv with h1 h2 h3
    subst h1 h2 h3
    exact ⟨hl, Nat.le_refl _, Nat.zero_le _, fun _ => ⟨rfl, rfl⟩, fun h => absurd h (by omega)⟩
  · injection hv with h1 h2 h3
    subst h1 h3
    refine ⟨hl, hnc, hm, (fun h => nomatch h), fun _ => ⟨g, 0, rfl, fun i v hv => ?_⟩⟩
    have := h.cells (g := g) rfl i v hv
    have hadd : (⟨g, 0, none⟩ : Addr).add i = ⟨g, 0 + i, none⟩ := by unfold Addr.add; split <;> simp_all
    rwa [hadd] at this
theorem Flt.take (h : Flt w A n c k vs) (m : Nat) (hm : m ≤ n) : Flt w A m c k (vs.take (m * k)) := by
  refine ⟨by rw [List.length_take, h.len, Nat.min_eq_left (Nat.mul_le_mul_right _ hm)], by have := h.cap; omega, h.max, fun e => ⟨by have := (h.nil_ e).1; omega, (h.nil_ e).2⟩, fun hk0 => ?_⟩
  obtain ⟨g, off, e, hc⟩ := h.at_ (by omega)
  refine ⟨g, off, e, fun i v hi => hc i v ?_⟩
  rw [List.getElem?_take] at hi
  split at hi
  · exact hi
  · cases hi
end
theorem flatL_len {α : Type} (f : α → List Value) (k : Nat) (hf : ∀ x, (f x).length = k) : ∀ l : List α, (l.flatMap f).length = l.length * k
  | [] => by simp
  | x :: r => by rw [List.flatMap_cons, List.length_append, hf, flatL_len f k hf r, List.length_cons, Nat.add_mul]; omega
theorem flatL_get {α : Type} (d : α) (f : α → List Value) (k : Nat) (hf : ∀ x, (f x).length = k) : ∀ (l : List α) (i j : Nat), i < l.length → j < k → (l.flatMap f)[i * k + j]? = (f (l.getD i d))[j]?
  | [], _, _, hi, _ => absurd hi (by simp)
  | x :: r, 0, j, _, hj => by
    rw [List.flatMap_cons, List.getElem?_append_left (by rw [hf]; omega)]
    simp
  | x :: r, i + 1, j, hi, hj => by
    rw [List.flatMap_cons, List.getElem?_append_right (by rw [hf, Nat.add_mul]; omega), hf]
    have e : (i + 1) * k + j - k = i * k + j := by rw [Nat.add_mul]; omega
    rw [e, flatL_get d f k hf r i j (by simpa using hi) hj]
    simp
theorem Flt.at_get {α : Type} {w : World} {A : Option Addr} {n c k : Nat} {l : List α} (d : α) (f : α → List Value) (hf : ∀ x, (f x).length = k) (h : Flt w A n c k (l.flatMap f)) (hl : l.length = n) (hn : 0 < n) :
    ∃ g off, A = some ⟨g, off, none⟩ ∧ ∀ i, i < n → ∀ j v, (f (l.getD i d))[j]? = some v → w.cell? ⟨g, off + i * k + j, none⟩ = some v := by
  obtain ⟨g, off, e, hc⟩ := h.at_ hn
  refine ⟨g, off, e, fun i hi j v hv => ?_⟩
  have hj : j < k := by rw [← hf (l.getD i d)]; exact (List.getElem?_eq_some_iff.1 hv).1
  rw [Nat.add_assoc]
  exact hc _ v (by rw [flatL_get d f k hf l i j (by omega) hj]; exact hv)
theorem wp_append_1 {P : Program} {w : World} {o : Oper} {a : Act} {K : Act → World → Prop} {Q : Exit → Act → World → Prop} (s x : Operand) (t : TypeId)
    (ho : o.op = .call { callee := .builtin .append, args := #[s, x], argTypes := #[t, t] }) (base : Nat) (e : TypeId) (i : TypeInfo) (z : Value) (size bytes : Nat) (ht : P.underlying t = some (.slice e)) (hi : P.info? e = some i) (hz : i.zero = some z)
    (hsize : i.size = size) (hby : i.bytes = bytes) (hzs : z.cells.size = size) (hpos : 0 < size) {v : Value} {n : Nat} {xs : List Value} (hs : a.eval s = v) (hown : w.ownsRow base e size v n xs)
    {g c : Nat} {cs : Array Value} (hx : a.eval x = .slice (some ⟨g, 0, none⟩) 1 c) (hb : Bk w g e cs) (hcs : cs.size = size) (h1 : ∀ u ∈ cs.toList, u.oneCell' = true) (hn : n ≤ 1000000) (hbb : bytes ≤ 1000) (hbase : base ≤ w.heap.size)
    (h : ∀ A' c' w', w'.ownsRow base e size (.slice A' (n + 1) c') (n + 1) (xs ++ cs.toList) → w.grownBy w' v.ownBlock → (∀ q, (Value.slice A' (n + 1) c').ownBlock = some q → v.ownBlock = some q ∨ w.heap.size ≤ q) → K (a.put o.dst (.slice A' (n + 1) c')) w') : o.wp P a w K Q := by
  have hbt : (n + 1) * bytes ≤ 140737488355328 := Nat.le_trans (Nat.mul_le_mul (show n + 1 ≤ 1000001 by omega) hbb) (by omega)
  refine wp_append_lies w s x t ho base e i z size bytes ht hi hz hsize hby hzs hpos v n xs hs hown ⟨g, 0, none⟩ 1 c cs.toList hx (by simp [hcs]) (fun j u hu => ?_) h1 (by omega) (by unfold maxLen; omega) hbt hbase _ rfl ?_
  · have hadd : (⟨g, 0, none⟩ : Addr).add j = ⟨g, j, none⟩ := by unfold Addr.add; split <;> simp_all
    rw [hadd, hb.cell]
    simpa using hu
  · intro g' cap w' k1 k2 k3 _
    refine h _ cap w' k1 k2 (fun q hq => ?_)
    simp [Value.ownBlock] at hq
    rcases k3 with k3 | k3
    · exact .inl (by rw [k3, hq])
    · exact .inr (by omega)
theorem wpList_append_1 {P : Program} {w : World} {ops : Array Oper} {rest : List Oper} {o : Oper} {a : Act} {Q : Exit → Act → World → Prop} (hgd : o.guard = none) (s x : Operand) (t : TypeId)
    (ho : o.op = .call { callee := .builtin .append, args := #[s, x], argTypes := #[t, t] }) (base : Nat) (e : TypeId) (i : TypeInfo) (z : Value) (size bytes : Nat) (ht : P.underlying t = some (.slice e)) (hi : P.info? e = some i) (hz : i.zero = some z)
    (hsize : i.size = size) (hby : i.bytes = bytes) (hzs : z.cells.size = size) (hpos : 0 < size) {v : Value} {n : Nat} {xs : List Value} (hs : a.eval s = v) (hown : w.ownsRow base e size v n xs)
    {g c : Nat} {cs : Array Value} (hx : a.eval x = .slice (some ⟨g, 0, none⟩) 1 c) (hb : Bk w g e cs) (hcs : cs.size = size) (h1 : ∀ u ∈ cs.toList, u.oneCell' = true) (hn : n ≤ 1000000) (hbb : bytes ≤ 1000) (hbase : base ≤ w.heap.size)
    (h : ∀ A' c' w', w'.ownsRow base e size (.slice A' (n + 1) c') (n + 1) (xs ++ cs.toList) → w.grownBy w' v.ownBlock → (∀ q, (Value.slice A' (n + 1) c').ownBlock = some q → v.ownBlock = some q ∨ w.heap.size ≤ q) → wpList P ops Q rest (a.put o.dst (.slice A' (n + 1) c')) w') :
    wpList P ops Q (o :: rest) a w :=
  wpList_plain hgd fun _ hK => wp_append_1 s x t ho base e i z size bytes ht hi hz hsize hby hzs hpos hs hown hx hb hcs h1 hn hbb hbase fun A' c' w' k1 k2 k3 => hK _ _ (h A' c' w' k1 k2 k3)
end

/- sheet.isSeq, hasFirst, part answer as they should; what is there stands. -/
section
open Go.RowKit
structure Sh where
  inc : Int
  pos : Int
  first : Int
  data : ByteArray
def sh0 : Sh := ⟨0, 0, 0, ByteArray.empty⟩
def Sh.cells (x : Sh) : List Value := [.int .i64 x.inc, .int .i64 x.pos, .int .i64 x.first, .string x.data]
def i64R (x : Int) : Prop := -9223372036854775808 ≤ x ∧ x ≤ 9223372036854775807
structure Sh.In (x : Sh) : Prop where
  inc : i64R x.inc
  pos : i64R x.pos
  first : i64R x.first
  data : x.data.size ≤ maxLen
def Qs (v : Value) (w : World) (e : Ending) (w' : World) : Prop := e = .returned v ∧ w = w'
def isSeqB (n : Int) : Bool := decide (0 ≤ n ∧ n ≤ 1099511627775)
def hasF (first : Int) (k : Nat) : Bool := decide (0 ≤ first ∧ first ≤ (k : Int))
theorem isSeq_any (n : Int) (w : World) (hn : i64R n) : Calls Tryz.prog 98 #[.int .i64 n] w (Qs (.bool (isSeqB n)) w) := by
  obtain ⟨h0, h1⟩ := hn
  by_cases a : 0 ≤ n
  · by_cases b : n ≤ 1099511627775
    · have e : isSeqB n = true := decide_eq_true ⟨a, b⟩
      rw [e]
      clear e
      go_enter Tryz.func98, Tryz.ntmps98
      go_wp2_with fail
      go_ret
      exact ⟨by simp_all, rfl⟩
    · have e : isSeqB n = false := decide_eq_false (fun h => b h.2)
      rw [e]
      clear e
      go_enter Tryz.func98, Tryz.ntmps98
      go_wp2_with fail
      go_ret
      exact ⟨by simp_all, rfl⟩
  · have e : isSeqB n = false := decide_eq_false (fun h => a h.1)
    rw [e]
    clear e
    go_enter Tryz.func98, Tryz.ntmps98
    go_wp2_with fail
    go_ret
    exact ⟨by simp_all, rfl⟩
set_option maxHeartbeats 1000000 in
theorem hasFirst_any (x : Sh) (w : World) (hx : x.In) : Calls Tryz.prog 113 #[.agg x.cells.toArray] w (Ret (.bool (hasF x.first x.data.size)) w) := by
  obtain ⟨inc, pos, first, data⟩ := x
  obtain ⟨_, _, ⟨h0, h1⟩, hd⟩ := hx
  unfold maxLen at hd
  simp only at h0 h1 hd
  have hb : Below w.heap.size w (w.alloc (.cells #[.int .i64 inc, .int .i64 pos, .int .i64 first, .string data] 138)) := (Below.refl _ _).alloc (Nat.le_refl _) _
  have HB := Lib.hid hb
  show Calls _ _ #[.agg #[.int .i64 inc, .int .i64 pos, .int .i64 first, .string data]] w _
  by_cases a : 0 ≤ first
  · by_cases b : first ≤ (data.size : Int)
    · have e : hasF first data.size = true := decide_eq_true ⟨a, b⟩
      have E := Lib.hid e
      clear e hb
      go_enter Tryz.func113, Tryz.ntmps113
      go_wp2_with fail
      go_ret
      exact ⟨by rw [E.out]; simp_all, HB.out⟩
    · have e : hasF first data.size = false := decide_eq_false (fun h => b h.2)
      have E := Lib.hid e
      clear e hb
      go_enter Tryz.func113, Tryz.ntmps113
      go_wp2_with fail
      go_ret
      exact ⟨by rw [E.out]; simp_all, HB.out⟩
  · have e : hasF first data.size = false := decide_eq_false (fun h => a h.1)
    have E := Lib.hid e
    clear e hb
    go_enter Tryz.func113, Tryz.ntmps113
    go_wp2_with fail
    go_ret
    exact ⟨by rw [E.out]; simp_all, HB.out⟩
def RetPart (m : Nat) (l : List Int) (w : World) (e : Ending) (w' : World) : Prop := ∃ B, e = .returned (.slice B m m) ∧ Bty w B m m l ∧ w = w'
theorem part_any (A : Option Addr) (n c : Nat) (l : List Int) (w : World) (h : Bty w A n c l) (j k : Nat) (hjk : j ≤ k) (hk : k ≤ n) :
    Calls Tryz.prog 115 #[.slice A n c, .int .i64 j, .int .i64 k] w (RetPart (k - j) ((l.drop j).take (k - j)) w) := by
  have hcap := h.byt.cap
  have hmax := h.byt.max
  unfold maxLen at hmax
  obtain ⟨B, hs, hb⟩ := cut_lhm h j k hjk hk
  have R : Hid (RetPart (k - j) ((l.drop j).take (k - j)) w (.returned (.slice B (k - j) (k - j))) w) := Lib.hid ⟨B, rfl, hb, rfl⟩
  clear hb h
  go_enter Tryz.func115, Tryz.ntmps115
  go_wp2_with fail
  go_ret
  exact R.out
end

/- 'append' onto a row of the call's own lays it where it was, or in a new block: so two such rows stay apart. No program is named; no condition. -/
section
open Go.RowKit
theorem append_where {P : Program} {w : World} {base : Nat} {t ty e : TypeId} {i : TypeInfo} (ht : P.underlying t = some (.slice e)) (hi : P.info? e = some i) (hz : i.zero = some (.int .u8 0)) (hsize : i.size = 1) (hby : i.bytes = 1)
    {v : Value} {k : Nat} {xs : List Value} (hown : w.ownsRow base e 1 v k xs) {ad : Addr} {n c : Nat} {l : List Value} (hl : l.length = n) (hc : ∀ j u, l[j]? = some u → w.cell? (ad.add j) = some u) (h1 : ∀ u ∈ l, u.oneCell' = true) (hbytes : k + n ≤ 140737488355328)
    {v' : Value} {w' : World} (hr : (Builtin.append_ #[t, t] ty #[v, .slice (some ad) n c]).run P w = .ok v' w') : ∀ q, v'.ownBlock = some q → v.ownBlock = some q ∨ w.heap.size ≤ q := by
  have hl' : l.length = n * i.size := by rw [hsize]; omega
  have done : ∀ {x : Value} {w1 : World}, (Builtin.append_ #[t, t] ty #[v, .slice (some ad) n c]).run P w = .ok x w1 → (∀ q, x.ownBlock = some q → v.ownBlock = some q ∨ w.heap.size ≤ q) → ∀ q, v'.ownBlock = some q → v.ownBlock = some q ∨ w.heap.size ≤ q := by
    intro x w1 h h2
    rw [hr] at h
    injection h with h _
    rw [h]
    exact h2
  rcases hown.2 with ⟨rfl, rfl⟩ | ⟨g, cap, cur, rfl, _, hg, hkc, _, hcs, _⟩
  · by_cases hn : n = 0
    · subst hn
      obtain rfl : l = [] := List.eq_nil_of_length_eq_zero hl
      refine done (x := .slice none 0 0) (w1 := w) ?_ (fun q hq => by simp [Value.ownBlock] at hq)
      simp [Builtin.append_, run_underlying ht, sizeOf, typeInfo, hi, Builtin.lenOf, Builtin.firstCells, loadCells, loadCellsFrom]
    · exact done (run_append_nil (P := P) w t ty e i _ ht hi hz ad n c l hl' hc (by omega) (by omega) (by rw [hby]; omega)) (fun q hq => .inr (by simp [Value.ownBlock] at hq; omega))
  · by_cases hroom : k + n ≤ cap
    · exact done (run_append_room (P := P) w t ty e i ht hi g k cap cur hg ad n c l hl' hc h1 hroom (by rw [hl', hcs, hsize]; omega)) (fun q hq => .inl (by simpa [Value.ownBlock] using hq))
    · refine done (run_append_grow (P := P) w t ty e i _ ht hi hz ⟨g, 0, none⟩ k cap xs (by rw [hown.1, hsize]) (hown.cells (g := g) rfl) ad n c l hl' hc (by omega) (by omega) (growslice_fits (by omega) (by rw [hby]; omega))) (fun q hq => .inr (by simp [Value.ownBlock] at hq; omega))
theorem wpList_append_at {P : Program} {w : World} {ops : Array Oper} {rest : List Oper} {o : Oper} {a : Act} {Q : Exit → Act → World → Prop} (hgd : o.guard = none) (s x : Operand) (t : TypeId)
    (ho : o.op = .call { callee := .builtin .append, args := #[s, x], argTypes := #[t, t] })
    (base : Nat) (e : TypeId) (i : TypeInfo) (ht : P.underlying t = some (.slice e)) (hi : P.info? e = some i) (hz : i.zero = some (.int .u8 0)) (hsize : i.size = 1) (hby : i.bytes = 1)
    (v : Value) (k : Nat) (xs : List Int) (hs : a.eval s = v) (hown : w.ownsRow base e 1 v k (xs.map (Value.int .u8)))
    (A : Option Addr) (n c : Nat) (l : List Int) (hx : a.eval x = .slice A n c) (hl : Byt w A n c l)
    (hbytes : k + n ≤ 140737488355328) (hbase : base ≤ w.heap.size)
    (h : ∀ A' c' w', w'.ownsRow base e 1 (.slice A' (k + n) c') (k + n) ((xs ++ l).map (Value.int .u8)) → w.grownBy w' v.ownBlock → (∀ q, (Value.slice A' (k + n) c').ownBlock = some q → v.ownBlock = some q ∨ w.heap.size ≤ q) → wpList P ops Q rest (a.put o.dst (.slice A' (k + n) c')) w') :
    wpList P ops Q (o :: rest) a w := by
  refine wpList_plain hgd fun K hK => ?_
  have form : ∀ (v' : Value) (w' : World) (m : Nat) (ys : List Value), w'.ownsRow base e 1 v' m ys → ∃ A' c', v' = .slice A' m c' := by
    intro v' w' m ys ho'
    rcases ho'.2 with ⟨h1, h2⟩ | ⟨g, cap, _, h1, _⟩
    · subst h2; exact ⟨none, 0, h1⟩
    · exact ⟨_, _, h1⟩
  cases A with
  | none =>
    obtain ⟨rfl, rfl⟩ := hl.nil_ rfl
    have hl0 : l = [] := List.eq_nil_of_length_eq_zero hl.len
    subst hl0
    have hrun := run_append_owned_none (P := P) (w := w) base t o.type e i 1 ht hi v k _ hown
    obtain ⟨A', c', rfl⟩ := form _ _ _ _ hown
    have h' := h A' c' w
    simp only [Nat.add_zero, List.append_nil] at h'
    unfold Oper.wp
    simp [execOp, ho, resolve, invoke, builtin, hs, hx, hrun, Result.andThen]
    exact hK _ _ (h' hown (World.grownBy.refl w _) (fun q hq => .inl hq))
  | some ad =>
    have hll : (l.map (Value.int .u8)).length = n := by simp [hl.len]
    obtain ⟨v', w', hrun, h1, h2, _⟩ := run_append_own (P := P) w base t o.type e i (.int .u8 0) 1 1 ht hi hz hsize hby rfl (by decide) v k _ hown ad n c (l.map (Value.int .u8)) (by simp [hl.len]) (hl.cells ad rfl) (u8_one l) (by unfold maxLen; omega) (by omega) hbase
    have hw := append_where ht hi hz hsize hby hown hll (hl.cells ad rfl) (u8_one l) hbytes hrun
    obtain ⟨A', c', rfl⟩ := form _ _ _ _ h1
    unfold Oper.wp
    simp [execOp, ho, resolve, invoke, builtin, hs, hx, hrun, Result.andThen]
    exact hK _ _ (h A' c' w' (by simpa using h1) h2 hw)
end
end Go.Proofs.YtjllpihkjlblaaaGreatDoor
