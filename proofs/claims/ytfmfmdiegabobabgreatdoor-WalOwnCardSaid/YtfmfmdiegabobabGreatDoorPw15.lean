/- What it says: contracts and plain mathematics that the laws' walks use, 15 of 33: each part's own remark says what; no condition. -/
import Derived.Test.YtfmfmdiegabobabGreatDoorPw1
import Derived.Test.YtfmfmdiegabobabGreatDoorPw4
import Derived.Test.YtfmfmdiegabobabGreatDoorPw5
import Derived.Test.YtfmfmdiegabobabGreatDoorPw14
import Derived.Deep.AppendLies
import Derived.MapKept
import Derived.Maps.OwnOps

set_option linter.unusedSimpArgs false
set_option linter.unusedVariables false
set_option linter.deprecated false
set_option linter.unusedSectionVars false
set_option linter.all false
set_option maxRecDepth 100000
set_option maxHeartbeats 16000000
namespace Go.Proofs.YtfmfmdiegabobabGreatDoor

/- plain mathematics of sheets: what is found in them, how bodies are laid into them; what was laid is found. No program is named; no condition. -/
section
open Go.RowKit
def isB (l : List Int) : Prop := ∀ x ∈ l, 0 ≤ x ∧ x < 256
theorem isB.drop {l : List Int} (h : isB l) (n : Nat) : isB (l.drop n) := fun x hx => h x (List.mem_of_mem_drop hx)
theorem isB.take {l : List Int} (h : isB l) (n : Nat) : isB (l.take n) := fun x hx => h x (List.mem_of_mem_take hx)
theorem isB.app {l m : List Int} (h : isB l) (k : isB m) : isB (l ++ m) := fun x hx => by
 rcases List.mem_append.1 hx with q | q
 ·exact h x q
 ·exact k x q
def opensF : Nat → List Int → List (List Int) × List Int × Bool
 | 0, _ => ([], [], true)
 | f + 1, b => if b = [] then ([], [], true) else
   if (openF b).2.2 = 0 then ((openF b).1 :: (opensF f (b.drop (openF b).2.1)).1, (opensF f (b.drop (openF b).2.1)).2) else if (openF b).2.2 = 10 then ([], b, true) else ([], [], false)
theorem sealL_pos (b : List Int) : 4 < (sealL b).length := by
 rw [sealL_len]
 have h := shortL_pos b.length
 unfold textL
 rw [List.length_append]
 omega
theorem opensF_more : ∀ (f g : Nat) (b : List Int), isB b → b.length < f → b.length < g → opensF f b = opensF g b
 | 0, _, b, _, h, _ => absurd h (by omega)
 | _, 0, b, _, _, h => absurd h (by omega)
 | f + 1, g + 1, b, hb, h1, h2 => by
  unfold opensF
  by_cases h0 : b = []
  ·rw [if_pos h0, if_pos h0]
  ·rw [if_neg h0, if_neg h0]
   by_cases he : (openF b).2.2 = 0
   ·rw [if_pos he, if_pos he]
    obtain ⟨hu, ht, _⟩ := openF_ok hb (b := (openF b).1) (u := (openF b).2.1) (by rw [← he])
    have hp := sealL_pos (openF b).1
    have : (b.take (openF b).2.1).length = (sealL (openF b).1).length := by rw [ht]
    rw [List.length_take] at this
    have hl : (b.drop (openF b).2.1).length < b.length := by rw [List.length_drop]; omega
    rw [opensF_more f g _ (hb.drop _) (by omega) (by omega)]
   ·rw [if_neg he, if_neg he]
def opens (b : List Int) : List (List Int) × List Int × Bool := opensF (b.length + 1) b
theorem opens_nil : opens [] = ([], [], true) := rfl
theorem opens_ok {b x : List Int} {u : Nat} (hb : isB b) (h0 : b ≠ []) (h : openF b = (x, u, 0)) : opens b = (x :: (opens (b.drop u)).1, (opens (b.drop u)).2) := by
 unfold opens
 have e : opensF (b.length + 1) b = (x :: (opensF b.length (b.drop u)).1, (opensF b.length (b.drop u)).2) := by
  rw [opensF, if_neg h0, h, if_pos rfl]
 rw [e]
 obtain ⟨hu, ht, _⟩ := openF_ok hb h
 have hp := sealL_pos x
 have : (b.take u).length = (sealL x).length := by rw [ht]
 rw [List.length_take] at this
 have hl : (b.drop u).length < b.length := by rw [List.length_drop]; omega
 rw [opensF_more b.length ((b.drop u).length + 1) _ (hb.drop _) hl (by omega)]
theorem opens_short {b x : List Int} {u : Nat} (h0 : b ≠ []) (h : openF b = (x, u, 10)) : opens b = ([], b, true) := by
 unfold opens
 rw [opensF, if_neg h0, h, if_neg (by simp), if_pos rfl]
theorem opens_bad {b x : List Int} {u e : Nat} (h0 : b ≠ []) (h : openF b = (x, u, e)) (he : e ≠ 0) (h10 : e ≠ 10) : opens b = ([], [], false) := by
 unfold opens
 rw [opensF, if_neg h0, h, if_neg he, if_neg h10]
structure Fs where
 out : List (List Int × Int)
 beg : List Int
 frm : Int
def headF (s : Fs) (h : List Int) : Fs × Bool :=
 if s.beg = [] then (s, true) else
  if (openF (s.beg ++ h)).2.2 = 10 then (⟨s.out, s.beg ++ h, s.frm⟩, true)
  else if (openF (s.beg ++ h)).2.2 = 0 ∧ (openF (s.beg ++ h)).2.1 = (s.beg ++ h).length then (⟨s.out ++ [((openF (s.beg ++ h)).1, s.frm)], [], s.frm⟩, true) else (s, false)
def bodsF (s : Fs) (b : List Int) (i : Int) : Fs × Bool := (⟨s.out ++ (opens b).1.map (fun x => (x, i)), (opens b).2.1, i⟩, (opens b).2.2)
def inS (first : Int) (d : List Int) : Prop := 0 ≤ first ∧ first ≤ (d.length : Int)
instance (first : Int) (d : List Int) : Decidable (inS first d) := inferInstanceAs (Decidable (_ ∧ _))
def cutS (first : Int) (d : List Int) : Nat := if inS first d then first.toNat else d.length
theorem cutS_le (first : Int) (d : List Int) : cutS first d ≤ d.length := by
 unfold cutS
 split
 ·rename_i h; have := h.1; have := h.2; omega
 ·exact Nat.le_refl _
def sheetF (s : Fs) (i : Int) (first : Int) (d : List Int) : Fs × Bool :=
 if (headF s (d.take (cutS first d))).2 = false then headF s (d.take (cutS first d))
 else if inS first d then bodsF (headF s (d.take (cutS first d))).1 (d.drop (cutS first d)) i else headF s (d.take (cutS first d))
def findF : Fs → Nat → List (Int × List Int) → List (List Int × Int)
 | s, _, [] => s.out
 | s, i, x :: r => if (sheetF s i x.1 x.2).2 then findF (sheetF s i x.1 x.2).1 (i + 1) r else (sheetF s i x.1 x.2).1.out
def fs0 : Fs := ⟨[], [], 0⟩
def found (l : List (Int × List Int)) : List (List Int × Int) := findF fs0 0 l
/- What was found are bytes, and what is begun. -/
def Fs.Ok (s : Fs) : Prop := isB s.beg ∧ ∀ x ∈ s.out, isB x.1 ∧ x.1.length ≤ 4096
theorem sealL_inB {b : List Int} {x : List Int} {n : Nat} (hb : isB b) (h : b.take n = sealL x) : isB x := fun y hy => by
 refine hb.take n y ?_
 rw [h]
 unfold sealL textL
 simp [hy]
theorem opensF_isB : ∀ (f : Nat) (b : List Int), isB b → isB (opensF f b).2.1 ∧ ∀ x ∈ (opensF f b).1, isB x ∧ x.length ≤ 4096
 | 0, b, h => ⟨fun x hx => (by cases hx), fun x hx => (by cases hx)⟩
 | f + 1, b, h => by
  unfold opensF
  split
  ·exact ⟨fun x hx => (by cases hx), fun x hx => (by cases hx)⟩
  ·split
   ·rename_i he
    obtain ⟨hu, ht, hl⟩ := openF_ok h (b := (openF b).1) (u := (openF b).2.1) (by rw [← he])
    obtain ⟨h1, h2⟩ := opensF_isB f (b.drop (openF b).2.1) (h.drop _)
    refine ⟨h1, fun x hx => ?_⟩
    rcases List.mem_cons.1 hx with rfl | hx
    ·exact ⟨sealL_inB h ht, hl⟩
    ·exact h2 x hx
   ·split
    ·exact ⟨h, fun x hx => (by cases hx)⟩
    ·exact ⟨fun x hx => (by cases hx), fun x hx => (by cases hx)⟩
theorem headF_ok {s : Fs} {h : List Int} (hs : s.Ok) (hh : isB h) : (headF s h).1.Ok := by
 unfold headF
 split
 ·exact hs
 ·split
  ·exact ⟨hs.1.app hh, hs.2⟩
  ·split
   ·rename_i hc
    obtain ⟨hu, ht, hl⟩ := openF_ok (hs.1.app hh) (b := (openF (s.beg ++ h)).1) (u := (openF (s.beg ++ h)).2.1) (by rw [← hc.1])
    refine ⟨fun x hx => (by cases hx), fun x hx => ?_⟩
    rcases List.mem_append.1 hx with q | q
    ·exact hs.2 x q
    ·simp at q
     subst q
     exact ⟨sealL_inB (hs.1.app hh) ht, hl⟩
   ·exact hs
theorem bodsF_ok {s : Fs} {b : List Int} (i : Int) (hs : s.Ok) (hb : isB b) : (bodsF s b i).1.Ok := by
 obtain ⟨h1, h2⟩ := opensF_isB (b.length + 1) b hb
 refine ⟨h1, fun x hx => ?_⟩
 rcases List.mem_append.1 hx with q | q
 ·exact hs.2 x q
 ·obtain ⟨y, hy, rfl⟩ := List.mem_map.1 q
  exact h2 y hy
theorem sheetF_ok {s : Fs} {i first : Int} {d : List Int} (hs : s.Ok) (hd : isB d) : (sheetF s i first d).1.Ok := by
 unfold sheetF
 split
 ·exact headF_ok hs (hd.take _)
 ·split
  ·exact bodsF_ok _ (headF_ok hs (hd.take _)) (hd.drop _)
  ·exact headF_ok hs (hd.take _)
/- How long what is begun may be, and how much is found. -/
theorem opensF_len : ∀ (f : Nat) (b : List Int), isB b → (opensF f b).1.length * 5 + (opensF f b).2.1.length ≤ b.length
 | 0, b, _ => by simp [opensF]
 | f + 1, b, h => by
  unfold opensF
  split
  ·simp
  ·split
   ·rename_i he
    obtain ⟨hu, ht, hl⟩ := openF_ok h (b := (openF b).1) (u := (openF b).2.1) (by rw [← he])
    have hp := sealL_pos (openF b).1
    have e : (b.take (openF b).2.1).length = (sealL (openF b).1).length := by rw [ht]
    rw [List.length_take] at e
    have := opensF_len f (b.drop (openF b).2.1) (h.drop _)
    rw [List.length_drop] at this
    simp only [List.length_cons]
    omega
   ·split
    ·simp
    ·simp
theorem headF_len {s : Fs} {h : List Int} : (headF s h).1.beg.length ≤ s.beg.length + h.length ∧ (headF s h).1.out.length ≤ s.out.length + 1 := by
 unfold headF
 split
 ·exact ⟨by simp, by simp⟩
 ·split
  ·simp
  ·split
   ·simp
   ·exact ⟨by simp, by simp⟩
theorem bodsF_len {s : Fs} {b : List Int} {i : Int} (hb : isB b) : (bodsF s b i).1.beg.length ≤ b.length ∧ (bodsF s b i).1.out.length ≤ s.out.length + b.length := by
 have := opensF_len (b.length + 1) b hb
 unfold bodsF opens
 simp only [List.length_append, List.length_map]
 omega
theorem sheetF_len {s : Fs} {i first : Int} {d : List Int} (hd : isB d) : (sheetF s i first d).1.beg.length ≤ s.beg.length + d.length ∧ (sheetF s i first d).1.out.length ≤ s.out.length + 1 + d.length := by
 have hc := cutS_le first d
 have h1 := @headF_len s (d.take (cutS first d))
 rw [List.length_take, Nat.min_eq_left hc] at h1
 unfold sheetF
 split
 ·omega
 ·split
  ·have h2 := @bodsF_len (headF s (d.take (cutS first d))).1 (d.drop (cutS first d)) i (hd.drop _)
   rw [List.length_drop] at h2
   omega
  ·omega
end

/- plain mathematics of sheets: bodies laid into sheets, by place; of the first sheets of what was laid just those bodies are found that end in them; what was laid later is found too. No program is named; no condition. -/
section
open Go.RowKit
def allL (bs : List (List Int)) : List Int := bs.flatMap sealL
def bgn (bs : List (List Int)) (j : Nat) : Nat := (allL (bs.take j)).length
def bgns (bs : List (List Int)) : List Nat := (List.range bs.length).map (bgn bs)
def fstIn (l : List Nat) (i : Nat) : Int := match l.find? (fun b => b / 242 == i) with
 | some b => ((b % 242 : Nat) : Int)
 | none => 255
def shN (n : Nat) : Nat := (n + 241) / 242
theorem allL_cons (b : List Int) (r : List (List Int)) : allL (b :: r) = sealL b ++ allL r := by simp [allL]
theorem allL_app (a r : List (List Int)) : allL (a ++ r) = allL a ++ allL r := by simp [allL]
theorem allL_isB {bs : List (List Int)} (h : ∀ b ∈ bs, isB b) : isB (allL bs) := fun x hx => by
 obtain ⟨b, hb, hx⟩ := List.mem_flatMap.1 hx
 exact sealL_rng (h b hb) x hx
section
variable {bs : List (List Int)}
theorem bgn_end {j : Nat} (h : bs.length ≤ j) : bgn bs j = (allL bs).length := by unfold bgn; rw [List.take_of_length_le h]
theorem take_succ_getD {α : Type} (l : List α) (d : α) (j : Nat) (h : j < l.length) : l.take (j + 1) = l.take j ++ [l.getD j d] := by
 rw [List.take_add_one]
 congr 1
 simp [List.getElem?_eq_getElem h]
theorem bgn_next {j : Nat} (h : j < bs.length) : bgn bs (j + 1) = bgn bs j + (sealL (bs.getD j [])).length := by
 unfold bgn
 rw [take_succ_getD bs [] j h, allL_app, List.length_append]
 simp [allL]
theorem bgn_lt {j : Nat} (h : j < bs.length) : bgn bs j < bgn bs (j + 1) := by
 rw [bgn_next h]
 have := sealL_pos (bs.getD j [])
 omega
theorem bgn_mono {i j : Nat} (h : i ≤ j) : bgn bs i ≤ bgn bs j := by
 induction j with
 | zero => rw [Nat.le_zero.1 h]; exact Nat.le_refl _
 | succ j ih =>
  by_cases e : i = j + 1
  ·rw [e]; exact Nat.le_refl _
  ·have h1 := ih (by omega)
   by_cases hj : j < bs.length
   ·have := bgn_lt hj; omega
   ·rw [bgn_end (by omega : bs.length ≤ j)] at h1
    rw [bgn_end (j := j + 1) (by omega)]
    exact h1
theorem bgn_le (j : Nat) : bgn bs j ≤ (allL bs).length := by
 rw [← bgn_end (Nat.le_refl bs.length)]
 by_cases h : j ≤ bs.length
 ·exact bgn_mono h
 ·rw [bgn_end (by omega), bgn_end (Nat.le_refl _)]; exact Nat.le_refl _
theorem bgn_smono {i j : Nat} (h : i < j) (hj : j ≤ bs.length) : bgn bs i < bgn bs j :=
 Nat.lt_of_lt_of_le (bgn_lt (by omega)) (bgn_mono h)
theorem drop_getD_cons {α : Type} (l : List α) (d : α) (j : Nat) (h : j < l.length) : l.drop j = l.getD j d :: l.drop (j + 1) := by
 rw [List.drop_eq_getElem_cons h]
 simp [List.getD, List.getElem?_eq_getElem h]
/- The first begin in a sheet. -/
theorem bgns_get (j : Nat) (h : j < bs.length) : (bgns bs)[j]? = some (bgn bs j) := by simp [bgns, h]
end
section
variable {bs : List (List Int)} {o : List (List Int)} {k j : Nat} {s : Fs}
end
end

/- bytes in a block of bytes; slices of elements of several cells; rows of one's own of unlike types stay apart; one element more; parts of bytes by three indices. No condition. -/
section
open Go.RowKit
theorem own_ty {w : World} {base n q : Nat} {e : TypeId} {size : Nat} {v : Value} {xs : List Value} (h : w.ownsRow base e size v n xs) (hq : v.ownBlock = some q) : ∃ cur, w.heap[q]? = some (.cells cur e (0, 0)) := by
 rcases h.2 with ⟨h1, h2⟩ | ⟨g, cap, cur, h1, _, hg, _⟩
 ·rw [h1] at hq; simp [Value.ownBlock] at hq
 ·rw [h1] at hq
  simp [Value.ownBlock] at hq
  subst hq
  exact ⟨cur, hg⟩
theorem own_stay {w w' : World} {base n : Nat} {e : TypeId} {size : Nat} {v : Value} {xs : List Value} (h : w.ownsRow base e size v n xs) (hk : ∀ k, v.ownBlock = some k → w'.heap[k]? = w.heap[k]?) : w'.ownsRow base e size v n xs := by
 obtain ⟨h1, h2⟩ := h
 refine ⟨h1, ?_⟩
 rcases h2 with h2 | ⟨g, cap, cur, hv, hb, hg, r⟩
 ·exact .inl h2
 ·exact .inr ⟨g, cap, cur, hv, hb, (hk g (by rw [hv]; rfl)).trans hg, r⟩
theorem own_apart {w w' : World} {b b' k k' n n' : Nat} {e e' : TypeId} {v v' : Value} {xs xs' : List Value} (h : w.ownsRow b e k v n xs) (h' : w.ownsRow b' e' k' v' n' xs') (he : e ≠ e') (hg : w.grownBy w' v.ownBlock) : w'.ownsRow b' e' k' v' n' xs' :=
 own_stay h' (fun q hq => hg.block q (h'.lt q hq).2 (fun eq => by
  obtain ⟨c1, h1⟩ := own_ty h eq.symm
  obtain ⟨c2, h2⟩ := own_ty h' hq
  rw [h1] at h2
  injection h2 with h2
  injection h2 with _ h2
  exact he h2))
theorem bk_apart {w w' : World} {b k n g : Nat} {e t : TypeId} {v : Value} {xs : List Value} {cs : Array Value} (h : w.ownsRow b e k v n xs) (hb : Bk w g t cs) (he : e ≠ t) (hg : w.grownBy w' v.ownBlock) : Bk w' g t cs :=
 (hg.block g hb.lt (fun eq => by
  obtain ⟨c1, h1⟩ := own_ty h eq.symm
  unfold Bk at hb
  rw [h1] at hb
  injection hb with hb
  injection hb with _ hb
  exact he hb)).trans hb
theorem own_set {w : World} {b k n g i : Nat} {e t : TypeId} {v u : Value} {xs : List Value} {cs : Array Value} (h : w.ownsRow b e k v n xs) (hb : Bk w g t cs) (he : e ≠ t) : (w.setCell ⟨g, i, none⟩ u).ownsRow b e k v n xs :=
 own_stay h (fun q hq => Below.heap_setCell w ⟨g, i, none⟩ u q (fun eq => by
  obtain ⟨c1, h1⟩ := own_ty h hq
  have eq' : q = g := eq
  subst eq'
  unfold Bk at hb
  rw [h1] at hb
  injection hb with hb
  injection hb with _ hb
  exact he hb))
def u8At (w : World) (A : Option Addr) : Prop := ∀ a, A = some a → ∃ cs fr, w.heap[a.block]? = some (.cells cs 5 fr)
structure Bty (w : World) (A : Option Addr) (n c : Nat) (l : List Int) : Prop where
 byt : Byt w A n c l
 ty : u8At w A
section
variable {w w' : World} {A : Option Addr} {n c : Nat} {l : List Int}
theorem u8At.lt (h : u8At w A) : ∀ a, A = some a → a.block < w.heap.size := fun a ha => by
 obtain ⟨cs, fr, e⟩ := h a ha
 exact (Array.getElem?_eq_some_iff.1 e).1
theorem u8At.stay (h : u8At w A) (hk : ∀ a, A = some a → w'.heap[a.block]? = w.heap[a.block]?) : u8At w' A := fun a ha => by
 obtain ⟨cs, fr, e⟩ := h a ha
 exact ⟨cs, fr, (hk a ha).trans e⟩
theorem Byt.stay_ (h : Byt w A n c l) (hk : ∀ a, A = some a → w'.heap[a.block]? = w.heap[a.block]?) : Byt w' A n c l :=
 ⟨h.len, h.cap, h.max, h.rng, h.nil_, fun hn => by
  obtain ⟨g, off, e, hc⟩ := h.at_ hn
  exact ⟨g, off, e, fun i hi => (World.cell?_of_block (w := w) (w' := w') (a := ⟨g, off + i, none⟩) (hk ⟨g, off, none⟩ e)).trans (hc i hi)⟩⟩
theorem Bty.stay (h : Bty w A n c l) (hk : ∀ a, A = some a → w'.heap[a.block]? = w.heap[a.block]?) : Bty w' A n c l := ⟨h.byt.stay_ hk, h.ty.stay hk⟩
theorem Bty.below (h : Bty w A n c l) (hb : Below w.heap.size w w') : Bty w' A n c l := h.stay (fun a ha => hb.block _ (h.ty.lt a ha))
theorem Bty.nil (w : World) : Bty w none 0 0 [] := ⟨Byt.nil w, fun _ h => nomatch h⟩
theorem Bty.of_own {base : Nat} (h : w.ownsRow base 5 1 (.slice A n c) n (l.map (Value.int .u8))) (hr : ∀ x ∈ l, 0 ≤ x ∧ x < 256) : Bty w A n c l := by
 refine ⟨Byt.of_own h hr, fun a ha => ?_⟩
 obtain ⟨cur, hc⟩ := own_ty h (q := a.block) (by rw [ha]; rfl)
 exact ⟨cur, _, hc⟩
theorem Bty.ofString (w : World) (s : ByteArray) (hs : s.size ≤ maxLen) : Bty (Lib.bytesWorld w 5 s) (some ⟨w.heap.size, 0, none⟩) s.size (grownCap w s.size 0 5) (nums s) := by
 refine ⟨Byt.ofString w _ s hs, fun a ha => ?_⟩
 injection ha with ha
 subst ha
 exact ⟨_, _, Lib.bytesWorld_at_new w 5 s⟩
theorem Bty.apart {b k m : Nat} {e : TypeId} {v : Value} {xs : List Value} (h : Bty w A n c l) (ho : w.ownsRow b e k v m xs) (he : e ≠ 5) (hg : w.grownBy w' v.ownBlock) : Bty w' A n c l :=
 h.stay (fun a ha => hg.block _ (h.ty.lt a ha) (fun eq => by
  obtain ⟨c1, h1⟩ := own_ty ho eq.symm
  obtain ⟨cs, fr, h2⟩ := h.ty a ha
  rw [h1] at h2
  injection h2 with h2
  injection h2 with _ h2
  exact he h2))
theorem Bty.set {g i : Nat} {t : TypeId} {u : Value} {cs : Array Value} (h : Bty w A n c l) (hb : Bk w g t cs) (ht : t ≠ 5) : Bty (w.setCell ⟨g, i, none⟩ u) A n c l :=
 h.stay (fun a ha => Below.heap_setCell w ⟨g, i, none⟩ u _ (fun eq => by
  obtain ⟨cs', fr, h2⟩ := h.ty a ha
  have eq' : a.block = g := eq
  unfold Bk at hb
  rw [eq', hb] at h2
  injection h2 with h2
  injection h2 with _ h2
  exact ht h2))
theorem cut_lhm (h : Bty w A n c l) (j k : Nat) (hjk : j ≤ k) (hk : k ≤ n) :
  ∃ B, (∀ v, (Instr.slice 59 (.slice A n c) (some (.int .i64 (j : Int))) (some (.int .i64 (k : Int))) (some (.int .i64 (k : Int)))).run Tryz.prog v = .ok (.slice B (k - j) (k - j)) v) ∧ Bty w B (k - j) (k - j) ((l.drop j).take (k - j)) := by
 have hcap := h.byt.cap
 refine ⟨if k = j then A else A.map (·.add (j * 1)), fun v => ?_, ?_, ?_⟩
 ·rw [run_slice_lhm (P := Tryz.prog) (w := v) 59 A n c under25 .i64 .i64 .i64 j k k (by omega) (by omega) (by omega) (by omega), elem25, sz_u8]
  simp [sliced, Result.andThen]
 ·by_cases e : k = j
  ·subst e
   rw [if_pos rfl, Nat.sub_self, List.take_zero]
   exact ⟨rfl, Nat.le_refl _, Nat.zero_le _, by simp, fun _ => ⟨rfl, rfl⟩, fun h => absurd h (by omega)⟩
  ·rw [if_neg e]
   have := h.byt.sub j k hjk hk
   have hmax := h.byt.max
   unfold subA at this
   rw [if_neg (by omega)] at this
   exact ⟨this.len, Nat.le_refl _, by omega, this.rng, fun e => by have := this.nil_ e; omega, this.at_⟩
 ·intro a ha
  split at ha
  ·exact h.ty a ha
  ·cases A with
   | none => simp at ha
   | some a' =>
    simp at ha
    obtain ⟨cs, fr, e⟩ := h.ty a' rfl
    refine ⟨cs, fr, ?_⟩
    have : a.block = a'.block := by rw [← ha]; unfold Addr.add; split <;> rfl
    rw [this]
    exact e
end
structure Flt (w : World) (A : Option Addr) (n c k : Nat) (vs : List Value) : Prop where
 len : vs.length = n * k
 cap : n ≤ c
 max : c ≤ maxLen
 nil_ : A = none → n = 0 ∧ c = 0
 at_ : 0 < n → ∃ g off, A = some ⟨g, off, none⟩ ∧ ∀ j v, vs[j]? = some v → w.cell? ⟨g, off + j, none⟩ = some v
section
variable {w w' : World} {A : Option Addr} {n c k : Nat} {vs : List Value}
theorem Flt.nil (w : World) (k : Nat) : Flt w none 0 0 k [] := ⟨by simp, Nat.le_refl _, Nat.zero_le _, fun _ => ⟨rfl, rfl⟩, fun h => absurd h (by omega)⟩
theorem Flt.keep (h : Flt w A n c k vs) (hk : ∀ (p : Addr) u, w.cell? p = some u → w'.cell? p = some u) : Flt w' A n c k vs :=
 ⟨h.len, h.cap, h.max, h.nil_, fun hn => by
  obtain ⟨g, off, e, hc⟩ := h.at_ hn
  exact ⟨g, off, e, fun j v hv => hk _ _ (hc j v hv)⟩⟩
theorem Flt.below (h : Flt w A n c k vs) (hb : Below w.heap.size w w') : Flt w' A n c k vs := h.keep fun p _ hu => (hb.cell (World.block_lt_of_cell? w p hu)).trans hu
theorem Flt.of_own {base : Nat} {e : TypeId} (h : w.ownsRow base e k (.slice A n c) n vs) : Flt w A n c k vs := by
 have hl := h.1
 rcases h.2 with ⟨hv, hn⟩ | ⟨g, cap, cur, hv, hb, hg, hnc, hm, hs, ht⟩
 ·injection hv with h1 h2 h3
  subst h1 h2 h3
  exact ⟨hl, Nat.le_refl _, Nat.zero_le _, fun _ => ⟨rfl, rfl⟩, fun h => absurd h (by omega)⟩
 ·injection hv with h1 h2 h3
  subst h1 h3
  refine ⟨hl, hnc, hm, (fun h => nomatch h), fun _ => ⟨g, 0, rfl, fun i v hv => ?_⟩⟩
  have := h.cells (g := g) rfl i v hv
  have hadd : (⟨g, 0, none⟩ : Addr).add i = ⟨g, 0 + i, none⟩ := by unfold Addr.add; split <;> simp_all
  rwa [hadd] at this
end
theorem flatL_len {α : Type} (f : α → List Value) (k : Nat) (hf : ∀ x, (f x).length = k) : ∀ l : List α, (l.flatMap f).length = l.length * k
 | [] => by simp
 | x :: r => by rw [List.flatMap_cons, List.length_append, hf, flatL_len f k hf r, List.length_cons, Nat.add_mul]; omega
theorem flatL_get {α : Type} (d : α) (f : α → List Value) (k : Nat) (hf : ∀ x, (f x).length = k) : ∀ (l : List α) (i j : Nat), i < l.length → j < k → (l.flatMap f)[i * k + j]? = (f (l.getD i d))[j]?
 | [], _, _, hi, _ => absurd hi (by simp)
 | x :: r, 0, j, _, hj => by
  rw [List.flatMap_cons, List.getElem?_append_left (by rw [hf]; omega)]
  simp
 | x :: r, i + 1, j, hi, hj => by
  rw [List.flatMap_cons, List.getElem?_append_right (by rw [hf, Nat.add_mul]; omega), hf]
  have e : (i + 1) * k + j - k = i * k + j := by rw [Nat.add_mul]; omega
  rw [e, flatL_get d f k hf r i j (by simpa using hi) hj]
  simp
theorem Flt.at_get {α : Type} {w : World} {A : Option Addr} {n c k : Nat} {l : List α} (d : α) (f : α → List Value) (hf : ∀ x, (f x).length = k) (h : Flt w A n c k (l.flatMap f)) (hl : l.length = n) (hn : 0 < n) :
  ∃ g off, A = some ⟨g, off, none⟩ ∧ ∀ i, i < n → ∀ j v, (f (l.getD i d))[j]? = some v → w.cell? ⟨g, off + i * k + j, none⟩ = some v := by
 obtain ⟨g, off, e, hc⟩ := h.at_ hn
 refine ⟨g, off, e, fun i hi j v hv => ?_⟩
 have hj : j < k := by rw [← hf (l.getD i d)]; exact (List.getElem?_eq_some_iff.1 hv).1
 rw [Nat.add_assoc]
 exact hc _ v (by rw [flatL_get d f k hf l i j (by omega) hj]; exact hv)
theorem wp_append_1 {P : Program} {w : World} {o : Oper} {a : Act} {K : Act → World → Prop} {Q : Exit → Act → World → Prop} (s x : Operand) (t : TypeId)
  (ho : o.op = .call { callee := .builtin .append, args := #[s, x], argTypes := #[t, t] }) (base : Nat) (e : TypeId) (i : TypeInfo) (z : Value) (size bytes : Nat) (ht : P.underlying t = some (.slice e)) (hi : P.info? e = some i) (hz : i.zero = some z)
  (hsize : i.size = size) (hby : i.bytes = bytes) (hzs : z.cells.size = size) (hpos : 0 < size) {v : Value} {n : Nat} {xs : List Value} (hs : a.eval s = v) (hown : w.ownsRow base e size v n xs)
  {g c : Nat} {cs : Array Value} (hx : a.eval x = .slice (some ⟨g, 0, none⟩) 1 c) (hb : Bk w g e cs) (hcs : cs.size = size) (h1 : ∀ u ∈ cs.toList, u.oneCell' = true) (hn : n ≤ 1000000) (hbb : bytes ≤ 1000) (hbase : base ≤ w.heap.size)
  (h : ∀ A' c' w', w'.ownsRow base e size (.slice A' (n + 1) c') (n + 1) (xs ++ cs.toList) → w.grownBy w' v.ownBlock → (∀ q, (Value.slice A' (n + 1) c').ownBlock = some q → v.ownBlock = some q ∨ w.heap.size ≤ q) → K (a.put o.dst (.slice A' (n + 1) c')) w') : o.wp P a w K Q := by
 have hbt : (n + 1) * bytes ≤ 140737488355328 := Nat.le_trans (Nat.mul_le_mul (show n + 1 ≤ 1000001 by omega) hbb) (by omega)
 refine wp_append_lies w s x t ho base e i z size bytes ht hi hz hsize hby hzs hpos v n xs hs hown ⟨g, 0, none⟩ 1 c cs.toList hx (by simp [hcs]) (fun j u hu => ?_) h1 (by omega) (by unfold maxLen; omega) hbt hbase _ rfl ?_
 ·have hadd : (⟨g, 0, none⟩ : Addr).add j = ⟨g, j, none⟩ := by unfold Addr.add; split <;> simp_all
  rw [hadd, hb.cell]
  simpa using hu
 ·intro g' cap w' k1 k2 k3 _
  refine h _ cap w' k1 k2 (fun q hq => ?_)
  simp [Value.ownBlock] at hq
  rcases k3 with k3 | k3
  ·exact .inl (by rw [k3, hq])
  ·exact .inr (by omega)
theorem wpList_append_1 {P : Program} {w : World} {ops : Array Oper} {rest : List Oper} {o : Oper} {a : Act} {Q : Exit → Act → World → Prop} (hgd : o.guard = none) (s x : Operand) (t : TypeId)
  (ho : o.op = .call { callee := .builtin .append, args := #[s, x], argTypes := #[t, t] }) (base : Nat) (e : TypeId) (i : TypeInfo) (z : Value) (size bytes : Nat) (ht : P.underlying t = some (.slice e)) (hi : P.info? e = some i) (hz : i.zero = some z)
  (hsize : i.size = size) (hby : i.bytes = bytes) (hzs : z.cells.size = size) (hpos : 0 < size) {v : Value} {n : Nat} {xs : List Value} (hs : a.eval s = v) (hown : w.ownsRow base e size v n xs)
  {g c : Nat} {cs : Array Value} (hx : a.eval x = .slice (some ⟨g, 0, none⟩) 1 c) (hb : Bk w g e cs) (hcs : cs.size = size) (h1 : ∀ u ∈ cs.toList, u.oneCell' = true) (hn : n ≤ 1000000) (hbb : bytes ≤ 1000) (hbase : base ≤ w.heap.size)
  (h : ∀ A' c' w', w'.ownsRow base e size (.slice A' (n + 1) c') (n + 1) (xs ++ cs.toList) → w.grownBy w' v.ownBlock → (∀ q, (Value.slice A' (n + 1) c').ownBlock = some q → v.ownBlock = some q ∨ w.heap.size ≤ q) → wpList P ops Q rest (a.put o.dst (.slice A' (n + 1) c')) w') :
  wpList P ops Q (o :: rest) a w :=
 wpList_plain hgd fun _ hK => wp_append_1 s x t ho base e i z size bytes ht hi hz hsize hby hzs hpos hs hown hx hb hcs h1 hn hbb hbase fun A' c' w' k1 k2 k3 => hK _ _ (h A' c' w' k1 k2 k3)
end

/- sheet.isSeq, hasFirst, part answer as they should; what is there stands. -/
section
open Go.RowKit
structure Sh where
 inc : Int
 pos : Int
 first : Int
 data : ByteArray
def sh0 : Sh := ⟨0, 0, 0, ByteArray.empty⟩
def Sh.cells (x : Sh) : List Value := [.int .i64 x.inc, .int .i64 x.pos, .int .i64 x.first, .string x.data]
def i64R (x : Int) : Prop := -9223372036854775808 ≤ x ∧ x ≤ 9223372036854775807
structure Sh.In (x : Sh) : Prop where
 inc : i64R x.inc
 pos : i64R x.pos
 first : i64R x.first
 data : x.data.size ≤ maxLen
def Qs (v : Value) (w : World) (e : Ending) (w' : World) : Prop := e = .returned v ∧ w = w'
def isSeqB (n : Int) : Bool := decide (0 ≤ n ∧ n ≤ 1099511627775)
def hasF (first : Int) (k : Nat) : Bool := decide (0 ≤ first ∧ first ≤ (k : Int))
theorem isSeq_any (n : Int) (w : World) (hn : i64R n) : Calls Tryz.prog 46 #[.int .i64 n] w (Qs (.bool (isSeqB n)) w) := by
 obtain ⟨h0, h1⟩ := hn
 by_cases a : 0 ≤ n
 ·by_cases b : n ≤ 1099511627775
  ·have e : isSeqB n = true := decide_eq_true ⟨a, b⟩
   rw [e]
   clear e
   go_enter Tryz.func46, Tryz.ntmps46
   go_wp2_with fail
   go_ret
   exact ⟨by simp_all, rfl⟩
  ·have e : isSeqB n = false := decide_eq_false (fun h => b h.2)
   rw [e]
   clear e
   go_enter Tryz.func46, Tryz.ntmps46
   go_wp2_with fail
   go_ret
   exact ⟨by simp_all, rfl⟩
 ·have e : isSeqB n = false := decide_eq_false (fun h => a h.1)
  rw [e]
  clear e
  go_enter Tryz.func46, Tryz.ntmps46
  go_wp2_with fail
  go_ret
  exact ⟨by simp_all, rfl⟩
theorem hasFirst_any (x : Sh) (w : World) (hx : x.In) : Calls Tryz.prog 88 #[.agg x.cells.toArray] w (Ret (.bool (hasF x.first x.data.size)) w) := by
 obtain ⟨inc, pos, first, data⟩ := x
 obtain ⟨_, _, ⟨h0, h1⟩, hd⟩ := hx
 unfold maxLen at hd
 simp only at h0 h1 hd
 have hb : Below w.heap.size w (w.alloc (.cells #[.int .i64 inc, .int .i64 pos, .int .i64 first, .string data] 93)) := (Below.refl _ _).alloc (Nat.le_refl _) _
 have HB := Lib.hid hb
 show Calls _ _ #[.agg #[.int .i64 inc, .int .i64 pos, .int .i64 first, .string data]] w _
 by_cases a : 0 ≤ first
 ·by_cases b : first ≤ (data.size : Int)
  ·have e : hasF first data.size = true := decide_eq_true ⟨a, b⟩
   have E := Lib.hid e
   clear e hb
   go_enter Tryz.func88, Tryz.ntmps88
   go_wp2_with fail
   go_ret
   exact ⟨by rw [E.out]; simp_all, HB.out⟩
  ·have e : hasF first data.size = false := decide_eq_false (fun h => b h.2)
   have E := Lib.hid e
   clear e hb
   go_enter Tryz.func88, Tryz.ntmps88
   go_wp2_with fail
   go_ret
   exact ⟨by rw [E.out]; simp_all, HB.out⟩
 ·have e : hasF first data.size = false := decide_eq_false (fun h => a h.1)
  have E := Lib.hid e
  clear e hb
  go_enter Tryz.func88, Tryz.ntmps88
  go_wp2_with fail
  go_ret
  exact ⟨by rw [E.out]; simp_all, HB.out⟩
def RetPart (m : Nat) (l : List Int) (w : World) (e : Ending) (w' : World) : Prop := ∃ B, e = .returned (.slice B m m) ∧ Bty w B m m l ∧ w = w'
theorem part_any (A : Option Addr) (n c : Nat) (l : List Int) (w : World) (h : Bty w A n c l) (j k : Nat) (hjk : j ≤ k) (hk : k ≤ n) :
  Calls Tryz.prog 73 #[.slice A n c, .int .i64 j, .int .i64 k] w (RetPart (k - j) ((l.drop j).take (k - j)) w) := by
 have hcap := h.byt.cap
 have hmax := h.byt.max
 unfold maxLen at hmax
 obtain ⟨B, hs, hb⟩ := cut_lhm h j k hjk hk
 have R : Hid (RetPart (k - j) ((l.drop j).take (k - j)) w (.returned (.slice B (k - j) (k - j))) w) := Lib.hid ⟨B, rfl, hb, rfl⟩
 clear hb h
 go_enter Tryz.func73, Tryz.ntmps73
 go_wp2_with fail
 go_ret
 exact R.out
end

/- 'append' onto a row of the call's own lays it where it was, or in a new block: so two such rows stay apart. No program is named; no condition. -/
section
open Go.RowKit
theorem append_where {P : Program} {w : World} {base : Nat} {t ty e : TypeId} {i : TypeInfo} (ht : P.underlying t = some (.slice e)) (hi : P.info? e = some i) (hz : i.zero = some (.int .u8 0)) (hsize : i.size = 1) (hby : i.bytes = 1)
  {v : Value} {k : Nat} {xs : List Value} (hown : w.ownsRow base e 1 v k xs) {ad : Addr} {n c : Nat} {l : List Value} (hl : l.length = n) (hc : ∀ j u, l[j]? = some u → w.cell? (ad.add j) = some u) (h1 : ∀ u ∈ l, u.oneCell' = true) (hbytes : k + n ≤ 140737488355328)
  {v' : Value} {w' : World} (hr : (Builtin.append_ #[t, t] ty #[v, .slice (some ad) n c]).run P w = .ok v' w') : ∀ q, v'.ownBlock = some q → v.ownBlock = some q ∨ w.heap.size ≤ q := by
 have hl' : l.length = n * i.size := by rw [hsize]; omega
 have done : ∀ {x : Value} {w1 : World}, (Builtin.append_ #[t, t] ty #[v, .slice (some ad) n c]).run P w = .ok x w1 → (∀ q, x.ownBlock = some q → v.ownBlock = some q ∨ w.heap.size ≤ q) → ∀ q, v'.ownBlock = some q → v.ownBlock = some q ∨ w.heap.size ≤ q := by
  intro x w1 h h2
  rw [hr] at h
  injection h with h _
  rw [h]
  exact h2
 rcases hown.2 with ⟨rfl, rfl⟩ | ⟨g, cap, cur, rfl, _, hg, hkc, _, hcs, _⟩
 ·by_cases hn : n = 0
  ·subst hn
   obtain rfl : l = [] := List.eq_nil_of_length_eq_zero hl
   refine done (x := .slice none 0 0) (w1 := w) ?_ (fun q hq => by simp [Value.ownBlock] at hq)
   simp [Builtin.append_, run_underlying ht, sizeOf, typeInfo, hi, Builtin.lenOf, Builtin.firstCells, loadCells, loadCellsFrom]
  ·exact done (run_append_nil (P := P) w t ty e i _ ht hi hz ad n c l hl' hc (by omega) (by omega) (by rw [hby]; omega)) (fun q hq => .inr (by simp [Value.ownBlock] at hq; omega))
 ·by_cases hroom : k + n ≤ cap
  ·exact done (run_append_room (P := P) w t ty e i ht hi g k cap cur hg ad n c l hl' hc h1 hroom (by rw [hl', hcs, hsize]; omega)) (fun q hq => .inl (by simpa [Value.ownBlock] using hq))
  ·refine done (run_append_grow (P := P) w t ty e i _ ht hi hz ⟨g, 0, none⟩ k cap xs (by rw [hown.1, hsize]) (hown.cells (g := g) rfl) ad n c l hl' hc (by omega) (by omega) (growslice_fits (by omega) (by rw [hby]; omega))) (fun q hq => .inr (by simp [Value.ownBlock] at hq; omega))
theorem wpList_append_at {P : Program} {w : World} {ops : Array Oper} {rest : List Oper} {o : Oper} {a : Act} {Q : Exit → Act → World → Prop} (hgd : o.guard = none) (s x : Operand) (t : TypeId)
  (ho : o.op = .call { callee := .builtin .append, args := #[s, x], argTypes := #[t, t] })
  (base : Nat) (e : TypeId) (i : TypeInfo) (ht : P.underlying t = some (.slice e)) (hi : P.info? e = some i) (hz : i.zero = some (.int .u8 0)) (hsize : i.size = 1) (hby : i.bytes = 1)
  (v : Value) (k : Nat) (xs : List Int) (hs : a.eval s = v) (hown : w.ownsRow base e 1 v k (xs.map (Value.int .u8)))
  (A : Option Addr) (n c : Nat) (l : List Int) (hx : a.eval x = .slice A n c) (hl : Byt w A n c l)
  (hbytes : k + n ≤ 140737488355328) (hbase : base ≤ w.heap.size)
  (h : ∀ A' c' w', w'.ownsRow base e 1 (.slice A' (k + n) c') (k + n) ((xs ++ l).map (Value.int .u8)) → w.grownBy w' v.ownBlock → (∀ q, (Value.slice A' (k + n) c').ownBlock = some q → v.ownBlock = some q ∨ w.heap.size ≤ q) → wpList P ops Q rest (a.put o.dst (.slice A' (k + n) c')) w') :
  wpList P ops Q (o :: rest) a w := by
 refine wpList_plain hgd fun K hK => ?_
 have form : ∀ (v' : Value) (w' : World) (m : Nat) (ys : List Value), w'.ownsRow base e 1 v' m ys → ∃ A' c', v' = .slice A' m c' := by
  intro v' w' m ys ho'
  rcases ho'.2 with ⟨h1, h2⟩ | ⟨g, cap, _, h1, _⟩
  ·subst h2; exact ⟨none, 0, h1⟩
  ·exact ⟨_, _, h1⟩
 cases A with
 | none =>
  obtain ⟨rfl, rfl⟩ := hl.nil_ rfl
  have hl0 : l = [] := List.eq_nil_of_length_eq_zero hl.len
  subst hl0
  have hrun := run_append_owned_none (P := P) (w := w) base t o.type e i 1 ht hi v k _ hown
  obtain ⟨A', c', rfl⟩ := form _ _ _ _ hown
  have h' := h A' c' w
  simp only [Nat.add_zero, List.append_nil] at h'
  unfold Oper.wp
  simp [execOp, ho, resolve, invoke, builtin, hs, hx, hrun, Result.andThen]
  exact hK _ _ (h' hown (World.grownBy.refl w _) (fun q hq => .inl hq))
 | some ad =>
  have hll : (l.map (Value.int .u8)).length = n := by simp [hl.len]
  obtain ⟨v', w', hrun, h1, h2, _⟩ := run_append_own (P := P) w base t o.type e i (.int .u8 0) 1 1 ht hi hz hsize hby rfl (by decide) v k _ hown ad n c (l.map (Value.int .u8)) (by simp [hl.len]) (hl.cells ad rfl) (u8_one l) (by unfold maxLen; omega) (by omega) hbase
  have hw := append_where ht hi hz hsize hby hown hll (hl.cells ad rfl) (u8_one l) hbytes hrun
  obtain ⟨A', c', rfl⟩ := form _ _ _ _ h1
  unfold Oper.wp
  simp [execOp, ho, resolve, invoke, builtin, hs, hx, hrun, Result.andThen]
  exact hK _ _ (h A' c' w' (by simpa using h1) h2 hw)
end

/- bodies in memory; sheet.join, sheet.cut. -/
section
open Go.RowKit
def slV (v : Option Addr × Nat × Nat) : List Value := [.slice v.1 v.2.1 v.2.2]
theorem slV_len (v : Option Addr × Nat × Nat) : (slV v).length = 1 := rfl
def sl0 : Option Addr × Nat × Nat := (none, 0, 0)
structure Bods (w : World) (A : Option Addr) (n c : Nat) (ls : List (List Int)) (vs : List (Option Addr × Nat × Nat)) : Prop where
 flt : Flt w A n c 1 (vs.flatMap slV)
 vl : vs.length = n
 len : ls.length = n
 each : ∀ i, i < n → Byt w (vs.getD i sl0).1 (vs.getD i sl0).2.1 (vs.getD i sl0).2.2 (ls.getD i [])
theorem Bods.below {w w' : World} {A : Option Addr} {n c : Nat} {ls : List (List Int)} {vs : List (Option Addr × Nat × Nat)} (h : Bods w A n c ls vs) (hb : Below w.heap.size w w') : Bods w' A n c ls vs :=
 ⟨h.flt.below hb, h.vl, h.len, fun i hi => (h.each i hi).below hb⟩
theorem Bods.at_ {w : World} {A : Option Addr} {n c : Nat} {ls : List (List Int)} {vs : List (Option Addr × Nat × Nat)} (h : Bods w A n c ls vs) (hn : 0 < n) :
  ∃ g off, A = some ⟨g, off, none⟩ ∧ ∀ i, i < n → w.cell? ⟨g, off + i, none⟩ = some (.slice (vs.getD i sl0).1 (vs.getD i sl0).2.1 (vs.getD i sl0).2.2) ∧ Byt w (vs.getD i sl0).1 (vs.getD i sl0).2.1 (vs.getD i sl0).2.2 (ls.getD i []) := by
 obtain ⟨g, off, e, hc⟩ := h.flt.at_get sl0 slV slV_len h.vl hn
 refine ⟨g, off, e, fun i hi => ⟨?_, h.each i hi⟩⟩
 have := hc i hi 0 _ rfl
 simpa using this
theorem Bods.isB {w : World} {A : Option Addr} {n c : Nat} {ls : List (List Int)} {vs : List (Option Addr × Nat × Nat)} (h : Bods w A n c ls vs) : ∀ b ∈ ls, isB b := by
 intro b hb
 obtain ⟨i, hi, rfl⟩ := List.getElem_of_mem hb
 have := (h.each i (by rw [← h.len]; exact hi)).rng
 have e : ls.getD i [] = ls[i] := by simp [List.getD, List.getElem?_eq_getElem hi]
 rw [e] at this
 exact this
def intV (x : Nat) : List Value := [.int .i64 (x : Int)]
theorem intV_len (x : Nat) : (intV x).length = 1 := rfl
theorem info_intJ : (Tryz.prog.info? 3).map (fun i => (i.zero, i.size, i.bytes)) = some (some (.int .i64 0), 1, 8) := by kernel_rfl
theorem info_slJ : (Tryz.prog.info? 59).map (fun i => (i.zero, i.size, i.bytes)) = some (some (.slice none 0 0), 1, 24) := by kernel_rfl
def RetJoin (ls : List (List Int)) (w : World) (e : Ending) (w' : World) : Prop :=
 (∃ b ∈ ls, 4096 < b.length) ∧ e = .returned (.tuple #[.slice none 0 0, .slice none 0 0, .int .i64 12]) ∧ Below w.heap.size w w' ∨
 (∀ b ∈ ls, b.length ≤ 4096) ∧ ∃ A n c A2 n2 c2, e = .returned (.tuple #[.slice A n c, .slice A2 n2 c2, .int .i64 0]) ∧ w'.ownsRow w.heap.size 5 1 (.slice A n c) n ((allL ls).map (Value.int .u8)) ∧ Flt w' A2 n2 c2 1 ((bgns ls).flatMap intV) ∧ n2 = ls.length ∧ Below w.heap.size w w'
structure JoinRel (w : World) (ls : List (List Int)) (i : Nat) (wr : World) (A : Option Addr) (n c : Nat) (A2 : Option Addr) (c2 : Nat) : Prop where
 all : wr.ownsRow w.heap.size 5 1 (.slice A n c) n ((allL (ls.take i)).map (Value.int .u8))
 bgs : wr.ownsRow w.heap.size 3 1 (.slice A2 i c2) i (((List.range i).map (bgn ls)).flatMap intV)
 bel : Below w.heap.size w wr
 ok : ∀ b ∈ ls.take i, b.length ≤ 4096
theorem sealL_le (b : List Int) (h : b.length ≤ 4096) : (sealL b).length ≤ 4110 := by
 rw [sealL_len]
 have := textL_len b (by omega)
 omega
theorem allL_le : ∀ (ls : List (List Int)), (∀ b ∈ ls, b.length ≤ 4096) → (allL ls).length ≤ 4110 * ls.length
 | [], _ => by simp [allL]
 | b :: r, h => by
  rw [allL_cons, List.length_append, List.length_cons]
  have := sealL_le b (h b (by simp))
  have := allL_le r (fun x hx => h x (by simp [hx]))
  omega
theorem JoinRel.step1 {w wr w2 w3 : World} {ls : List (List Int)} {i n c c2 : Nat} {A A2 A2' : Option Addr} {c2' : Nat} (h : JoinRel w ls i wr A n c A2 c2) (hi : i < ls.length) (hb : Below wr.heap.size wr w2)
  (k1 : w3.ownsRow w.heap.size 3 1 (.slice A2' (i + 1) c2') (i + 1) (((List.range i).map (bgn ls)).flatMap intV ++ (#[Value.int .i64 (n : Int)] : Array Value).toList)) (k2 : w2.grownBy w3 (Value.slice A2 i c2).ownBlock) :
  w3.ownsRow w.heap.size 5 1 (.slice A n c) n ((allL (ls.take i)).map (Value.int .u8)) ∧ w3.ownsRow w.heap.size 3 1 (.slice A2' (i + 1) c2') (i + 1) (((List.range (i + 1)).map (bgn ls)).flatMap intV) ∧ Below w.heap.size w w3 ∧ Below w.heap.size wr w3 := by
 have a2 := own_stay (w' := w2) h.all (fun q hq => hb.block q (h.all.lt q hq).2)
 have b2 := own_stay (w' := w2) h.bgs (fun q hq => hb.block q (h.bgs.lt q hq).2)
 have hn : bgn ls i = n := by unfold bgn; have := h.all.1; simpa using this
 have hbel : Below w.heap.size wr w3 := (hb.mono h.bel.size).grown k2 (Nat.le_trans h.bel.size hb.size) (fun q hq => (b2.lt q hq).1)
 refine ⟨own_apart b2 a2 (by decide) k2, ?_, h.bel.trans hbel, hbel⟩
 rw [List.range_succ, List.map_append, List.flatMap_append]
 simpa [intV, hn] using k1
theorem JoinRel.step2 {w wr w4 : World} {ls : List (List Int)} {i n c n' c' c2 : Nat} {A A' A2 : Option Addr} {b : List Int} (h1 : wr.ownsRow w.heap.size 5 1 (.slice A n c) n ((allL (ls.take i)).map (Value.int .u8)))
  (h2 : wr.ownsRow w.heap.size 3 1 (.slice A2 (i + 1) c2) (i + 1) (((List.range (i + 1)).map (bgn ls)).flatMap intV)) (h3 : Below w.heap.size w wr) (hok : ∀ b ∈ ls.take i, b.length ≤ 4096) (hi : i < ls.length) (hb : ls.getD i [] = b) (hbl : b.length ≤ 4096)
  (k1 : w4.ownsRow w.heap.size 5 1 (.slice A' n' c') n' ((allL (ls.take i) ++ sealL b).map (Value.int .u8))) (k2 : wr.grownBy w4 (Value.slice A n c).ownBlock) : JoinRel w ls (i + 1) w4 A' n' c' A2 c2 := by
 have e : ls.take (i + 1) = ls.take i ++ [b] := by rw [take_succ_getD ls [] i hi, hb]
 refine ⟨?_, own_apart h1 h2 (by decide) k2, h3.grown k2 h3.size (fun q hq => (h1.lt q hq).1), ?_⟩
 ·rw [e, allL_app]
  simpa [allL] using k1
 ·rw [e]
  intro x hx
  rcases List.mem_append.1 hx with q | q
  ·exact hok x q
  ·simp at q; subst q; exact hbl
theorem join_any (A : Option Addr) (n c : Nat) (ls : List (List Int)) (vs : List (Option Addr × Nat × Nat)) (w : World) (h : Bods w A n c ls vs) (hn : n ≤ 1000) (hT : Tab w) : Calls Tryz.prog 47 #[.slice A n c] w (RetJoin ls w) := by
 obtain ⟨i0, hi, hz0, hz1, hz2⟩ := info_parts info_u8
 obtain ⟨j0, hj0, hy0, hy1, hy2⟩ := info_parts info_intJ
 have hcap := h.flt.cap
 have hmax := h.flt.max
 unfold maxLen at hmax
 have R0 : Hid (JoinRel w ls 0 w none 0 0 none 0) := Lib.hid ⟨by simpa [allL] using World.ownsRow_nil w w.heap.size 5 1, by simpa using World.ownsRow_nil w w.heap.size 3 1, Below.refl _ _, by simp⟩
 have HT := Lib.hid hT
 have HB := Lib.hid h
 have hlen := h.len
 clear h hT
 go_enter Tryz.func47, Tryz.ntmps47
 go_wp2_with fail
 go_loopw [5, 6, 13] (fun y z q wr => ∃ (i : Nat) (A1 : Option Addr) (n1 c1 : Nat) (A2 : Option Addr) (c2 : Nat), i ≤ n ∧ y = .slice A1 n1 c1 ∧ z = .slice A2 i c2 ∧ q = .int .i64 i ∧ JoinRel w ls i wr A1 n1 c1 A2 c2) (fun _ _ q _ => n - (intOf q).toNat)
 case atStart => exact ⟨0, none, 0, 0, none, 0, Nat.zero_le _, rfl, rfl, rfl, R0.out⟩
 case round =>
  obtain ⟨i, A1, n1, c1, A2, c2, hin, rfl, rfl, rfl, R⟩ := hrel
  have HR := Lib.hid R
  clear R R0
  by_cases hlt : i < n
  ·obtain ⟨g, off, hA, hc⟩ := (HB.out.below HR.out.bel).at_ (by omega)
   subst hA
   obtain ⟨hc0, hby⟩ := hc i hlt
   obtain ⟨B, m, d, hv⟩ : ∃ B m d, vs.getD i sl0 = (B, m, d) := ⟨_, _, _, rfl⟩
   rw [hv] at hc0 hby
   obtain ⟨b, hb⟩ : ∃ b, ls.getD i [] = b := ⟨_, rfl⟩
   rw [hb] at hby
   have CS := Lib.hid (seal_any B m d b wr hby (HT.out.ret HR.out.bel))
   have hil : i < ls.length := by rw [hlen]; exact hlt
   have hbl : b.length = m := hby.len
   have hbmem : b ∈ ls := by
    rw [← hb]; have e : ls.getD i [] = ls[i] := by simp [List.getD, List.getElem?_eq_getElem hil]
    rw [e]; exact List.getElem_mem hil
   have hn1 : (allL (ls.take i)).length = n1 := by have := HR.out.all.1; simpa using this
   have hn1' := allL_le _ HR.out.ok
   rw [hn1, List.length_take] at hn1'
   have HBB := Lib.hid hb
   clear hc hv hby hb hn1
   go_wp2_with fail
   refine CS.out.mono ?_
   intro e w2 hp
   unfold SealPost at hp
   by_cases hlong : 4096 < b.length
   ·rw [if_pos hlong] at hp
    obtain ⟨A3, n3, c3, rfl, _, _, b2⟩ := hp
    have RR : Hid (RetJoin ls w (.returned (.tuple #[.slice none 0 0, .slice none 0 0, .int .i64 12])) w2) := Lib.hid (.inl ⟨⟨b, hbmem, hlong⟩, rfl, HR.out.bel.trans (b2.mono HR.out.bel.size)⟩)
    clear b2 CS HR HB
    go_wp2_with fail
    go_ret3
    exact RR.out
   ·rw [if_neg hlong] at hp
    obtain ⟨A3, n3, c3, rfl, ho3, hr3, b2⟩ := hp
    have hb3 := Bty.of_own ho3 hr3
    have hn3 : n3 ≤ 4110 := by have := hb3.byt.len; have := sealL_le b (by omega); omega
    have H3 := Lib.hid hb3
    have B2 := Lib.hid b2
    have O2 : Hid (∀ o, (w2.alloc o).ownsRow w.heap.size 3 1 (.slice A2 i c2) i (((List.range i).map (bgn ls)).flatMap intV)) := Lib.hid (fun o => own_stay HR.out.bgs (fun q hq => ((Below.then b2 ((Below.refl w2.heap.size w2).alloc (Nat.le_refl _) o))).block q (HR.out.bgs.lt q hq).2))
    have BS : Hid (∀ o, w.heap.size ≤ (w2.alloc o).heap.size) := Lib.hid (fun o => Nat.le_trans (Nat.le_trans HR.out.bel.size b2.size) (by simp))
    have S1 := Lib.hid (fun (A2' : Option Addr) (c2' : Nat) (w3 : World) (o : Obj) k1 k2 => HR.out.step1 (w2 := w2.alloc o) (A2' := A2') (c2' := c2') (w3 := w3) hil (Below.then b2 ((Below.refl w2.heap.size w2).alloc (Nat.le_refl _) o)) k1 k2)
    clear hb3 ho3 hr3 b2 CS
    go_wp2_with (at_builtin; refine wpList_append_1 rfl _ _ 24 rfl w.heap.size 3 j0 _ 1 8 Tryz.underlying24 hj0 hy0 hy1 hy2 (by rfl) (by omega) (by rfl) (O2.out _) (g := w2.heap.size) (cs := #[.int .i64 (n1 : Int)]) (by rfl) (Bk.new _ _ _) (by rfl) (by intro u hu; simp at hu; subst hu; rfl) (by omega) (by omega) (BS.out _) ?_)
    intro A4 c4 w3 k1 k2 _
    obtain ⟨a3, b3, bel3, bel3'⟩ := S1.out A4 c4 w3 _ k1 k2
    have H4 := ((H3.out.below ((Below.refl w2.heap.size w2).alloc (Nat.le_refl _) _)).apart (O2.out _) (by decide) k2).byt
    have S2 := Lib.hid (fun (A' : Option Addr) (n' c' : Nat) (w4 : World) q1 q2 => JoinRel.step2 (w4 := w4) (A' := A') (n' := n') (c' := c') a3 b3 bel3 HR.out.ok hil HBB.out (by omega) q1 q2)
    have HA3 := Lib.hid a3
    have HBS := bel3.size
    clear k1 k2 a3 b3 bel3 bel3' S1 O2 BS B2 H3
    go_wp2_with (at_builtin; refine wpList_append_byt rfl _ _ 59 rfl w.heap.size 5 i0 Tryz.underlying59 hi hz0 hz1 hz2 _ n1 (allL (ls.take i)) rfl (by exact HA3.out) A3 n3 c3 (sealL b) rfl H4 (by omega) HBS ?_)
    intro A5 c5 w5 k1 k2
    have NR := Lib.hid (S2.out A5 (n1 + n3) c5 w5 (by rw [List.map_append]; exact k1) k2)
    clear k1 k2 S2 HA3 H4 HR HB
    go_wp2_with fail
    go_roundw
    case rel => exact ⟨i + 1, A5, n1 + n3, c5, A4, c4, by omega, by go_num, by go_num, by go_num, NR.out⟩
    case measure => simp [intOf]; omega
  ·have hie : i = n := by omega
   subst hie
   have e1 : ls.take i = ls := List.take_of_length_le (by omega)
   have RR : Hid (RetJoin ls w (.returned (.tuple #[.slice A1 n1 c1, .slice A2 i c2, .int .i64 0])) wr) := Lib.hid (.inr ⟨by have := HR.out.ok; rwa [e1] at this, A1, n1, c1, A2, i, c2, rfl, by have := HR.out.all; rwa [e1] at this, by have := HR.out.bgs; rw [← hlen] at this ⊢; exact Flt.of_own this, hlen.symm, HR.out.bel⟩)
   clear HR HB
   go_wp2_with fail
   go_ret3
   exact RR.out
end

/- a map keyed by ints: what it holds at each key; a look-up, a store, a copy. No program is named; no condition. -/
section
open Go.RowKit Go.MapKept
open Classical in
/-- The first entry at a key. -/
noncomputable def look : List MapEntry → Value → Option Value
 | [], _ => none
 | e :: r, k => if e.key = k then some e.val else look r k
open Classical in
theorem look_append {k : Value} {e : MapEntry} : ∀ {l : List MapEntry}, look (l ++ [e]) k = (look l k).or (if e.key = k then some e.val else none)
 | [] => by simp [look]
 | x :: r => by
  rw [List.cons_append, look, look]
  split
  ·rfl
  ·exact look_append
open Classical in
theorem findNow_look {d : TypeDesc} {k : Value} (hk : IsKey d k) : ∀ (l : List MapEntry) (i : Nat), (∀ x ∈ l, IsKey d x.key) →
  (Instr.findNow d k l i = some none ∧ look l k = none ∧ ∀ x ∈ l, x.key ≠ k) ∨
  ∃ j e, Instr.findNow d k l i = some (some (i + j, e.val)) ∧ l[j]? = some e ∧ e.key = k ∧ look l k = some e.val ∧
   ∀ v k', look (l.modify j fun e => { e with key := k, val := v }) k' = if k' = k then some v else look l k'
 | [], _, _ => .inl ⟨rfl, rfl, by simp⟩
 | e :: es, i, h => by
  obtain ⟨r, hr, hiff⟩ := sameNow_of_keys hk (h e (.head _))
  cases r with
  | true =>
   have he : e.key = k := (hiff.1 rfl).symm
   refine .inr ⟨0, e, by simp [Instr.findNow, hr], rfl, he, by rw [look, if_pos he], fun v k' => ?_⟩
   show look ({ e with key := k, val := v } :: es) k' = _
   rw [look]
   by_cases hq : k' = k
   ·subst hq
    rw [if_pos rfl, if_pos rfl]
   ·rw [if_neg (fun q => hq q.symm), if_neg hq, look, if_neg (fun q => hq (q.symm.trans he))]
  | false =>
   have hne : e.key ≠ k := fun q => by have := hiff.2 q.symm; cases this
   rcases findNow_look hk es (i + 1) (fun x hx => h x (.tail _ hx)) with ⟨h1, h2, h3⟩ | ⟨j, e', h1, h2, h3, h4, h5⟩
   ·refine .inl ⟨by simp [Instr.findNow, hr, h1], by rw [look, if_neg hne, h2], fun x hx => ?_⟩
    cases hx with
    | head => exact hne
    | tail _ hx => exact h3 x hx
   ·refine .inr ⟨j + 1, e', by simp [Instr.findNow, hr, h1]; omega, by simpa using h2, h3, by rw [look, if_neg hne, h4], fun v k' => ?_⟩
    rw [List.modify_succ_cons, look, h5, look]
    by_cases hq : k' = k
    ·subst hq
     rw [if_pos rfl, if_neg hne, if_pos rfl]
    ·rw [if_neg hq, if_neg hq]
def MapFn (w : World) (mb : Nat) (z : Value) (g : Nat → Value) : Prop :=
 ∃ es clock, w.heap[mb]? = some (.map es clock) ∧ (∀ x ∈ es.toList, IsKey (.int .i64) x.key) ∧ ∀ n : Nat, (look es.toList (.int .i64 n)).getD z = g n
section
variable {w w' : World} {mb : Nat} {z : Value} {g : Nat → Value}
theorem MapFn.lt (h : MapFn w mb z g) : mb < w.heap.size := by
 obtain ⟨es, cl, hb, _⟩ := h
 exact (Array.getElem?_eq_some_iff.1 hb).1
theorem MapFn.eq (h : MapFn w mb z g) (hk : w'.heap[mb]? = w.heap[mb]?) : MapFn w' mb z g := by
 obtain ⟨es, cl, hb, r⟩ := h
 exact ⟨es, cl, hk.trans hb, r⟩
theorem MapFn.new (w : World) (z : Value) : MapFn (w.alloc (.map #[] 0)) w.heap.size z (fun _ => z) :=
 ⟨#[], 0, (heap_alloc w _).1, by simp, fun _ => rfl⟩
theorem MapFn.not_bk {t : TypeId} {cs : Array Value} {b : Nat} (h : MapFn w mb z g) (hb : Bk w b t cs) : mb ≠ b := by
 rintro rfl
 obtain ⟨es, cl, h1, _⟩ := h
 unfold Bk at hb
 rw [hb] at h1
 simp at h1
theorem MapFn.not_row {e : TypeId} {base size n : Nat} {v : Value} {xs : List Value} (h : MapFn w mb z g) (ho : w.ownsRow base e size v n xs) : v.ownBlock ≠ some mb := by
 obtain ⟨es, cl, h1, _⟩ := h
 rcases ho.2 with ⟨rfl, _⟩ | ⟨g, cap, cur, rfl, _, hg, _⟩
 ·simp [Value.ownBlock]
 ·intro q
  simp [Value.ownBlock] at q
  subst q
  rw [hg] at h1
  simp at h1
theorem isKey_nat (n : Nat) : IsKey (.int .i64) (.int .i64 (n : Int)) := rfl
variable {P : Program} {t kt et : TypeId}
theorem MapFn.run_lookup (h : MapFn w mb z g) (ht : P.underlying t = some (.map kt et)) (hk : P.underlying kt = some (.int .i64)) (hz : (zeroValue et).run P w = .ok z w) (n : Nat) :
  (Instr.lookup t (.map (some mb)) (.int .i64 n) false).run P w = .ok (g n) w := by
 obtain ⟨es, cl, hb, hks, hg⟩ := h
 have hgn := hg n
 unfold Instr.lookup
 rcases findNow_look (isKey_nat n) es.toList 0 hks with ⟨h1, h2, _⟩ | ⟨j, e, h1, _, _, h4, _⟩
 ·rw [h2] at hgn
  simp [run_underlying ht, MapKept.run_getObj_map hb, run_checkKey hk (isKey_nat n), run_findKey hk h1, hz, Result.andThen]
  exact hgn
 ·rw [h4] at hgn
  simp [run_underlying ht, MapKept.run_getObj_map hb, run_checkKey hk (isKey_nat n), run_findKey hk h1, Result.andThen]
  exact hgn
theorem setObj_fr (w : World) (mb : Nat) (o : Obj) : Fr (fun k => k = mb) w { w with heap := w.heap.setIfInBounds mb o } :=
 ⟨rfl, rfl, rfl, by simp, fun k hk hn => by simp [Ne.symm hn]⟩
theorem MapFn.run_update (h : MapFn w mb z g) (ht : P.underlying t = some (.map kt et)) (hk : P.underlying kt = some (.int .i64)) (n : Nat) (v : Value) :
  ∃ w', (Instr.mapUpdate t (.map (some mb)) (.int .i64 n) v).run P w = .ok () w' ∧ MapFn w' mb z (fun m => if m = n then v else g m) ∧ Fr (fun k => k = mb) w w' := by
 obtain ⟨es, cl, hb, hks, hg⟩ := h
 rcases findNow_look (isKey_nat n) es.toList 0 hks with ⟨h1, h2, h3⟩ | ⟨j, e, h1, h2, h3, h4, h5⟩
 ·refine ⟨{ w with heap := w.heap.setIfInBounds mb (.map (es.push { key := .int .i64 n, val := v, born := cl }) (cl + 1)) }, ?_, ⟨_, _, (heap_set hb).1, ?_, fun m => ?_⟩, setObj_fr _ _ _⟩
  ·simp [Instr.mapUpdate, run_underlying ht, MapKept.run_getObj_map hb, run_checkKey hk (isKey_nat n), run_findKey hk h1, MapKept.run_setObj_map _ hb, Result.andThen]
  ·intro x hx
   simp only [Array.toList_push, List.mem_append, List.mem_singleton] at hx
   rcases hx with hx | rfl
   ·exact hks x hx
   ·exact isKey_nat n
  ·rw [Array.toList_push, look_append]
   by_cases hm : m = n
   ·subst hm
    rw [h2]
    simp
   ·have hne : ¬ ((Value.int .i64 n) = .int .i64 m) := by
     intro q
     injection q with _ q
     omega
    rw [if_neg hne, Option.or_none]
    show _ = if m = n then v else g m
    rw [if_neg hm]
    exact hg m
 ·have hj : es[j]? = some e := by simpa using h2
  refine ⟨{ w with heap := w.heap.setIfInBounds mb (.map (es.modify j fun e => { e with key := .int .i64 n, val := v }) cl) }, ?_, ⟨_, _, (heap_set hb).1, ?_, fun m => ?_⟩, setObj_fr _ _ _⟩
  ·simp [Instr.mapUpdate, run_underlying ht, MapKept.run_getObj_map hb, run_checkKey hk (isKey_nat n), run_findKey hk h1, hj, h3, run_keyThatStays (isKey_nat n), MapKept.run_setObj_map _ hb, Result.andThen]
  ·exact isKey_modify hks _ _ (fun e' he' => by rw [hj] at he'; cases he'; exact h3.symm)
  ·rw [Array.toList_modify, h5]
   by_cases hm : m = n
   ·subst hm
    simp
   ·have hne : ¬ ((Value.int .i64 m) = .int .i64 n) := by
     intro q
     injection q with _ q
     omega
    rw [if_neg hne]
    show _ = if m = n then v else g m
    rw [if_neg hm]
    exact hg m
end
section
variable {P : Program} {w : World} {ops : Array Oper} {rest : List Oper} {o : Oper} {a : Act} {Q : Exit → Act → World → Prop} {t kt et : TypeId}
theorem wpList_lookup_fn (hgd : o.guard = none) (m x : Operand) (hop : o.op = Op.lookup t m x false) (ht : P.underlying t = some (.map kt et)) (hk : P.underlying kt = some (.int .i64))
  (mb : Nat) (z : Value) (g : Nat → Value) (hz : (zeroValue et).run P w = .ok z w) (hM : MapFn w mb z g) (hm : a.eval m = .map (some mb)) (n : Nat) (hx : a.eval x = .int .i64 n)
  (h : wpList P ops Q rest (a.put o.dst (g n)) w) : wpList P ops Q (o :: rest) a w := by
 refine wpList_plain hgd fun K' hK' => ?_
 have hrun := hM.run_lookup ht hk hz n
 unfold Oper.wp
 simp [execOp, hop, hm, hx, hrun, Result.andThen]
 exact hK' _ _ h
theorem wpList_update_fn (hgd : o.guard = none) (m x v : Operand) (hop : o.op = Op.mapUpdate t m x v) (ht : P.underlying t = some (.map kt et)) (hk : P.underlying kt = some (.int .i64))
  (mb : Nat) (z : Value) (g : Nat → Value) (hM : MapFn w mb z g) (hm : a.eval m = .map (some mb)) (n : Nat) (hx : a.eval x = .int .i64 n) (val : Value) (hv : a.eval v = val)
  (h : ∀ w', MapFn w' mb z (fun m => if m = n then val else g m) → Fr (fun k => k = mb) w w' → wpList P ops Q rest (a.put o.dst undef) w') : wpList P ops Q (o :: rest) a w := by
 refine wpList_plain hgd fun K' hK' => ?_
 obtain ⟨w', hrun, h1, h2⟩ := hM.run_update ht hk n val
 unfold Oper.wp
 simp [execOp, hop, hm, hx, hv, hrun, Result.andThen]
 exact hK' _ _ (h w' h1 h2)
end
end
end Go.Proofs.YtfmfmdiegabobabGreatDoor
