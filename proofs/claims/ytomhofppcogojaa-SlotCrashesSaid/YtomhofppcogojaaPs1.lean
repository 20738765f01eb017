/- What it says: contracts and plain mathematics that the laws' walks use, 1 of 10: each part's own remark says what; no condition. -/
import Derived.Laws.World
import Derived.WalkKit
import Derived.Deep.Draws
import Derived.Lib.Hide
import Derived.Laws.AppendOwnNone
import Derived.MapKept
import Derived.Maps.OwnOps
import Derived.Test.YtomhofppcogojaaRows
import Derived.Deep.WholeRow
import Derived.BigQuiet
import Derived.Deep.QuietTactic
import Derived.WalkMore
import Derived.Great.FillDense
import Derived.Laws.Tables
import Derived.Great.BuildSlice
import Derived.StillTailTactics
import Derived.Deep.MidRow
import GoSem.Builtin.Clear
import Derived.Deep.RegionHeld

set_option linter.unusedSimpArgs false
set_option linter.unusedVariables false
set_option linter.deprecated false
set_option linter.unusedSectionVars false
set_option linter.all false

/- the simulated disk in plain mathematics: what is synchronized, the writes since, the fuse; what each call makes of it. No program is named. -/
namespace Go.Proofs.Ytomhofppcogojaa

/-- A sector's bytes. -/
def Sec (l : List Int) : Prop := l.length = 256 ∧ ∀ x ∈ l, 0 ≤ x ∧ x < 256
def zeros : List Int := List.replicate 256 0
theorem zeros_sec : Sec zeros := ⟨List.length_replicate, fun x hx => by
  obtain ⟨_, rfl⟩ := List.mem_replicate.1 hx
  omega⟩

structure St where
  num : Nat
  syn : Nat → List Int
  pend : List (Nat × List Int)
  left : Int
  gone : Bool
  syncs : Nat

/-- Write number i. -/
def St.at_ (s : St) (i : Nat) : Nat × List Int := s.pend.getD i (0, zeros)

structure St.Ok (s : St) : Prop where
  num : 1 ≤ s.num ∧ s.num ≤ 4096
  syn : ∀ n, Sec (s.syn n)
  pend : ∀ p ∈ s.pend, p.1 < s.num ∧ Sec p.2
  left : -1 ≤ s.left ∧ s.left ≤ 9223372036854775807

theorem St.Ok.at_ {s : St} (h : s.Ok) (i : Nat) (hi : i < s.pend.length) : (s.at_ i).1 < s.num ∧ Sec (s.at_ i).2 := by
  have e : s.at_ i = s.pend[i] := by simp [St.at_, List.getD, List.getElem?_eq_getElem hi]
  rw [e]
  exact h.pend _ (List.getElem_mem hi)

/-- A new disk. -/
def St.new (n : Nat) : St := ⟨n, fun _ => zeros, [], -1, false, 0⟩
theorem St.new_ok {n : Nat} (h : 1 ≤ n ∧ n ≤ 4096) : (St.new n).Ok := ⟨h, fun _ => zeros_sec, fun p hp => by simp [St.new] at hp, by simp [St.new]⟩

/-- May a step be made? -/
def St.can (s : St) : Bool := !s.gone && !(s.left == 0)
/-- Behind the attempt of one. -/
def St.step (s : St) : St := if s.gone then s else if s.left = 0 then { s with gone := true } else if 0 < s.left then { s with left := s.left - 1 } else s

theorem St.step_num (s : St) : s.step.num = s.num := by unfold St.step; split <;> (try rfl); split <;> (try rfl); split <;> rfl
theorem St.step_syn (s : St) : s.step.syn = s.syn := by unfold St.step; split <;> (try rfl); split <;> (try rfl); split <;> rfl
theorem St.step_pend (s : St) : s.step.pend = s.pend := by unfold St.step; split <;> (try rfl); split <;> (try rfl); split <;> rfl
theorem St.step_syncs (s : St) : s.step.syncs = s.syncs := by unfold St.step; split <;> (try rfl); split <;> (try rfl); split <;> rfl
theorem St.Ok.step {s : St} (h : s.Ok) : s.step.Ok := by
  refine ⟨by rw [St.step_num]; exact h.num, by rw [St.step_syn]; exact h.syn, by rw [St.step_pend, St.step_num]; exact h.pend, ?_⟩
  have hl := h.left
  unfold St.step
  split
  · exact hl
  · split
    · exact hl
    · split
      · show -1 ≤ s.left - 1 ∧ s.left - 1 ≤ _
        omega
      · exact hl

/-- n holds l now. -/
def upd (f : Nat → List Int) (n : Nat) (l : List Int) : Nat → List Int := fun m => if m = n then l else f m
theorem upd_sec {f : Nat → List Int} (h : ∀ n, Sec (f n)) {l : List Int} (hl : Sec l) (n : Nat) : ∀ m, Sec (upd f n l m) := fun m => by
  unfold upd
  split
  · exact hl
  · exact h m

/-- What is there behind the first k writes. -/
def St.upTo (s : St) : Nat → Nat → List Int
  | 0 => s.syn
  | k + 1 => upd (s.upTo k) (s.at_ k).1 (s.at_ k).2

theorem St.Ok.upTo {s : St} (h : s.Ok) : ∀ k, k ≤ s.pend.length → ∀ n, Sec (s.upTo k n)
  | 0, _ => h.syn
  | k + 1, hk => upd_sec (h.upTo k (by omega)) (h.at_ k (by omega)).2 _

/-- What is there of a sector. -/
def St.now (s : St) (n : Nat) : List Int := s.upTo s.pend.length n
theorem St.Ok.now {s : St} (h : s.Ok) (n : Nat) : Sec (s.now n) := h.upTo _ (Nat.le_refl _) n

theorem St.upTo_same (s : St) (n i : Nat) : ∀ k, i ≤ k → (∀ j, i ≤ j → j < k → (s.at_ j).1 ≠ n) → s.upTo k n = s.upTo i n
  | 0, h, _ => by
    obtain rfl : i = 0 := by omega
    rfl
  | k + 1, h, hn => by
    by_cases he : i = k + 1
    · subst he; rfl
    · have := hn k (by omega) (by omega)
      show upd (s.upTo k) (s.at_ k).1 (s.at_ k).2 n = _
      unfold upd
      rw [if_neg (fun e => this e.symm)]
      exact St.upTo_same s n i k (by omega) (fun j h1 h2 => hn j h1 (by omega))

theorem St.now_last (s : St) (n i : Nat) (hi : i < s.pend.length) (h : (s.at_ i).1 = n) (hn : ∀ j, i < j → j < s.pend.length → (s.at_ j).1 ≠ n) : s.now n = (s.at_ i).2 := by
  have := St.upTo_same s n (i + 1) s.pend.length (by omega) (fun j h1 h2 => hn j (by omega) h2)
  unfold St.now
  rw [this]
  show upd (s.upTo i) (s.at_ i).1 (s.at_ i).2 n = _
  unfold upd
  rw [if_pos h.symm]

theorem St.now_none (s : St) (n : Nat) (hn : ∀ j, j < s.pend.length → (s.at_ j).1 ≠ n) : s.now n = s.syn n :=
  St.upTo_same s n 0 s.pend.length (Nat.zero_le _) (fun j _ h2 => hn j h2)

/-- Behind a write that is made. -/
def St.wrote (s : St) (n : Nat) (l : List Int) : St := { s.step with pend := s.pend ++ [(n, l)] }
theorem St.Ok.wrote {s : St} (h : s.Ok) {n : Nat} {l : List Int} (hn : n < s.num) (hl : Sec l) : (s.wrote n l).Ok := by
  have h' := h.step
  refine ⟨h'.num, h'.syn, fun p hp => ?_, h'.left⟩
  show p.1 < s.step.num ∧ _
  rw [St.step_num]
  rcases List.mem_append.1 hp with hp | hp
  · exact h.pend p hp
  · simp at hp
    subst hp
    exact ⟨hn, hl⟩

/-- What a write answers. -/
def St.wErr (s : St) (n : Int) (l : List Int) : Int := if n < 0 ∨ (s.num : Int) ≤ n then 1 else if l.length ≠ 256 then 12 else if s.can then 0 else 40
/-- What a write leaves. -/
def St.write (s : St) (n : Int) (l : List Int) : St := if n < 0 ∨ (s.num : Int) ≤ n then s else if l.length ≠ 256 then s else if s.can then s.wrote n.toNat l else s.step

theorem St.Ok.write {s : St} (h : s.Ok) {n : Int} {l : List Int} (hl : ∀ x ∈ l, 0 ≤ x ∧ x < 256) : (s.write n l).Ok := by
  unfold St.write
  split
  · exact h
  · split
    · exact h
    · split
      · exact h.wrote (by omega) ⟨by omega, hl⟩
      · exact h.step

/-- Behind a synchronization that is made. -/
def St.synced (s : St) : St := { s.step with syn := s.now, pend := [], syncs := s.syncs + 1 }
def St.sErr (s : St) : Int := if s.can then 0 else 40
def St.sync (s : St) : St := if s.can then s.synced else s.step
theorem St.Ok.sync {s : St} (h : s.Ok) : s.sync.Ok := by
  unfold St.sync
  split
  · exact ⟨h.step.num, h.now, fun p hp => by simp [St.synced] at hp, h.step.left⟩
  · exact h.step

/-- Behind a fuse. -/
def St.fuse (s : St) (n : Int) : St := { s with left := max n (-1) }
theorem St.Ok.fuse {s : St} (h : s.Ok) {n : Int} (hn : n ≤ 9223372036854775807) : (s.fuse n).Ok := ⟨h.num, h.syn, h.pend, by show -1 ≤ max n (-1) ∧ max n (-1) ≤ _; omega⟩

/-- What a read answers. -/
def St.rErr (s : St) (n : Int) : Int := if n < 0 ∨ (s.num : Int) ≤ n then 1 else if s.gone then 40 else 0

/-- A crash: the writes that are kept, torn or not, and how much of the last one. -/
structure Crs where
  keep : List Int
  torn : Bool
  cut : Int
def clamp (c : Int) : Nat := (min (max c 0) 256).toNat
theorem clamp_le (c : Int) : clamp c ≤ 256 := by unfold clamp; omega
/-- How much is left of write number i, of len. -/
def Crs.of (c : Crs) (len i : Nat) : Nat := if c.torn = true ∧ i + 1 = len then clamp c.cut else if (i : Int) ∈ c.keep then 256 else 0
theorem Crs.of_le (c : Crs) (len i : Nat) : c.of len i ≤ 256 := by
  unfold Crs.of
  split
  · exact clamp_le _
  · split <;> omega

/-- k bytes of l over m. -/
def over (l m : List Int) (k : Nat) : List Int := l.take k ++ m.drop k
theorem over_sec {l m : List Int} (hl : Sec l) (hm : Sec m) (k : Nat) (hk : k ≤ 256) : Sec (over l m k) := by
  refine ⟨by simp [over, hl.1, hm.1]; omega, fun x hx => ?_⟩
  rcases List.mem_append.1 hx with h | h
  · exact hl.2 x (List.mem_of_mem_take h)
  · exact hm.2 x (List.mem_of_mem_drop h)

/-- What a crash has left behind the first k writes. -/
def St.left_ (s : St) (cut : Nat → Nat) : Nat → Nat → List Int
  | 0 => s.syn
  | k + 1 => upd (s.left_ cut k) (s.at_ k).1 (over (s.at_ k).2 (s.left_ cut k (s.at_ k).1) (cut k))

theorem St.Ok.left_ {s : St} (h : s.Ok) {cut : Nat → Nat} (hc : ∀ i, cut i ≤ 256) : ∀ k, k ≤ s.pend.length → ∀ n, Sec (s.left_ cut k n)
  | 0, _ => h.syn
  | k + 1, hk => upd_sec (h.left_ hc k (by omega)) (over_sec (h.at_ k (by omega)).2 (h.left_ hc k (by omega) _) _ (hc k)) _

def St.crash (s : St) (c : Crs) : St := ⟨s.num, s.left_ (c.of s.pend.length) s.pend.length, [], -1, false, 0⟩
theorem St.Ok.crash {s : St} (h : s.Ok) (c : Crs) : (s.crash c).Ok := ⟨h.num, h.left_ (c.of_le _) _ (Nat.le_refl _), fun p hp => by simp [St.crash] at hp, by simp [St.crash]⟩

/-- Blocks of one size, one behind the other. -/
theorem flatMap_at {α β : Type} (f : α → List β) (k : Nat) : ∀ (l : List α) (i j : Nat) (x : α), (∀ y ∈ l, (f y).length = k) → l[i]? = some x → j < k → (l.flatMap f)[i * k + j]? = (f x)[j]?
  | [], i, j, x, _, h, _ => by simp at h
  | y :: r, 0, j, x, hl, h, hj => by
    simp at h
    subst h
    have := hl y (.head _)
    rw [List.flatMap_cons, List.getElem?_append_left (by omega)]
    simp
  | y :: r, i + 1, j, x, hl, h, hj => by
    have hy := hl y (.head _)
    rw [List.flatMap_cons, List.getElem?_append_right (by rw [hy, Nat.add_mul]; omega)]
    rw [show (i + 1) * k + j - (f y).length = i * k + j from by rw [hy, Nat.add_mul]; omega]
    exact flatMap_at f k r i j x (fun z hz => hl z (.tail _ hz)) (by simpa using h) hj

theorem flatMap_len {α β : Type} (f : α → List β) (k : Nat) : ∀ (l : List α), (∀ y ∈ l, (f y).length = k) → (l.flatMap f).length = l.length * k
  | [], _ => by simp
  | y :: r, hl => by
    rw [List.flatMap_cons, List.length_append, hl y (.head _), flatMap_len f k r (fun z hz => hl z (.tail _ hz))]
    simp [Nat.add_mul, Nat.add_comm]
end Go.Proofs.Ytomhofppcogojaa

/- stamped sectors in plain mathematics: the next stamp, a wrapped payload, what is opened. No program is named. -/
namespace Go.Proofs.Ytomhofppcogojaa

/-- The stamp for a sector with these two ends. -/
def nextB (a b : Int) : Int := if a ≠ 1 ∧ b ≠ 1 then 1 else if a ≠ 2 ∧ b ≠ 2 then 2 else 3
theorem nextB_rng (a b : Int) : 1 ≤ nextB a b ∧ nextB a b ≤ 3 := by unfold nextB; split <;> (try split) <;> omega
theorem nextB_ne (a b : Int) : nextB a b ≠ a ∧ nextB a b ≠ b := by
  unfold nextB
  split
  · omega
  · split <;> omega
theorem nextB_one {a b : Int} (h : a ≠ 1 ∧ b ≠ 1) : nextB a b = 1 := by unfold nextB; rw [if_pos h]
theorem nextB_two {a b : Int} (h1 : a = 1 ∨ b = 1) (h : a ≠ 2 ∧ b ≠ 2) : nextB a b = 2 := by unfold nextB; rw [if_neg (by omega), if_pos h]
theorem nextB_three {a b : Int} (h1 : a = 1 ∨ b = 1) (h : a = 2 ∨ b = 2) : nextB a b = 3 := by unfold nextB; rw [if_neg (by omega), if_neg (by omega)]
def nextOf (l : List Int) : Int := nextB (l.getD 0 0) (l.getD 255 0)
theorem nextOf_rng (l : List Int) : 1 ≤ nextOf l ∧ nextOf l ≤ 3 := nextB_rng _ _

/-- A payload, noughts behind it. -/
def padL (p : List Int) : List Int := p ++ List.replicate (254 - p.length) 0
theorem padL_len {p : List Int} (h : p.length ≤ 254) : (padL p).length = 254 := by simp [padL]; omega
theorem padL_rng {p : List Int} (h : ∀ x ∈ p, 0 ≤ x ∧ x < 256) : ∀ x ∈ padL p, 0 ≤ x ∧ x < 256 := by
  intro x hx
  rcases List.mem_append.1 hx with q | q
  · exact h x q
  · obtain ⟨_, rfl⟩ := List.mem_replicate.1 q
    omega
theorem padL_full {p : List Int} (h : p.length = 254) : padL p = p := by simp [padL, h]

/-- A sector of a stamp and a payload. -/
def wrapL (m : Int) (p : List Int) : List Int := m :: (padL p ++ [m])
theorem wrapL_sec {m : Int} {p : List Int} (hm : 0 ≤ m ∧ m < 256) (hp : ∀ x ∈ p, 0 ≤ x ∧ x < 256) (h : p.length ≤ 254) : Sec (wrapL m p) := by
  refine ⟨by simp [wrapL, padL_len h], fun x hx => ?_⟩
  rcases List.mem_cons.1 hx with q | q
  · rw [q]; exact hm
  · rcases List.mem_append.1 q with q | q
    · exact padL_rng hp x q
    · simp at q; rw [q]; exact hm
theorem wrapL_first (m : Int) (p : List Int) : (wrapL m p).getD 0 0 = m := rfl
theorem wrapL_last {m : Int} {p : List Int} (h : p.length ≤ 254) : (wrapL m p).getD 255 0 = m := by
  have hl := padL_len h
  unfold wrapL
  rw [List.getD_eq_getElem?_getD, List.getElem?_cons_succ, List.getElem?_append_right (by omega), hl]
  rfl

/-- What lies between a sector's ends. -/
def bodyL (l : List Int) : List Int := (l.drop 1).take 254
theorem bodyL_len {l : List Int} (h : l.length = 256) : (bodyL l).length = 254 := by simp [bodyL, h]
theorem bodyL_rng {l : List Int} (h : ∀ x ∈ l, 0 ≤ x ∧ x < 256) : ∀ x ∈ bodyL l, 0 ≤ x ∧ x < 256 := fun x hx => h x (List.mem_of_mem_drop (List.mem_of_mem_take hx))
theorem bodyL_wrap {m : Int} {p : List Int} (h : p.length ≤ 254) : bodyL (wrapL m p) = padL p := by
  unfold bodyL wrapL
  rw [List.drop_succ_cons, List.drop_zero, List.take_append_of_le_length (by rw [padL_len h]; omega), List.take_of_length_le (by rw [padL_len h]; omega)]
theorem ends_eq {l : List Int} (h : l.length = 256) : l = l.getD 0 0 :: (bodyL l ++ [l.getD 255 0]) := by
  obtain ⟨x, r, rfl⟩ : ∃ x r, l = x :: r := by
    cases l with
    | nil => simp at h
    | cons x r => exact ⟨x, r, rfl⟩
  have hr : r.length = 255 := by simpa using h
  show x :: r = x :: _
  congr 1
  unfold bodyL
  rw [List.drop_succ_cons, List.drop_zero]
  have e : r.drop 254 = [(x :: r).getD 255 0] := by
    rw [List.getD_eq_getElem?_getD, List.getElem?_cons_succ, List.getElem?_eq_getElem (by omega), List.drop_eq_getElem_cons (by omega), List.drop_of_length_le (by omega)]
    rfl
  rw [← e, List.take_append_drop]
theorem wrap_body {l : List Int} (h : l.length = 256) (he : l.getD 0 0 = l.getD 255 0) : wrapL (l.getD 0 0) (bodyL l) = l := by
  unfold wrapL
  rw [padL_full (bodyL_len h)]
  have q := ends_eq h
  rw [← he] at q
  exact q.symm

/-- Is a sector right? -/
def rightL (l : List Int) : Prop := l.getD 0 0 = l.getD 255 0 ∧ 1 ≤ l.getD 0 0 ∧ l.getD 0 0 ≤ 3
instance (l : List Int) : Decidable (rightL l) := by unfold rightL; infer_instance
def openE (l : List Int) : Int := if l.length ≠ 256 then 12 else if rightL l then 0 else 50
def openB (l : List Int) : List Int := if openE l = 0 then bodyL l else []
theorem openE_len {l : List Int} (h : l.length ≠ 256) : openE l = 12 := by unfold openE; rw [if_pos h]
theorem openE_right {l : List Int} (h : l.length = 256) (hr : rightL l) : openE l = 0 := by unfold openE; rw [if_neg (by omega), if_pos hr]
theorem openE_torn {l : List Int} (h : l.length = 256) (hr : ¬ rightL l) : openE l = 50 := by unfold openE; rw [if_neg (by omega), if_neg hr]
theorem openB_right {l : List Int} (h : l.length = 256) (hr : rightL l) : openB l = bodyL l := by unfold openB; rw [if_pos (openE_right h hr)]
theorem openB_bad {l : List Int} (h : openE l ≠ 0) : openB l = [] := by unfold openB; rw [if_neg h]
theorem right_wrap {m : Int} {p : List Int} (hm : 1 ≤ m ∧ m ≤ 3) (h : p.length ≤ 254) : rightL (wrapL m p) := by
  unfold rightL
  rw [wrapL_first, wrapL_last h]
  exact ⟨rfl, hm.1, hm.2⟩

/-- What Wrap answers. -/
def wrapE (m : Int) (p : List Int) : Int := if m < 1 ∨ 3 < m then 1 else if 254 < p.length then 12 else 0
def wrapB (m : Int) (p : List Int) : List Int := if wrapE m p = 0 then wrapL m p else []
theorem wrapE_arg {m : Int} {p : List Int} (h : m < 1 ∨ 3 < m) : wrapE m p = 1 := by unfold wrapE; rw [if_pos h]
theorem wrapE_long {m : Int} {p : List Int} (h : ¬ (m < 1 ∨ 3 < m)) (hl : 254 < p.length) : wrapE m p = 12 := by unfold wrapE; rw [if_neg h, if_pos hl]
theorem wrapE_ok {m : Int} {p : List Int} (h : ¬ (m < 1 ∨ 3 < m)) (hl : ¬ 254 < p.length) : wrapE m p = 0 := by unfold wrapE; rw [if_neg h, if_neg hl]
theorem wrapB_ok {m : Int} {p : List Int} (h : ¬ (m < 1 ∨ 3 < m)) (hl : ¬ 254 < p.length) : wrapB m p = wrapL m p := by unfold wrapB; rw [if_pos (wrapE_ok h hl)]
theorem wrapB_bad {m : Int} {p : List Int} (h : wrapE m p ≠ 0) : wrapB m p = [] := by unfold wrapB; rw [if_neg h]

/-- What Next answers. -/
def nextE (l : List Int) : Int := if l.length ≠ 256 then 12 else 0
def nextV (l : List Int) : Int := if l.length ≠ 256 then 0 else nextOf l

/-- The first k bytes of a new sector, over one that had another stamp at both ends. -/
theorem torn_mix {m : Int} {p old : List Int} (hp : p.length ≤ 254) (ho : old.length = 256) (hm : m ≠ old.getD 255 0) (k : Nat) (h0 : 0 < k) (hk : k < 256) : ¬ rightL ((wrapL m p).take k ++ old.drop k) := by
  have hw : (wrapL m p).length = 256 := by simp [wrapL, padL_len hp]
  have h1 : ((wrapL m p).take k ++ old.drop k).getD 0 0 = m := by
    obtain ⟨j, rfl⟩ : ∃ j, k = j + 1 := ⟨k - 1, by omega⟩
    rfl
  have h2 : ((wrapL m p).take k ++ old.drop k).getD 255 0 = old.getD 255 0 := by
    have hl : ((wrapL m p).take k).length = k := by rw [List.length_take, hw]; omega
    rw [List.getD_eq_getElem?_getD, List.getD_eq_getElem?_getD, List.getElem?_append_right (by omega), List.getElem?_drop, hl]
    congr 2
    omega
  intro ⟨q, _⟩
  rw [h1, h2] at q
  exact hm q
end Go.Proofs.Ytomhofppcogojaa

/- a slice value reads as a list of bytes, and goes on reading so behind new blocks, draws, and writes to blocks of the call's own. No program is named; no condition. -/
namespace Go.Proofs.Ytomhofppcogojaa
open Go.RowKit

/-- The slice '.slice A n c' reads as the bytes l. -/
structure Byt (w : World) (A : Option Addr) (n c : Nat) (l : List Int) : Prop where
  len : l.length = n
  cap : n ≤ c
  max : c ≤ maxLen
  rng : ∀ x ∈ l, 0 ≤ x ∧ x < 256
  nil_ : A = none → n = 0 ∧ c = 0
  at_ : 0 < n → ∃ g off, A = some ⟨g, off, none⟩ ∧ ∀ i, i < n → w.cell? ⟨g, off + i, none⟩ = some (.int .u8 (l.getD i 0))

section
variable {w w' : World} {A : Option Addr} {n c : Nat} {l : List Int}

theorem Byt.nil (w : World) : Byt w none 0 0 [] := ⟨rfl, Nat.le_refl _, Nat.zero_le _, by simp, fun _ => ⟨rfl, rfl⟩, fun h => absurd h (by omega)⟩

theorem Byt.keep (h : Byt w A n c l) (hk : ∀ (p : Addr) u, w.cell? p = some u → w'.cell? p = some u) : Byt w' A n c l :=
  ⟨h.len, h.cap, h.max, h.rng, h.nil_, fun hn => by
    obtain ⟨g, off, e, hc⟩ := h.at_ hn
    exact ⟨g, off, e, fun i hi => hk _ _ (hc i hi)⟩⟩

theorem Byt.below (h : Byt w A n c l) (hb : Below w.heap.size w w') : Byt w' A n c l :=
  h.keep fun p _ hu => (hb.cell (World.block_lt_of_cell? w p hu)).trans hu

theorem Byt.drewN (h : Byt w A n c l) (k : Nat) : Byt (w.drewN k) A n c l := h.keep fun _ _ hu => hu
theorem Byt.drew (h : Byt w A n c l) : Byt w.drew A n c l := h.keep fun _ _ hu => hu

theorem Byt.alloc (h : Byt w A n c l) (o : Obj) : Byt (w.alloc o) A n c l :=
  h.below ((Below.refl _ _).alloc (Nat.le_refl _) o)

theorem Byt.lt_ (h : Byt w A n c l) (i : Nat) (hi : i < n) : 0 ≤ l.getD i 0 ∧ l.getD i 0 < 256 := by
  have hl : i < l.length := by rw [h.len]; exact hi
  have : l.getD i 0 = l[i] := by simp [List.getD, List.getElem?_eq_getElem hl]
  rw [this]
  exact h.rng _ (List.getElem_mem hl)

/-- What the call owns reads as bytes. -/
theorem Byt.of_own {base : Nat} {e : TypeId} (h : w.ownsRow base e 1 (.slice A n c) n (l.map (Value.int .u8))) (hr : ∀ x ∈ l, 0 ≤ x ∧ x < 256) : Byt w A n c l := by
  have hl : l.length = n := by simpa using h.1
  rcases h.2 with ⟨hv, hn⟩ | ⟨g, cap, cur, hv, hb, hg, hnc, hm, hs, ht⟩
  · injection hv with h1 h2 h3
    subst h1 h2 h3
    exact ⟨hl, Nat.le_refl _, Nat.zero_le _, hr, fun _ => ⟨rfl, rfl⟩, fun h => absurd h (by omega)⟩
  · injection hv with h1 h2 h3
    subst h1 h3
    refine ⟨hl, hnc, hm, hr, (fun h => nomatch h), fun _ => ⟨g, 0, rfl, fun i hi => ?_⟩⟩
    have := h.cells (g := g) rfl i (.int .u8 (l.getD i 0)) (by
      have hil : i < l.length := by omega
      simp [List.getElem?_map, List.getElem?_eq_getElem hil, List.getD])
    have hadd : (⟨g, 0, none⟩ : Addr).add i = ⟨g, 0 + i, none⟩ := by unfold Addr.add; split <;> simp_all
    rwa [hadd] at this

/-- A cut at the end: 's[:k]'. -/
theorem Byt.take (h : Byt w A n c l) (k : Nat) (hk : k ≤ n) : Byt w A k c (l.take k) := by
  refine ⟨by rw [List.length_take, h.len]; omega, by have := h.cap; omega, h.max, fun x hx => h.rng x (List.mem_of_mem_take hx), fun e => ⟨by have := (h.nil_ e).1; omega, (h.nil_ e).2⟩, fun hk0 => ?_⟩
  obtain ⟨g, off, e, hc⟩ := h.at_ (by omega)
  refine ⟨g, off, e, fun i hi => ?_⟩
  rw [hc i (by omega)]
  congr 2
  simp [List.getD, hi]

/-- The cells as a list, for the laws on append. -/
theorem Byt.cells (h : Byt w A n c l) (ad : Addr) (hA : A = some ad) : ∀ j u, (l.map (Value.int .u8))[j]? = some u → w.cell? (ad.add j) = some u := by
  intro j u hu
  rw [List.getElem?_map] at hu
  have hj : j < l.length := by
    rcases Nat.lt_or_ge j l.length with h1 | h1
    · exact h1
    · rw [List.getElem?_eq_none h1] at hu; simp at hu
  obtain ⟨g, off, e, hc⟩ := h.at_ (by rw [← h.len]; omega)
  rw [hA] at e
  injection e with e
  subst e
  rw [List.getElem?_eq_getElem hj] at hu
  have hadd : (⟨g, off, none⟩ : Addr).add j = ⟨g, off + j, none⟩ := by unfold Addr.add; split <;> simp_all
  rw [hadd, hc j (by rw [← h.len]; exact hj)]
  simp at hu
  rw [← hu]
  simp [List.getD, List.getElem?_eq_getElem hj]
end

theorem u8_one (l : List Int) : ∀ u ∈ l.map (Value.int .u8), u.oneCell' = true := by
  intro u hu
  obtain ⟨x, _, rfl⟩ := List.mem_map.1 hu
  rfl

/-- An operation whose guard says go. -/
theorem wpList_guarded {P : Program} {w : World} {ops : Array Oper} {rest : List Oper} {o : Oper} {a : Act} {Q : Exit → Act → World → Prop} (hw : Region.wanted o (yielded ops a.tmps) = true)
    (h : ∀ K : Act → World → Prop, (∀ a w, wpList P ops Q rest a w → K a w) → o.wp P a w K Q) : wpList P ops Q (o :: rest) a w :=
  wpList_step fun K hK => by rw [if_pos hw]; exact h K hK

theorem wp_append_byt {P : Program} {w : World} {o : Oper} {a : Act} {K : Act → World → Prop} {Q : Exit → Act → World → Prop} (s x : Operand) (t : TypeId)
    (ho : o.op = .call { callee := .builtin .append, args := #[s, x], argTypes := #[t, t] })
    (base : Nat) (e : TypeId) (i : TypeInfo) (ht : P.underlying t = some (.slice e)) (hi : P.info? e = some i) (hz : i.zero = some (.int .u8 0)) (hsize : i.size = 1) (hby : i.bytes = 1)
    (v : Value) (k : Nat) (xs : List Int) (hs : a.eval s = v) (hown : w.ownsRow base e 1 v k (xs.map (Value.int .u8)))
    (A : Option Addr) (n c : Nat) (l : List Int) (hx : a.eval x = .slice A n c) (hl : Byt w A n c l)
    (hbytes : k + n ≤ 140737488355328) (hbase : base ≤ w.heap.size)
    (h : ∀ A' c' w', w'.ownsRow base e 1 (.slice A' (k + n) c') (k + n) ((xs ++ l).map (Value.int .u8)) → w.grownBy w' v.ownBlock → K (a.put o.dst (.slice A' (k + n) c')) w') : o.wp P a w K Q := by
  have form : ∀ (v' : Value) (w' : World) (m : Nat) (ys : List Value), w'.ownsRow base e 1 v' m ys → ∃ A' c', v' = .slice A' m c' := by
    intro v' w' m ys ho'
    rcases ho'.2 with ⟨h1, h2⟩ | ⟨g, cap, _, h1, _⟩
    · subst h2; exact ⟨none, 0, h1⟩
    · exact ⟨_, _, h1⟩
  cases A with
  | none =>
    obtain ⟨rfl, rfl⟩ := hl.nil_ rfl
    have hl0 : l = [] := List.eq_nil_of_length_eq_zero hl.len
    subst hl0
    have hrun := run_append_owned_none (P := P) (w := w) base t o.type e i 1 ht hi v k _ hown
    obtain ⟨A', c', rfl⟩ := form _ _ _ _ hown
    have h' := h A' c' w
    simp only [Nat.add_zero, List.append_nil] at h'
    unfold Oper.wp
    simp [execOp, ho, resolve, invoke, builtin, hs, hx, hrun, Result.andThen]
    exact h' hown (World.grownBy.refl w _)
  | some ad =>
    refine wp_append_own w s x t ho base e i (.int .u8 0) 1 1 ht hi hz hsize hby rfl (by decide) v k _ hs hown ad n c (l.map (Value.int .u8)) hx (by simp [hl.len]) (hl.cells ad rfl) (u8_one l) (by unfold maxLen; omega) (by omega) hbase ?_
    intro v' w' h1 h2 _
    obtain ⟨A', c', rfl⟩ := form _ _ _ _ h1
    exact h A' c' w' (by simpa using h1) h2

/-- 'out = append(out, xs...)': out a row of the call's own, xs any slice of bytes. -/
theorem wpList_append_byt {P : Program} {w : World} {ops : Array Oper} {rest : List Oper} {o : Oper} {a : Act} {Q : Exit → Act → World → Prop} (hgd : o.guard = none) (s x : Operand) (t : TypeId)
    (ho : o.op = .call { callee := .builtin .append, args := #[s, x], argTypes := #[t, t] })
    (base : Nat) (e : TypeId) (i : TypeInfo) (ht : P.underlying t = some (.slice e)) (hi : P.info? e = some i) (hz : i.zero = some (.int .u8 0)) (hsize : i.size = 1) (hby : i.bytes = 1)
    (v : Value) (k : Nat) (xs : List Int) (hs : a.eval s = v) (hown : w.ownsRow base e 1 v k (xs.map (Value.int .u8)))
    (A : Option Addr) (n c : Nat) (l : List Int) (hx : a.eval x = .slice A n c) (hl : Byt w A n c l)
    (hbytes : k + n ≤ 140737488355328) (hbase : base ≤ w.heap.size)
    (h : ∀ A' c' w', w'.ownsRow base e 1 (.slice A' (k + n) c') (k + n) ((xs ++ l).map (Value.int .u8)) → w.grownBy w' v.ownBlock → wpList P ops Q rest (a.put o.dst (.slice A' (k + n) c')) w') :
    wpList P ops Q (o :: rest) a w :=
  wpList_plain hgd fun _ hK => wp_append_byt s x t ho base e i ht hi hz hsize hby v k xs hs hown A n c l hx hl hbytes hbase fun A' c' w' h1 h2 => hK _ _ (h A' c' w' h1 h2)

/-- The same behind a guard that says go. -/
theorem wpList_append_byt_g {P : Program} {w : World} {ops : Array Oper} {rest : List Oper} {o : Oper} {a : Act} {Q : Exit → Act → World → Prop} (hgd : Region.wanted o (yielded ops a.tmps) = true) (s x : Operand) (t : TypeId)
    (ho : o.op = .call { callee := .builtin .append, args := #[s, x], argTypes := #[t, t] })
    (base : Nat) (e : TypeId) (i : TypeInfo) (ht : P.underlying t = some (.slice e)) (hi : P.info? e = some i) (hz : i.zero = some (.int .u8 0)) (hsize : i.size = 1) (hby : i.bytes = 1)
    (v : Value) (k : Nat) (xs : List Int) (hs : a.eval s = v) (hown : w.ownsRow base e 1 v k (xs.map (Value.int .u8)))
    (A : Option Addr) (n c : Nat) (l : List Int) (hx : a.eval x = .slice A n c) (hl : Byt w A n c l)
    (hbytes : k + n ≤ 140737488355328) (hbase : base ≤ w.heap.size)
    (h : ∀ A' c' w', w'.ownsRow base e 1 (.slice A' (k + n) c') (k + n) ((xs ++ l).map (Value.int .u8)) → w.grownBy w' v.ownBlock → wpList P ops Q rest (a.put o.dst (.slice A' (k + n) c')) w') :
    wpList P ops Q (o :: rest) a w :=
  wpList_guarded hgd fun _ hK => wp_append_byt s x t ho base e i ht hi hz hsize hby v k xs hs hown A n c l hx hl hbytes hbase fun A' c' w' h1 h2 => hK _ _ (h A' c' w' h1 h2)

/-- 'T{x}': a new slice of one byte. -/
theorem own_one (W : World) (base : Nat) (e : TypeId) (x : Int) (hb : base ≤ W.heap.size) :
    (W.alloc (.cells #[.int .u8 x] e)).ownsRow base e 1 (.slice (some ⟨W.heap.size, 0, none⟩) 1 1) 1 ([x].map (Value.int .u8)) :=
  ⟨by simp, .inr ⟨W.heap.size, 1, _, rfl, hb, heap_alloc_new W _, Nat.le_refl _, by unfold maxLen; omega, by simp, by simp⟩⟩

/-- Block g is just the cells cs, of type t. -/
def Bk (w : World) (g : Nat) (t : TypeId) (cs : Array Value) : Prop := w.heap[g]? = some (.cells cs t (0, 0))

section
variable {w w' : World} {g : Nat} {t : TypeId} {cs : Array Value}
theorem Bk.lt (h : Bk w g t cs) : g < w.heap.size := (Array.getElem?_eq_some_iff.1 h).1
theorem Bk.cell (h : Bk w g t cs) (i : Nat) : w.cell? ⟨g, i, none⟩ = cs[i]? := cell_of_row w g i cs t (0, 0) h
theorem Bk.frz (h : Bk w g t cs) (i : Nat) : w.frozen? ⟨g, i, none⟩ = false := by
  unfold Bk at h
  simp [World.frozen?, h]
theorem Bk.new (w : World) (t : TypeId) (cs : Array Value) : Bk (w.alloc (.cells cs t)) w.heap.size t cs := heap_alloc_new w _
theorem Bk.setc (h : Bk w g t cs) (i : Nat) (u : Value) : Bk (w.setCell ⟨g, i, none⟩ u) g t (cs.setIfInBounds i u) := by
  unfold Bk at h ⊢
  simp [World.setCell, Array.getElem?_modify, h]
theorem Bk.bel (h : Bk w g t cs) {B : Nat} (hb : Below B w w') (hg : g < B) : Bk w' g t cs := (hb.block g hg).trans h
end

/-- A part of a block of bytes reads as a list. -/
theorem Byt.of_bk {w : World} {g : Nat} {t : TypeId} {cs : Array Value} (h : Bk w g t cs) (off n c : Nat) (l : List Int) (hl : l.length = n) (hc : n ≤ c) (hm : c ≤ maxLen) (hr : ∀ x ∈ l, 0 ≤ x ∧ x < 256)
    (ha : ∀ i, i < n → cs[off + i]? = some (.int .u8 (l.getD i 0))) : Byt w (some ⟨g, off, none⟩) n c l :=
  ⟨hl, hc, hm, hr, (fun h => nomatch h), fun _ => ⟨g, off, rfl, fun i hi => by rw [h.cell]; exact ha i hi⟩⟩

/-- 'T{x, y, ..}': a new block of bytes reads as them. -/
theorem Byt.lit (W : World) (t : TypeId) (l : List Int) (n : Nat) (hl : l.length = n) (hm : n ≤ maxLen) (hr : ∀ x ∈ l, 0 ≤ x ∧ x < 256) : Byt (W.alloc (.cells (l.map (Value.int .u8)).toArray t)) (some ⟨W.heap.size, 0, none⟩) n n l :=
  Byt.of_bk (Bk.new W t _) 0 n n l hl (Nat.le_refl _) hm hr (fun i hi => by
    have hil : i < l.length := by omega
    simp [List.getElem?_eq_getElem hil])

/-- The same where the block bears a mark ('[]byte("abc")' of a constant). -/
theorem Byt.lit_mark (W : World) (t : TypeId) (fr : Nat × Nat) (l : List Int) (n : Nat) (hl : l.length = n) (hm : n ≤ maxLen) (hr : ∀ x ∈ l, 0 ≤ x ∧ x < 256) : Byt (W.alloc (.cells (l.map (Value.int .u8)).toArray t fr)) (some ⟨W.heap.size, 0, none⟩) n n l :=
  ⟨hl, Nat.le_refl _, hm, hr, (fun h => nomatch h), fun _ => ⟨W.heap.size, 0, rfl, fun i hi => by
    have hil : i < l.length := by omega
    rw [cell_of_row _ _ _ _ _ _ (heap_alloc_new W _)]
    simp [List.getElem?_eq_getElem hil, List.getD]⟩⟩

/-- A call answers v; what was there reads as before. -/
def Ret (v : Value) (w : World) (e : Ending) (w' : World) : Prop := e = .returned v ∧ Below w.heap.size w w'

/-- A call hands back a slice that reads as l, in new memory; what was there reads as before. -/
def RetByt (l : List Int) (w : World) (e : Ending) (w' : World) : Prop :=
  ∃ A n c, e = .returned (.slice A n c) ∧ Byt w' A n c l ∧ Below w.heap.size w w'

/-- A slice that reads as l, and a number beside it. -/
def RetByt2 (l : List Int) (k : IntKind) (x : Int) (w : World) (e : Ending) (w' : World) : Prop :=
  ∃ A n c, e = .returned (.tuple #[.slice A n c, .int k x]) ∧ Byt w' A n c l ∧ Below w.heap.size w w'

/-- What the call says, and that it draws at most. -/
def Quiet (v : Value) (w : World) (e : Ending) (w' : World) : Prop := e = .returned v ∧ ∃ k, w' = w.drewN k

theorem below_drewN {B : Nat} {a w : World} (h : Below B a w) (n : Nat) : Below B a (w.drewN n) := ⟨h.os, h.tape, h.output, h.size, h.block⟩

theorem Below.then {w w1 w2 : World} (h : Below w.heap.size w w1) (k : Below w1.heap.size w1 w2) : Below w.heap.size w w2 :=
  h.trans (k.mono h.size)

/-- A call that draws at most, told as one that leaves what was there. -/
theorem Quiet.ret {P : Program} {f : FuncId} {args : Array Value} {v : Value} {w : World} (h : Calls P f args w (Quiet v w)) : Calls P f args w (Ret v w) :=
  h.mono fun _ _ ⟨he, k, hw⟩ => ⟨he, by rw [hw]; exact below_drewN (Below.refl _ _) k⟩

end Go.Proofs.Ytomhofppcogojaa

/- which blocks a call may turn; things in memory, each with the blocks that are its own; two such things side by side. No program is named; no condition. -/
namespace Go.Proofs.Ytomhofppcogojaa
open Go.RowKit

/-- From w to w' no old block is turned but those of F. -/
structure Fr (F : Nat → Prop) (w w' : World) : Prop where
  os : w'.os = w.os
  tape : w'.tape = w.tape
  output : w'.output = w.output
  size : w.heap.size ≤ w'.heap.size
  block : ∀ k, k < w.heap.size → ¬ F k → w'.heap[k]? = w.heap[k]?

/-- F, and what is new. -/
def grow (F : Nat → Prop) (w w' : World) : Nat → Prop := fun k => F k ∨ (w.heap.size ≤ k ∧ k < w'.heap.size)
/-- What is new. -/
def fresh (w w' : World) : Nat → Prop := fun k => w.heap.size ≤ k ∧ k < w'.heap.size

section
variable {F G : Nat → Prop} {w w1 w2 : World}
theorem Fr.refl (F : Nat → Prop) (w : World) : Fr F w w := ⟨rfl, rfl, rfl, Nat.le_refl _, fun _ _ _ => rfl⟩
theorem Fr.trans (h : Fr F w w1) (k : Fr (grow F w w1) w1 w2) : Fr F w w2 :=
  ⟨k.os.trans h.os, k.tape.trans h.tape, k.output.trans h.output, Nat.le_trans h.size k.size, fun i hi hn => (k.block i (Nat.lt_of_lt_of_le hi h.size) (fun g => by
    rcases g with g | g
    · exact hn g
    · omega)).trans (h.block i hi hn)⟩
theorem Fr.mono (h : Fr F w w1) (hFG : ∀ k, F k → G k) : Fr G w w1 := ⟨h.os, h.tape, h.output, h.size, fun k hk hn => h.block k hk (fun f => hn (hFG k f))⟩
theorem Fr.then (h : Fr F w w1) (k : Fr F w1 w2) : Fr F w w2 := h.trans (k.mono fun _ f => .inl f)
theorem Fr.of_below (h : Below w.heap.size w w1) : Fr F w w1 := ⟨h.os, h.tape, h.output, h.size, fun k hk _ => h.block k hk⟩
theorem Fr.below {B : Nat} (h : Fr F w w1) (hB : B ≤ w.heap.size) (hF : ∀ k, F k → B ≤ k) : Below B w w1 :=
  ⟨h.os, h.tape, h.output, h.size, fun k hk => h.block k (by omega) (fun f => by have := hF k f; omega)⟩
theorem Fr.setCell (h : Fr F w w1) {a : Addr} (ha : F a.block) (u : Value) : Fr F w (w1.setCell a u) :=
  ⟨h.os, h.tape, h.output, by simpa [World.setCell] using h.size, fun k hk hn => (Below.heap_setCell w1 a u k (fun e => hn (e ▸ ha))).trans (h.block k hk hn)⟩
theorem Fr.grown (h : Fr F w w1) {row : Option Nat} (hg : w1.grownBy w2 row) (hr : ∀ k, row = some k → F k ∨ w.heap.size ≤ k) : Fr F w w2 :=
  h.trans ⟨hg.os, hg.tape, hg.output, hg.size, fun k hk hn => hg.block k hk (fun e => by
    rcases hr k e.symm with h | h
    · exact hn (.inl h)
    · exact hn (.inr ⟨h, hk⟩))⟩
theorem Fr.alloc (h : Fr F w w1) (o : Obj) : Fr F w (w1.alloc o) := h.grown (row := none) (World.grownBy_alloc w1 o none) (fun _ e => nomatch e)
theorem Fr.drewN (h : Fr F w w1) (n : Nat) : Fr F w (w1.drewN n) := ⟨h.os, h.tape, h.output, h.size, h.block⟩
theorem Fr.cell1 (w : World) (b i : Nat) (u : Value) : Fr (fun k => k = b) w (w.setCell ⟨b, i, none⟩ u) := Fr.setCell (a := ⟨b, i, none⟩) (Fr.refl (fun k => k = b) w) (show (fun k => k = b) b from rfl) u
theorem Fr.grow_of_below {F : Nat → Prop} {w w' : World} {k : Nat} (h : F k) : grow F w w' k := .inl h
end

/-- A thing in memory: what holds of it in a world where the blocks F are its own. -/
structure Res where
  is : World → (Nat → Prop) → Prop
  lt : ∀ w F, is w F → ∀ k, F k → k < w.heap.size
  keep : ∀ w w' F, is w F → w.heap.size ≤ w'.heap.size → (∀ k, F k → w'.heap[k]? = w.heap[k]?) → is w' F

/-- R has become R'; nothing else is turned. -/
def Turn (R : Res) (F : Nat → Prop) (w w' : World) : Prop := R.is w' (grow F w w') ∧ Fr F w w'

/-- Two things side by side. -/
def Res.star (R S : Res) : Res where
  is w F := ∃ F1 F2, R.is w F1 ∧ S.is w F2 ∧ (∀ k, F1 k → ¬ F2 k) ∧ (∀ k, F1 k → F k) ∧ (∀ k, F2 k → F k) ∧ ∀ k, F k → k < w.heap.size
  lt _ _ := fun ⟨_, _, _, _, _, _, _, h⟩ => h
  keep w w' F := fun ⟨F1, F2, h1, h2, h3, h4, h5, h6⟩ hs hk => ⟨F1, F2, R.keep w w' F1 h1 hs (fun k f => hk k (h4 k f)), S.keep w w' F2 h2 hs (fun k f => hk k (h5 k f)), h3, h4, h5, fun k f => Nat.lt_of_lt_of_le (h6 k f) hs⟩

theorem Res.star_comm {R S : Res} {w : World} {F : Nat → Prop} (h : (R.star S).is w F) : (S.star R).is w F := by
  obtain ⟨F1, F2, h1, h2, h3, h4, h5, h6⟩ := h
  exact ⟨F2, F1, h2, h1, fun k f g => h3 k g f, h5, h4, h6⟩

/-- The second thing doesn't mind what becomes of the first. -/
theorem Res.star_turn {R S : Res} {w : World} {F : Nat → Prop} (h : (R.star S).is w F) : ∃ F1, R.is w F1 ∧ ∀ R' w', Turn R' F1 w w' → Turn (R'.star S) F w w' := by
  obtain ⟨F1, F2, h1, h2, h3, h4, h5, h6⟩ := h
  refine ⟨F1, h1, fun R' w' ⟨t1, t2⟩ => ⟨⟨grow F1 w w', F2, t1, ?_, ?_, ?_, fun k f => .inl (h5 k f), ?_⟩, t2.mono h4⟩⟩
  · exact S.keep w w' F2 h2 t2.size (fun k f => t2.block k (S.lt w F2 h2 k f) (fun g => h3 k g f))
  · intro k f g
    rcases f with f | f
    · exact h3 k f g
    · have := S.lt w F2 h2 k g
      omega
  · intro k f
    rcases f with f | f
    · exact .inl (h4 k f)
    · exact .inr f
  · intro k f
    rcases f with f | f
    · exact Nat.lt_of_lt_of_le (h6 k f) t2.size
    · exact f.2

/-- A thing that is there, all of it from block B on. -/
def Has (B : Nat) (R : Res) (w : World) : Prop := ∃ F, R.is w F ∧ ∀ k, F k → B ≤ k

section
variable {B : Nat} {R S : Res} {w w' : World}
theorem Has.below (h : Has B R w) (hb : Below w.heap.size w w') : Has B R w' := by
  obtain ⟨F, h1, h2⟩ := h
  exact ⟨F, R.keep w w' F h1 hb.size (fun k f => hb.block k (R.lt w F h1 k f)), h2⟩

theorem Has.turn (h : Has B R w) (hB : B ≤ w.heap.size) : ∃ F, R.is w F ∧ ∀ R' w', Turn R' F w w' → Has B R' w' ∧ Below B w w' := by
  obtain ⟨F, h1, h2⟩ := h
  refine ⟨F, h1, fun R' w' ⟨t1, t2⟩ => ⟨⟨_, t1, fun k f => ?_⟩, t2.below hB h2⟩⟩
  rcases f with f | f
  · exact h2 k f
  · omega

theorem Has.comm (h : Has B (R.star S) w) : Has B (S.star R) w := by
  obtain ⟨F, h1, h2⟩ := h
  exact ⟨F, Res.star_comm h1, h2⟩

/-- What turns the first thing. -/
theorem Has.turn1 (h : Has B (R.star S) w) (hB : B ≤ w.heap.size) : ∃ F, R.is w F ∧ ∀ R' w', Turn R' F w w' → Has B (R'.star S) w' ∧ Below B w w' := by
  obtain ⟨F, h1, h2⟩ := h.turn hB
  obtain ⟨F1, h3, h4⟩ := Res.star_turn h1
  exact ⟨F1, h3, fun R' w' t => h2 _ _ (h4 R' w' t)⟩

theorem Has.fst (h : Has B (R.star S) w) : Has B R w := by
  obtain ⟨F, ⟨F1, F2, h1, h2, h3, h4, h5, h6⟩, h7⟩ := h
  exact ⟨F1, h1, fun k f => h7 k (h4 k f)⟩
theorem Has.snd (h : Has B (R.star S) w) : Has B S w := h.comm.fst
theorem Has.ex (h : Has B R w) : ∃ F, R.is w F := ⟨h.choose, h.choose_spec.1⟩

/-- A new thing beside the old ones. -/
theorem Has.new (h : Has B S w) (hB : B ≤ w.heap.size) (hb : Below w.heap.size w w') (hr : R.is w' (fresh w w')) : Has B (R.star S) w' := by
  obtain ⟨F, h1, h2⟩ := h
  refine ⟨fun k => fresh w w' k ∨ F k, ⟨fresh w w', F, hr, S.keep w w' F h1 hb.size (fun k f => hb.block k (S.lt w F h1 k f)), ?_, fun _ f => .inl f, fun _ f => .inr f, ?_⟩, ?_⟩
  · intro k f g
    have := S.lt w F h1 k g
    have := f.1
    omega
  · intro k f
    rcases f with f | f
    · exact f.2
    · exact Nat.lt_of_lt_of_le (S.lt w F h1 k f) hb.size
  · intro k f
    rcases f with f | f
    · have := f.1
      omega
    · exact h2 k f

/-- A new thing alone. -/
theorem Has.first (hB : B ≤ w.heap.size) (hr : R.is w' (fresh w w')) : Has B R w' := ⟨_, hr, fun k f => by have := f.1; omega⟩

/-- Behind more that makes memory alone. -/
theorem fresh_more {R : Res} {w w1 w2 : World} (h : R.is w1 (fresh w w1)) (hm : ∀ w F G, R.is w F → (∀ k, F k → G k) → (∀ k, G k → k < w.heap.size) → R.is w G) (hb : Below w1.heap.size w1 w2) : R.is w2 (fresh w w2) := by
  have h2 := R.keep w1 w2 _ h hb.size (fun k f => hb.block k f.2)
  have := hb.size
  exact hm w2 _ _ h2 (fun k f => ⟨f.1, by have := f.2; omega⟩) (fun k f => f.2)

theorem Has.assoc {T : Res} (h : Has B ((R.star S).star T) w) : Has B (R.star (S.star T)) w := by
  obtain ⟨F, ⟨F1, F2, ⟨F3, F4, a1, a2, a3, a4, a5, a6⟩, h2, h3, h4, h5, h6⟩, h7⟩ := h
  refine ⟨F, ⟨F3, fun k => F4 k ∨ F2 k, a1, ⟨F4, F2, a2, h2, fun k f => h3 k (a5 k f), fun _ f => .inl f, fun _ f => .inr f, ?_⟩, ?_, fun k f => h4 k (a4 k f), ?_, h6⟩, h7⟩
  · intro k f
    rcases f with f | f
    · exact a6 k (a5 k f)
    · exact h6 k (h5 k f)
  · intro k f g
    rcases g with g | g
    · exact a3 k f g
    · exact h3 k (a4 k f) g
  · intro k f
    rcases f with f | f
    · exact h4 k (a5 k f)
    · exact h5 k f
theorem Has.assoc' {T : Res} (h : Has B (R.star (S.star T)) w) : Has B ((R.star S).star T) w := h.comm.assoc.comm.assoc.comm
end

/-- A row of bytes. -/
def rowOf (e : TypeId) (v : Value) (n : Nat) (l : List Int) : Res where
  is w F := w.ownsRow 0 e 1 v n (l.map (Value.int .u8)) ∧ (∀ k, v.ownBlock = some k → F k) ∧ ∀ k, F k → k < w.heap.size
  lt _ _ := fun h => h.2.2
  keep w w' F := fun h hs hk => by
    refine ⟨?_, h.2.1, fun k f => Nat.lt_of_lt_of_le (h.2.2 k f) hs⟩
    obtain ⟨⟨h1, h2⟩, h3, _⟩ := h
    refine ⟨h1, ?_⟩
    rcases h2 with h2 | ⟨g, cap, cur, hv, hb, hg, r⟩
    · exact .inl h2
    · exact .inr ⟨g, cap, cur, hv, hb, (hk g (h3 g (by rw [hv]; rfl))).trans hg, r⟩

theorem owns_keep {w w' : World} {base : Nat} {e : TypeId} {size : Nat} {v : Value} {n : Nat} {xs : List Value} (h : w.ownsRow base e size v n xs) (hk : ∀ k, v.ownBlock = some k → w'.heap[k]? = w.heap[k]?) : w'.ownsRow base e size v n xs := by
  obtain ⟨h1, h2⟩ := h
  refine ⟨h1, ?_⟩
  rcases h2 with h2 | ⟨g, cap, cur, hv, hb, hg, r⟩
  · exact .inl h2
  · exact .inr ⟨g, cap, cur, hv, hb, (hk g (by rw [hv]; rfl)).trans hg, r⟩

theorem owns_low {w : World} {base base' : Nat} {e : TypeId} {size : Nat} {v : Value} {n : Nat} {xs : List Value} (h : w.ownsRow base e size v n xs) (hb : base' ≤ base) : w.ownsRow base' e size v n xs := by
  obtain ⟨h1, h2⟩ := h
  refine ⟨h1, ?_⟩
  rcases h2 with h2 | ⟨g, cap, cur, hv, hg, r⟩
  · exact .inl h2
  · exact .inr ⟨g, cap, cur, hv, Nat.le_trans hb hg, r⟩

theorem Bk.eq {w w' : World} {g : Nat} {t : TypeId} {cs : Array Value} (h : Bk w g t cs) (hk : w'.heap[g]? = w.heap[g]?) : Bk w' g t cs := hk.trans h
theorem range_none : Array.range 0 = #[] := Array.eq_empty_of_size_eq_zero (by simp)
end Go.Proofs.Ytomhofppcogojaa

/- a map keyed by ints: what it holds at each key; a look-up, a store, a copy. No program is named; no condition. -/
namespace Go.Proofs.Ytomhofppcogojaa
open Go.RowKit Go.MapKept

open Classical in
/-- The first entry at a key. -/
noncomputable def look : List MapEntry → Value → Option Value
  | [], _ => none
  | e :: r, k => if e.key = k then some e.val else look r k

theorem look_none {k : Value} : ∀ {l : List MapEntry}, (∀ x ∈ l, x.key ≠ k) → look l k = none
  | [], _ => rfl
  | e :: r, h => by
    rw [look, if_neg (h e (.head _))]
    exact look_none (fun x hx => h x (.tail _ hx))

open Classical in
theorem look_append {k : Value} {e : MapEntry} : ∀ {l : List MapEntry}, look (l ++ [e]) k = (look l k).or (if e.key = k then some e.val else none)
  | [] => by simp [look]
  | x :: r => by
    rw [List.cons_append, look, look]
    split
    · rfl
    · exact look_append

open Classical in
theorem findNow_look {d : TypeDesc} {k : Value} (hk : IsKey d k) : ∀ (l : List MapEntry) (i : Nat), (∀ x ∈ l, IsKey d x.key) →
    (Instr.findNow d k l i = some none ∧ look l k = none ∧ ∀ x ∈ l, x.key ≠ k) ∨
    ∃ j e, Instr.findNow d k l i = some (some (i + j, e.val)) ∧ l[j]? = some e ∧ e.key = k ∧ look l k = some e.val ∧
      ∀ v k', look (l.modify j fun e => { e with key := k, val := v }) k' = if k' = k then some v else look l k'
  | [], _, _ => .inl ⟨rfl, rfl, by simp⟩
  | e :: es, i, h => by
    obtain ⟨r, hr, hiff⟩ := sameNow_of_keys hk (h e (.head _))
    cases r with
    | true =>
      have he : e.key = k := (hiff.1 rfl).symm
      refine .inr ⟨0, e, by simp [Instr.findNow, hr], rfl, he, by rw [look, if_pos he], fun v k' => ?_⟩
      show look ({ e with key := k, val := v } :: es) k' = _
      rw [look]
      by_cases hq : k' = k
      · subst hq
        rw [if_pos rfl, if_pos rfl]
      · rw [if_neg (fun q => hq q.symm), if_neg hq, look, if_neg (fun q => hq (q.symm.trans he))]
    | false =>
      have hne : e.key ≠ k := fun q => by have := hiff.2 q.symm; cases this
      rcases findNow_look hk es (i + 1) (fun x hx => h x (.tail _ hx)) with ⟨h1, h2, h3⟩ | ⟨j, e', h1, h2, h3, h4, h5⟩
      · refine .inl ⟨by simp [Instr.findNow, hr, h1], by rw [look, if_neg hne, h2], fun x hx => ?_⟩
        cases hx with
        | head => exact hne
        | tail _ hx => exact h3 x hx
      · refine .inr ⟨j + 1, e', by simp [Instr.findNow, hr, h1]; omega, by simpa using h2, h3, by rw [look, if_neg hne, h4], fun v k' => ?_⟩
        rw [List.modify_succ_cons, look, h5, look]
        by_cases hq : k' = k
        · subst hq
          rw [if_pos rfl, if_neg hne, if_pos rfl]
        · rw [if_neg hq, if_neg hq]

/-- Map mb holds g n at key n; z where there is none. -/
def MapFn (w : World) (mb : Nat) (z : Value) (g : Nat → Value) : Prop :=
  ∃ es clock, w.heap[mb]? = some (.map es clock) ∧ (∀ x ∈ es.toList, IsKey (.int .i64) x.key) ∧ ∀ n : Nat, (look es.toList (.int .i64 n)).getD z = g n

section
variable {w w' : World} {mb : Nat} {z : Value} {g : Nat → Value}
theorem MapFn.lt (h : MapFn w mb z g) : mb < w.heap.size := by
  obtain ⟨es, cl, hb, _⟩ := h
  exact (Array.getElem?_eq_some_iff.1 hb).1
theorem MapFn.eq (h : MapFn w mb z g) (hk : w'.heap[mb]? = w.heap[mb]?) : MapFn w' mb z g := by
  obtain ⟨es, cl, hb, r⟩ := h
  exact ⟨es, cl, hk.trans hb, r⟩
theorem MapFn.new (w : World) (z : Value) : MapFn (w.alloc (.map #[] 0)) w.heap.size z (fun _ => z) :=
  ⟨#[], 0, (heap_alloc w _).1, by simp, fun _ => rfl⟩
theorem MapFn.not_bk {t : TypeId} {cs : Array Value} {b : Nat} (h : MapFn w mb z g) (hb : Bk w b t cs) : mb ≠ b := by
  rintro rfl
  obtain ⟨es, cl, h1, _⟩ := h
  unfold Bk at hb
  rw [hb] at h1
  simp at h1
theorem MapFn.not_row {e : TypeId} {base size n : Nat} {v : Value} {xs : List Value} (h : MapFn w mb z g) (ho : w.ownsRow base e size v n xs) : v.ownBlock ≠ some mb := by
  obtain ⟨es, cl, h1, _⟩ := h
  rcases ho.2 with ⟨rfl, _⟩ | ⟨g, cap, cur, rfl, _, hg, _⟩
  · simp [Value.ownBlock]
  · intro q
    simp [Value.ownBlock] at q
    subst q
    rw [hg] at h1
    simp at h1

theorem isKey_nat (n : Nat) : IsKey (.int .i64) (.int .i64 (n : Int)) := rfl

variable {P : Program} {t kt et : TypeId}

theorem MapFn.run_lookup (h : MapFn w mb z g) (ht : P.underlying t = some (.map kt et)) (hk : P.underlying kt = some (.int .i64)) (hz : (zeroValue et).run P w = .ok z w) (n : Nat) :
    (Instr.lookup t (.map (some mb)) (.int .i64 n) false).run P w = .ok (g n) w := by
  obtain ⟨es, cl, hb, hks, hg⟩ := h
  have hgn := hg n
  unfold Instr.lookup
  rcases findNow_look (isKey_nat n) es.toList 0 hks with ⟨h1, h2, _⟩ | ⟨j, e, h1, _, _, h4, _⟩
  · rw [h2] at hgn
    simp [run_underlying ht, MapKept.run_getObj_map hb, run_checkKey hk (isKey_nat n), run_findKey hk h1, hz, Result.andThen]
    exact hgn
  · rw [h4] at hgn
    simp [run_underlying ht, MapKept.run_getObj_map hb, run_checkKey hk (isKey_nat n), run_findKey hk h1, Result.andThen]
    exact hgn

theorem setObj_fr (w : World) (mb : Nat) (o : Obj) : Fr (fun k => k = mb) w { w with heap := w.heap.setIfInBounds mb o } :=
  ⟨rfl, rfl, rfl, by simp, fun k hk hn => by simp [Ne.symm hn]⟩

theorem MapFn.run_update (h : MapFn w mb z g) (ht : P.underlying t = some (.map kt et)) (hk : P.underlying kt = some (.int .i64)) (n : Nat) (v : Value) :
    ∃ w', (Instr.mapUpdate t (.map (some mb)) (.int .i64 n) v).run P w = .ok () w' ∧ MapFn w' mb z (fun m => if m = n then v else g m) ∧ Fr (fun k => k = mb) w w' := by
  obtain ⟨es, cl, hb, hks, hg⟩ := h
  rcases findNow_look (isKey_nat n) es.toList 0 hks with ⟨h1, h2, h3⟩ | ⟨j, e, h1, h2, h3, h4, h5⟩
  · refine ⟨{ w with heap := w.heap.setIfInBounds mb (.map (es.push { key := .int .i64 n, val := v, born := cl }) (cl + 1)) }, ?_, ⟨_, _, (heap_set hb).1, ?_, fun m => ?_⟩, setObj_fr _ _ _⟩
    · simp [Instr.mapUpdate, run_underlying ht, MapKept.run_getObj_map hb, run_checkKey hk (isKey_nat n), run_findKey hk h1, MapKept.run_setObj_map _ hb, Result.andThen]
    · intro x hx
      simp only [Array.toList_push, List.mem_append, List.mem_singleton] at hx
      rcases hx with hx | rfl
      · exact hks x hx
      · exact isKey_nat n
    · rw [Array.toList_push, look_append]
      by_cases hm : m = n
      · subst hm
        rw [h2]
        simp
      · have hne : ¬ ((Value.int .i64 n) = .int .i64 m) := by
          intro q
          injection q with _ q
          omega
        rw [if_neg hne, Option.or_none]
        show _ = if m = n then v else g m
        rw [if_neg hm]
        exact hg m
  · have hj : es[j]? = some e := by simpa using h2
    refine ⟨{ w with heap := w.heap.setIfInBounds mb (.map (es.modify j fun e => { e with key := .int .i64 n, val := v }) cl) }, ?_, ⟨_, _, (heap_set hb).1, ?_, fun m => ?_⟩, setObj_fr _ _ _⟩
    · simp [Instr.mapUpdate, run_underlying ht, MapKept.run_getObj_map hb, run_checkKey hk (isKey_nat n), run_findKey hk h1, hj, h3, run_keyThatStays (isKey_nat n), MapKept.run_setObj_map _ hb, Result.andThen]
    · exact isKey_modify hks _ _ (fun e' he' => by rw [hj] at he'; cases he'; exact h3.symm)
    · rw [Array.toList_modify, h5]
      by_cases hm : m = n
      · subst hm
        simp
      · have hne : ¬ ((Value.int .i64 m) = .int .i64 n) := by
          intro q
          injection q with _ q
          omega
        rw [if_neg hne]
        show _ = if m = n then v else g m
        rw [if_neg hm]
        exact hg m
end

section
variable {P : Program} {w : World} {ops : Array Oper} {rest : List Oper} {o : Oper} {a : Act} {Q : Exit → Act → World → Prop} {t kt et : TypeId}

/-- 'm[k]' at the operation. -/
theorem wpList_lookup_fn (hgd : o.guard = none) (m x : Operand) (hop : o.op = Op.lookup t m x false) (ht : P.underlying t = some (.map kt et)) (hk : P.underlying kt = some (.int .i64))
    (mb : Nat) (z : Value) (g : Nat → Value) (hz : (zeroValue et).run P w = .ok z w) (hM : MapFn w mb z g) (hm : a.eval m = .map (some mb)) (n : Nat) (hx : a.eval x = .int .i64 n)
    (h : wpList P ops Q rest (a.put o.dst (g n)) w) : wpList P ops Q (o :: rest) a w := by
  refine wpList_plain hgd fun K' hK' => ?_
  have hrun := hM.run_lookup ht hk hz n
  unfold Oper.wp
  simp [execOp, hop, hm, hx, hrun, Result.andThen]
  exact hK' _ _ h

/-- 'm[k] = v' at the operation. -/
theorem wpList_update_fn (hgd : o.guard = none) (m x v : Operand) (hop : o.op = Op.mapUpdate t m x v) (ht : P.underlying t = some (.map kt et)) (hk : P.underlying kt = some (.int .i64))
    (mb : Nat) (z : Value) (g : Nat → Value) (hM : MapFn w mb z g) (hm : a.eval m = .map (some mb)) (n : Nat) (hx : a.eval x = .int .i64 n) (val : Value) (hv : a.eval v = val)
    (h : ∀ w', MapFn w' mb z (fun m => if m = n then val else g m) → Fr (fun k => k = mb) w w' → wpList P ops Q rest (a.put o.dst undef) w') : wpList P ops Q (o :: rest) a w := by
  refine wpList_plain hgd fun K' hK' => ?_
  obtain ⟨w', hrun, h1, h2⟩ := hM.run_update ht hk n val
  unfold Oper.wp
  simp [execOp, hop, hm, hx, hv, hrun, Result.andThen]
  exact hK' _ _ (h w' h1 h2)
end
end Go.Proofs.Ytomhofppcogojaa

/- a disk in memory: its block, its map of sectors, its list of writes; find, step and the methods that tell or lay a number. -/
namespace Go.Proofs.Ytomhofppcogojaa
open Go.RowKit

/-- Bytes as cells; a sector as a value. -/
def byC (l : List Int) : List Value := l.map (Value.int .u8)
def secV (l : List Int) : Value := .agg (byC l).toArray
theorem byC_len (l : List Int) : (byC l).length = l.length := by simp [byC]
theorem byC_one (l : List Int) : ∀ v ∈ byC l, v.oneCell' = true := u8_one l

/-- A write's cells. -/
def wrC (p : Nat × List Int) : List Value := .int .i64 p.1 :: byC p.2
theorem wrC_len {p : Nat × List Int} (h : Sec p.2) : (wrC p).length = 257 := by simp [wrC, byC_len, h.1]
def pdC (l : List (Nat × List Int)) : List Value := l.flatMap wrC

theorem info_sec : (Try.prog.info? 81).map (fun i => (i.zero, i.size)) = some (some (secV zeros), 256) := by kernel_rfl
theorem zero_sec (w : World) : (zeroValue 81).run Try.prog w = .ok (secV zeros) w := (zero_of_info info_sec).1 w
theorem size_sec : (Try.prog.info? 81).map (·.size) = some 256 := (zero_of_info info_sec).2
theorem info_wr : (Try.prog.info? 86).map (fun i => (i.zero, i.size, i.bytes)) = some (some (.agg (wrC (0, zeros)).toArray), 257, 264) := by kernel_rfl

/-- The disk at block b. -/
structure DskB (w : World) (F : Nat → Prop) (b mb : Nat) (A : Option Addr) (c : Nat) (s : St) : Prop where
  blk : Bk w b 79 #[.int .i64 s.num, .map (some mb), .slice A s.pend.length c, .int .i64 s.left, .bool s.gone, .int .i64 s.syncs]
  map : MapFn w mb (secV zeros) (fun n => secV (s.syn n))
  row : w.ownsRow 0 86 257 (.slice A s.pend.length c) s.pend.length (pdC s.pend)
  fb : F b
  fm : F mb
  fp : ∀ k, (Value.slice A s.pend.length c).ownBlock = some k → F k
  lt : ∀ k, F k → k < w.heap.size
  ok : s.Ok
  lim : s.pend.length < 1000000 ∧ s.syncs < 1000000

section
variable {w w' : World} {F G : Nat → Prop} {b mb : Nat} {A : Option Addr} {c : Nat} {s : St}
theorem DskB.keep (h : DskB w F b mb A c s) (hs : w.heap.size ≤ w'.heap.size) (hk : ∀ k, F k → w'.heap[k]? = w.heap[k]?) : DskB w' F b mb A c s :=
  ⟨h.blk.eq (hk b h.fb), h.map.eq (hk mb h.fm), owns_keep h.row (fun k hk' => hk k (h.fp k hk')), h.fb, h.fm, h.fp, fun k f => Nat.lt_of_lt_of_le (h.lt k f) hs, h.ok, h.lim⟩
theorem DskB.mono (h : DskB w F b mb A c s) (hF : ∀ k, F k → G k) (hG : ∀ k, G k → k < w.heap.size) : DskB w G b mb A c s :=
  ⟨h.blk, h.map, h.row, hF b h.fb, hF mb h.fm, fun k hk => hF k (h.fp k hk), hG, h.ok, h.lim⟩
theorem DskB.below (h : DskB w F b mb A c s) (hb : Below w.heap.size w w') : DskB w' F b mb A c s := h.keep hb.size (fun k f => hb.block k (h.lt k f))
end

/-- The disk at block b, as a thing. -/
def dsk (b : Nat) (s : St) : Res where
  is w F := ∃ mb A c, DskB w F b mb A c s
  lt _ _ := fun ⟨_, _, _, h⟩ => h.lt
  keep _ _ _ := fun ⟨mb, A, c, h⟩ hs hk => ⟨mb, A, c, h.keep hs hk⟩

section
variable {w w' : World} {F : Nat → Prop} {b mb : Nat} {A : Option Addr} {c : Nat} {s : St}
theorem DskB.turn {s' : St} {mb' : Nat} {A' : Option Addr} {c' : Nat} (h : DskB w' (grow F w w') b mb' A' c' s') (hf : Fr F w w') : Turn (dsk b s') F w w' := ⟨⟨mb', A', c', h⟩, hf⟩

/-- Behind stores into the disk's own block alone. -/
theorem DskB.set {cs : Array Value} {s' : St} (h : DskB w F b mb A c s) (hb : Bk w' b 79 #[.int .i64 s'.num, .map (some mb), .slice A s'.pend.length c, .int .i64 s'.left, .bool s'.gone, .int .i64 s'.syncs])
    (hf : Fr (fun k => k = b) w w') (h1 : s'.syn = s.syn) (h2 : s'.pend = s.pend) (h3 : s'.Ok) (h4 : s'.syncs < 1000000) : DskB w' F b mb A c s' := by
  have hne : mb ≠ b := h.map.not_bk h.blk
  have hpe : ∀ k, (Value.slice A s.pend.length c).ownBlock = some k → k ≠ b := by
    rintro k hk rfl
    rcases h.row.2 with ⟨q, _⟩ | ⟨g, cap, cur, q, _, hg, _⟩
    · rw [q] at hk; simp [Value.ownBlock] at hk
    · rw [q] at hk
      simp [Value.ownBlock] at hk
      subst hk
      have := h.blk
      unfold Bk at this
      rw [this] at hg
      simp at hg
  refine ⟨hb, ?_, ?_, h.fb, h.fm, ?_, fun k f => Nat.lt_of_lt_of_le (h.lt k f) hf.size, h3, by rw [h2]; exact ⟨h.lim.1, h4⟩⟩
  · rw [h1]
    exact h.map.eq (hf.block mb h.map.lt hne)
  · rw [h2]
    exact owns_keep h.row (fun k hk => hf.block k (h.lt k (h.fp k hk)) (hpe k hk))
  · rw [h2]
    exact h.fp
end

/-- The step's answer. -/
def RetStep (F : Nat → Prop) (b mb : Nat) (A : Option Addr) (c : Nat) (s : St) (w : World) (e : Ending) (w' : World) : Prop :=
  e = .returned (.int .i64 (if s.can then 0 else 40)) ∧ DskB w' F b mb A c s.step ∧ Fr (fun k => k = b) w w'

set_option maxHeartbeats 1000000 in
theorem step_any {w : World} {F : Nat → Prop} {b mb : Nat} {A : Option Addr} {c : Nat} {s : St} (h : DskB w F b mb A c s) :
    Calls Try.prog 39 #[.pointer (some ⟨b, 0, none⟩)] w (RetStep F b mb A c s w) := by
  obtain ⟨num, syn, pend, left, gone, syncs⟩ := s
  have hl := h.ok.left
  have hb := h.blk
  have c3 : w.cell? ⟨b, 3, none⟩ = some (.int .i64 left) := hb.cell 3
  have c4 : w.cell? ⟨b, 4, none⟩ = some (.bool gone) := hb.cell 4
  have f3 : w.frozen? ⟨b, 3, none⟩ = false := hb.frz 3
  have f4 : w.frozen? ⟨b, 4, none⟩ = false := hb.frz 4
  simp only at hl
  have E : ∀ w' s', s' = (St.mk num syn pend left gone syncs).step → Bk w' b 79 #[.int .i64 s'.num, .map (some mb), .slice A s'.pend.length c, .int .i64 s'.left, .bool s'.gone, .int .i64 s'.syncs] → Fr (fun k => k = b) w w' →
      DskB w' F b mb A c (St.mk num syn pend left gone syncs).step ∧ Fr (fun k => k = b) w w' := by
    intro w' s' e hb' hf
    subst e
    exact ⟨h.set (cs := #[]) hb' hf (St.step_syn _) (St.step_pend _) h.ok.step (by rw [St.step_syncs]; exact h.lim.2), hf⟩
  have E := Lib.hid E
  have HB := Lib.hid hb
  clear h hb
  cases gone with
  | true =>
    by_cases h0 : left = 0
    · subst h0
      have R : Hid (RetStep F b mb A c ⟨num, syn, pend, 0, true, syncs⟩ w (.returned (.int .i64 40)) (w.setCell ⟨b, 4, none⟩ (.bool true))) :=
        Lib.hid ⟨rfl, E.out _ _ rfl (by have := HB.out.setc 4 (.bool true); simpa [St.step] using this) (Fr.cell1 _ _ _ _)⟩
      clear E HB
      go_enter Try.func39, Try.ntmps39
      go_wp2_with fail
      go_ret
      exact R.out
    · have R : Hid (RetStep F b mb A c ⟨num, syn, pend, left, true, syncs⟩ w (.returned (.int .i64 40)) w) :=
        Lib.hid ⟨rfl, E.out _ _ rfl (by simpa [St.step] using HB.out) (Fr.refl _ _)⟩
      have hd : (left == 0) = false := by simpa using h0
      clear E HB
      go_enter Try.func39, Try.ntmps39
      go_wp2_with fail
      go_ret
      exact R.out
  | false =>
    by_cases h0 : left = 0
    · subst h0
      have R : Hid (RetStep F b mb A c ⟨num, syn, pend, 0, false, syncs⟩ w (.returned (.int .i64 40)) (w.setCell ⟨b, 4, none⟩ (.bool true))) :=
        Lib.hid ⟨rfl, E.out _ _ rfl (by have := HB.out.setc 4 (.bool true); simpa [St.step] using this) (Fr.cell1 _ _ _ _)⟩
      clear E HB
      go_enter Try.func39, Try.ntmps39
      go_wp2_with fail
      go_ret
      exact R.out
    · have hd : (left == 0) = false := by simpa using h0
      by_cases h1 : left = -1
      · subst h1
        have R : Hid (RetStep F b mb A c ⟨num, syn, pend, -1, false, syncs⟩ w (.returned (.int .i64 0)) w) :=
          Lib.hid ⟨rfl, E.out _ _ rfl (by simpa [St.step] using HB.out) (Fr.refl _ _)⟩
        clear E HB
        go_enter Try.func39, Try.ntmps39
        go_wp2_with fail
        go_ret
        exact R.out
      · have hd1 : (left != -1) = true := by simpa using h1
        have hp : 0 < left := by omega
        have R : Hid (RetStep F b mb A c ⟨num, syn, pend, left, false, syncs⟩ w (.returned (.int .i64 0)) (w.setCell ⟨b, 3, none⟩ (.int .i64 (left - 1)))) :=
          Lib.hid ⟨by simp [St.can, hd], E.out _ _ rfl (by have := HB.out.setc 3 (.int .i64 (left - 1)); simpa [St.step, h0, hp] using this) (Fr.cell1 _ _ _ _)⟩
        clear E HB
        go_enter Try.func39, Try.ntmps39
        go_wp2_with fail
        go_ret
        exact R.out
end Go.Proofs.Ytomhofppcogojaa

/- what Down, Pending, Syncs, Sectors and find answer; what Fuse lays; a nil disk's. -/
namespace Go.Proofs.Ytomhofppcogojaa
open Go.RowKit

/-- A call answers v and turns nothing. -/
def Same (v : Value) (w : World) (e : Ending) (w' : World) : Prop := e = .returned v ∧ w = w'

section
variable {w : World} {F : Nat → Prop} {b mb : Nat} {A : Option Addr} {c : Nat} {s : St}
theorem down_any (h : DskB w F b mb A c s) : Calls Try.prog 22 #[.pointer (some ⟨b, 0, none⟩)] w (Same (.bool s.gone) w) := by
  have c4 : w.cell? ⟨b, 4, none⟩ = some (.bool s.gone) := h.blk.cell 4
  clear h
  go_enter Try.func22, Try.ntmps22
  go_wp2_with fail
  go_ret
  exact ⟨rfl, rfl⟩

theorem find_bad (h : DskB w F b mb A c s) (n : Int) (hn : n < 0 ∨ (s.num : Int) ≤ n) : Calls Try.prog 35 #[.pointer (some ⟨b, 0, none⟩), .int .i64 n] w (Same (.int .i64 1) w) := by
  have c2 : w.cell? ⟨b, 0, none⟩ = some (.int .i64 s.num) := h.blk.cell 0
  clear h
  by_cases h0 : n < 0
  · go_enter Try.func35, Try.ntmps35
    go_wp2_with fail
    go_ret
    exact ⟨rfl, rfl⟩
  · have h1 : (s.num : Int) ≤ n := by omega
    clear hn
    go_enter Try.func35, Try.ntmps35
    go_wp2_with fail
    go_ret
    exact ⟨rfl, rfl⟩

theorem find_ok (h : DskB w F b mb A c s) (n : Nat) (hn : n < s.num) : Calls Try.prog 35 #[.pointer (some ⟨b, 0, none⟩), .int .i64 n] w (Same (.int .i64 0) w) := by
  have c2 : w.cell? ⟨b, 0, none⟩ = some (.int .i64 s.num) := h.blk.cell 0
  clear h
  go_enter Try.func35, Try.ntmps35
  go_wp2_with fail
  go_ret
  exact ⟨rfl, rfl⟩

/-- What Fuse leaves. -/
def RetFuse (F : Nat → Prop) (b : Nat) (s' : St) (w : World) (e : Ending) (w' : World) : Prop := e = .returned (.tuple #[]) ∧ Turn (dsk b s') F w w'

set_option maxHeartbeats 1000000 in
theorem fuse_any (h : DskB w F b mb A c s) (n : Int) (hn : -9223372036854775808 ≤ n ∧ n ≤ 9223372036854775807) :
    Calls Try.prog 21 #[.pointer (some ⟨b, 0, none⟩), .int .i64 n] w (RetFuse F b (s.fuse n) w) := by
  have c3 : w.cell? ⟨b, 3, none⟩ = some (.int .i64 s.left) := h.blk.cell 3
  have f3 : w.frozen? ⟨b, 3, none⟩ = false := h.blk.frz 3
  have R : Hid (RetFuse F b (s.fuse n) w (.returned (.tuple #[])) (w.setCell ⟨b, 3, none⟩ (.int .i64 (max n (-1))))) := by
    have hb : Bk (w.setCell ⟨b, 3, none⟩ (.int .i64 (max n (-1)))) b 79 #[.int .i64 (s.fuse n).num, .map (some mb), .slice A (s.fuse n).pend.length c, .int .i64 (s.fuse n).left, .bool (s.fuse n).gone, .int .i64 (s.fuse n).syncs] := by
      have := h.blk.setc 3 (.int .i64 (max n (-1)))
      simpa [St.fuse] using this
    have hf := Fr.cell1 w b 3 (.int .i64 (max n (-1)))
    have := h.set (cs := #[]) hb hf rfl rfl (h.ok.fuse hn.2) h.lim.2
    exact Lib.hid ⟨rfl, (this.mono (fun k f => .inl f) (fun k f => by
      rcases f with f | f
      · exact this.lt k f
      · exact f.2)).turn (hf.mono (fun k e => e ▸ h.fb))⟩
  clear h
  by_cases h1 : n < -1
  · rw [show max n (-1) = -1 from by omega] at R
    go_enter Try.func21, Try.ntmps21
    go_wp2_with fail
    all_goals first | omega | skip
    go_end0
    first
      | exact R.out
      | (rw [show max n (-1) = -1 from by omega]; exact R.out)
  · rw [show max n (-1) = n from by omega] at R
    go_enter Try.func21, Try.ntmps21
    go_wp2_with fail
    all_goals first | omega | skip
    go_end0
    first
      | exact R.out
      | (rw [show max n (-1) = n from by omega]; exact R.out)
end

section
variable (w : World)
theorem down_nil : Calls Try.prog 22 #[.pointer none] w (Same (.bool true) w) := by
  go_enter Try.func22, Try.ntmps22
  go_wp2_with fail
  go_ret
  exact ⟨rfl, rfl⟩
theorem sync_nil : Calls Try.prog 24 #[.pointer none] w (Same (.int .i64 2) w) := by
  go_enter Try.func24, Try.ntmps24
  go_wp2_with fail
  go_ret
  exact ⟨rfl, rfl⟩
theorem fuse_nil (n : Int) : Calls Try.prog 21 #[.pointer none, .int .i64 n] w (Same (.tuple #[]) w) := by
  go_enter Try.func21, Try.ntmps21
  go_wp2_with fail
  go_end0
  exact ⟨rfl, rfl⟩
theorem find_nil (n : Int) : Calls Try.prog 35 #[.pointer none, .int .i64 n] w (Same (.int .i64 2) w) := by
  go_enter Try.func35, Try.ntmps35
  go_wp2_with fail
  go_ret
  exact ⟨rfl, rfl⟩
theorem write_nil (n : Int) (v : Value) : Calls Try.prog 19 #[.pointer none, .int .i64 n, v] w (Same (.int .i64 2) w) := by
  go_enter Try.func19, Try.ntmps19
  go_wp2_with fail
  refine (find_nil w n).mono ?_
  rintro e w' ⟨rfl, rfl⟩
  go_wp2_with fail
  go_ret
  exact ⟨rfl, rfl⟩
theorem read_nil (n : Int) : Calls Try.prog 14 #[.pointer none, .int .i64 n] w (Same (.tuple #[.slice none 0 0, .int .i64 2]) w) := by
  go_enter Try.func14, Try.ntmps14
  go_wp2_with fail
  refine (find_nil w n).mono ?_
  rintro e w' ⟨rfl, rfl⟩
  go_wp2_with fail
  go_ret2
  exact ⟨rfl, rfl⟩
theorem crash_nil (cs : Array Value) : Calls Try.prog 23 #[.pointer none, .agg cs] w (Ret (.pointer none) w) := by
  go_enter Try.func23, Try.ntmps23
  go_wp2_with fail
  go_ret
  exact ⟨rfl, (Below.refl _ _).alloc (Nat.le_refl _) _⟩
end
end Go.Proofs.Ytomhofppcogojaa

/- stamp.free, Next and isStamp answer what the plain mathematics says, and turn nothing. -/
namespace Go.Proofs.Ytomhofppcogojaa
open Go.RowKit

section
variable {w : World} {A : Option Addr} {c : Nat} {l : List Int}
theorem Byt.ends (h : Byt w A 256 c l) : ∃ g off, A = some ⟨g, off, none⟩ ∧ w.cell? ⟨g, off, none⟩ = some (.int .u8 (l.getD 0 0)) ∧ w.cell? ⟨g, off + 255, none⟩ = some (.int .u8 (l.getD 255 0)) := by
  obtain ⟨g, off, e, hc⟩ := h.at_ (by omega)
  exact ⟨g, off, e, hc 0 (by omega), hc 255 (by omega)⟩
end

set_option maxHeartbeats 2000000 in
theorem free_any (A : Option Addr) (c : Nat) (l : List Int) (w : World) (h : Byt w A 256 c l) :
    Calls Try.prog 48 #[.slice A 256 c] w (Same (.int .u8 (nextOf l)) w) := by
  obtain ⟨g, off, rfl, h0, h1⟩ := h.ends
  have ra := h.lt_ 0 (by omega)
  have rb := h.lt_ 255 (by omega)
  have hcap := h.cap
  have hmax := h.max
  unfold maxLen at hmax
  obtain ⟨a, ha⟩ : ∃ a, l.getD 0 0 = a := ⟨_, rfl⟩
  obtain ⟨b, hb⟩ : ∃ b, l.getD 255 0 = b := ⟨_, rfl⟩
  have HE : Hid (nextOf l = nextB a b) := Lib.hid (by unfold nextOf; rw [ha, hb])
  rw [HE.out]
  rw [ha] at h0 ra
  rw [hb] at h1 rb
  clear ha hb h HE
  go_enter Try.func48, Try.ntmps48
  go_wp2
  go_step3
  go_wp2
  go_step3
  go_wp2
  go_loopw [3, 5] (fun m q wr => ∃ j : Nat, j ≤ 3 ∧ m = .int .u8 j ∧ q = .int .u8 j ∧ (1 ≤ j → a = 1 ∨ b = 1) ∧ (2 ≤ j → a = 2 ∨ b = 2) ∧ wr = w) (fun _ q _ => 3 - (intOf q).toNat)
  case atStart => exact ⟨0, by omega, rfl, rfl, by omega, by omega, rfl⟩
  case round =>
    obtain ⟨j, hj, rfl, rfl, t1, t2, rfl⟩ := hrel
    by_cases hlt : j < 3
    · by_cases e1 : ((j : Int) + 1) = a
      · have d1 : (((j : Int) + 1) != a) = false := by simpa using e1
        have R : Hid ((1 ≤ j + 1 → a = 1 ∨ b = 1) ∧ (2 ≤ j + 1 → a = 2 ∨ b = 2)) := Lib.hid ⟨fun _ => by
          by_cases q : 1 ≤ j
          · exact t1 q
          · omega, fun q => by
          by_cases q2 : 2 ≤ j
          · exact t2 q2
          · omega⟩
        clear t1 t2 e1
        go_wp2_with fail
        go_roundw
        case rel => exact ⟨j + 1, by omega, by go_num, by go_num, R.out.1, R.out.2, trivial⟩
        case measure => simp [intOf]; omega
      · have d1 : (((j : Int) + 1) != a) = true := by simpa using e1
        by_cases e2 : ((j : Int) + 1) = b
        · have d2 : (((j : Int) + 1) != b) = false := by simpa using e2
          have R : Hid ((1 ≤ j + 1 → a = 1 ∨ b = 1) ∧ (2 ≤ j + 1 → a = 2 ∨ b = 2)) := Lib.hid ⟨fun _ => by
            by_cases q : 1 ≤ j
            · exact t1 q
            · omega, fun q => by
            by_cases q2 : 2 ≤ j
            · exact t2 q2
            · omega⟩
          clear t1 t2 e1 e2
          go_wp2_with fail
          go_roundw
          case rel => exact ⟨j + 1, by omega, by go_num, by go_num, R.out.1, R.out.2, trivial⟩
          case measure => simp [intOf]; omega
        · have d2 : (((j : Int) + 1) != b) = true := by simpa using e2
          have R : Hid ((j : Int) + 1 = nextB a b) := Lib.hid (by
            have : j = 0 ∨ j = 1 ∨ j = 2 := by omega
            rcases this with q | q | q
            · rw [nextB_one ⟨by omega, by omega⟩]; omega
            · rw [nextB_two (t1 (by omega)) ⟨by omega, by omega⟩]; omega
            · rw [nextB_three (t1 (by omega)) (t2 (by omega))]; omega)
          clear t1 t2 e1 e2
          go_wp2_with fail
          (try rw [Exit.noGoto_ret])
          go_ret
          exact ⟨by rw [← R.out]; rfl, rfl⟩
    · obtain rfl : j = 3 := by omega
      have R : Hid (3 = nextB a b) := Lib.hid (nextB_three (t1 (by omega)) (t2 (by omega))).symm
      clear t1 t2
      go_wp2_with fail
      (try rw [Exit.noGoto_ret])
      go_ret
      exact ⟨by rw [← R.out]; rfl, rfl⟩

theorem isStamp_any (m : Int) (hm : 0 ≤ m ∧ m < 256) (w : World) : Calls Try.prog 67 #[.int .u8 m] w (Same (.bool (decide (1 ≤ m ∧ m ≤ 3))) w) := by
  by_cases h1 : 1 ≤ m
  · by_cases h3 : m ≤ 3
    · have e : decide (1 ≤ m ∧ m ≤ 3) = true := by simp; omega
      rw [e]
      go_enter Try.func67, Try.ntmps67
      go_wp2_with fail
      go_ret
      exact ⟨rfl, rfl⟩
    · have e : decide (1 ≤ m ∧ m ≤ 3) = false := by simp; omega
      rw [e]
      go_enter Try.func67, Try.ntmps67
      go_wp2_with fail
      go_ret
      exact ⟨rfl, rfl⟩
  · have e : decide (1 ≤ m ∧ m ≤ 3) = false := by simp; omega
    rw [e]
    go_enter Try.func67, Try.ntmps67
    go_wp2_with fail
    go_ret
    exact ⟨rfl, rfl⟩
end Go.Proofs.Ytomhofppcogojaa

/- a write as a value: built of its number and its sector; a new block of one write; a slice of 256 bytes as a sector. -/
namespace Go.Proofs.Ytomhofppcogojaa
open Go.RowKit

theorem one_set (z : Array Value) (x : Value) (hx : x.oneCell' = true) (hz : 0 < z.size) : (x.cells.zipIdx.foldl (fun cs (y : Value × Nat) => cs.setIfInBounds (0 + y.2) y.1) z) = z.setIfInBounds 0 x := by
  have : x.cells = #[x] := by
    cases x <;> simp_all [Value.cells, Value.oneCell']
  rw [this]
  rfl

theorem arr_eq {a : Array Value} {l : List Value} (hs : a.size = l.length) (h : ∀ k, k < l.length → a[k]? = l[k]?) : a = l.toArray := by
  apply Array.ext_getElem?
  intro k
  by_cases hk : k < l.length
  · rw [h k hk]; simp
  · rw [Array.getElem?_eq_none (by omega), Array.getElem?_eq_none (by simp; omega)]

theorem wr_fill (z : Array Value) (hz : z.size = 257) (n : Nat) (l : List Int) (hl : Sec l) :
    (byC l).toArray.zipIdx.foldl (fun cs (x : Value × Nat) => cs.setIfInBounds (1 + x.2) x.1) (z.setIfInBounds 0 (.int .i64 n)) = (wrC (n, l)).toArray := by
  have hlen : (byC l).length = 256 := by rw [byC_len, hl.1]
  have he : (byC l).toArray.zipIdx.foldl (fun cs (x : Value × Nat) => cs.setIfInBounds (1 + x.2) x.1) (z.setIfInBounds 0 (.int .i64 n)) = ((byC l).zipIdx 0).foldl (fun cs (x : Value × Nat) => cs.setIfInBounds (1 + x.2) x.1) (z.setIfInBounds 0 (.int .i64 n)) := by
    simp
  rw [he]
  obtain ⟨h1, h2⟩ := Great.foldl_set 1 (byC l) 0 (z.setIfInBounds 0 (.int .i64 n))
  apply arr_eq
  · rw [h1, wrC_len (p := (n, l)) hl]
    simp [hz]
  · intro k hk
    rw [wrC_len (p := (n, l)) hl] at hk
    rw [h2 k]
    by_cases h0 : k = 0
    · subst h0
      rw [if_neg (by omega)]
      simp [wrC, hz]
    · rw [if_pos ⟨by omega, by omega, by simp; omega⟩]
      obtain ⟨j, rfl⟩ : ∃ j, k = j + 1 := ⟨k - 1, by omega⟩
      simp [wrC]

theorem secV_size {l : List Int} (hl : Sec l) : (byC l).toArray.size = 256 := by simp [byC_len, hl.1]

theorem fill_cons {place : Nat → Option (Nat × Nat)} {cells : Array Value} {i off size : Nat} {v : Value} {rest : List (Nat × Value)} (hp : place i = some (off, size)) (hs : v.cells.size = size) (ho : off + size ≤ cells.size) :
    Instr.fill place cells ((i, v) :: rest) = Instr.fill place (v.cells.zipIdx.foldl (fun cs (x : Value × Nat) => cs.setIfInBounds (off + x.2) x.1) cells) rest := by
  rw [Instr.fill, hp]
  simp only
  rw [if_neg (by simp; omega)]

theorem built_wr (n : Nat) (l : List Int) (hl : Sec l) : Try.prog.built 86 [(0, .int .i64 n), (1, secV l)] = some (wrC (n, l)).toArray := by
  have hp : Try.prog.built 86 [(0, .int .i64 n), (1, secV l)] = Instr.fill (fun i => ([(0, 1), (1, 256)] : List (Nat × Nat)).toArray[i]?) (wrC (0, zeros)).toArray [(0, .int .i64 n), (1, secV l)] := by
    generalize secV l = v
    generalize (n : Int) = m
    kernel_rfl
  rw [hp]
  have hw : (wrC (0, zeros)).toArray.size = 257 := by simp [wrC_len (p := (0, zeros)) zeros_sec]
  generalize (wrC (0, zeros)).toArray = Z at hw
  rw [fill_cons (off := 0) (size := 1) rfl rfl (by omega), one_set Z _ rfl (by omega), fill_cons (off := 1) (size := 256) rfl (show (secV l).cells.size = 256 from secV_size hl) (by rw [Array.size_setIfInBounds]; omega)]
  exact congrArg some (wr_fill Z hw n l hl)

theorem build_wr (n : Nat) (l : List Int) (hl : Sec l) (w : World) : (Instr.build 86 #[(0, .int .i64 n), (1, secV l)]).run Try.prog w = .ok (.agg (wrC (n, l)).toArray) w :=
  run_build w _ _ _ (built_wr n l hl)

theorem bslice_wr (p : Nat × List Int) (hp : Sec p.2) (w : World) : (Instr.buildSlice 77 1 #[(0, .agg (wrC p).toArray)]).run Try.prog w =
    .ok (.slice (some ⟨w.heap.size, 0, none⟩) 1 1) (w.alloc (.cells (wrC p).toArray 86)) := by
  obtain ⟨i0, hi, hz0, hz1, hz2⟩ := info_parts info_wr
  have hl := wrC_len hp
  refine Go.run_buildSlice w 77 86 1 _ _ i0 (.agg (wrC (0, zeros)).toArray) Try.underlying77 hi hz0 (by rw [hz1]; omega) (by rw [hz1]; omega) ?_
  have hz : ((Array.range (1 * i0.size)).map ((Value.agg (wrC (0, zeros)).toArray).cells[· % (Value.agg (wrC (0, zeros)).toArray).cells.size]!)).size = 257 := by simp [hz1]
  rw [hz1] at hz ⊢
  rw [fill_cons (off := 0) (size := 257) rfl (by show (wrC p).toArray.size = 257; simp [hl]) (by omega)]
  refine congrArg some ?_
  generalize hZ : (Array.range (1 * 257)).map ((Value.agg (wrC (0, zeros)).toArray).cells[· % (Value.agg (wrC (0, zeros)).toArray).cells.size]!) = Z at hz
  have he : (Value.agg (wrC p).toArray).cells.zipIdx.foldl (fun cs (x : Value × Nat) => cs.setIfInBounds (0 + x.2) x.1) Z = ((wrC p).zipIdx 0).foldl (fun cs (x : Value × Nat) => cs.setIfInBounds (0 + x.2) x.1) Z := by
    simp [Value.cells]
  rw [he]
  obtain ⟨h1, h2⟩ := Great.foldl_set 0 (wrC p) 0 Z
  apply arr_eq
  · rw [h1, hz, hl]
  · intro k hk
    rw [h2 k, if_pos ⟨by omega, by omega, by omega⟩]
    simp

/-- A write's zero value, and what comes of laying a number and a sector into it: as the walk asks it. -/
theorem zero_wr (n : Nat) (l : List Int) (hl : Sec l) : ∃ Z : Array Value, (∀ w, (zeroValue 86).run Try.prog w = .ok (.agg Z) w) ∧ Z.size = 257 ∧ Z ≠ #[] ∧ ¬ Z.size < 257 ∧
    (byC l).zipIdx.foldl (fun cs (x : Value × Nat) => cs.setIfInBounds (1 + x.2) x.1) (Z.setIfInBounds 0 (.int .i64 n)) = (wrC (n, l)).toArray := by
  obtain ⟨i0, hi, hz0, hz1, hz2⟩ := info_parts info_wr
  have hw : (wrC (0, zeros)).toArray.size = 257 := by simp [wrC_len (p := (0, zeros)) zeros_sec]
  refine ⟨(wrC (0, zeros)).toArray, fun w => by simp [zeroValue, typeInfo, hi, hz0], hw, fun e => ?_, by omega, ?_⟩
  · rw [e] at hw
    simp at hw
  · generalize (wrC (0, zeros)).toArray = Z at hw
    have := wr_fill Z hw n l hl
    rw [← this]
    simp

theorem foldl_whole (Y : Array Value) (l : List Value) (h : Y.size = l.length) : l.zipIdx.foldl (fun cs (x : Value × Nat) => cs.setIfInBounds x.2 x.1) Y = l.toArray := by
  obtain ⟨h1, h2⟩ := Great.foldl_set 0 l 0 Y
  simp only [Nat.zero_add] at h1 h2
  apply arr_eq
  · rw [h1, h]
  · intro k hk
    rw [h2 k, if_pos ⟨by omega, by omega, by omega⟩]
    simp

/-- The same, and a new block of it, as the walk asks them. -/
theorem zero_wr2 (n : Nat) (l : List Int) (hl : Sec l) : ∃ (Z : Array Value) (R : Array Nat), (∀ w, (zeroValue 86).run Try.prog w = .ok (.agg Z) w) ∧ Z.size = 257 ∧ Z ≠ #[] ∧ ¬ Z.size < 257 ∧ Array.range 257 = R ∧ R.size = 257 ∧
    (byC l).zipIdx.foldl (fun cs (x : Value × Nat) => cs.setIfInBounds (1 + x.2) x.1) (Z.setIfInBounds 0 (.int .i64 n)) = (wrC (n, l)).toArray ∧
    (wrC (n, l)).zipIdx.foldl (fun cs (x : Value × Nat) => cs.setIfInBounds x.2 x.1) (Array.map (fun x => Z[x % 257]!) R) = (wrC (n, l)).toArray := by
  obtain ⟨Z, h0, h1, h2, h3, h4⟩ := zero_wr n l hl
  refine ⟨Z, Array.range 257, h0, h1, h2, h3, rfl, by simp, h4, foldl_whole _ _ ?_⟩
  rw [Array.size_map, Array.size_range, wrC_len (p := (n, l)) hl]

theorem arrayAt_sec (A : Option Addr) (c : Nat) (w : World) : (Instr.arrayAt 81 (.slice A 256 c)).run Try.prog w = .ok (.pointer A) w := by
  simp [Instr.arrayAt, run_underlying (P := Try.prog) Try.underlying81, Result.andThen]
end Go.Proofs.Ytomhofppcogojaa

/- steps of a region by an equation of the operation's run: a whole array loaded, a struct built, a slice of one struct, a new variable. No program is named; no condition. -/
namespace Go.Proofs.Ytomhofppcogojaa
open Go.RowKit

section
variable {P : Program} {w w' : World} {ops : Array Oper} {rest : List Oper} {o : Oper} {a : Act}

theorem wanted_plain (hgd : o.guard = none) : Region.wanted o (yielded ops a.tmps) = true := by simp [Region.wanted, hgd]

theorem wpStill_run {Q : Act → Prop} (hgd : o.guard = none) {v : Value} (hrun : (execOp a.eval o).run P w = .ok (.value v) w) (h : wpStill P ops w Q rest (a.put o.dst v)) : wpStill P ops w Q (o :: rest) a := by
  refine wpStill_step fun K hK => ?_
  rw [if_pos (wanted_plain hgd)]
  unfold Oper.still
  rw [hrun]
  exact ⟨rfl, hK _ h⟩

theorem wpList_run {Q : Exit → Act → World → Prop} (hgd : o.guard = none) {v : Value} (hrun : (execOp a.eval o).run P w = .ok (.value v) w') (h : wpList P ops Q rest (a.put o.dst v) w') : wpList P ops Q (o :: rest) a w := by
  refine wpList_plain hgd fun K hK => ?_
  unfold Oper.wp
  rw [hrun]
  exact hK _ _ h

theorem exec_load {ty : TypeId} {x : Operand} (ho : o.op = .load ty x) {b off : Nat} (hx : a.eval x = .pointer (some ⟨b, off, none⟩)) {cs : List Value} {d : TypeDesc} (hc : w.rangeAt b off cs)
    (hu : P.underlying ty = some d) (hd : d.isRow = true) (hi : (P.info? ty).map (·.size) = some cs.length) : (execOp a.eval o).run P w = .ok (.value (.agg cs.toArray)) w := by
  unfold execOp
  simp only [ho, hx, Instr.loadAt, Instr.sureAddr, Sem.run_bind, Sem.run_pure, Result.andThen_ok, run_loadVar_mid w b off ty cs d hc hu hd hi]

theorem exec_build {t : TypeId} {parts : Array (Nat × Operand)} (ho : o.op = .build t parts) (ps : List (Nat × Value)) (he : (parts.toList.map fun x => (x.1, a.eval x.2)) = ps) {cells : Array Value} (hb : P.built t ps = some cells) :
    (execOp a.eval o).run P w = .ok (.value (.agg cells)) w := by
  unfold execOp
  have := run_build (P := P) w t (parts.map fun x => (x.1, a.eval x.2)) cells (by rw [Array.toList_map, he]; exact hb)
  simp only [ho, Sem.run_bind]
  rw [this]
  rfl

theorem exec_buildSlice {t : TypeId} {n : Nat} {parts : Array (Nat × Operand)} (ho : o.op = .buildSlice t n parts) (ps : List (Nat × Value)) (he : (parts.toList.map fun x => (x.1, a.eval x.2)) = ps) {v : Value} (hb : (Instr.buildSlice t n ps.toArray).run P w = .ok v w') :
    (execOp a.eval o).run P w = .ok (.value v) w' := by
  have he' : (parts.map fun x => (x.1, a.eval x.2)) = ps.toArray := by
    apply Array.toList_inj.1
    rw [Array.toList_map, he]
  unfold execOp
  simp only [ho, Sem.run_bind]
  rw [he', hb]
  rfl

theorem exec_alloc {t : TypeId} (ho : o.op = .alloc t) {z : Value} (hz : ∀ w, (zeroValue t).run P w = .ok z w) :
    (execOp a.eval o).run P w = .ok (.value (.pointer (some ⟨w.heap.size, 0, none⟩))) (w.alloc (.cells z.cells t)) := by
  unfold execOp
  simp only [ho, Sem.run_bind, Instr.alloc, hz, Result.andThen_ok]
  rfl

theorem exec_slice {t : TypeId} {x : Operand} {lo hi mx : Option Operand} (ho : o.op = .slice t x lo hi mx) {v : Value} (hb : (Instr.sliceAt t (a.eval x) (lo.map a.eval) (hi.map a.eval) (mx.map a.eval)).run P w = .ok v w') :
    (execOp a.eval o).run P w = .ok (.value v) w' := by
  unfold execOp
  simp only [ho, Sem.run_bind]
  rw [hb]
  rfl

theorem exec_makeSlice {t : TypeId} {x y : Operand} (ho : o.op = .makeSlice t x y) {v : Value} (hb : (Instr.makeSlice t (a.eval x) (a.eval y)).run P w = .ok v w') :
    (execOp a.eval o).run P w = .ok (.value v) w' := by
  unfold execOp
  simp only [ho, Sem.run_bind]
  rw [hb]
  rfl

theorem exec_lookup {t : TypeId} {m x : Operand} {c : Bool} (ho : o.op = .lookup t m x c) {v : Value} (hb : (Instr.lookup t (a.eval m) (a.eval x) c).run P w = .ok v w') :
    (execOp a.eval o).run P w = .ok (.value v) w' := by
  unfold execOp
  simp only [ho, Sem.run_bind]
  rw [hb]
  rfl

theorem exec_allocA {t : TypeId} (ho : o.op = .alloc t) {z : Array Value} (hz : ∀ w, (zeroValue t).run P w = .ok (.agg z) w) :
    (execOp a.eval o).run P w = .ok (.value (.pointer (some ⟨w.heap.size, 0, none⟩))) (w.alloc (.cells z t)) := exec_alloc ho hz

/-- A whole row into the block that was made last. -/
theorem wpList_store_new {Q : Exit → Act → World → Prop} {W : World} (hgd : o.guard = none) {ty : TypeId} {x y : Operand} (ho : o.op = .store ty x y) {c c' : Array Value} (hw : w = W.alloc (.cells c ty)) (hx : a.eval x = .pointer (some ⟨W.heap.size, 0, none⟩)) (hy : a.eval y = .agg c')
    (hi : (P.info? ty).map (·.size) = some c'.size) (hs : c.size = c'.size) (h1 : c'.all (·.oneCell') = true) (h : wpList P ops Q rest (a.put o.dst undef) (W.alloc (.cells c' ty))) : wpList P ops Q (o :: rest) a w := by
  subst hw
  refine wpList_store_row hgd ty x y ho W.heap.size c' hx hy ty c (heap_alloc_last W _) hi hs h1 ?_
  rw [World.setRow_alloc_new]
  exact h

/-- 'clear(x)' of a row of one's own; the row, cut to nothing. -/
theorem run_clear_own {base : Nat} {t e : TypeId} {i : TypeInfo} {z : Value} {size : Nat} (ty : TypeId) (ht : P.underlying t = some (.slice e)) (hi : P.info? e = some i) (hz : i.zero = some z) (hzs : z.cells.size = size) (hz1 : ∀ v ∈ z.cells.toList, v.oneCell' = true)
    {A : Option Addr} {n c : Nat} {xs : List Value} (hown : w.ownsRow base e size (.slice A n c) n xs) :
    ∃ w', (Builtin.clear_ #[t] ty #[.slice A n c]).run P w = .ok (.tuple #[]) w' ∧ w'.ownsRow base e size (.slice A 0 c) 0 [] ∧ w.grownBy w' (Value.slice A n c).ownBlock := by
  rcases hown.2 with ⟨hv, hn⟩ | ⟨g, cap, cur, hv, hb, hg, hnc, hm, hcs, htk⟩
  · injection hv with e1 e2 e3
    subst e1 e2 e3
    exact ⟨w, by simp [Builtin.clear_, run_underlying ht], World.ownsRow_nil _ _ _ _, World.grownBy.refl w _⟩
  · injection hv with e1 e2 e3
    subst e1 e3
    by_cases h0 : n = 0
    · subst h0
      exact ⟨w, by simp [Builtin.clear_, run_underlying ht], ⟨by simp, .inr ⟨g, c, cur, rfl, hb, hg, Nat.zero_le _, hm, hcs, by simp⟩⟩, World.grownBy.refl w _⟩
    · have hzl : (Builtin.zeroCells z.cells n).toList.length = n * size := by simp [size_zeroCells, hzs]
      have hz1' : ∀ v ∈ (Builtin.zeroCells z.cells n).toList, v.oneCell' = true := by
        intro v hv
        have hv' : v ∈ Builtin.zeroCells z.cells n := by simpa using hv
        unfold Builtin.zeroCells at hv'
        obtain ⟨j, hj, rfl⟩ := Array.mem_map.1 hv'
        by_cases hzz : z.cells.size = 0
        · rw [hzz] at hj
          simp at hj
        · have hlt : j % z.cells.size < z.cells.size := Nat.mod_lt _ (by omega)
          refine hz1 _ ?_
          rw [getElem!_pos z.cells (j % z.cells.size) hlt]
          simp
      have hle : n * size ≤ cur.size := by rw [hcs]; exact Nat.mul_le_mul_right _ hnc
      have hst := run_storeCells_at P g 0 e (Builtin.zeroCells z.cells n).toList 0 cur w hg (by rw [hzl]; omega) hz1'
      have hNs : (List.take (0 + 0) cur.toList ++ (Builtin.zeroCells z.cells n).toList ++ List.drop (0 + 0 + (Builtin.zeroCells z.cells n).toList.length) cur.toList).toArray.size = c * size := by
        simp only [List.size_toArray, List.length_append, List.length_take, List.length_drop, hzl, Array.length_toList]
        omega
      generalize (List.take (0 + 0) cur.toList ++ (Builtin.zeroCells z.cells n).toList ++ List.drop (0 + 0 + (Builtin.zeroCells z.cells n).toList.length) cur.toList).toArray = N at hst hNs
      refine ⟨w.setRow g N, ?_, ⟨by simp, .inr ⟨g, c, N, rfl, hb, setRow_heap w g cur N e _ hg, Nat.zero_le _, hm, hNs, by simp⟩⟩, ⟨rfl, rfl, rfl, by simp, fun k _ hk => setRow_other w g k N (fun q => hk (by simp [Value.ownBlock, q]))⟩⟩
      have hzv : (zeroValue e).run P w = .ok z w := by simp [zeroValue, typeInfo, hi, hz]
      have : ∃ m, n = m + 1 := ⟨n - 1, by omega⟩
      obtain ⟨m, rfl⟩ := this
      simp [Builtin.clear_, run_underlying ht, hzv, hst, Result.andThen]

theorem wpList_clear {Q : Exit → Act → World → Prop} (hgd : o.guard = none) {base : Nat} {t e : TypeId} {i : TypeInfo} {z : Value} {size : Nat} {x : Operand} (ho : o.op = .call { callee := .builtin .clear, args := #[x], argTypes := #[t] })
    (ht : P.underlying t = some (.slice e)) (hi : P.info? e = some i) (hz : i.zero = some z) (hzs : z.cells.size = size) (hz1 : ∀ v ∈ z.cells.toList, v.oneCell' = true)
    {A : Option Addr} {n c : Nat} {xs : List Value} (hx : a.eval x = .slice A n c) (hown : w.ownsRow base e size (.slice A n c) n xs)
    (h : ∀ w', w'.ownsRow base e size (.slice A 0 c) 0 [] → w.grownBy w' (Value.slice A n c).ownBlock → wpList P ops Q rest (a.put o.dst (.tuple #[])) w') : wpList P ops Q (o :: rest) a w := by
  obtain ⟨w', hr, h1, h2⟩ := run_clear_own (P := P) o.type ht hi hz hzs hz1 hown
  refine wpList_plain hgd fun K hK => ?_
  unfold Oper.wp execOp
  simp only [ho, resolve, invoke, builtin, Sem.run_bind, Sem.run_pure, Result.andThen_ok, List.map_toArray, List.map_cons, List.map_nil, hx, hr]
  exact hK _ _ (h w' h1 h2)

theorem exec_box {t : TypeId} {x : Operand} (ho : o.op = .box t x) :
    (execOp a.eval o).run P w = .ok (.value (.pointer (some ⟨w.heap.size, 0, none⟩))) (w.alloc (.cells (a.eval x).cells t)) := by
  unfold execOp
  simp only [ho, Sem.run_bind, Instr.box]
  rfl

/-- A struct that comes in is laid into a block of its own: the world behind it under a name. -/
theorem wpList_box {Q : Exit → Act → World → Prop} {W : World} (hgd : o.guard = none) {t : TypeId} {x : Operand} (ho : o.op = .box t x) {cs : Array Value} (hx : a.eval x = .agg cs) (hW : W = w.alloc (.cells cs t))
    (h : wpList P ops Q rest (a.put o.dst (.pointer (some ⟨w.heap.size, 0, none⟩))) W) : wpList P ops Q (o :: rest) a w := by
  subst hW
  refine wpList_run hgd (exec_box ho) ?_
  rw [hx]
  exact h

theorem exec_arrayAt {t : TypeId} {x : Operand} (ho : o.op = .sliceToArrayPointer t x) {v : Value} (hb : (Instr.arrayAt t (a.eval x)).run P w = .ok v w) :
    (execOp a.eval o).run P w = .ok (.value v) w := by
  unfold execOp
  simp only [ho, Sem.run_bind]
  rw [hb]
  rfl
end
end Go.Proofs.Ytomhofppcogojaa

/- a region that draws its order, whose last operations go one behind the other: those ahead of them may be taken in an order of one's own, where what they read holds till the last ones begin. No program is named; no condition. -/
namespace Go.Proofs.Ytomhofppcogojaa
open Go.RowKit

section
variable {P : Program} {ops : Array Oper} {Q : Exit → Act → World → Prop} {S : World → Prop} {n : Nat}

/-- Whatever comes up next; S holds behind each operation ahead of number n. -/
def Upto (P : Program) (ops : Array Oper) (Q : Exit → Act → World → Prop) (S : World → Prop) (n : Nat) : Nat → Array Bool → Act → World → Prop
  | 0, listed, a, w => Region.ready .any ops listed = [] ∧ Q .normal a w
  | fuel + 1, listed, a, w => (Region.ready .any ops listed = [] → Q .normal a w) ∧
    ∀ i ∈ Region.ready .any ops listed, wpOp P ops Q i (fun a' w' => (i < n → S w') ∧ Upto P ops Q S n fuel (listed.setIfInBounds i true) a' w') a w

theorem any_of_upto : ∀ (fuel : Nat) (listed : Array Bool) (a : Act) (w : World), Upto P ops Q S n fuel listed a w → wpAny P .any ops Q fuel listed a w
  | 0, _, _, _, h => h
  | fuel + 1, _, _, _, h => ⟨h.1, fun i hi => wpOp_mono (fun a' w' h' => any_of_upto fuel _ a' w' h'.2) (h.2 i hi)⟩

/-- The head's state, asked by the kernel. -/
def headB (ops : Array Oper) (n : Nat) (listed : Array Bool) : Bool :=
  listed.size == ops.size && (List.range ops.size).all (fun j => match ops[j]? with
    | none => true
    | some o => !listed.getD j false || o.after.toList.all fun e => !Region.binds .any e || listed.getD e.on false) &&
  (List.range ops.size).all fun t => decide (t < n) || !listed.getD t true

theorem headB_spec {listed : Array Bool} (h : headB ops n listed = true) : HeadInv .any ops n listed := by
  simp only [headB, Bool.and_eq_true, List.all_eq_true, List.mem_range, beq_iff_eq] at h
  obtain ⟨⟨h1, h2⟩, h3⟩ := h
  refine ⟨h1, fun j oj hj hl e he hb => ?_, fun t ht htl => ?_⟩
  · have := h2 j (Array.getElem?_eq_some_iff.1 hj).1
    simp only [hj, hl] at this
    rw [Bool.not_true, Bool.false_or] at this
    have he' := List.all_eq_true.1 this e (by simpa using he)
    simpa [hb] using he'
  · have := h3 t htl
    simpa [Nat.not_lt.2 ht] using this

/-- The region's own facts, asked by the kernel. -/
def tailB (ops : Array Oper) (n : Nat) : Bool := Region.noSelect ops && decide (n < ops.size) && Region.sinkB .any ops n && Region.chainB .any ops n

theorem upto_first (hB : tailB ops n = true) {i : Nat} {oi : Oper} {v : Value} (hin : i < n) (hi : ops[i]? = some oi)
    (hQ : ∀ c a w, Q (.panic c) (a.put oi.dst v) w → Q (.panic c) a w) :
    ∀ (fuel : Nat) (listed : Array Bool) (a : Act) (w : World), HeadInv .any ops n listed →
      (∀ j oj, ops[j]? = some oj → j ≠ i → listed.getD j true = false → (∀ e ∈ oj.after, Region.binds .any e = true → e.on ≠ i) → oi.apart ops oj = true) →
      i ∈ Region.ready .any ops listed → YieldsIf P ops S oi v a → S w →
      Upto P ops Q S n fuel (listed.setIfInBounds i true) (a.put oi.dst v) w → Upto P ops Q S n (fuel + 1) listed a w := by
  simp only [tailB, Bool.and_eq_true, decide_eq_true_eq] at hB
  obtain ⟨⟨⟨hsel0, hns⟩, hsk⟩, hch⟩ := hB
  have hsel := Region.noSelect_spec hsel0
  intro fuel
  induction fuel with
  | zero =>
    intro listed a w _ _ hr hy hS H
    refine ⟨fun h => (by rw [h] at hr; cases hr), fun j hj => ?_⟩
    by_cases hji : j = i
    · subst hji
      exact hy.wpOp hi hS ⟨fun _ => hS, H⟩
    · have := ready_mono hj hji
      rw [H.1] at this
      cases this
  | succ fuel ih =>
    intro listed a w inv hfree hr hy hS H
    refine ⟨fun h => (by rw [h] at hr; cases hr), fun j hj => ?_⟩
    by_cases hji : j = i
    · subst hji
      exact hy.wpOp hi hS ⟨fun _ => hS, H⟩
    · have h1 := H.2 j (ready_mono hj hji)
      have hun := (mem_ready.1 hr).1
      have hjn : j < n := by
        rcases Nat.lt_or_ge j n with h | h
        · exact h
        · exact absurd hj (tail_waits hsk hch hns inv _ i rfl hin hun j h)
      obtain ⟨hjun, oj, hoj, hall⟩ := mem_ready.1 hj
      have hnot : ∀ e ∈ oj.after, Region.binds .any e = true → e.on ≠ i := fun e he hb heq => by
        have h1 := hall e he hb
        rw [heq, getD_both hun] at h1
        cases h1
      have h2 := wpOp_putIf hoj (hfree j oj hoj hji hjun hnot) (fun cs b => hsel i oi cs b hi) (fun cs b => hsel j oj cs b hoj) hQ hy h1
      have hfree' : ∀ k ok, ops[k]? = some ok → k ≠ i → (listed.setIfInBounds j true).getD k true = false →
          (∀ e ∈ ok.after, Region.binds .any e = true → e.on ≠ i) → oi.apart ops ok = true := fun k ok hk hki hunk hno => by
        refine hfree k ok hk hki ?_ hno
        by_cases hjk : j = k
        · subst hjk; exact hjun
        · rw [getD_set_ne true hjk] at hunk; exact hunk
      refine wpOp_mono (fun a' w' h3 => ⟨h3.2.1, ih (listed.setIfInBounds j true) a' w' (inv.set hj hjn) hfree' (ready_mono hr (Ne.symm hji)) h3.1 (h3.2.1 hjn) ?_⟩) h2
      rw [Array.setIfInBounds_comm _ _ hji]
      exact h3.2.2

theorem drop_at {l rest : List Oper} {i : Nat} {o : Oper} (h : l.drop i = o :: rest) : l.toArray[i]? = some o := by
  have h0 : (l.drop i)[0]? = some o := by rw [h]; rfl
  rw [List.getElem?_drop] at h0
  simpa using h0

/-- An operation of the head is taken now. -/
theorem Upto.take {i : Nat} {oi : Oper} {v : Value} {fuel : Nat} {listed : Array Bool} {a : Act} {w : World} {l rest : List Oper} (hi : l.drop i = oi :: rest) (hc : (tailB l.toArray n && decide (i < n) && headB l.toArray n listed && Region.free .any l.toArray listed i && (Region.ready .any l.toArray listed).contains i) = true)
    (hQ : ∀ c a w, Q (.panic c) (a.put oi.dst v) w → Q (.panic c) a w) (hg : oi.guard = none) (hy : ∀ w, S w → (execOp a.eval oi).run P w = .ok (.value v) w) (hS : S w)
    (h : Upto P l.toArray Q S n fuel (listed.setIfInBounds i true) (a.put oi.dst v) w) : Upto P l.toArray Q S n (fuel + 1) listed a w := by
  have hi := drop_at hi
  simp only [Bool.and_eq_true, decide_eq_true_eq] at hc
  obtain ⟨⟨⟨⟨h1, h2⟩, h3⟩, h4⟩, h5⟩ := hc
  exact upto_first h1 h2 hi hQ fuel listed a w (headB_spec h3) (Region.free_spec hi h4) (by simpa using h5) (.inl ⟨wanted_plain hg, hy⟩) hS h

/-- The one operation that may come up now, whatever it does to the world. -/
theorem Upto.only {i : Nat} {oi : Oper} {v : Value} {fuel : Nat} {listed : Array Bool} {a : Act} {w w' : World} {l rest : List Oper} (hi : l.drop i = oi :: rest) (hc : Region.ready .any l.toArray listed = [i])
    (hg : oi.guard = none) (hy : (execOp a.eval oi).run P w = .ok (.value v) w') (hS : S w')
    (h : Upto P l.toArray Q S n fuel (listed.setIfInBounds i true) (a.put oi.dst v) w') : Upto P l.toArray Q S n (fuel + 1) listed a w := by
  have hi := drop_at hi
  refine ⟨fun h0 => (by rw [h0] at hc; cases hc), fun j hj => ?_⟩
  rw [hc] at hj
  have hji : j = i := by simpa using hj
  subst hji
  unfold wpOp
  simp only [hi, wanted_plain hg, if_true]
  refine .inl ?_
  unfold Oper.wp
  rw [hy]
  exact ⟨fun _ => hS, h⟩

/-- The same, by a law of its own. -/
theorem Upto.law {i : Nat} {oi : Oper} {fuel : Nat} {listed : Array Bool} {a : Act} {w : World} {l rest : List Oper} (hi : l.drop i = oi :: rest) (hc : Region.ready .any l.toArray listed = [i]) (hg : oi.guard = none)
    (h : ∀ K : Act → World → Prop, (∀ a' w', S w' → Upto P l.toArray Q S n fuel (listed.setIfInBounds i true) a' w' → K a' w') → oi.wp P a w K Q) : Upto P l.toArray Q S n (fuel + 1) listed a w := by
  have hi := drop_at hi
  refine ⟨fun h0 => (by rw [h0] at hc; cases hc), fun j hj => ?_⟩
  rw [hc] at hj
  have hji : j = i := by simpa using hj
  subst hji
  unfold wpOp
  simp only [hi, wanted_plain hg, if_true]
  exact .inl (h _ fun a' w' hS hU => ⟨fun _ => hS, hU⟩)

/-- A call of a Go function, by its contract. -/
theorem wp_enter {o : Oper} {a : Act} {w : World} {K : Act → World → Prop} {f : FuncId} {args : Array Value} {R : Ending → World → Prop} (hrun : (execOp a.eval o).run P w = .ok (.enter f args) w) (C : Calls P f args w R)
    (hR : ∀ e w', R e w' → ∃ v, e = .returned v ∧ K (a.put o.dst v) w') : o.wp P a w K Q := by
  unfold Oper.wp
  rw [hrun]
  refine C.mono fun e w' h => ?_
  obtain ⟨v, rfl, hK⟩ := hR e w' h
  exact hK

theorem upto_seq : ∀ (l : List Oper) (k : Nat) (listed : Array Bool) (a : Act) (w : World), n ≤ k → (∀ j, l[j]? = ops[k + j]?) →
    Region.seqB .any ops l.length k listed = true → wpList P ops Q l a w → Upto P ops Q S n l.length listed a w
  | [], k, listed, a, w, _, _, hB, h => ⟨by simpa [Region.seqB] using hB, h⟩
  | o :: l, k, listed, a, w, hk, hl, hB, h => by
    have h0 : ops[k]? = some o := by simpa using (hl 0).symm
    simp only [List.length_cons, Region.seqB, Bool.and_eq_true, decide_eq_true_eq] at hB
    refine ⟨fun h1 => (by rw [hB.1] at h1; cases h1), fun i hi => ?_⟩
    rw [hB.1] at hi
    have hik : i = k := by simpa using hi
    subst hik
    have hw : wpOp P ops Q i (wpList P ops Q l) a w := by unfold wpOp; simp only [h0]; exact h
    exact wpOp_mono (fun a' w' h' => ⟨fun hlt => absurd hlt (by omega), upto_seq l (i + 1) _ a' w' (by omega) (fun j => by have := hl (j + 1); simpa [Nat.add_assoc, Nat.add_comm 1 j] using this) hB.2 h'⟩) hw

/-- The last operations, one behind the other. -/
theorem Upto.tail {l : List Oper} {fuel : Nat} {listed : Array Bool} {a : Act} {w : World} (hf : (l.drop n).length = fuel) (hB : Region.seqB .any l.toArray fuel n listed = true) (h : wpList P l.toArray Q (l.drop n) a w) : Upto P l.toArray Q S n fuel listed a w := by
  subst hf
  exact upto_seq (l.drop n) n listed a w (Nat.le_refl _) (fun j => by simp [List.getElem?_drop]) hB h

/-- The beginning. -/
theorem upto_start {id : Nat} {a : Act} {w : World} (S : World → Prop) (n : Nat) (hm : P.follows .mixedOrders = true) (h : Upto P ops Q S n ops.size (Array.replicate ops.size false) a w.drew) : (Code.region id ops true).wp P Q a w :=
  wp_region_any hm (any_of_upto _ _ _ _ h)
end
end Go.Proofs.Ytomhofppcogojaa
