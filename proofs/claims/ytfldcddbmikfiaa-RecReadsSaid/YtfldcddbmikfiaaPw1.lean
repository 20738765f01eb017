/- What it says: contracts and plain mathematics that the laws' walks use, 1 of 34: each part's own remark says what; no condition. -/
import Derived.Laws.World
import Derived.WalkKit
import Derived.Deep.Draws
import Derived.Lib.Hide
import Derived.Laws.AppendOwnNone
import Derived.Test.YtfldcddbmikfiaaRows
import Derived.Lib.SliceRun
import Derived.Laws.BytesArg
import Derived.Lib.ConvBytes
import Derived.Lib.AppendStr
import Derived.Lib.Strings
import Derived.Below

set_option linter.unusedSimpArgs false
set_option linter.unusedVariables false
set_option linter.deprecated false
set_option linter.unusedSectionVars false
set_option linter.all false

/- the simulated disk in plain mathematics: what is synchronized, the writes since, the fuse; what each call makes of it. No program is named. -/
namespace Go.Proofs.Ytfldcddbmikfiaa

/-- A sector's bytes. -/
def Sec (l : List Int) : Prop := l.length = 256 ∧ ∀ x ∈ l, 0 ≤ x ∧ x < 256
def zeros : List Int := List.replicate 256 0
theorem zeros_sec : Sec zeros := ⟨List.length_replicate, fun x hx => by
  obtain ⟨_, rfl⟩ := List.mem_replicate.1 hx
  omega⟩

structure St where
  num : Nat
  syn : Nat → List Int
  pend : List (Nat × List Int)
  left : Int
  gone : Bool
  syncs : Nat

/-- Write number i. -/
def St.at_ (s : St) (i : Nat) : Nat × List Int := s.pend.getD i (0, zeros)

structure St.Ok (s : St) : Prop where
  num : 1 ≤ s.num ∧ s.num ≤ 4096
  syn : ∀ n, Sec (s.syn n)
  pend : ∀ p ∈ s.pend, p.1 < s.num ∧ Sec p.2
  left : -1 ≤ s.left ∧ s.left ≤ 9223372036854775807

theorem St.Ok.at_ {s : St} (h : s.Ok) (i : Nat) (hi : i < s.pend.length) : (s.at_ i).1 < s.num ∧ Sec (s.at_ i).2 := by
  have e : s.at_ i = s.pend[i] := by simp [St.at_, List.getD, List.getElem?_eq_getElem hi]
  rw [e]
  exact h.pend _ (List.getElem_mem hi)

/-- A new disk. -/
def St.new (n : Nat) : St := ⟨n, fun _ => zeros, [], -1, false, 0⟩
theorem St.new_ok {n : Nat} (h : 1 ≤ n ∧ n ≤ 4096) : (St.new n).Ok := ⟨h, fun _ => zeros_sec, fun p hp => by simp [St.new] at hp, by simp [St.new]⟩

/-- May a step be made? -/
def St.can (s : St) : Bool := !s.gone && !(s.left == 0)
/-- Behind the attempt of one. -/
def St.step (s : St) : St := if s.gone then s else if s.left = 0 then { s with gone := true } else if 0 < s.left then { s with left := s.left - 1 } else s

theorem St.step_num (s : St) : s.step.num = s.num := by unfold St.step; split <;> (try rfl); split <;> (try rfl); split <;> rfl
theorem St.step_syn (s : St) : s.step.syn = s.syn := by unfold St.step; split <;> (try rfl); split <;> (try rfl); split <;> rfl
theorem St.step_pend (s : St) : s.step.pend = s.pend := by unfold St.step; split <;> (try rfl); split <;> (try rfl); split <;> rfl
theorem St.step_syncs (s : St) : s.step.syncs = s.syncs := by unfold St.step; split <;> (try rfl); split <;> (try rfl); split <;> rfl
theorem St.Ok.step {s : St} (h : s.Ok) : s.step.Ok := by
  refine ⟨by rw [St.step_num]; exact h.num, by rw [St.step_syn]; exact h.syn, by rw [St.step_pend, St.step_num]; exact h.pend, ?_⟩
  have hl := h.left
  unfold St.step
  split
  · exact hl
  · split
    · exact hl
    · split
      · show -1 ≤ s.left - 1 ∧ s.left - 1 ≤ _
        omega
      · exact hl

/-- n holds l now. -/
def upd (f : Nat → List Int) (n : Nat) (l : List Int) : Nat → List Int := fun m => if m = n then l else f m
theorem upd_sec {f : Nat → List Int} (h : ∀ n, Sec (f n)) {l : List Int} (hl : Sec l) (n : Nat) : ∀ m, Sec (upd f n l m) := fun m => by
  unfold upd
  split
  · exact hl
  · exact h m

/-- What is there behind the first k writes. -/
def St.upTo (s : St) : Nat → Nat → List Int
  | 0 => s.syn
  | k + 1 => upd (s.upTo k) (s.at_ k).1 (s.at_ k).2

theorem St.Ok.upTo {s : St} (h : s.Ok) : ∀ k, k ≤ s.pend.length → ∀ n, Sec (s.upTo k n)
  | 0, _ => h.syn
  | k + 1, hk => upd_sec (h.upTo k (by omega)) (h.at_ k (by omega)).2 _

/-- What is there of a sector. -/
def St.now (s : St) (n : Nat) : List Int := s.upTo s.pend.length n
theorem St.Ok.now {s : St} (h : s.Ok) (n : Nat) : Sec (s.now n) := h.upTo _ (Nat.le_refl _) n

theorem St.upTo_same (s : St) (n i : Nat) : ∀ k, i ≤ k → (∀ j, i ≤ j → j < k → (s.at_ j).1 ≠ n) → s.upTo k n = s.upTo i n
  | 0, h, _ => by
    obtain rfl : i = 0 := by omega
    rfl
  | k + 1, h, hn => by
    by_cases he : i = k + 1
    · subst he; rfl
    · have := hn k (by omega) (by omega)
      show upd (s.upTo k) (s.at_ k).1 (s.at_ k).2 n = _
      unfold upd
      rw [if_neg (fun e => this e.symm)]
      exact St.upTo_same s n i k (by omega) (fun j h1 h2 => hn j h1 (by omega))

theorem St.now_last (s : St) (n i : Nat) (hi : i < s.pend.length) (h : (s.at_ i).1 = n) (hn : ∀ j, i < j → j < s.pend.length → (s.at_ j).1 ≠ n) : s.now n = (s.at_ i).2 := by
  have := St.upTo_same s n (i + 1) s.pend.length (by omega) (fun j h1 h2 => hn j (by omega) h2)
  unfold St.now
  rw [this]
  show upd (s.upTo i) (s.at_ i).1 (s.at_ i).2 n = _
  unfold upd
  rw [if_pos h.symm]

theorem St.now_none (s : St) (n : Nat) (hn : ∀ j, j < s.pend.length → (s.at_ j).1 ≠ n) : s.now n = s.syn n :=
  St.upTo_same s n 0 s.pend.length (Nat.zero_le _) (fun j _ h2 => hn j h2)

/-- Behind a write that is made. -/
def St.wrote (s : St) (n : Nat) (l : List Int) : St := { s.step with pend := s.pend ++ [(n, l)] }
theorem St.Ok.wrote {s : St} (h : s.Ok) {n : Nat} {l : List Int} (hn : n < s.num) (hl : Sec l) : (s.wrote n l).Ok := by
  have h' := h.step
  refine ⟨h'.num, h'.syn, fun p hp => ?_, h'.left⟩
  show p.1 < s.step.num ∧ _
  rw [St.step_num]
  rcases List.mem_append.1 hp with hp | hp
  · exact h.pend p hp
  · simp at hp
    subst hp
    exact ⟨hn, hl⟩

/-- What a write answers. -/
def St.wErr (s : St) (n : Int) (l : List Int) : Int := if n < 0 ∨ (s.num : Int) ≤ n then 1 else if l.length ≠ 256 then 12 else if s.can then 0 else 40
/-- What a write leaves. -/
def St.write (s : St) (n : Int) (l : List Int) : St := if n < 0 ∨ (s.num : Int) ≤ n then s else if l.length ≠ 256 then s else if s.can then s.wrote n.toNat l else s.step

theorem St.Ok.write {s : St} (h : s.Ok) {n : Int} {l : List Int} (hl : ∀ x ∈ l, 0 ≤ x ∧ x < 256) : (s.write n l).Ok := by
  unfold St.write
  split
  · exact h
  · split
    · exact h
    · split
      · exact h.wrote (by omega) ⟨by omega, hl⟩
      · exact h.step

/-- Behind a synchronization that is made. -/
def St.synced (s : St) : St := { s.step with syn := s.now, pend := [], syncs := s.syncs + 1 }
def St.sErr (s : St) : Int := if s.can then 0 else 40
def St.sync (s : St) : St := if s.can then s.synced else s.step
theorem St.Ok.sync {s : St} (h : s.Ok) : s.sync.Ok := by
  unfold St.sync
  split
  · exact ⟨h.step.num, h.now, fun p hp => by simp [St.synced] at hp, h.step.left⟩
  · exact h.step

/-- Behind a fuse. -/
def St.fuse (s : St) (n : Int) : St := { s with left := max n (-1) }
theorem St.Ok.fuse {s : St} (h : s.Ok) {n : Int} (hn : n ≤ 9223372036854775807) : (s.fuse n).Ok := ⟨h.num, h.syn, h.pend, by show -1 ≤ max n (-1) ∧ max n (-1) ≤ _; omega⟩

/-- What a read answers. -/
def St.rErr (s : St) (n : Int) : Int := if n < 0 ∨ (s.num : Int) ≤ n then 1 else if s.gone then 40 else 0

/-- A crash: the writes that are kept, torn or not, and how much of the last one. -/
structure Crs where
  keep : List Int
  torn : Bool
  cut : Int
def clamp (c : Int) : Nat := (min (max c 0) 256).toNat
theorem clamp_le (c : Int) : clamp c ≤ 256 := by unfold clamp; omega
/-- How much is left of write number i, of len. -/
def Crs.of (c : Crs) (len i : Nat) : Nat := if c.torn = true ∧ i + 1 = len then clamp c.cut else if (i : Int) ∈ c.keep then 256 else 0
theorem Crs.of_le (c : Crs) (len i : Nat) : c.of len i ≤ 256 := by
  unfold Crs.of
  split
  · exact clamp_le _
  · split <;> omega

/-- k bytes of l over m. -/
def over (l m : List Int) (k : Nat) : List Int := l.take k ++ m.drop k
theorem over_sec {l m : List Int} (hl : Sec l) (hm : Sec m) (k : Nat) (hk : k ≤ 256) : Sec (over l m k) := by
  refine ⟨by simp [over, hl.1, hm.1]; omega, fun x hx => ?_⟩
  rcases List.mem_append.1 hx with h | h
  · exact hl.2 x (List.mem_of_mem_take h)
  · exact hm.2 x (List.mem_of_mem_drop h)

/-- What a crash has left behind the first k writes. -/
def St.left_ (s : St) (cut : Nat → Nat) : Nat → Nat → List Int
  | 0 => s.syn
  | k + 1 => upd (s.left_ cut k) (s.at_ k).1 (over (s.at_ k).2 (s.left_ cut k (s.at_ k).1) (cut k))

theorem St.Ok.left_ {s : St} (h : s.Ok) {cut : Nat → Nat} (hc : ∀ i, cut i ≤ 256) : ∀ k, k ≤ s.pend.length → ∀ n, Sec (s.left_ cut k n)
  | 0, _ => h.syn
  | k + 1, hk => upd_sec (h.left_ hc k (by omega)) (over_sec (h.at_ k (by omega)).2 (h.left_ hc k (by omega) _) _ (hc k)) _

def St.crash (s : St) (c : Crs) : St := ⟨s.num, s.left_ (c.of s.pend.length) s.pend.length, [], -1, false, 0⟩
theorem St.Ok.crash {s : St} (h : s.Ok) (c : Crs) : (s.crash c).Ok := ⟨h.num, h.left_ (c.of_le _) _ (Nat.le_refl _), fun p hp => by simp [St.crash] at hp, by simp [St.crash]⟩

/-- Blocks of one size, one behind the other. -/
theorem flatMap_at {α β : Type} (f : α → List β) (k : Nat) : ∀ (l : List α) (i j : Nat) (x : α), (∀ y ∈ l, (f y).length = k) → l[i]? = some x → j < k → (l.flatMap f)[i * k + j]? = (f x)[j]?
  | [], i, j, x, _, h, _ => by simp at h
  | y :: r, 0, j, x, hl, h, hj => by
    simp at h
    subst h
    have := hl y (.head _)
    rw [List.flatMap_cons, List.getElem?_append_left (by omega)]
    simp
  | y :: r, i + 1, j, x, hl, h, hj => by
    have hy := hl y (.head _)
    rw [List.flatMap_cons, List.getElem?_append_right (by rw [hy, Nat.add_mul]; omega)]
    rw [show (i + 1) * k + j - (f y).length = i * k + j from by rw [hy, Nat.add_mul]; omega]
    exact flatMap_at f k r i j x (fun z hz => hl z (.tail _ hz)) (by simpa using h) hj

theorem flatMap_len {α β : Type} (f : α → List β) (k : Nat) : ∀ (l : List α), (∀ y ∈ l, (f y).length = k) → (l.flatMap f).length = l.length * k
  | [], _ => by simp
  | y :: r, hl => by
    rw [List.flatMap_cons, List.length_append, hl y (.head _), flatMap_len f k r (fun z hz => hl z (.tail _ hz))]
    simp [Nat.add_mul, Nat.add_comm]
end Go.Proofs.Ytfldcddbmikfiaa

/- stamped sectors in plain mathematics: the next stamp, a wrapped payload, what is opened. No program is named. -/
namespace Go.Proofs.Ytfldcddbmikfiaa

/-- The stamp for a sector with these two ends. -/
def nextB (a b : Int) : Int := if a ≠ 1 ∧ b ≠ 1 then 1 else if a ≠ 2 ∧ b ≠ 2 then 2 else 3
theorem nextB_rng (a b : Int) : 1 ≤ nextB a b ∧ nextB a b ≤ 3 := by unfold nextB; split <;> (try split) <;> omega
theorem nextB_ne (a b : Int) : nextB a b ≠ a ∧ nextB a b ≠ b := by
  unfold nextB
  split
  · omega
  · split <;> omega
theorem nextB_one {a b : Int} (h : a ≠ 1 ∧ b ≠ 1) : nextB a b = 1 := by unfold nextB; rw [if_pos h]
theorem nextB_two {a b : Int} (h1 : a = 1 ∨ b = 1) (h : a ≠ 2 ∧ b ≠ 2) : nextB a b = 2 := by unfold nextB; rw [if_neg (by omega), if_pos h]
theorem nextB_three {a b : Int} (h1 : a = 1 ∨ b = 1) (h : a = 2 ∨ b = 2) : nextB a b = 3 := by unfold nextB; rw [if_neg (by omega), if_neg (by omega)]
def nextOf (l : List Int) : Int := nextB (l.getD 0 0) (l.getD 255 0)
theorem nextOf_rng (l : List Int) : 1 ≤ nextOf l ∧ nextOf l ≤ 3 := nextB_rng _ _

/-- A payload, noughts behind it. -/
def padL (p : List Int) : List Int := p ++ List.replicate (254 - p.length) 0
theorem padL_len {p : List Int} (h : p.length ≤ 254) : (padL p).length = 254 := by simp [padL]; omega
theorem padL_rng {p : List Int} (h : ∀ x ∈ p, 0 ≤ x ∧ x < 256) : ∀ x ∈ padL p, 0 ≤ x ∧ x < 256 := by
  intro x hx
  rcases List.mem_append.1 hx with q | q
  · exact h x q
  · obtain ⟨_, rfl⟩ := List.mem_replicate.1 q
    omega
theorem padL_full {p : List Int} (h : p.length = 254) : padL p = p := by simp [padL, h]

/-- A sector of a stamp and a payload. -/
def wrapL (m : Int) (p : List Int) : List Int := m :: (padL p ++ [m])
theorem wrapL_sec {m : Int} {p : List Int} (hm : 0 ≤ m ∧ m < 256) (hp : ∀ x ∈ p, 0 ≤ x ∧ x < 256) (h : p.length ≤ 254) : Sec (wrapL m p) := by
  refine ⟨by simp [wrapL, padL_len h], fun x hx => ?_⟩
  rcases List.mem_cons.1 hx with q | q
  · rw [q]; exact hm
  · rcases List.mem_append.1 q with q | q
    · exact padL_rng hp x q
    · simp at q; rw [q]; exact hm
theorem wrapL_first (m : Int) (p : List Int) : (wrapL m p).getD 0 0 = m := rfl
theorem wrapL_last {m : Int} {p : List Int} (h : p.length ≤ 254) : (wrapL m p).getD 255 0 = m := by
  have hl := padL_len h
  unfold wrapL
  rw [List.getD_eq_getElem?_getD, List.getElem?_cons_succ, List.getElem?_append_right (by omega), hl]
  rfl

/-- What lies between a sector's ends. -/
def bodyL (l : List Int) : List Int := (l.drop 1).take 254
theorem bodyL_len {l : List Int} (h : l.length = 256) : (bodyL l).length = 254 := by simp [bodyL, h]
theorem bodyL_rng {l : List Int} (h : ∀ x ∈ l, 0 ≤ x ∧ x < 256) : ∀ x ∈ bodyL l, 0 ≤ x ∧ x < 256 := fun x hx => h x (List.mem_of_mem_drop (List.mem_of_mem_take hx))
theorem bodyL_wrap {m : Int} {p : List Int} (h : p.length ≤ 254) : bodyL (wrapL m p) = padL p := by
  unfold bodyL wrapL
  rw [List.drop_succ_cons, List.drop_zero, List.take_append_of_le_length (by rw [padL_len h]; omega), List.take_of_length_le (by rw [padL_len h]; omega)]
theorem ends_eq {l : List Int} (h : l.length = 256) : l = l.getD 0 0 :: (bodyL l ++ [l.getD 255 0]) := by
  obtain ⟨x, r, rfl⟩ : ∃ x r, l = x :: r := by
    cases l with
    | nil => simp at h
    | cons x r => exact ⟨x, r, rfl⟩
  have hr : r.length = 255 := by simpa using h
  show x :: r = x :: _
  congr 1
  unfold bodyL
  rw [List.drop_succ_cons, List.drop_zero]
  have e : r.drop 254 = [(x :: r).getD 255 0] := by
    rw [List.getD_eq_getElem?_getD, List.getElem?_cons_succ, List.getElem?_eq_getElem (by omega), List.drop_eq_getElem_cons (by omega), List.drop_of_length_le (by omega)]
    rfl
  rw [← e, List.take_append_drop]
theorem wrap_body {l : List Int} (h : l.length = 256) (he : l.getD 0 0 = l.getD 255 0) : wrapL (l.getD 0 0) (bodyL l) = l := by
  unfold wrapL
  rw [padL_full (bodyL_len h)]
  have q := ends_eq h
  rw [← he] at q
  exact q.symm

/-- Is a sector right? -/
def rightL (l : List Int) : Prop := l.getD 0 0 = l.getD 255 0 ∧ 1 ≤ l.getD 0 0 ∧ l.getD 0 0 ≤ 3
instance (l : List Int) : Decidable (rightL l) := by unfold rightL; infer_instance
def openE (l : List Int) : Int := if l.length ≠ 256 then 12 else if rightL l then 0 else 50
def openB (l : List Int) : List Int := if openE l = 0 then bodyL l else []
theorem openE_len {l : List Int} (h : l.length ≠ 256) : openE l = 12 := by unfold openE; rw [if_pos h]
theorem openE_right {l : List Int} (h : l.length = 256) (hr : rightL l) : openE l = 0 := by unfold openE; rw [if_neg (by omega), if_pos hr]
theorem openE_torn {l : List Int} (h : l.length = 256) (hr : ¬ rightL l) : openE l = 50 := by unfold openE; rw [if_neg (by omega), if_neg hr]
theorem openB_right {l : List Int} (h : l.length = 256) (hr : rightL l) : openB l = bodyL l := by unfold openB; rw [if_pos (openE_right h hr)]
theorem openB_bad {l : List Int} (h : openE l ≠ 0) : openB l = [] := by unfold openB; rw [if_neg h]
theorem right_wrap {m : Int} {p : List Int} (hm : 1 ≤ m ∧ m ≤ 3) (h : p.length ≤ 254) : rightL (wrapL m p) := by
  unfold rightL
  rw [wrapL_first, wrapL_last h]
  exact ⟨rfl, hm.1, hm.2⟩

/-- What Wrap answers. -/
def wrapE (m : Int) (p : List Int) : Int := if m < 1 ∨ 3 < m then 1 else if 254 < p.length then 12 else 0
def wrapB (m : Int) (p : List Int) : List Int := if wrapE m p = 0 then wrapL m p else []
theorem wrapE_arg {m : Int} {p : List Int} (h : m < 1 ∨ 3 < m) : wrapE m p = 1 := by unfold wrapE; rw [if_pos h]
theorem wrapE_long {m : Int} {p : List Int} (h : ¬ (m < 1 ∨ 3 < m)) (hl : 254 < p.length) : wrapE m p = 12 := by unfold wrapE; rw [if_neg h, if_pos hl]
theorem wrapE_ok {m : Int} {p : List Int} (h : ¬ (m < 1 ∨ 3 < m)) (hl : ¬ 254 < p.length) : wrapE m p = 0 := by unfold wrapE; rw [if_neg h, if_neg hl]
theorem wrapB_ok {m : Int} {p : List Int} (h : ¬ (m < 1 ∨ 3 < m)) (hl : ¬ 254 < p.length) : wrapB m p = wrapL m p := by unfold wrapB; rw [if_pos (wrapE_ok h hl)]
theorem wrapB_bad {m : Int} {p : List Int} (h : wrapE m p ≠ 0) : wrapB m p = [] := by unfold wrapB; rw [if_neg h]

/-- What Next answers. -/
def nextE (l : List Int) : Int := if l.length ≠ 256 then 12 else 0
def nextV (l : List Int) : Int := if l.length ≠ 256 then 0 else nextOf l

/-- The first k bytes of a new sector, over one that had another stamp at both ends. -/
theorem torn_mix {m : Int} {p old : List Int} (hp : p.length ≤ 254) (ho : old.length = 256) (hm : m ≠ old.getD 255 0) (k : Nat) (h0 : 0 < k) (hk : k < 256) : ¬ rightL ((wrapL m p).take k ++ old.drop k) := by
  have hw : (wrapL m p).length = 256 := by simp [wrapL, padL_len hp]
  have h1 : ((wrapL m p).take k ++ old.drop k).getD 0 0 = m := by
    obtain ⟨j, rfl⟩ : ∃ j, k = j + 1 := ⟨k - 1, by omega⟩
    rfl
  have h2 : ((wrapL m p).take k ++ old.drop k).getD 255 0 = old.getD 255 0 := by
    have hl : ((wrapL m p).take k).length = k := by rw [List.length_take, hw]; omega
    rw [List.getD_eq_getElem?_getD, List.getD_eq_getElem?_getD, List.getElem?_append_right (by omega), List.getElem?_drop, hl]
    congr 2
    omega
  intro ⟨q, _⟩
  rw [h1, h2] at q
  exact hm q
end Go.Proofs.Ytfldcddbmikfiaa

/- a slice value reads as a list of bytes, and goes on reading so behind new blocks, draws, and writes to blocks of the call's own. No program is named; no condition. -/
namespace Go.Proofs.Ytfldcddbmikfiaa
open Go.RowKit

/-- The slice '.slice A n c' reads as the bytes l. -/
structure Byt (w : World) (A : Option Addr) (n c : Nat) (l : List Int) : Prop where
  len : l.length = n
  cap : n ≤ c
  max : c ≤ maxLen
  rng : ∀ x ∈ l, 0 ≤ x ∧ x < 256
  nil_ : A = none → n = 0 ∧ c = 0
  at_ : 0 < n → ∃ g off, A = some ⟨g, off, none⟩ ∧ ∀ i, i < n → w.cell? ⟨g, off + i, none⟩ = some (.int .u8 (l.getD i 0))

section
variable {w w' : World} {A : Option Addr} {n c : Nat} {l : List Int}

theorem Byt.nil (w : World) : Byt w none 0 0 [] := ⟨rfl, Nat.le_refl _, Nat.zero_le _, by simp, fun _ => ⟨rfl, rfl⟩, fun h => absurd h (by omega)⟩

theorem Byt.keep (h : Byt w A n c l) (hk : ∀ (p : Addr) u, w.cell? p = some u → w'.cell? p = some u) : Byt w' A n c l :=
  ⟨h.len, h.cap, h.max, h.rng, h.nil_, fun hn => by
    obtain ⟨g, off, e, hc⟩ := h.at_ hn
    exact ⟨g, off, e, fun i hi => hk _ _ (hc i hi)⟩⟩

theorem Byt.below (h : Byt w A n c l) (hb : Below w.heap.size w w') : Byt w' A n c l :=
  h.keep fun p _ hu => (hb.cell (World.block_lt_of_cell? w p hu)).trans hu

theorem Byt.drewN (h : Byt w A n c l) (k : Nat) : Byt (w.drewN k) A n c l := h.keep fun _ _ hu => hu
theorem Byt.drew (h : Byt w A n c l) : Byt w.drew A n c l := h.keep fun _ _ hu => hu

theorem Byt.alloc (h : Byt w A n c l) (o : Obj) : Byt (w.alloc o) A n c l :=
  h.below ((Below.refl _ _).alloc (Nat.le_refl _) o)

theorem Byt.lt_ (h : Byt w A n c l) (i : Nat) (hi : i < n) : 0 ≤ l.getD i 0 ∧ l.getD i 0 < 256 := by
  have hl : i < l.length := by rw [h.len]; exact hi
  have : l.getD i 0 = l[i] := by simp [List.getD, List.getElem?_eq_getElem hl]
  rw [this]
  exact h.rng _ (List.getElem_mem hl)

/-- What the call owns reads as bytes. -/
theorem Byt.of_own {base : Nat} {e : TypeId} (h : w.ownsRow base e 1 (.slice A n c) n (l.map (Value.int .u8))) (hr : ∀ x ∈ l, 0 ≤ x ∧ x < 256) : Byt w A n c l := by
  have hl : l.length = n := by simpa using h.1
  rcases h.2 with ⟨hv, hn⟩ | ⟨g, cap, cur, hv, hb, hg, hnc, hm, hs, ht⟩
  · injection hv with h1 h2 h3
    subst h1 h2 h3
    exact ⟨hl, Nat.le_refl _, Nat.zero_le _, hr, fun _ => ⟨rfl, rfl⟩, fun h => absurd h (by omega)⟩
  · injection hv with h1 h2 h3
    subst h1 h3
    refine ⟨hl, hnc, hm, hr, (fun h => nomatch h), fun _ => ⟨g, 0, rfl, fun i hi => ?_⟩⟩
    have := h.cells (g := g) rfl i (.int .u8 (l.getD i 0)) (by
      have hil : i < l.length := by omega
      simp [List.getElem?_map, List.getElem?_eq_getElem hil, List.getD])
    have hadd : (⟨g, 0, none⟩ : Addr).add i = ⟨g, 0 + i, none⟩ := by unfold Addr.add; split <;> simp_all
    rwa [hadd] at this

/-- A cut at the end: 's[:k]'. -/
theorem Byt.take (h : Byt w A n c l) (k : Nat) (hk : k ≤ n) : Byt w A k c (l.take k) := by
  refine ⟨by rw [List.length_take, h.len]; omega, by have := h.cap; omega, h.max, fun x hx => h.rng x (List.mem_of_mem_take hx), fun e => ⟨by have := (h.nil_ e).1; omega, (h.nil_ e).2⟩, fun hk0 => ?_⟩
  obtain ⟨g, off, e, hc⟩ := h.at_ (by omega)
  refine ⟨g, off, e, fun i hi => ?_⟩
  rw [hc i (by omega)]
  congr 2
  simp [List.getD, hi]

/-- The cells as a list, for the laws on append. -/
theorem Byt.cells (h : Byt w A n c l) (ad : Addr) (hA : A = some ad) : ∀ j u, (l.map (Value.int .u8))[j]? = some u → w.cell? (ad.add j) = some u := by
  intro j u hu
  rw [List.getElem?_map] at hu
  have hj : j < l.length := by
    rcases Nat.lt_or_ge j l.length with h1 | h1
    · exact h1
    · rw [List.getElem?_eq_none h1] at hu; simp at hu
  obtain ⟨g, off, e, hc⟩ := h.at_ (by rw [← h.len]; omega)
  rw [hA] at e
  injection e with e
  subst e
  rw [List.getElem?_eq_getElem hj] at hu
  have hadd : (⟨g, off, none⟩ : Addr).add j = ⟨g, off + j, none⟩ := by unfold Addr.add; split <;> simp_all
  rw [hadd, hc j (by rw [← h.len]; exact hj)]
  simp at hu
  rw [← hu]
  simp [List.getD, List.getElem?_eq_getElem hj]
end

theorem u8_one (l : List Int) : ∀ u ∈ l.map (Value.int .u8), u.oneCell' = true := by
  intro u hu
  obtain ⟨x, _, rfl⟩ := List.mem_map.1 hu
  rfl

/-- An operation whose guard says go. -/
theorem wpList_guarded {P : Program} {w : World} {ops : Array Oper} {rest : List Oper} {o : Oper} {a : Act} {Q : Exit → Act → World → Prop} (hw : Region.wanted o (yielded ops a.tmps) = true)
    (h : ∀ K : Act → World → Prop, (∀ a w, wpList P ops Q rest a w → K a w) → o.wp P a w K Q) : wpList P ops Q (o :: rest) a w :=
  wpList_step fun K hK => by rw [if_pos hw]; exact h K hK

theorem wp_append_byt {P : Program} {w : World} {o : Oper} {a : Act} {K : Act → World → Prop} {Q : Exit → Act → World → Prop} (s x : Operand) (t : TypeId)
    (ho : o.op = .call { callee := .builtin .append, args := #[s, x], argTypes := #[t, t] })
    (base : Nat) (e : TypeId) (i : TypeInfo) (ht : P.underlying t = some (.slice e)) (hi : P.info? e = some i) (hz : i.zero = some (.int .u8 0)) (hsize : i.size = 1) (hby : i.bytes = 1)
    (v : Value) (k : Nat) (xs : List Int) (hs : a.eval s = v) (hown : w.ownsRow base e 1 v k (xs.map (Value.int .u8)))
    (A : Option Addr) (n c : Nat) (l : List Int) (hx : a.eval x = .slice A n c) (hl : Byt w A n c l)
    (hbytes : k + n ≤ 140737488355328) (hbase : base ≤ w.heap.size)
    (h : ∀ A' c' w', w'.ownsRow base e 1 (.slice A' (k + n) c') (k + n) ((xs ++ l).map (Value.int .u8)) → w.grownBy w' v.ownBlock → K (a.put o.dst (.slice A' (k + n) c')) w') : o.wp P a w K Q := by
  have form : ∀ (v' : Value) (w' : World) (m : Nat) (ys : List Value), w'.ownsRow base e 1 v' m ys → ∃ A' c', v' = .slice A' m c' := by
    intro v' w' m ys ho'
    rcases ho'.2 with ⟨h1, h2⟩ | ⟨g, cap, _, h1, _⟩
    · subst h2; exact ⟨none, 0, h1⟩
    · exact ⟨_, _, h1⟩
  cases A with
  | none =>
    obtain ⟨rfl, rfl⟩ := hl.nil_ rfl
    have hl0 : l = [] := List.eq_nil_of_length_eq_zero hl.len
    subst hl0
    have hrun := run_append_owned_none (P := P) (w := w) base t o.type e i 1 ht hi v k _ hown
    obtain ⟨A', c', rfl⟩ := form _ _ _ _ hown
    have h' := h A' c' w
    simp only [Nat.add_zero, List.append_nil] at h'
    unfold Oper.wp
    simp [execOp, ho, resolve, invoke, builtin, hs, hx, hrun, Result.andThen]
    exact h' hown (World.grownBy.refl w _)
  | some ad =>
    refine wp_append_own w s x t ho base e i (.int .u8 0) 1 1 ht hi hz hsize hby rfl (by decide) v k _ hs hown ad n c (l.map (Value.int .u8)) hx (by simp [hl.len]) (hl.cells ad rfl) (u8_one l) (by unfold maxLen; omega) (by omega) hbase ?_
    intro v' w' h1 h2 _
    obtain ⟨A', c', rfl⟩ := form _ _ _ _ h1
    exact h A' c' w' (by simpa using h1) h2

/-- 'out = append(out, xs...)': out a row of the call's own, xs any slice of bytes. -/
theorem wpList_append_byt {P : Program} {w : World} {ops : Array Oper} {rest : List Oper} {o : Oper} {a : Act} {Q : Exit → Act → World → Prop} (hgd : o.guard = none) (s x : Operand) (t : TypeId)
    (ho : o.op = .call { callee := .builtin .append, args := #[s, x], argTypes := #[t, t] })
    (base : Nat) (e : TypeId) (i : TypeInfo) (ht : P.underlying t = some (.slice e)) (hi : P.info? e = some i) (hz : i.zero = some (.int .u8 0)) (hsize : i.size = 1) (hby : i.bytes = 1)
    (v : Value) (k : Nat) (xs : List Int) (hs : a.eval s = v) (hown : w.ownsRow base e 1 v k (xs.map (Value.int .u8)))
    (A : Option Addr) (n c : Nat) (l : List Int) (hx : a.eval x = .slice A n c) (hl : Byt w A n c l)
    (hbytes : k + n ≤ 140737488355328) (hbase : base ≤ w.heap.size)
    (h : ∀ A' c' w', w'.ownsRow base e 1 (.slice A' (k + n) c') (k + n) ((xs ++ l).map (Value.int .u8)) → w.grownBy w' v.ownBlock → wpList P ops Q rest (a.put o.dst (.slice A' (k + n) c')) w') :
    wpList P ops Q (o :: rest) a w :=
  wpList_plain hgd fun _ hK => wp_append_byt s x t ho base e i ht hi hz hsize hby v k xs hs hown A n c l hx hl hbytes hbase fun A' c' w' h1 h2 => hK _ _ (h A' c' w' h1 h2)

/-- The same behind a guard that says go. -/
theorem wpList_append_byt_g {P : Program} {w : World} {ops : Array Oper} {rest : List Oper} {o : Oper} {a : Act} {Q : Exit → Act → World → Prop} (hgd : Region.wanted o (yielded ops a.tmps) = true) (s x : Operand) (t : TypeId)
    (ho : o.op = .call { callee := .builtin .append, args := #[s, x], argTypes := #[t, t] })
    (base : Nat) (e : TypeId) (i : TypeInfo) (ht : P.underlying t = some (.slice e)) (hi : P.info? e = some i) (hz : i.zero = some (.int .u8 0)) (hsize : i.size = 1) (hby : i.bytes = 1)
    (v : Value) (k : Nat) (xs : List Int) (hs : a.eval s = v) (hown : w.ownsRow base e 1 v k (xs.map (Value.int .u8)))
    (A : Option Addr) (n c : Nat) (l : List Int) (hx : a.eval x = .slice A n c) (hl : Byt w A n c l)
    (hbytes : k + n ≤ 140737488355328) (hbase : base ≤ w.heap.size)
    (h : ∀ A' c' w', w'.ownsRow base e 1 (.slice A' (k + n) c') (k + n) ((xs ++ l).map (Value.int .u8)) → w.grownBy w' v.ownBlock → wpList P ops Q rest (a.put o.dst (.slice A' (k + n) c')) w') :
    wpList P ops Q (o :: rest) a w :=
  wpList_guarded hgd fun _ hK => wp_append_byt s x t ho base e i ht hi hz hsize hby v k xs hs hown A n c l hx hl hbytes hbase fun A' c' w' h1 h2 => hK _ _ (h A' c' w' h1 h2)

/-- 'T{x}': a new slice of one byte. -/
theorem own_one (W : World) (base : Nat) (e : TypeId) (x : Int) (hb : base ≤ W.heap.size) :
    (W.alloc (.cells #[.int .u8 x] e)).ownsRow base e 1 (.slice (some ⟨W.heap.size, 0, none⟩) 1 1) 1 ([x].map (Value.int .u8)) :=
  ⟨by simp, .inr ⟨W.heap.size, 1, _, rfl, hb, heap_alloc_new W _, Nat.le_refl _, by unfold maxLen; omega, by simp, by simp⟩⟩

/-- Block g is just the cells cs, of type t. -/
def Bk (w : World) (g : Nat) (t : TypeId) (cs : Array Value) : Prop := w.heap[g]? = some (.cells cs t (0, 0))

section
variable {w w' : World} {g : Nat} {t : TypeId} {cs : Array Value}
theorem Bk.lt (h : Bk w g t cs) : g < w.heap.size := (Array.getElem?_eq_some_iff.1 h).1
theorem Bk.cell (h : Bk w g t cs) (i : Nat) : w.cell? ⟨g, i, none⟩ = cs[i]? := cell_of_row w g i cs t (0, 0) h
theorem Bk.frz (h : Bk w g t cs) (i : Nat) : w.frozen? ⟨g, i, none⟩ = false := by
  unfold Bk at h
  simp [World.frozen?, h]
theorem Bk.new (w : World) (t : TypeId) (cs : Array Value) : Bk (w.alloc (.cells cs t)) w.heap.size t cs := heap_alloc_new w _
theorem Bk.setc (h : Bk w g t cs) (i : Nat) (u : Value) : Bk (w.setCell ⟨g, i, none⟩ u) g t (cs.setIfInBounds i u) := by
  unfold Bk at h ⊢
  simp [World.setCell, Array.getElem?_modify, h]
theorem Bk.bel (h : Bk w g t cs) {B : Nat} (hb : Below B w w') (hg : g < B) : Bk w' g t cs := (hb.block g hg).trans h
end

/-- A part of a block of bytes reads as a list. -/
theorem Byt.of_bk {w : World} {g : Nat} {t : TypeId} {cs : Array Value} (h : Bk w g t cs) (off n c : Nat) (l : List Int) (hl : l.length = n) (hc : n ≤ c) (hm : c ≤ maxLen) (hr : ∀ x ∈ l, 0 ≤ x ∧ x < 256)
    (ha : ∀ i, i < n → cs[off + i]? = some (.int .u8 (l.getD i 0))) : Byt w (some ⟨g, off, none⟩) n c l :=
  ⟨hl, hc, hm, hr, (fun h => nomatch h), fun _ => ⟨g, off, rfl, fun i hi => by rw [h.cell]; exact ha i hi⟩⟩

/-- 'T{x, y, ..}': a new block of bytes reads as them. -/
theorem Byt.lit (W : World) (t : TypeId) (l : List Int) (n : Nat) (hl : l.length = n) (hm : n ≤ maxLen) (hr : ∀ x ∈ l, 0 ≤ x ∧ x < 256) : Byt (W.alloc (.cells (l.map (Value.int .u8)).toArray t)) (some ⟨W.heap.size, 0, none⟩) n n l :=
  Byt.of_bk (Bk.new W t _) 0 n n l hl (Nat.le_refl _) hm hr (fun i hi => by
    have hil : i < l.length := by omega
    simp [List.getElem?_eq_getElem hil])

/-- The same where the block bears a mark ('[]byte("abc")' of a constant). -/
theorem Byt.lit_mark (W : World) (t : TypeId) (fr : Nat × Nat) (l : List Int) (n : Nat) (hl : l.length = n) (hm : n ≤ maxLen) (hr : ∀ x ∈ l, 0 ≤ x ∧ x < 256) : Byt (W.alloc (.cells (l.map (Value.int .u8)).toArray t fr)) (some ⟨W.heap.size, 0, none⟩) n n l :=
  ⟨hl, Nat.le_refl _, hm, hr, (fun h => nomatch h), fun _ => ⟨W.heap.size, 0, rfl, fun i hi => by
    have hil : i < l.length := by omega
    rw [cell_of_row _ _ _ _ _ _ (heap_alloc_new W _)]
    simp [List.getElem?_eq_getElem hil, List.getD]⟩⟩

/-- A call answers v; what was there reads as before. -/
def Ret (v : Value) (w : World) (e : Ending) (w' : World) : Prop := e = .returned v ∧ Below w.heap.size w w'

/-- A call hands back a slice that reads as l, in new memory; what was there reads as before. -/
def RetByt (l : List Int) (w : World) (e : Ending) (w' : World) : Prop :=
  ∃ A n c, e = .returned (.slice A n c) ∧ Byt w' A n c l ∧ Below w.heap.size w w'

/-- A slice that reads as l, and a number beside it. -/
def RetByt2 (l : List Int) (k : IntKind) (x : Int) (w : World) (e : Ending) (w' : World) : Prop :=
  ∃ A n c, e = .returned (.tuple #[.slice A n c, .int k x]) ∧ Byt w' A n c l ∧ Below w.heap.size w w'

/-- What the call says, and that it draws at most. -/
def Quiet (v : Value) (w : World) (e : Ending) (w' : World) : Prop := e = .returned v ∧ ∃ k, w' = w.drewN k

theorem below_drewN {B : Nat} {a w : World} (h : Below B a w) (n : Nat) : Below B a (w.drewN n) := ⟨h.os, h.tape, h.output, h.size, h.block⟩

theorem Below.then {w w1 w2 : World} (h : Below w.heap.size w w1) (k : Below w1.heap.size w1 w2) : Below w.heap.size w w2 :=
  h.trans (k.mono h.size)

/-- A call that draws at most, told as one that leaves what was there. -/
theorem Quiet.ret {P : Program} {f : FuncId} {args : Array Value} {v : Value} {w : World} (h : Calls P f args w (Quiet v w)) : Calls P f args w (Ret v w) :=
  h.mono fun _ _ ⟨he, k, hw⟩ => ⟨he, by rw [hw]; exact below_drewN (Below.refl _ _) k⟩

end Go.Proofs.Ytfldcddbmikfiaa

/- the statements' own() hands back the same bytes in new memory; the slice that comes in holds at most 2^47 bytes. -/
namespace Go.Proofs.Ytfldcddbmikfiaa
open Go.RowKit

theorem info_u8 : (Try.prog.info? 5).map (fun i => (i.zero, i.size, i.bytes)) = some (some (.int .u8 0), 1, 1) := by kernel_rfl

/-- A call hands back a row of its own that reads as l. -/
def RetOwn (l : List Int) (w : World) (e : Ending) (w' : World) : Prop :=
  ∃ A n c, e = .returned (.slice A n c) ∧ w'.ownsRow w.heap.size 5 1 (.slice A n c) n (l.map (Value.int .u8)) ∧ (∀ x ∈ l, 0 ≤ x ∧ x < 256) ∧ Below w.heap.size w w'

theorem RetOwn.byt {l : List Int} {w : World} {e : Ending} {w' : World} (h : RetOwn l w e w') : RetByt l w e w' := by
  obtain ⟨A, n, c, he, ho, hr, hb⟩ := h
  exact ⟨A, n, c, he, Byt.of_own ho hr, hb⟩

theorem own_end {w w' : World} {A' : Option Addr} {n c' : Nat} {l : List Int} (hr : ∀ x ∈ l, 0 ≤ x ∧ x < 256)
    (h1 : w'.ownsRow w.heap.size 5 1 (.slice A' n c') n (l.map (Value.int .u8))) (h2 : (w.alloc (.cells #[] 5)).grownBy w' (Value.ownBlock (.slice (some ⟨w.heap.size, 0, none⟩) 0 0))) :
    RetOwn l w (.returned (.slice A' n c')) w' :=
  ⟨A', n, c', rfl, h1, hr, ((Below.refl _ _).alloc (Nat.le_refl _) _).grown h2 (by simp) (by intro k hk; simp [Value.ownBlock] at hk; omega)⟩

/- What an append onto a row of one's own leaves. -/
theorem app_below {w1 w2 w3 : World} {v : Value} {k : Nat} {e : TypeId} {xs : List Value} (b2 : Below w1.heap.size w1 w2) (ho : w2.ownsRow w1.heap.size e 1 v k xs) (hg : w2.grownBy w3 v.ownBlock) : Below w1.heap.size w1 w3 :=
  b2.grown hg b2.size (fun i hi => (ho.lt i hi).1)

theorem app_byt {B : Nat} {w : World} {e : TypeId} {A : Option Addr} {m c : Nat} {xs ys : List Int} (h : w.ownsRow B e 1 (.slice A m c) m (xs.map (Value.int .u8) ++ ys.map (Value.int .u8))) (hx : ∀ x ∈ xs, 0 ≤ x ∧ x < 256) (hy : ∀ x ∈ ys, 0 ≤ x ∧ x < 256) : Byt w A m c (xs ++ ys) := by
  rw [← List.map_append] at h
  exact Byt.of_own h (fun x hx' => by
    rcases List.mem_append.1 hx' with h | h
    · exact hx x h
    · exact hy x h)

/-- n noughts. -/
def noughts (n : Nat) : Array Value := madeCells #[.int .u8 0] n
theorem noughts_size (n : Nat) : (noughts n).size = n := size_madeCells _ _

theorem make_bytes (n : Nat) (hn : n ≤ 281474976710656) (W : World) : (Instr.makeSlice 33 (.int .i64 (n : Int)) (.int .i64 (n : Int))).run Try.prog W =
    .ok (.slice (some ⟨W.heap.size, 0, none⟩) n n) (W.alloc (.cells (noughts n) 5)) := by
  obtain ⟨i0, hi, hz0, hz1, hz2⟩ := info_parts info_u8
  have := run_make (P := Try.prog) W 33 5 i0 (.int .u8 0) Try.underlying33 hi hz0 .i64 .i64 n n (by omega) (by omega) (by rw [hz2]; omega) (by omega)
  rw [this, hz1, Int.toNat_natCast, Nat.mul_one]
  rfl
end Go.Proofs.Ytfldcddbmikfiaa

/- strings as lists of bytes; '[]byte(s)', 'string(b)' and 'append(b, s...)' as the laws on slices of bytes want them. No program's function is named; no condition. -/
namespace Go.Proofs.Ytfldcddbmikfiaa
open Go.RowKit

/-- A string's bytes as numbers. -/
def nums (s : ByteArray) : List Int := s.data.toList.map fun b => (b.toNat : Int)

theorem nums_rng (s : ByteArray) : ∀ x ∈ nums s, 0 ≤ x ∧ x < 256 := by
  intro x hx
  obtain ⟨b, _, rfl⟩ := List.mem_map.1 hx
  have := b.toNat_lt
  omega

theorem nums_len (s : ByteArray) : (nums s).length = s.size := by
  unfold nums
  rw [List.length_map, Array.length_toList]
  rfl

theorem nums_str (l : List Int) (hr : ∀ x ∈ l, 0 ≤ x ∧ x < 256) : nums (strOfNums l) = l := by
  unfold nums
  rw [strOfNums_data, List.map_map]
  conv => rhs; rw [← List.map_id l]
  refine List.map_congr_left fun x hx => ?_
  have := hr x hx
  simp only [Function.comp, id, UInt8.toNat_ofNat']
  omega

theorem str_nums (s : ByteArray) : strOfNums (nums s) = s := by
  apply ByteArray.ext
  apply Array.ext'
  rw [strOfNums_data]
  unfold nums
  rw [List.map_map]
  conv => rhs; rw [← List.map_id s.data.toList]
  refine List.map_congr_left fun b _ => ?_
  simp [Function.comp]

theorem str_inj {l m : List Int} (hl : ∀ x ∈ l, 0 ≤ x ∧ x < 256) (hm : ∀ x ∈ m, 0 ≤ x ∧ x < 256) (h : strOfNums l = strOfNums m) : l = m := by
  rw [← nums_str l hl, ← nums_str m hm, h]

theorem strCells_nums (s : ByteArray) : Lib.strCells s = (nums s).map (Value.int .u8) := by
  unfold Lib.strCells nums
  rw [List.map_map]
  rfl

theorem nums_getD (s : ByteArray) (j : Nat) (hj : j < s.size) : (nums s).getD j 0 = ((s.data.toList.getD j 0).toNat : Int) := by
  have h : j < s.data.toList.length := by rw [Array.length_toList]; exact hj
  unfold nums
  simp only [List.getD, List.getElem?_map, List.getElem?_eq_getElem h, Option.map_some, Option.getD_some]

theorem bytesWorld_below (w : World) (e : TypeId) (s : ByteArray) : Below w.heap.size w (Lib.bytesWorld w e s) :=
  ⟨rfl, rfl, rfl, by rw [Lib.bytesWorld_size]; omega, fun k hk => Lib.bytesWorld_at_old w e s k hk⟩

/-- '[]byte(s)': new memory that reads as the string's bytes. -/
theorem Byt.ofString (w : World) (e : TypeId) (s : ByteArray) (hs : s.size ≤ maxLen) : Byt (Lib.bytesWorld w e s) (some ⟨w.heap.size, 0, none⟩) s.size (grownCap w s.size 0 e) (nums s) :=
  ⟨nums_len s, grownCap_ge w s.size 0 e, grownCap_le_maxLen w s.size 0 e hs, nums_rng s, (fun h => nomatch h), fun _ => ⟨w.heap.size, 0, rfl, fun i hi => by
    rw [Nat.zero_add, Lib.bytesWorld_cell w e s i hi, nums_getD s i hi]⟩⟩

theorem conv_str (w : World) (s : ByteArray) : (convert 9 33 (.string s)).run Try.prog w = .ok (.slice (some ⟨w.heap.size, 0, none⟩) s.size (grownCap w s.size 0 5)) (Lib.bytesWorld w 5 s) :=
  Lib.run_convert_string_bytes w _ _ _ s Try.underlying9 Try.underlying33 Try.underlying5

/-- 'string(b)': a string of just these bytes; nothing is turned. -/
theorem conv_byt {w : World} {A : Option Addr} {n c : Nat} {l : List Int} (h : Byt w A n c l) : (convert 33 9 (.slice A n c)).run Try.prog w = .ok (.string (strOfNums l)) w := by
  by_cases hn : 0 < n
  · obtain ⟨g, off, rfl, hc⟩ := h.at_ hn
    exact run_convert_bytes_arg w _ _ Try.underlying33 Try.underlying5 g off n c l h.len hc _ Try.underlying9
  · have h0 : n = 0 := by omega
    subst h0
    have e : l = [] := List.eq_nil_of_length_eq_zero h.len
    subst e
    cases A with
    | none => exact run_convert_bytes_nil w _ _ Try.underlying33 Try.underlying5 _ _ _ Try.underlying9
    | some a =>
      rw [run_convert_bytes_string w _ _ _ _ _ _ Try.underlying33 Try.underlying5 Try.underlying9]
      rw [run_bytesToString w a 0 c [] (by simpa using run_loadCells_list (P := Try.prog) w a [] (by simp))]
      rfl

theorem str_size (l : List Int) : (strOfNums l).size = l.length := strOfNums_size l

/-- Where 's[j:..]' begins. -/
def subA (A : Option Addr) (c j : Nat) : Option Addr := if c = j then A else A.map (·.add (j * 1))

/-- 's[j:k]' reads as that part. -/
theorem Byt.sub {w : World} {A : Option Addr} {n c : Nat} {l : List Int} (h : Byt w A n c l) (j k : Nat) (hjk : j ≤ k) (hk : k ≤ n) : Byt w (subA A c j) (k - j) (c - j) ((l.drop j).take (k - j)) := by
  have hcap := h.cap
  have hmax := h.max
  refine ⟨by rw [List.length_take, List.length_drop, h.len]; omega, by omega, by omega, fun x hx => h.rng x (List.mem_of_mem_drop (List.mem_of_mem_take hx)), fun e => ?_, fun hp => ?_⟩
  · have e' : A = none := by
      unfold subA at e
      split at e
      · exact e
      · cases A with
        | none => rfl
        | some a => simp at e
    have := h.nil_ e'
    omega
  · obtain ⟨g, off, h1, hc⟩ := h.at_ (by omega)
    subst h1
    refine ⟨g, off + j, ?_, fun i hi => ?_⟩
    · unfold subA
      rw [if_neg (by omega)]
      simp [Addr.add]
    · rw [Nat.add_assoc, hc (j + i) (by omega)]
      congr 2
      simp [List.getD, hi]

theorem elem25 : Try.prog.elem 33 = 5 := by kernel_rfl
theorem under25 : Try.prog.underlying 33 = some (.slice (Try.prog.elem 33)) := by kernel_rfl

theorem sz_u8 (W : World) : (sizeOf 5).run Try.prog W = .ok 1 W := by
  obtain ⟨i0, hi, hz0, hz1, hz2⟩ := info_parts info_u8
  simp [sizeOf, typeInfo, hi, hz1]

/-- 's[j:k]'. -/
theorem cut_lh {w : World} {A : Option Addr} {n c : Nat} {l : List Int} (h : Byt w A n c l) (j k : Nat) (hjk : j ≤ k) (hk : k ≤ n) (zj zk : Int) (ej : zj = j) (ek : zk = k) :
    ∃ B m d, (∀ v, (Instr.slice 33 (.slice A n c) (some (.int .i64 zj)) (some (.int .i64 zk)) none).run Try.prog v = .ok (.slice B m d) v) ∧ m = k - j ∧ Byt w B m d ((l.drop j).take (k - j)) := by
  have hcap := h.cap
  subst ej ek
  refine ⟨subA A c j, k - j, c - j, fun v => ?_, rfl, h.sub j k hjk hk⟩
  rw [run_slice_lh (P := Try.prog) (w := v) 33 A n c under25 .i64 .i64 j k (by omega) (by omega) (by omega), elem25, sz_u8]
  simp [sliced, Result.andThen, subA]

/-- 's[j:]'. -/
theorem cut_l {w : World} {A : Option Addr} {n c : Nat} {l : List Int} (h : Byt w A n c l) (j : Nat) (hj : j ≤ n) (zj : Int) (ej : zj = j) :
    ∃ B m d, (∀ v, (Instr.slice 33 (.slice A n c) (some (.int .i64 zj)) none none).run Try.prog v = .ok (.slice B m d) v) ∧ m = n - j ∧ Byt w B m d (l.drop j) := by
  have hcap := h.cap
  subst ej
  refine ⟨subA A c j, n - j, c - j, fun v => ?_, rfl, ?_⟩
  · rw [run_slice_l (P := Try.prog) (w := v) 33 A n c under25 .i64 j (by omega) (by omega), elem25, sz_u8]
    simp [sliced, Result.andThen, subA]
  · have := h.sub j n hj (Nat.le_refl _)
    rwa [List.take_of_length_le (by rw [List.length_drop, h.len]; omega)] at this

theorem subA_block {A : Option Addr} {c j : Nat} {a : Addr} (h : subA A c j = some a) : ∃ a', A = some a' ∧ a.block = a'.block := by
  unfold subA at h
  split at h
  · exact ⟨a, h, rfl⟩
  · cases A with
    | none => simp at h
    | some a' =>
      simp at h
      refine ⟨a', rfl, ?_⟩
      rw [← h]
      unfold Addr.add
      split <;> rfl

/-- 's[j:]', and in which block it lies. -/
theorem cut_lb {w : World} {A : Option Addr} {n c : Nat} {l : List Int} (h : Byt w A n c l) (j : Nat) (hj : j ≤ n) (zj : Int) (ej : zj = j) :
    ∃ B m d, (∀ v, (Instr.slice 33 (.slice A n c) (some (.int .i64 zj)) none none).run Try.prog v = .ok (.slice B m d) v) ∧ m = n - j ∧ Byt w B m d (l.drop j) ∧ ∀ a, B = some a → ∃ a', A = some a' ∧ a.block = a'.block := by
  have hcap := h.cap
  subst ej
  refine ⟨subA A c j, n - j, c - j, fun v => ?_, rfl, ?_, fun a ha => subA_block ha⟩
  · rw [run_slice_l (P := Try.prog) (w := v) 33 A n c under25 .i64 j (by omega) (by omega), elem25, sz_u8]
    simp [sliced, Result.andThen, subA]
  · have := h.sub j n hj (Nat.le_refl _)
    rwa [List.take_of_length_le (by rw [List.length_drop, h.len]; omega)] at this

/-- 's[:k]'. -/
theorem cut_h {w : World} {A : Option Addr} {n c : Nat} {l : List Int} (h : Byt w A n c l) (k : Nat) (hk : k ≤ n) (zk : Int) (ek : zk = k) :
    ∃ B d, (∀ v, (Instr.slice 33 (.slice A n c) none (some (.int .i64 zk)) none).run Try.prog v = .ok (.slice B k d) v) ∧ Byt w B k d (l.take k) := by
  have hcap := h.cap
  subst ek
  refine ⟨subA A c 0, c - 0, fun v => ?_, ?_⟩
  · rw [run_slice_h (P := Try.prog) (w := v) 33 A n c under25 .i64 k (by omega) (by omega), elem25, sz_u8]
    simp [sliced, Result.andThen, subA]
  · have := h.sub 0 k (Nat.zero_le _) hk
    simpa using this
end Go.Proofs.Ytfldcddbmikfiaa

/- plain mathematics of layer 1: digits to the base 128, what is read of them, big-endian bytes. No program is named; no condition. -/
namespace Go.Proofs.Ytfldcddbmikfiaa

/-- The digits ahead of the last one, 128 added to each. -/
def hiD (n : Nat) : List Int := if _h : n = 0 then [] else hiD (n / 128) ++ [((n : Int) % 128) + 128]
termination_by n
decreasing_by omega

/-- The varint encoding. -/
def shortL (n : Nat) : List Int := hiD (n / 128) ++ [((n : Int) % 128)]

theorem hiD_zero : hiD 0 = [] := by rw [hiD]; simp
theorem hiD_pos {n : Nat} (h : n ≠ 0) : hiD n = hiD (n / 128) ++ [((n : Int) % 128) + 128] := by rw [hiD]; simp [h]

theorem hiD_rng (n : Nat) : ∀ x ∈ hiD n, 128 ≤ x ∧ x < 256 := by
  induction n using Nat.strongRecOn with
  | _ n ih =>
    intro x hx
    by_cases h : n = 0
    · rw [h, hiD_zero] at hx; simp at hx
    · rw [hiD_pos h, List.mem_append] at hx
      rcases hx with hx | hx
      · exact ih (n / 128) (by omega) x hx
      · simp at hx; omega

theorem shortL_rng (n : Nat) : ∀ x ∈ shortL n, 0 ≤ x ∧ x < 256 := by
  intro x hx
  unfold shortL at hx
  rw [List.mem_append] at hx
  rcases hx with hx | hx
  · have := hiD_rng _ x hx; omega
  · simp at hx; omega

theorem hiD_len (n k : Nat) (h : n < 128 ^ k) : (hiD n).length ≤ k := by
  induction k generalizing n with
  | zero =>
    have : n = 0 := by simpa using h
    rw [this, hiD_zero]; simp
  | succ k ih =>
    by_cases h0 : n = 0
    · rw [h0, hiD_zero]; simp
    · rw [hiD_pos h0]
      have := ih (n / 128) (by rw [Nat.pow_succ] at h; omega)
      simp; omega

theorem shortL_len (n : Nat) (h : n < 18446744073709551616) : (shortL n).length ≤ 10 := by
  unfold shortL
  have := hiD_len (n / 128) 9 (by omega)
  simp; omega

theorem shortL_pos (n : Nat) : 0 < (shortL n).length := by unfold shortL; simp

theorem hiD_mono (a : Nat) : ∀ b, a ≤ b → (hiD a).length ≤ (hiD b).length := by
  induction a using Nat.strongRecOn with
  | _ a ih =>
    intro b hab
    by_cases h : a = 0
    · rw [h, hiD_zero]; simp
    · rw [hiD_pos h, hiD_pos (n := b) (by omega)]
      have := ih (a / 128) (by omega) (b / 128) (by omega)
      simp; omega

theorem shortL_mono {a b : Nat} (h : a ≤ b) : (shortL a).length ≤ (shortL b).length := by
  unfold shortL
  have := hiD_mono (a / 128) (b / 128) (by omega)
  simp; omega

theorem short300 : shortL 300 = [130, 44] := by
  unfold shortL
  rw [hiD_pos (by decide), show 300 / 128 / 128 = 0 from rfl, hiD_zero]
  rfl

/-- What is read at the beginning: the number, how many bytes it has, the error's number. n: what is gathered; i: how many bytes are gone through. -/
def takeF : List Int → Nat → Nat → Nat × Nat × Nat
  | [], _, _ => (0, 0, 10)
  | c :: r, n, i => if i = 0 ∧ c = 128 then (0, 0, 11) else if 144115188075855872 ≤ n then (0, 0, 12) else
      if c < 128 then (n * 128 + (c % 128).toNat, i + 1, 0) else takeF r (n * 128 + (c % 128).toNat) (i + 1)

theorem takeF_cons (c : Int) (r : List Int) (n i : Nat) : takeF (c :: r) n i = if i = 0 ∧ c = 128 then (0, 0, 11) else if 144115188075855872 ≤ n then (0, 0, 12) else
      if c < 128 then (n * 128 + (c % 128).toNat, i + 1, 0) else takeF r (n * 128 + (c % 128).toNat) (i + 1) := rfl

/-- The digits of a number are gone through, and what stands behind them is read on. -/
theorem takeF_hiD (m : Nat) (hm : m < 144115188075855872) (rest : List Int) (hd : m = 0 → True) : takeF (hiD m ++ rest) 0 0 = takeF rest m (hiD m).length := by
  induction m using Nat.strongRecOn generalizing rest with
  | _ m ih =>
    by_cases h : m = 0
    · rw [h, hiD_zero]; rfl
    · rw [hiD_pos h, List.append_assoc, ih (m / 128) (by omega) (by omega) _ (fun _ => trivial)]
      have hl : (hiD (m / 128)).length = 0 → m / 128 = 0 := by
        intro hl
        by_cases h0 : m / 128 = 0
        · exact h0
        · rw [hiD_pos h0] at hl; simp at hl
      rw [List.cons_append, List.nil_append, takeF_cons, if_neg (by intro ⟨h1, h2⟩; have := hl h1; omega), if_neg (by omega), if_neg (by omega)]
      have e : m / 128 * 128 + ((((m : Int) % 128) + 128) % 128).toNat = m := by omega
      rw [e, List.length_append]
      congr 1

theorem takeF_short (n : Nat) (hn : n < 18446744073709551616) (rest : List Int) : takeF (shortL n ++ rest) 0 0 = (n, (shortL n).length, 0) := by
  unfold shortL
  rw [List.append_assoc, takeF_hiD _ (by omega) _ (fun _ => trivial)]
  rw [List.cons_append, List.nil_append, takeF_cons, if_neg (by omega), if_neg (by omega), if_pos (by omega)]
  have e : n / 128 * 128 + (((n : Int) % 128) % 128).toNat = n := by omega
  rw [e, List.length_append]
  congr 1

theorem takeF_cut (m : Nat) (hm : m < 144115188075855872) (c : Nat) (hc : c ≤ (hiD m).length) : takeF ((hiD m).take c) 0 0 = (0, 0, 10) := by
  induction m using Nat.strongRecOn generalizing c with
  | _ m ih =>
    by_cases h : m = 0
    · rw [h, hiD_zero]; simp [takeF]
    · by_cases hc1 : c ≤ (hiD (m / 128)).length
      · rw [hiD_pos h, List.take_append_of_le_length hc1]
        exact ih (m / 128) (by omega) (by omega) c hc1
      · have hl : (hiD m).length = (hiD (m / 128)).length + 1 := by rw [hiD_pos h]; simp
        rw [List.take_of_length_le (by omega)]
        have := takeF_hiD m hm [] (fun _ => trivial)
        rw [List.append_nil] at this
        rw [this]; rfl

/-- No beginning of a number's digits is read. -/
theorem takeF_short_cut (n : Nat) (hn : n < 18446744073709551616) (c : Nat) (hc : c < (shortL n).length) : takeF ((shortL n).take c) 0 0 = (0, 0, 10) := by
  unfold shortL at hc ⊢
  simp at hc
  rw [List.take_append_of_le_length (by omega)]
  exact takeF_cut _ (by omega) c (by omega)

/-- What is read is below 2^64, and its digits are just the bytes gone through. -/
theorem takeF_back (l : List Int) (hr : ∀ x ∈ l, 0 ≤ x ∧ x < 256) (done : List Int) (n i : Nat) (hd : done = hiD n) (hi : i = done.length) :
    ∀ z k, takeF l n i = (z, k, 0) → z < 18446744073709551616 ∧ i < k ∧ k ≤ i + l.length ∧ shortL z = (done ++ l).take k := by
  induction l generalizing done n i with
  | nil => intro z k h; simp [takeF] at h
  | cons c r ih =>
    intro z k h
    have hc := hr c (by simp)
    have hr' : ∀ x ∈ r, 0 ≤ x ∧ x < 256 := fun x hx => hr x (by simp [hx])
    rw [takeF_cons] at h
    by_cases h1 : i = 0 ∧ c = 128
    · rw [if_pos h1] at h; simp at h
    rw [if_neg h1] at h
    by_cases h2 : 144115188075855872 ≤ n
    · rw [if_pos h2] at h; simp at h
    rw [if_neg h2] at h
    have hn0 : i = 0 → n = 0 := by
      intro h0
      by_cases hn : n = 0
      · exact hn
      · rw [hd, hiD_pos hn] at hi; simp at hi; omega
    by_cases h3 : c < 128
    · rw [if_pos h3] at h
      simp only [Prod.mk.injEq, and_true] at h
      obtain ⟨hz, hk⟩ := h
      subst hk
      have hz' : z / 128 = n := by omega
      have hzm : ((z : Int) % 128) = c := by omega
      refine ⟨by omega, by omega, by simp, ?_⟩
      unfold shortL
      rw [hz', hzm, ← hd]
      rw [List.take_append, List.take_of_length_le (by omega)]
      have : i + 1 - done.length = 1 := by omega
      rw [this]; simp
    · rw [if_neg h3] at h
      have hne : n * 128 + (c % 128).toNat ≠ 0 := by
        intro h0
        have hn0' : n = 0 := by omega
        have hc0 : c = 128 := by omega
        have : i = 0 := by rw [hi, hd, hn0', hiD_zero]; rfl
        exact h1 ⟨this, hc0⟩
      have hstep : done ++ [c] = hiD (n * 128 + (c % 128).toNat) := by
        rw [hiD_pos hne]
        have e1 : (n * 128 + (c % 128).toNat) / 128 = n := by omega
        have e2 : ((n * 128 + (c % 128).toNat : Nat) : Int) % 128 + 128 = c := by omega
        rw [e1, e2, hd]
      obtain ⟨a1, a2, a3, a4⟩ := ih hr' (done ++ [c]) _ (i + 1) hstep (by simp [hi]) z k h
      refine ⟨a1, by omega, by simp; omega, ?_⟩
      rw [a4]; simp

theorem takeF_read (l : List Int) (hr : ∀ x ∈ l, 0 ≤ x ∧ x < 256) (z k : Nat) (h : takeF l 0 0 = (z, k, 0)) : z < 18446744073709551616 ∧ k ≤ l.length ∧ shortL z = l.take k := by
  obtain ⟨h1, _, h3, h4⟩ := takeF_back l hr [] 0 0 (by rw [hiD_zero]) rfl z k h
  exact ⟨h1, by omega, by simpa using h4⟩

theorem takeF_err (l : List Int) (n i : Nat) : (takeF l n i).2.2 = 0 ∨ (takeF l n i).2.2 = 10 ∨ (takeF l n i).2.2 = 11 ∨ (takeF l n i).2.2 = 12 := by
  induction l generalizing n i with
  | nil => simp [takeF]
  | cons c r ih =>
    rw [takeF_cons]
    by_cases h1 : i = 0 ∧ c = 128
    · rw [if_pos h1]; simp
    rw [if_neg h1]
    by_cases h2 : 144115188075855872 ≤ n
    · rw [if_pos h2]; simp
    rw [if_neg h2]
    by_cases h3 : c < 128
    · rw [if_pos h3]; simp
    · rw [if_neg h3]; exact ih _ _

/-- The big-endian bytes of n, k of them. -/
def wideL : Nat → Nat → List Int
  | 0, _ => []
  | k + 1, n => wideL k (n / 256) ++ [((n : Int) % 256)]

theorem wideL_len (k n : Nat) : (wideL k n).length = k := by
  induction k generalizing n with
  | zero => rfl
  | succ k ih => simp [wideL, ih]

theorem wideL_rng (k n : Nat) : ∀ x ∈ wideL k n, 0 ≤ x ∧ x < 256 := by
  induction k generalizing n with
  | zero => simp [wideL]
  | succ k ih =>
    intro x hx
    rw [wideL, List.mem_append] at hx
    rcases hx with hx | hx
    · exact ih _ x hx
    · simp at hx; omega

theorem wideL_at (k n i : Nat) (h : i < k) : (wideL k n).getD (k - 1 - i) 0 = ((n / 256 ^ i : Nat) : Int) % 256 := by
  induction k generalizing n i with
  | zero => omega
  | succ k ih =>
    cases i with
    | zero => simp [wideL, wideL_len, List.getD]
    | succ i =>
      have hlt : k + 1 - 1 - (i + 1) < (wideL k (n / 256)).length := by rw [wideL_len]; omega
      rw [wideL, List.getD, List.getElem?_append_left hlt]
      have := ih (n / 256) i (by omega)
      rw [List.getD, show k - 1 - i = k + 1 - 1 - (i + 1) from by omega] at this
      rw [this, Nat.div_div_eq_div_mul, Nat.pow_succ, Nat.mul_comm 256]

/-- The number whose big-endian bytes these are. -/
def ofWide (l : List Int) : Nat := l.foldl (fun n c => n * 256 + c.toNat) 0

theorem ofWide_snoc (l : List Int) (c : Int) : ofWide (l ++ [c]) = ofWide l * 256 + c.toNat := by simp [ofWide]

theorem ofWide_wideL (k n : Nat) (h : n < 256 ^ k) : ofWide (wideL k n) = n := by
  induction k generalizing n with
  | zero =>
    have : n = 0 := by simpa using h
    rw [this]; rfl
  | succ k ih =>
    rw [wideL, ofWide_snoc, ih (n / 256) (by rw [Nat.pow_succ] at h; omega)]
    omega

theorem snocRec {α : Type} {p : List α → Prop} (nil : p []) (snoc : ∀ l c, p l → p (l ++ [c])) (l : List α) : p l := by
  have : ∀ n (l : List α), l.length = n → p l := by
    intro n
    induction n with
    | zero => intro l h; rw [List.eq_nil_of_length_eq_zero h]; exact nil
    | succ n ih =>
      intro l h
      have hne : l ≠ [] := by intro e; rw [e] at h; simp at h
      rw [← List.dropLast_concat_getLast hne]
      exact snoc _ _ (ih _ (by simp [h]))
  exact this _ l rfl

theorem ofWide_lt (l : List Int) (hr : ∀ x ∈ l, 0 ≤ x ∧ x < 256) : ofWide l < 256 ^ l.length := by
  induction l using snocRec with
  | nil => simp [ofWide]
  | snoc l c ih =>
    have := ih (fun x hx => hr x (by simp [hx]))
    have hc := hr c (by simp)
    rw [ofWide_snoc, List.length_append, List.length_singleton, Nat.pow_succ]
    omega

/-- What bytes are folded to. -/
def foldL (l : List Int) (n : Nat) : Nat := l.foldl (fun v c => (v * 31 + c.toNat) % n) 0

theorem foldL_snoc (l : List Int) (c : Int) (n : Nat) : foldL (l ++ [c]) n = (foldL l n * 31 + c.toNat) % n := by simp [foldL]

theorem foldL_lt (l : List Int) (n : Nat) (h : 0 < n) : foldL l n < n := by
  induction l using snocRec with
  | nil => exact h
  | snoc l c _ => rw [foldL_snoc]; exact Nat.mod_lt _ h

theorem foldL_step (l : List Int) (n k : Nat) (h : k < l.length) : foldL (l.take (k + 1)) n = (foldL (l.take k) n * 31 + (l.getD k 0).toNat) % n := by
  rw [List.take_succ_eq_append_getElem h, foldL_snoc]
  simp [List.getD, List.getElem?_eq_getElem h]
end Go.Proofs.Ytfldcddbmikfiaa
