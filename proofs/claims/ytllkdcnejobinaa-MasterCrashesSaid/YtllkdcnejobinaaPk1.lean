/- What it says: contracts and plain mathematics that the laws' walks use, 1 of 3: each part's own remark says what; no condition. -/
import Derived.Laws.World
import Derived.WalkKit
import Derived.Deep.Draws
import Derived.Lib.Hide
import Derived.Laws.AppendOwnNone
import Derived.Test.YtllkdcnejobinaaRows
import Derived.Lib.SliceRun
import Derived.Laws.BytesArg
import Derived.Lib.ConvBytes
import Derived.Lib.AppendStr
import Derived.Lib.Strings
import Derived.Below
import Derived.Deep.QuietTactic
import Derived.BigQuiet
import Derived.Laws.Build
import Derived.BigRegion
import Derived.Handy
import Derived.Laws.BitsAllLaws
import Derived.Laws.ResultCell
import Derived.Laws.CopyOwn
import Derived.MapKept
import Derived.Maps.OwnOps
import Derived.Deep.WholeRow
import Derived.WalkMore
import Derived.Great.FillDense
import Derived.Laws.Tables
import Derived.Great.BuildSlice
import Derived.StillTailTactics
import Derived.Deep.MidRow
import GoSem.Builtin.Clear
import Derived.Deep.RegionHeld

/- the simulated disk in plain mathematics: what is synchronized, the writes since, the fuse; what each call makes of it. No program is named. -/
namespace Go.Proofs.Ytllkdcnejobinaa

/-- A sector's bytes. -/
def Sec (l : List Int) : Prop := l.length = 256 ∧ ∀ x ∈ l, 0 ≤ x ∧ x < 256
def zeros : List Int := List.replicate 256 0
theorem zeros_sec : Sec zeros := ⟨List.length_replicate, fun x hx => by
  obtain ⟨_, rfl⟩ := List.mem_replicate.1 hx
  omega⟩

structure St where
  num : Nat
  syn : Nat → List Int
  pend : List (Nat × List Int)
  left : Int
  gone : Bool
  syncs : Nat

/-- Write number i. -/
def St.at_ (s : St) (i : Nat) : Nat × List Int := s.pend.getD i (0, zeros)

structure St.Ok (s : St) : Prop where
  num : 1 ≤ s.num ∧ s.num ≤ 4096
  syn : ∀ n, Sec (s.syn n)
  pend : ∀ p ∈ s.pend, p.1 < s.num ∧ Sec p.2
  left : -1 ≤ s.left ∧ s.left ≤ 9223372036854775807

theorem St.Ok.at_ {s : St} (h : s.Ok) (i : Nat) (hi : i < s.pend.length) : (s.at_ i).1 < s.num ∧ Sec (s.at_ i).2 := by
  have e : s.at_ i = s.pend[i] := by simp [St.at_, List.getD, List.getElem?_eq_getElem hi]
  rw [e]
  exact h.pend _ (List.getElem_mem hi)

/-- A new disk. -/
def St.new (n : Nat) : St := ⟨n, fun _ => zeros, [], -1, false, 0⟩
theorem St.new_ok {n : Nat} (h : 1 ≤ n ∧ n ≤ 4096) : (St.new n).Ok := ⟨h, fun _ => zeros_sec, fun p hp => by simp [St.new] at hp, by simp [St.new]⟩

/-- May a step be made? -/
def St.can (s : St) : Bool := !s.gone && !(s.left == 0)
/-- Behind the attempt of one. -/
def St.step (s : St) : St := if s.gone then s else if s.left = 0 then { s with gone := true } else if 0 < s.left then { s with left := s.left - 1 } else s

theorem St.step_num (s : St) : s.step.num = s.num := by unfold St.step; split <;> (try rfl); split <;> (try rfl); split <;> rfl
theorem St.step_syn (s : St) : s.step.syn = s.syn := by unfold St.step; split <;> (try rfl); split <;> (try rfl); split <;> rfl
theorem St.step_pend (s : St) : s.step.pend = s.pend := by unfold St.step; split <;> (try rfl); split <;> (try rfl); split <;> rfl
theorem St.step_syncs (s : St) : s.step.syncs = s.syncs := by unfold St.step; split <;> (try rfl); split <;> (try rfl); split <;> rfl
theorem St.Ok.step {s : St} (h : s.Ok) : s.step.Ok := by
  refine ⟨by rw [St.step_num]; exact h.num, by rw [St.step_syn]; exact h.syn, by rw [St.step_pend, St.step_num]; exact h.pend, ?_⟩
  have hl := h.left
  unfold St.step
  split
  · exact hl
  · split
    · exact hl
    · split
      · show -1 ≤ s.left - 1 ∧ s.left - 1 ≤ _
        omega
      · exact hl

/-- n holds l now. -/
def upd (f : Nat → List Int) (n : Nat) (l : List Int) : Nat → List Int := fun m => if m = n then l else f m
theorem upd_sec {f : Nat → List Int} (h : ∀ n, Sec (f n)) {l : List Int} (hl : Sec l) (n : Nat) : ∀ m, Sec (upd f n l m) := fun m => by
  unfold upd
  split
  · exact hl
  · exact h m

/-- What is there behind the first k writes. -/
def St.upTo (s : St) : Nat → Nat → List Int
  | 0 => s.syn
  | k + 1 => upd (s.upTo k) (s.at_ k).1 (s.at_ k).2

theorem St.Ok.upTo {s : St} (h : s.Ok) : ∀ k, k ≤ s.pend.length → ∀ n, Sec (s.upTo k n)
  | 0, _ => h.syn
  | k + 1, hk => upd_sec (h.upTo k (by omega)) (h.at_ k (by omega)).2 _

/-- What is there of a sector. -/
def St.now (s : St) (n : Nat) : List Int := s.upTo s.pend.length n
theorem St.Ok.now {s : St} (h : s.Ok) (n : Nat) : Sec (s.now n) := h.upTo _ (Nat.le_refl _) n

theorem St.upTo_same (s : St) (n i : Nat) : ∀ k, i ≤ k → (∀ j, i ≤ j → j < k → (s.at_ j).1 ≠ n) → s.upTo k n = s.upTo i n
  | 0, h, _ => by obtain rfl : i = 0 := by omega
                  rfl
  | k + 1, h, hn => by
    by_cases he : i = k + 1
    · subst he; rfl
    · have := hn k (by omega) (by omega)
      show upd (s.upTo k) (s.at_ k).1 (s.at_ k).2 n = _
      unfold upd
      rw [if_neg (fun e => this e.symm)]
      exact St.upTo_same s n i k (by omega) (fun j h1 h2 => hn j h1 (by omega))

theorem St.now_last (s : St) (n i : Nat) (hi : i < s.pend.length) (h : (s.at_ i).1 = n) (hn : ∀ j, i < j → j < s.pend.length → (s.at_ j).1 ≠ n) : s.now n = (s.at_ i).2 := by
  have := St.upTo_same s n (i + 1) s.pend.length (by omega) (fun j h1 h2 => hn j (by omega) h2)
  unfold St.now
  rw [this]
  show upd (s.upTo i) (s.at_ i).1 (s.at_ i).2 n = _
  unfold upd
  rw [if_pos h.symm]

theorem St.now_none (s : St) (n : Nat) (hn : ∀ j, j < s.pend.length → (s.at_ j).1 ≠ n) : s.now n = s.syn n :=
  St.upTo_same s n 0 s.pend.length (Nat.zero_le _) (fun j _ h2 => hn j h2)

/-- Behind a write that is made. -/
def St.wrote (s : St) (n : Nat) (l : List Int) : St := { s.step with pend := s.pend ++ [(n, l)] }
theorem St.Ok.wrote {s : St} (h : s.Ok) {n : Nat} {l : List Int} (hn : n < s.num) (hl : Sec l) : (s.wrote n l).Ok := by
  have h' := h.step
  refine ⟨h'.num, h'.syn, fun p hp => ?_, h'.left⟩
  show p.1 < s.step.num ∧ _
  rw [St.step_num]
  rcases List.mem_append.1 hp with hp | hp
  · exact h.pend p hp
  · simp at hp
    subst hp
    exact ⟨hn, hl⟩

/-- What a write answers. -/
def St.wErr (s : St) (n : Int) (l : List Int) : Int := if n < 0 ∨ (s.num : Int) ≤ n then 1 else if l.length ≠ 256 then 12 else if s.can then 0 else 40
/-- What a write leaves. -/
def St.write (s : St) (n : Int) (l : List Int) : St := if n < 0 ∨ (s.num : Int) ≤ n then s else if l.length ≠ 256 then s else if s.can then s.wrote n.toNat l else s.step

theorem St.Ok.write {s : St} (h : s.Ok) {n : Int} {l : List Int} (hl : ∀ x ∈ l, 0 ≤ x ∧ x < 256) : (s.write n l).Ok := by
  unfold St.write
  split
  · exact h
  · split
    · exact h
    · split
      · exact h.wrote (by omega) ⟨by omega, hl⟩
      · exact h.step

/-- Behind a synchronization that is made. -/
def St.synced (s : St) : St := { s.step with syn := s.now, pend := [], syncs := s.syncs + 1 }
def St.sErr (s : St) : Int := if s.can then 0 else 40
def St.sync (s : St) : St := if s.can then s.synced else s.step
theorem St.Ok.sync {s : St} (h : s.Ok) : s.sync.Ok := by
  unfold St.sync
  split
  · exact ⟨h.step.num, h.now, fun p hp => by simp [St.synced] at hp, h.step.left⟩
  · exact h.step

/-- Behind a fuse. -/
def St.fuse (s : St) (n : Int) : St := { s with left := max n (-1) }
theorem St.Ok.fuse {s : St} (h : s.Ok) {n : Int} (hn : n ≤ 9223372036854775807) : (s.fuse n).Ok := ⟨h.num, h.syn, h.pend, by show -1 ≤ max n (-1) ∧ max n (-1) ≤ _; omega⟩

/-- What a read answers. -/
def St.rErr (s : St) (n : Int) : Int := if n < 0 ∨ (s.num : Int) ≤ n then 1 else if s.gone then 40 else 0

/-- A crash: the writes that are kept, torn or not, and how much of the last one. -/
structure Crs where
  keep : List Int
  torn : Bool
  cut : Int
def clamp (c : Int) : Nat := (min (max c 0) 256).toNat
theorem clamp_le (c : Int) : clamp c ≤ 256 := by unfold clamp; omega
/-- How much is left of write number i, of len. -/
def Crs.of (c : Crs) (len i : Nat) : Nat := if c.torn = true ∧ i + 1 = len then clamp c.cut else if (i : Int) ∈ c.keep then 256 else 0
theorem Crs.of_le (c : Crs) (len i : Nat) : c.of len i ≤ 256 := by
  unfold Crs.of
  split
  · exact clamp_le _
  · split <;> omega

/-- k bytes of l over m. -/
def over (l m : List Int) (k : Nat) : List Int := l.take k ++ m.drop k
theorem over_sec {l m : List Int} (hl : Sec l) (hm : Sec m) (k : Nat) (hk : k ≤ 256) : Sec (over l m k) := by
  refine ⟨by simp [over, hl.1, hm.1]; omega, fun x hx => ?_⟩
  rcases List.mem_append.1 hx with h | h
  · exact hl.2 x (List.mem_of_mem_take h)
  · exact hm.2 x (List.mem_of_mem_drop h)

/-- What a crash has left behind the first k writes. -/
def St.left_ (s : St) (cut : Nat → Nat) : Nat → Nat → List Int
  | 0 => s.syn
  | k + 1 => upd (s.left_ cut k) (s.at_ k).1 (over (s.at_ k).2 (s.left_ cut k (s.at_ k).1) (cut k))

theorem St.Ok.left_ {s : St} (h : s.Ok) {cut : Nat → Nat} (hc : ∀ i, cut i ≤ 256) : ∀ k, k ≤ s.pend.length → ∀ n, Sec (s.left_ cut k n)
  | 0, _ => h.syn
  | k + 1, hk => upd_sec (h.left_ hc k (by omega)) (over_sec (h.at_ k (by omega)).2 (h.left_ hc k (by omega) _) _ (hc k)) _

def St.crash (s : St) (c : Crs) : St := ⟨s.num, s.left_ (c.of s.pend.length) s.pend.length, [], -1, false, 0⟩
theorem St.Ok.crash {s : St} (h : s.Ok) (c : Crs) : (s.crash c).Ok := ⟨h.num, h.left_ (c.of_le _) _ (Nat.le_refl _), fun p hp => by simp [St.crash] at hp, by simp [St.crash]⟩

/-- Blocks of one size, one behind the other. -/
theorem flatMap_at {α β : Type} (f : α → List β) (k : Nat) : ∀ (l : List α) (i j : Nat) (x : α), (∀ y ∈ l, (f y).length = k) → l[i]? = some x → j < k → (l.flatMap f)[i * k + j]? = (f x)[j]?
  | [], i, j, x, _, h, _ => by simp at h
  | y :: r, 0, j, x, hl, h, hj => by
    simp at h
    subst h
    have := hl y (.head _)
    rw [List.flatMap_cons, List.getElem?_append_left (by omega)]
    simp
  | y :: r, i + 1, j, x, hl, h, hj => by
    have hy := hl y (.head _)
    rw [List.flatMap_cons, List.getElem?_append_right (by rw [hy, Nat.add_mul]; omega)]
    rw [show (i + 1) * k + j - (f y).length = i * k + j from by rw [hy, Nat.add_mul]; omega]
    exact flatMap_at f k r i j x (fun z hz => hl z (.tail _ hz)) (by simpa using h) hj

theorem flatMap_len {α β : Type} (f : α → List β) (k : Nat) : ∀ (l : List α), (∀ y ∈ l, (f y).length = k) → (l.flatMap f).length = l.length * k
  | [], _ => by simp
  | y :: r, hl => by
    rw [List.flatMap_cons, List.length_append, hl y (.head _), flatMap_len f k r (fun z hz => hl z (.tail _ hz))]
    simp [Nat.add_mul, Nat.add_comm]
end Go.Proofs.Ytllkdcnejobinaa

/- stamped sectors in plain mathematics: the next stamp, a wrapped payload, what is opened. No program is named. -/
namespace Go.Proofs.Ytllkdcnejobinaa

/-- The stamp for a sector with these two ends. -/
def nextB (a b : Int) : Int := if a ≠ 1 ∧ b ≠ 1 then 1 else if a ≠ 2 ∧ b ≠ 2 then 2 else 3
theorem nextB_rng (a b : Int) : 1 ≤ nextB a b ∧ nextB a b ≤ 3 := by unfold nextB; split <;> (try split) <;> omega
theorem nextB_ne (a b : Int) : nextB a b ≠ a ∧ nextB a b ≠ b := by
  unfold nextB
  split
  · omega
  · split <;> omega
theorem nextB_one {a b : Int} (h : a ≠ 1 ∧ b ≠ 1) : nextB a b = 1 := by unfold nextB; rw [if_pos h]
theorem nextB_two {a b : Int} (h1 : a = 1 ∨ b = 1) (h : a ≠ 2 ∧ b ≠ 2) : nextB a b = 2 := by unfold nextB; rw [if_neg (by omega), if_pos h]
theorem nextB_three {a b : Int} (h1 : a = 1 ∨ b = 1) (h : a = 2 ∨ b = 2) : nextB a b = 3 := by unfold nextB; rw [if_neg (by omega), if_neg (by omega)]
def nextOf (l : List Int) : Int := nextB (l.getD 0 0) (l.getD 255 0)
theorem nextOf_rng (l : List Int) : 1 ≤ nextOf l ∧ nextOf l ≤ 3 := nextB_rng _ _

/-- A payload, noughts behind it. -/
def padL (p : List Int) : List Int := p ++ List.replicate (254 - p.length) 0
theorem padL_len {p : List Int} (h : p.length ≤ 254) : (padL p).length = 254 := by simp [padL]; omega
theorem padL_rng {p : List Int} (h : ∀ x ∈ p, 0 ≤ x ∧ x < 256) : ∀ x ∈ padL p, 0 ≤ x ∧ x < 256 := by
  intro x hx
  rcases List.mem_append.1 hx with q | q
  · exact h x q
  · obtain ⟨_, rfl⟩ := List.mem_replicate.1 q
    omega
theorem padL_full {p : List Int} (h : p.length = 254) : padL p = p := by simp [padL, h]

/-- A sector of a stamp and a payload. -/
def wrapL (m : Int) (p : List Int) : List Int := m :: (padL p ++ [m])
theorem wrapL_sec {m : Int} {p : List Int} (hm : 0 ≤ m ∧ m < 256) (hp : ∀ x ∈ p, 0 ≤ x ∧ x < 256) (h : p.length ≤ 254) : Sec (wrapL m p) := by
  refine ⟨by simp [wrapL, padL_len h], fun x hx => ?_⟩
  rcases List.mem_cons.1 hx with q | q
  · rw [q]; exact hm
  · rcases List.mem_append.1 q with q | q
    · exact padL_rng hp x q
    · simp at q; rw [q]; exact hm
theorem wrapL_first (m : Int) (p : List Int) : (wrapL m p).getD 0 0 = m := rfl
theorem wrapL_last {m : Int} {p : List Int} (h : p.length ≤ 254) : (wrapL m p).getD 255 0 = m := by
  have hl := padL_len h
  unfold wrapL
  rw [List.getD_eq_getElem?_getD, List.getElem?_cons_succ, List.getElem?_append_right (by omega), hl]
  rfl

/-- What lies between a sector's ends. -/
def bodyL (l : List Int) : List Int := (l.drop 1).take 254
theorem bodyL_len {l : List Int} (h : l.length = 256) : (bodyL l).length = 254 := by simp [bodyL, h]
theorem bodyL_rng {l : List Int} (h : ∀ x ∈ l, 0 ≤ x ∧ x < 256) : ∀ x ∈ bodyL l, 0 ≤ x ∧ x < 256 := fun x hx => h x (List.mem_of_mem_drop (List.mem_of_mem_take hx))
theorem bodyL_wrap {m : Int} {p : List Int} (h : p.length ≤ 254) : bodyL (wrapL m p) = padL p := by
  unfold bodyL wrapL
  rw [List.drop_succ_cons, List.drop_zero, List.take_append_of_le_length (by rw [padL_len h]; omega), List.take_of_length_le (by rw [padL_len h]; omega)]
theorem ends_eq {l : List Int} (h : l.length = 256) : l = l.getD 0 0 :: (bodyL l ++ [l.getD 255 0]) := by
  obtain ⟨x, r, rfl⟩ : ∃ x r, l = x :: r := by
    cases l with
    | nil => simp at h
    | cons x r => exact ⟨x, r, rfl⟩
  have hr : r.length = 255 := by simpa using h
  show x :: r = x :: _
  congr 1
  unfold bodyL
  rw [List.drop_succ_cons, List.drop_zero]
  have e : r.drop 254 = [(x :: r).getD 255 0] := by
    rw [List.getD_eq_getElem?_getD, List.getElem?_cons_succ, List.getElem?_eq_getElem (by omega), List.drop_eq_getElem_cons (by omega), List.drop_of_length_le (by omega)]
    rfl
  rw [← e, List.take_append_drop]
theorem wrap_body {l : List Int} (h : l.length = 256) (he : l.getD 0 0 = l.getD 255 0) : wrapL (l.getD 0 0) (bodyL l) = l := by
  unfold wrapL
  rw [padL_full (bodyL_len h)]
  have q := ends_eq h
  rw [← he] at q
  exact q.symm

/-- Is a sector right? -/
def rightL (l : List Int) : Prop := l.getD 0 0 = l.getD 255 0 ∧ 1 ≤ l.getD 0 0 ∧ l.getD 0 0 ≤ 3
instance (l : List Int) : Decidable (rightL l) := by unfold rightL; infer_instance
def openE (l : List Int) : Int := if l.length ≠ 256 then 12 else if rightL l then 0 else 50
def openB (l : List Int) : List Int := if openE l = 0 then bodyL l else []
theorem openE_len {l : List Int} (h : l.length ≠ 256) : openE l = 12 := by unfold openE; rw [if_pos h]
theorem openE_right {l : List Int} (h : l.length = 256) (hr : rightL l) : openE l = 0 := by unfold openE; rw [if_neg (by omega), if_pos hr]
theorem openE_torn {l : List Int} (h : l.length = 256) (hr : ¬ rightL l) : openE l = 50 := by unfold openE; rw [if_neg (by omega), if_neg hr]
theorem openB_right {l : List Int} (h : l.length = 256) (hr : rightL l) : openB l = bodyL l := by unfold openB; rw [if_pos (openE_right h hr)]
theorem openB_bad {l : List Int} (h : openE l ≠ 0) : openB l = [] := by unfold openB; rw [if_neg h]
theorem right_wrap {m : Int} {p : List Int} (hm : 1 ≤ m ∧ m ≤ 3) (h : p.length ≤ 254) : rightL (wrapL m p) := by
  unfold rightL
  rw [wrapL_first, wrapL_last h]
  exact ⟨rfl, hm.1, hm.2⟩

/-- What Wrap answers. -/
def wrapE (m : Int) (p : List Int) : Int := if m < 1 ∨ 3 < m then 1 else if 254 < p.length then 12 else 0
def wrapB (m : Int) (p : List Int) : List Int := if wrapE m p = 0 then wrapL m p else []
theorem wrapE_arg {m : Int} {p : List Int} (h : m < 1 ∨ 3 < m) : wrapE m p = 1 := by unfold wrapE; rw [if_pos h]
theorem wrapE_long {m : Int} {p : List Int} (h : ¬ (m < 1 ∨ 3 < m)) (hl : 254 < p.length) : wrapE m p = 12 := by unfold wrapE; rw [if_neg h, if_pos hl]
theorem wrapE_ok {m : Int} {p : List Int} (h : ¬ (m < 1 ∨ 3 < m)) (hl : ¬ 254 < p.length) : wrapE m p = 0 := by unfold wrapE; rw [if_neg h, if_neg hl]
theorem wrapB_ok {m : Int} {p : List Int} (h : ¬ (m < 1 ∨ 3 < m)) (hl : ¬ 254 < p.length) : wrapB m p = wrapL m p := by unfold wrapB; rw [if_pos (wrapE_ok h hl)]
theorem wrapB_bad {m : Int} {p : List Int} (h : wrapE m p ≠ 0) : wrapB m p = [] := by unfold wrapB; rw [if_neg h]

/-- What Next answers. -/
def nextE (l : List Int) : Int := if l.length ≠ 256 then 12 else 0
def nextV (l : List Int) : Int := if l.length ≠ 256 then 0 else nextOf l

/-- The first k bytes of a new sector, over one that had another stamp at both ends. -/
theorem torn_mix {m : Int} {p old : List Int} (hp : p.length ≤ 254) (ho : old.length = 256) (hm : m ≠ old.getD 255 0) (k : Nat) (h0 : 0 < k) (hk : k < 256) : ¬ rightL ((wrapL m p).take k ++ old.drop k) := by
  have hw : (wrapL m p).length = 256 := by simp [wrapL, padL_len hp]
  have h1 : ((wrapL m p).take k ++ old.drop k).getD 0 0 = m := by
    obtain ⟨j, rfl⟩ : ∃ j, k = j + 1 := ⟨k - 1, by omega⟩
    rfl
  have h2 : ((wrapL m p).take k ++ old.drop k).getD 255 0 = old.getD 255 0 := by
    have hl : ((wrapL m p).take k).length = k := by rw [List.length_take, hw]; omega
    rw [List.getD_eq_getElem?_getD, List.getD_eq_getElem?_getD, List.getElem?_append_right (by omega), List.getElem?_drop, hl]
    congr 2
    omega
  intro ⟨q, _⟩
  rw [h1, h2] at q
  exact hm q
end Go.Proofs.Ytllkdcnejobinaa

/- a slice value reads as a list of bytes, and goes on reading so behind new blocks, draws, and writes to blocks of the call's own. No program is named; no condition. -/
namespace Go.Proofs.Ytllkdcnejobinaa
open Go.RowKit

/-- The slice '.slice A n c' reads as the bytes l. -/
structure Byt (w : World) (A : Option Addr) (n c : Nat) (l : List Int) : Prop where
  len : l.length = n
  cap : n ≤ c
  max : c ≤ maxLen
  rng : ∀ x ∈ l, 0 ≤ x ∧ x < 256
  nil_ : A = none → n = 0 ∧ c = 0
  at_ : 0 < n → ∃ g off, A = some ⟨g, off, none⟩ ∧ ∀ i, i < n → w.cell? ⟨g, off + i, none⟩ = some (.int .u8 (l.getD i 0))

section
variable {w w' : World} {A : Option Addr} {n c : Nat} {l : List Int}

theorem Byt.nil (w : World) : Byt w none 0 0 [] := ⟨rfl, Nat.le_refl _, Nat.zero_le _, by simp, fun _ => ⟨rfl, rfl⟩, fun h => absurd h (by omega)⟩

theorem Byt.keep (h : Byt w A n c l) (hk : ∀ (p : Addr) u, w.cell? p = some u → w'.cell? p = some u) : Byt w' A n c l :=
  ⟨h.len, h.cap, h.max, h.rng, h.nil_, fun hn => by
    obtain ⟨g, off, e, hc⟩ := h.at_ hn
    exact ⟨g, off, e, fun i hi => hk _ _ (hc i hi)⟩⟩

theorem Byt.below (h : Byt w A n c l) (hb : Below w.heap.size w w') : Byt w' A n c l :=
  h.keep fun p _ hu => (hb.cell (World.block_lt_of_cell? w p hu)).trans hu

theorem Byt.drewN (h : Byt w A n c l) (k : Nat) : Byt (w.drewN k) A n c l := h.keep fun _ _ hu => hu
theorem Byt.drew (h : Byt w A n c l) : Byt w.drew A n c l := h.keep fun _ _ hu => hu

theorem Byt.alloc (h : Byt w A n c l) (o : Obj) : Byt (w.alloc o) A n c l :=
  h.below ((Below.refl _ _).alloc (Nat.le_refl _) o)

theorem Byt.lt_ (h : Byt w A n c l) (i : Nat) (hi : i < n) : 0 ≤ l.getD i 0 ∧ l.getD i 0 < 256 := by
  have hl : i < l.length := by rw [h.len]; exact hi
  have : l.getD i 0 = l[i] := by simp [List.getD, List.getElem?_eq_getElem hl]
  rw [this]
  exact h.rng _ (List.getElem_mem hl)

/-- What the call owns reads as bytes. -/
theorem Byt.of_own {base : Nat} {e : TypeId} (h : w.ownsRow base e 1 (.slice A n c) n (l.map (Value.int .u8))) (hr : ∀ x ∈ l, 0 ≤ x ∧ x < 256) : Byt w A n c l := by
  have hl : l.length = n := by simpa using h.1
  rcases h.2 with ⟨hv, hn⟩ | ⟨g, cap, cur, hv, hb, hg, hnc, hm, hs, ht⟩
  · injection hv with h1 h2 h3
    subst h1 h2 h3
    exact ⟨hl, Nat.le_refl _, Nat.zero_le _, hr, fun _ => ⟨rfl, rfl⟩, fun h => absurd h (by omega)⟩
  · injection hv with h1 h2 h3
    subst h1 h3
    refine ⟨hl, hnc, hm, hr, (fun h => nomatch h), fun _ => ⟨g, 0, rfl, fun i hi => ?_⟩⟩
    have := h.cells (g := g) rfl i (.int .u8 (l.getD i 0)) (by
      have hil : i < l.length := by omega
      simp [List.getElem?_map, List.getElem?_eq_getElem hil, List.getD])
    have hadd : (⟨g, 0, none⟩ : Addr).add i = ⟨g, 0 + i, none⟩ := by unfold Addr.add; split <;> simp_all
    rwa [hadd] at this

/-- A cut at the end: 's[:k]'. -/
theorem Byt.take (h : Byt w A n c l) (k : Nat) (hk : k ≤ n) : Byt w A k c (l.take k) := by
  refine ⟨by rw [List.length_take, h.len]; omega, by have := h.cap; omega, h.max, fun x hx => h.rng x (List.mem_of_mem_take hx), fun e => ⟨by have := (h.nil_ e).1; omega, (h.nil_ e).2⟩, fun hk0 => ?_⟩
  obtain ⟨g, off, e, hc⟩ := h.at_ (by omega)
  refine ⟨g, off, e, fun i hi => ?_⟩
  rw [hc i (by omega)]
  congr 2
  simp [List.getD, hi]

/-- The cells as a list, for the laws on append. -/
theorem Byt.cells (h : Byt w A n c l) (ad : Addr) (hA : A = some ad) : ∀ j u, (l.map (Value.int .u8))[j]? = some u → w.cell? (ad.add j) = some u := by
  intro j u hu
  rw [List.getElem?_map] at hu
  have hj : j < l.length := by
    rcases Nat.lt_or_ge j l.length with h1 | h1
    · exact h1
    · rw [List.getElem?_eq_none h1] at hu; simp at hu
  obtain ⟨g, off, e, hc⟩ := h.at_ (by rw [← h.len]; omega)
  rw [hA] at e
  injection e with e
  subst e
  rw [List.getElem?_eq_getElem hj] at hu
  have hadd : (⟨g, off, none⟩ : Addr).add j = ⟨g, off + j, none⟩ := by unfold Addr.add; split <;> simp_all
  rw [hadd, hc j (by rw [← h.len]; exact hj)]
  simp at hu
  rw [← hu]
  simp [List.getD, List.getElem?_eq_getElem hj]
end

theorem u8_one (l : List Int) : ∀ u ∈ l.map (Value.int .u8), u.oneCell' = true := by
  intro u hu
  obtain ⟨x, _, rfl⟩ := List.mem_map.1 hu
  rfl

/-- An operation whose guard says go. -/
theorem wpList_guarded {P : Program} {w : World} {ops : Array Oper} {rest : List Oper} {o : Oper} {a : Act} {Q : Exit → Act → World → Prop} (hw : Region.wanted o (yielded ops a.tmps) = true)
    (h : ∀ K : Act → World → Prop, (∀ a w, wpList P ops Q rest a w → K a w) → o.wp P a w K Q) : wpList P ops Q (o :: rest) a w :=
  wpList_step fun K hK => by rw [if_pos hw]; exact h K hK

theorem wp_append_byt {P : Program} {w : World} {o : Oper} {a : Act} {K : Act → World → Prop} {Q : Exit → Act → World → Prop} (s x : Operand) (t : TypeId)
    (ho : o.op = .call { callee := .builtin .append, args := #[s, x], argTypes := #[t, t] })
    (base : Nat) (e : TypeId) (i : TypeInfo) (ht : P.underlying t = some (.slice e)) (hi : P.info? e = some i) (hz : i.zero = some (.int .u8 0)) (hsize : i.size = 1) (hby : i.bytes = 1)
    (v : Value) (k : Nat) (xs : List Int) (hs : a.eval s = v) (hown : w.ownsRow base e 1 v k (xs.map (Value.int .u8)))
    (A : Option Addr) (n c : Nat) (l : List Int) (hx : a.eval x = .slice A n c) (hl : Byt w A n c l)
    (hbytes : k + n ≤ 140737488355328) (hbase : base ≤ w.heap.size)
    (h : ∀ A' c' w', w'.ownsRow base e 1 (.slice A' (k + n) c') (k + n) ((xs ++ l).map (Value.int .u8)) → w.grownBy w' v.ownBlock → K (a.put o.dst (.slice A' (k + n) c')) w') : o.wp P a w K Q := by
  have form : ∀ (v' : Value) (w' : World) (m : Nat) (ys : List Value), w'.ownsRow base e 1 v' m ys → ∃ A' c', v' = .slice A' m c' := by
    intro v' w' m ys ho'
    rcases ho'.2 with ⟨h1, h2⟩ | ⟨g, cap, _, h1, _⟩
    · subst h2; exact ⟨none, 0, h1⟩
    · exact ⟨_, _, h1⟩
  cases A with
  | none =>
    obtain ⟨rfl, rfl⟩ := hl.nil_ rfl
    have hl0 : l = [] := List.eq_nil_of_length_eq_zero hl.len
    subst hl0
    have hrun := run_append_owned_none (P := P) (w := w) base t o.type e i 1 ht hi v k _ hown
    obtain ⟨A', c', rfl⟩ := form _ _ _ _ hown
    have h' := h A' c' w
    simp only [Nat.add_zero, List.append_nil] at h'
    unfold Oper.wp
    simp [execOp, ho, resolve, invoke, builtin, hs, hx, hrun, Result.andThen]
    exact h' hown (World.grownBy.refl w _)
  | some ad =>
    refine wp_append_own w s x t ho base e i (.int .u8 0) 1 1 ht hi hz hsize hby rfl (by decide) v k _ hs hown ad n c (l.map (Value.int .u8)) hx (by simp [hl.len]) (hl.cells ad rfl) (u8_one l) (by unfold maxLen; omega) (by omega) hbase ?_
    intro v' w' h1 h2 _
    obtain ⟨A', c', rfl⟩ := form _ _ _ _ h1
    exact h A' c' w' (by simpa using h1) h2

/-- 'out = append(out, xs...)': out a row of the call's own, xs any slice of bytes. -/
theorem wpList_append_byt {P : Program} {w : World} {ops : Array Oper} {rest : List Oper} {o : Oper} {a : Act} {Q : Exit → Act → World → Prop} (hgd : o.guard = none) (s x : Operand) (t : TypeId)
    (ho : o.op = .call { callee := .builtin .append, args := #[s, x], argTypes := #[t, t] })
    (base : Nat) (e : TypeId) (i : TypeInfo) (ht : P.underlying t = some (.slice e)) (hi : P.info? e = some i) (hz : i.zero = some (.int .u8 0)) (hsize : i.size = 1) (hby : i.bytes = 1)
    (v : Value) (k : Nat) (xs : List Int) (hs : a.eval s = v) (hown : w.ownsRow base e 1 v k (xs.map (Value.int .u8)))
    (A : Option Addr) (n c : Nat) (l : List Int) (hx : a.eval x = .slice A n c) (hl : Byt w A n c l)
    (hbytes : k + n ≤ 140737488355328) (hbase : base ≤ w.heap.size)
    (h : ∀ A' c' w', w'.ownsRow base e 1 (.slice A' (k + n) c') (k + n) ((xs ++ l).map (Value.int .u8)) → w.grownBy w' v.ownBlock → wpList P ops Q rest (a.put o.dst (.slice A' (k + n) c')) w') :
    wpList P ops Q (o :: rest) a w :=
  wpList_plain hgd fun _ hK => wp_append_byt s x t ho base e i ht hi hz hsize hby v k xs hs hown A n c l hx hl hbytes hbase fun A' c' w' h1 h2 => hK _ _ (h A' c' w' h1 h2)

/-- The same behind a guard that says go. -/
theorem wpList_append_byt_g {P : Program} {w : World} {ops : Array Oper} {rest : List Oper} {o : Oper} {a : Act} {Q : Exit → Act → World → Prop} (hgd : Region.wanted o (yielded ops a.tmps) = true) (s x : Operand) (t : TypeId)
    (ho : o.op = .call { callee := .builtin .append, args := #[s, x], argTypes := #[t, t] })
    (base : Nat) (e : TypeId) (i : TypeInfo) (ht : P.underlying t = some (.slice e)) (hi : P.info? e = some i) (hz : i.zero = some (.int .u8 0)) (hsize : i.size = 1) (hby : i.bytes = 1)
    (v : Value) (k : Nat) (xs : List Int) (hs : a.eval s = v) (hown : w.ownsRow base e 1 v k (xs.map (Value.int .u8)))
    (A : Option Addr) (n c : Nat) (l : List Int) (hx : a.eval x = .slice A n c) (hl : Byt w A n c l)
    (hbytes : k + n ≤ 140737488355328) (hbase : base ≤ w.heap.size)
    (h : ∀ A' c' w', w'.ownsRow base e 1 (.slice A' (k + n) c') (k + n) ((xs ++ l).map (Value.int .u8)) → w.grownBy w' v.ownBlock → wpList P ops Q rest (a.put o.dst (.slice A' (k + n) c')) w') :
    wpList P ops Q (o :: rest) a w :=
  wpList_guarded hgd fun _ hK => wp_append_byt s x t ho base e i ht hi hz hsize hby v k xs hs hown A n c l hx hl hbytes hbase fun A' c' w' h1 h2 => hK _ _ (h A' c' w' h1 h2)

/-- 'T{x}': a new slice of one byte. -/
theorem own_one (W : World) (base : Nat) (e : TypeId) (x : Int) (hb : base ≤ W.heap.size) :
    (W.alloc (.cells #[.int .u8 x] e)).ownsRow base e 1 (.slice (some ⟨W.heap.size, 0, none⟩) 1 1) 1 ([x].map (Value.int .u8)) :=
  ⟨by simp, .inr ⟨W.heap.size, 1, _, rfl, hb, heap_alloc_new W _, Nat.le_refl _, by unfold maxLen; omega, by simp, by simp⟩⟩

/-- Block g is just the cells cs, of type t. -/
def Bk (w : World) (g : Nat) (t : TypeId) (cs : Array Value) : Prop := w.heap[g]? = some (.cells cs t (0, 0))

section
variable {w w' : World} {g : Nat} {t : TypeId} {cs : Array Value}
theorem Bk.lt (h : Bk w g t cs) : g < w.heap.size := (Array.getElem?_eq_some_iff.1 h).1
theorem Bk.cell (h : Bk w g t cs) (i : Nat) : w.cell? ⟨g, i, none⟩ = cs[i]? := cell_of_row w g i cs t (0, 0) h
theorem Bk.frz (h : Bk w g t cs) (i : Nat) : w.frozen? ⟨g, i, none⟩ = false := by
  unfold Bk at h
  simp [World.frozen?, h]
theorem Bk.new (w : World) (t : TypeId) (cs : Array Value) : Bk (w.alloc (.cells cs t)) w.heap.size t cs := heap_alloc_new w _
theorem Bk.setc (h : Bk w g t cs) (i : Nat) (u : Value) : Bk (w.setCell ⟨g, i, none⟩ u) g t (cs.setIfInBounds i u) := by
  unfold Bk at h ⊢
  simp [World.setCell, Array.getElem?_modify, h]
theorem Bk.bel (h : Bk w g t cs) {B : Nat} (hb : Below B w w') (hg : g < B) : Bk w' g t cs := (hb.block g hg).trans h
end

/-- A part of a block of bytes reads as a list. -/
theorem Byt.of_bk {w : World} {g : Nat} {t : TypeId} {cs : Array Value} (h : Bk w g t cs) (off n c : Nat) (l : List Int) (hl : l.length = n) (hc : n ≤ c) (hm : c ≤ maxLen) (hr : ∀ x ∈ l, 0 ≤ x ∧ x < 256)
    (ha : ∀ i, i < n → cs[off + i]? = some (.int .u8 (l.getD i 0))) : Byt w (some ⟨g, off, none⟩) n c l :=
  ⟨hl, hc, hm, hr, (fun h => nomatch h), fun _ => ⟨g, off, rfl, fun i hi => by rw [h.cell]; exact ha i hi⟩⟩

/-- 'T{x, y, ..}': a new block of bytes reads as them. -/
theorem Byt.lit (W : World) (t : TypeId) (l : List Int) (n : Nat) (hl : l.length = n) (hm : n ≤ maxLen) (hr : ∀ x ∈ l, 0 ≤ x ∧ x < 256) : Byt (W.alloc (.cells (l.map (Value.int .u8)).toArray t)) (some ⟨W.heap.size, 0, none⟩) n n l :=
  Byt.of_bk (Bk.new W t _) 0 n n l hl (Nat.le_refl _) hm hr (fun i hi => by
    have hil : i < l.length := by omega
    simp [List.getElem?_eq_getElem hil])

/-- The same where the block bears a mark ('[]byte("abc")' of a constant). -/
theorem Byt.lit_mark (W : World) (t : TypeId) (fr : Nat × Nat) (l : List Int) (n : Nat) (hl : l.length = n) (hm : n ≤ maxLen) (hr : ∀ x ∈ l, 0 ≤ x ∧ x < 256) : Byt (W.alloc (.cells (l.map (Value.int .u8)).toArray t fr)) (some ⟨W.heap.size, 0, none⟩) n n l :=
  ⟨hl, Nat.le_refl _, hm, hr, (fun h => nomatch h), fun _ => ⟨W.heap.size, 0, rfl, fun i hi => by
    have hil : i < l.length := by omega
    rw [cell_of_row _ _ _ _ _ _ (heap_alloc_new W _)]
    simp [List.getElem?_eq_getElem hil, List.getD]⟩⟩

/-- A call answers v; what was there reads as before. -/
def Ret (v : Value) (w : World) (e : Ending) (w' : World) : Prop := e = .returned v ∧ Below w.heap.size w w'

/-- A call hands back a slice that reads as l, in new memory; what was there reads as before. -/
def RetByt (l : List Int) (w : World) (e : Ending) (w' : World) : Prop :=
  ∃ A n c, e = .returned (.slice A n c) ∧ Byt w' A n c l ∧ Below w.heap.size w w'

/-- A slice that reads as l, and a number beside it. -/
def RetByt2 (l : List Int) (k : IntKind) (x : Int) (w : World) (e : Ending) (w' : World) : Prop :=
  ∃ A n c, e = .returned (.tuple #[.slice A n c, .int k x]) ∧ Byt w' A n c l ∧ Below w.heap.size w w'

/-- What the call says, and that it draws at most. -/
def Quiet (v : Value) (w : World) (e : Ending) (w' : World) : Prop := e = .returned v ∧ ∃ k, w' = w.drewN k

theorem below_drewN {B : Nat} {a w : World} (h : Below B a w) (n : Nat) : Below B a (w.drewN n) := ⟨h.os, h.tape, h.output, h.size, h.block⟩

theorem Below.then {w w1 w2 : World} (h : Below w.heap.size w w1) (k : Below w1.heap.size w1 w2) : Below w.heap.size w w2 :=
  h.trans (k.mono h.size)

/-- A call that draws at most, told as one that leaves what was there. -/
theorem Quiet.ret {P : Program} {f : FuncId} {args : Array Value} {v : Value} {w : World} (h : Calls P f args w (Quiet v w)) : Calls P f args w (Ret v w) :=
  h.mono fun _ _ ⟨he, k, hw⟩ => ⟨he, by rw [hw]; exact below_drewN (Below.refl _ _) k⟩

end Go.Proofs.Ytllkdcnejobinaa

/- the statements' own() hands back the same bytes in new memory; the slice that comes in holds at most 2^47 bytes. -/
namespace Go.Proofs.Ytllkdcnejobinaa
open Go.RowKit

theorem info_u8 : (Try.prog.info? 5).map (fun i => (i.zero, i.size, i.bytes)) = some (some (.int .u8 0), 1, 1) := by kernel_rfl

/-- A call hands back a row of its own that reads as l. -/
def RetOwn (l : List Int) (w : World) (e : Ending) (w' : World) : Prop :=
  ∃ A n c, e = .returned (.slice A n c) ∧ w'.ownsRow w.heap.size 5 1 (.slice A n c) n (l.map (Value.int .u8)) ∧ (∀ x ∈ l, 0 ≤ x ∧ x < 256) ∧ Below w.heap.size w w'

theorem RetOwn.byt {l : List Int} {w : World} {e : Ending} {w' : World} (h : RetOwn l w e w') : RetByt l w e w' := by
  obtain ⟨A, n, c, he, ho, hr, hb⟩ := h
  exact ⟨A, n, c, he, Byt.of_own ho hr, hb⟩

theorem own_end {w w' : World} {A' : Option Addr} {n c' : Nat} {l : List Int} (hr : ∀ x ∈ l, 0 ≤ x ∧ x < 256)
    (h1 : w'.ownsRow w.heap.size 5 1 (.slice A' n c') n (l.map (Value.int .u8))) (h2 : (w.alloc (.cells #[] 5)).grownBy w' (Value.ownBlock (.slice (some ⟨w.heap.size, 0, none⟩) 0 0))) :
    RetOwn l w (.returned (.slice A' n c')) w' :=
  ⟨A', n, c', rfl, h1, hr, ((Below.refl _ _).alloc (Nat.le_refl _) _).grown h2 (by simp) (by intro k hk; simp [Value.ownBlock] at hk; omega)⟩

/- What an append onto a row of one's own leaves. -/
theorem app_below {w1 w2 w3 : World} {v : Value} {k : Nat} {e : TypeId} {xs : List Value} (b2 : Below w1.heap.size w1 w2) (ho : w2.ownsRow w1.heap.size e 1 v k xs) (hg : w2.grownBy w3 v.ownBlock) : Below w1.heap.size w1 w3 :=
  b2.grown hg b2.size (fun i hi => (ho.lt i hi).1)

theorem app_byt {B : Nat} {w : World} {e : TypeId} {A : Option Addr} {m c : Nat} {xs ys : List Int} (h : w.ownsRow B e 1 (.slice A m c) m (xs.map (Value.int .u8) ++ ys.map (Value.int .u8))) (hx : ∀ x ∈ xs, 0 ≤ x ∧ x < 256) (hy : ∀ x ∈ ys, 0 ≤ x ∧ x < 256) : Byt w A m c (xs ++ ys) := by
  rw [← List.map_append] at h
  exact Byt.of_own h (fun x hx' => by
    rcases List.mem_append.1 hx' with h | h
    · exact hx x h
    · exact hy x h)

/-- n noughts. -/
def noughts (n : Nat) : Array Value := madeCells #[.int .u8 0] n
theorem noughts_size (n : Nat) : (noughts n).size = n := size_madeCells _ _

theorem make_bytes (n : Nat) (hn : n ≤ 281474976710656) (W : World) : (Instr.makeSlice 46 (.int .i64 (n : Int)) (.int .i64 (n : Int))).run Try.prog W =
    .ok (.slice (some ⟨W.heap.size, 0, none⟩) n n) (W.alloc (.cells (noughts n) 5)) := by
  obtain ⟨i0, hi, hz0, hz1, hz2⟩ := info_parts info_u8
  have := run_make (P := Try.prog) W 46 5 i0 (.int .u8 0) Try.underlying46 hi hz0 .i64 .i64 n n (by omega) (by omega) (by rw [hz2]; omega) (by omega)
  rw [this, hz1, Int.toNat_natCast, Nat.mul_one]
  rfl
end Go.Proofs.Ytllkdcnejobinaa

/- strings as lists of bytes; '[]byte(s)', 'string(b)' and 'append(b, s...)' as the laws on slices of bytes want them. No program's function is named; no condition. -/
namespace Go.Proofs.Ytllkdcnejobinaa
open Go.RowKit

/-- A string's bytes as numbers. -/
def nums (s : ByteArray) : List Int := s.data.toList.map fun b => (b.toNat : Int)

theorem nums_rng (s : ByteArray) : ∀ x ∈ nums s, 0 ≤ x ∧ x < 256 := by
  intro x hx
  obtain ⟨b, _, rfl⟩ := List.mem_map.1 hx
  have := b.toNat_lt
  omega

theorem nums_len (s : ByteArray) : (nums s).length = s.size := by
  unfold nums
  rw [List.length_map, Array.length_toList]
  rfl

theorem nums_str (l : List Int) (hr : ∀ x ∈ l, 0 ≤ x ∧ x < 256) : nums (strOfNums l) = l := by
  unfold nums
  rw [strOfNums_data, List.map_map]
  conv => rhs; rw [← List.map_id l]
  refine List.map_congr_left fun x hx => ?_
  have := hr x hx
  simp only [Function.comp, id, UInt8.toNat_ofNat']
  omega

theorem str_nums (s : ByteArray) : strOfNums (nums s) = s := by
  apply ByteArray.ext
  apply Array.ext'
  rw [strOfNums_data]
  unfold nums
  rw [List.map_map]
  conv => rhs; rw [← List.map_id s.data.toList]
  refine List.map_congr_left fun b _ => ?_
  simp [Function.comp]

theorem str_inj {l m : List Int} (hl : ∀ x ∈ l, 0 ≤ x ∧ x < 256) (hm : ∀ x ∈ m, 0 ≤ x ∧ x < 256) (h : strOfNums l = strOfNums m) : l = m := by
  rw [← nums_str l hl, ← nums_str m hm, h]

theorem strCells_nums (s : ByteArray) : Lib.strCells s = (nums s).map (Value.int .u8) := by
  unfold Lib.strCells nums
  rw [List.map_map]
  rfl

theorem nums_getD (s : ByteArray) (j : Nat) (hj : j < s.size) : (nums s).getD j 0 = ((s.data.toList.getD j 0).toNat : Int) := by
  have h : j < s.data.toList.length := by rw [Array.length_toList]; exact hj
  unfold nums
  simp only [List.getD, List.getElem?_map, List.getElem?_eq_getElem h, Option.map_some, Option.getD_some]

theorem bytesWorld_below (w : World) (e : TypeId) (s : ByteArray) : Below w.heap.size w (Lib.bytesWorld w e s) :=
  ⟨rfl, rfl, rfl, by rw [Lib.bytesWorld_size]; omega, fun k hk => Lib.bytesWorld_at_old w e s k hk⟩

/-- '[]byte(s)': new memory that reads as the string's bytes. -/
theorem Byt.ofString (w : World) (e : TypeId) (s : ByteArray) (hs : s.size ≤ maxLen) : Byt (Lib.bytesWorld w e s) (some ⟨w.heap.size, 0, none⟩) s.size (grownCap w s.size 0 e) (nums s) :=
  ⟨nums_len s, grownCap_ge w s.size 0 e, grownCap_le_maxLen w s.size 0 e hs, nums_rng s, (fun h => nomatch h), fun _ => ⟨w.heap.size, 0, rfl, fun i hi => by
    rw [Nat.zero_add, Lib.bytesWorld_cell w e s i hi, nums_getD s i hi]⟩⟩

theorem conv_str (w : World) (s : ByteArray) : (convert 9 46 (.string s)).run Try.prog w = .ok (.slice (some ⟨w.heap.size, 0, none⟩) s.size (grownCap w s.size 0 5)) (Lib.bytesWorld w 5 s) :=
  Lib.run_convert_string_bytes w _ _ _ s Try.underlying9 Try.underlying46 Try.underlying5

/-- 'string(b)': a string of just these bytes; nothing is turned. -/
theorem conv_byt {w : World} {A : Option Addr} {n c : Nat} {l : List Int} (h : Byt w A n c l) : (convert 46 9 (.slice A n c)).run Try.prog w = .ok (.string (strOfNums l)) w := by
  by_cases hn : 0 < n
  · obtain ⟨g, off, rfl, hc⟩ := h.at_ hn
    exact run_convert_bytes_arg w _ _ Try.underlying46 Try.underlying5 g off n c l h.len hc _ Try.underlying9
  · have h0 : n = 0 := by omega
    subst h0
    have e : l = [] := List.eq_nil_of_length_eq_zero h.len
    subst e
    cases A with
    | none => exact run_convert_bytes_nil w _ _ Try.underlying46 Try.underlying5 _ _ _ Try.underlying9
    | some a =>
      rw [run_convert_bytes_string w _ _ _ _ _ _ Try.underlying46 Try.underlying5 Try.underlying9]
      rw [run_bytesToString w a 0 c [] (by simpa using run_loadCells_list (P := Try.prog) w a [] (by simp))]
      rfl

theorem str_size (l : List Int) : (strOfNums l).size = l.length := strOfNums_size l

/-- Where 's[j:..]' begins. -/
def subA (A : Option Addr) (c j : Nat) : Option Addr := if c = j then A else A.map (·.add (j * 1))

/-- 's[j:k]' reads as that part. -/
theorem Byt.sub {w : World} {A : Option Addr} {n c : Nat} {l : List Int} (h : Byt w A n c l) (j k : Nat) (hjk : j ≤ k) (hk : k ≤ n) : Byt w (subA A c j) (k - j) (c - j) ((l.drop j).take (k - j)) := by
  have hcap := h.cap
  have hmax := h.max
  refine ⟨by rw [List.length_take, List.length_drop, h.len]; omega, by omega, by omega, fun x hx => h.rng x (List.mem_of_mem_drop (List.mem_of_mem_take hx)), fun e => ?_, fun hp => ?_⟩
  · have e' : A = none := by
      unfold subA at e
      split at e
      · exact e
      · cases A with
        | none => rfl
        | some a => simp at e
    have := h.nil_ e'
    omega
  · obtain ⟨g, off, h1, hc⟩ := h.at_ (by omega)
    subst h1
    refine ⟨g, off + j, ?_, fun i hi => ?_⟩
    · unfold subA
      rw [if_neg (by omega)]
      simp [Addr.add]
    · rw [Nat.add_assoc, hc (j + i) (by omega)]
      congr 2
      simp [List.getD, hi]

theorem elem25 : Try.prog.elem 46 = 5 := by kernel_rfl
theorem under25 : Try.prog.underlying 46 = some (.slice (Try.prog.elem 46)) := by kernel_rfl

theorem sz_u8 (W : World) : (sizeOf 5).run Try.prog W = .ok 1 W := by
  obtain ⟨i0, hi, hz0, hz1, hz2⟩ := info_parts info_u8
  simp [sizeOf, typeInfo, hi, hz1]

/-- 's[j:k]'. -/
theorem cut_lh {w : World} {A : Option Addr} {n c : Nat} {l : List Int} (h : Byt w A n c l) (j k : Nat) (hjk : j ≤ k) (hk : k ≤ n) (zj zk : Int) (ej : zj = j) (ek : zk = k) :
    ∃ B m d, (∀ v, (Instr.slice 46 (.slice A n c) (some (.int .i64 zj)) (some (.int .i64 zk)) none).run Try.prog v = .ok (.slice B m d) v) ∧ m = k - j ∧ Byt w B m d ((l.drop j).take (k - j)) := by
  have hcap := h.cap
  subst ej ek
  refine ⟨subA A c j, k - j, c - j, fun v => ?_, rfl, h.sub j k hjk hk⟩
  rw [run_slice_lh (P := Try.prog) (w := v) 46 A n c under25 .i64 .i64 j k (by omega) (by omega) (by omega), elem25, sz_u8]
  simp [sliced, Result.andThen, subA]

/-- 's[j:]'. -/
theorem cut_l {w : World} {A : Option Addr} {n c : Nat} {l : List Int} (h : Byt w A n c l) (j : Nat) (hj : j ≤ n) (zj : Int) (ej : zj = j) :
    ∃ B m d, (∀ v, (Instr.slice 46 (.slice A n c) (some (.int .i64 zj)) none none).run Try.prog v = .ok (.slice B m d) v) ∧ m = n - j ∧ Byt w B m d (l.drop j) := by
  have hcap := h.cap
  subst ej
  refine ⟨subA A c j, n - j, c - j, fun v => ?_, rfl, ?_⟩
  · rw [run_slice_l (P := Try.prog) (w := v) 46 A n c under25 .i64 j (by omega) (by omega), elem25, sz_u8]
    simp [sliced, Result.andThen, subA]
  · have := h.sub j n hj (Nat.le_refl _)
    rwa [List.take_of_length_le (by rw [List.length_drop, h.len]; omega)] at this

theorem subA_block {A : Option Addr} {c j : Nat} {a : Addr} (h : subA A c j = some a) : ∃ a', A = some a' ∧ a.block = a'.block := by
  unfold subA at h
  split at h
  · exact ⟨a, h, rfl⟩
  · cases A with
    | none => simp at h
    | some a' =>
      simp at h
      refine ⟨a', rfl, ?_⟩
      rw [← h]
      unfold Addr.add
      split <;> rfl

/-- 's[j:]', and in which block it lies. -/
theorem cut_lb {w : World} {A : Option Addr} {n c : Nat} {l : List Int} (h : Byt w A n c l) (j : Nat) (hj : j ≤ n) (zj : Int) (ej : zj = j) :
    ∃ B m d, (∀ v, (Instr.slice 46 (.slice A n c) (some (.int .i64 zj)) none none).run Try.prog v = .ok (.slice B m d) v) ∧ m = n - j ∧ Byt w B m d (l.drop j) ∧ ∀ a, B = some a → ∃ a', A = some a' ∧ a.block = a'.block := by
  have hcap := h.cap
  subst ej
  refine ⟨subA A c j, n - j, c - j, fun v => ?_, rfl, ?_, fun a ha => subA_block ha⟩
  · rw [run_slice_l (P := Try.prog) (w := v) 46 A n c under25 .i64 j (by omega) (by omega), elem25, sz_u8]
    simp [sliced, Result.andThen, subA]
  · have := h.sub j n hj (Nat.le_refl _)
    rwa [List.take_of_length_le (by rw [List.length_drop, h.len]; omega)] at this

/-- 's[:k]'. -/
theorem cut_h {w : World} {A : Option Addr} {n c : Nat} {l : List Int} (h : Byt w A n c l) (k : Nat) (hk : k ≤ n) (zk : Int) (ek : zk = k) :
    ∃ B d, (∀ v, (Instr.slice 46 (.slice A n c) none (some (.int .i64 zk)) none).run Try.prog v = .ok (.slice B k d) v) ∧ Byt w B k d (l.take k) := by
  have hcap := h.cap
  subst ek
  refine ⟨subA A c 0, c - 0, fun v => ?_, ?_⟩
  · rw [run_slice_h (P := Try.prog) (w := v) 46 A n c under25 .i64 k (by omega) (by omega), elem25, sz_u8]
    simp [sliced, Result.andThen, subA]
  · have := h.sub 0 k (Nat.zero_le _) hk
    simpa using this
end Go.Proofs.Ytllkdcnejobinaa

/- plain mathematics of layer 1: digits to the base 128, what is read of them, big-endian bytes. No program is named; no condition. -/
namespace Go.Proofs.Ytllkdcnejobinaa

/-- The digits ahead of the last one, 128 added to each. -/
def hiD (n : Nat) : List Int := if _h : n = 0 then [] else hiD (n / 128) ++ [((n : Int) % 128) + 128]
termination_by n
decreasing_by omega

/-- The varint encoding. -/
def shortL (n : Nat) : List Int := hiD (n / 128) ++ [((n : Int) % 128)]

theorem hiD_zero : hiD 0 = [] := by rw [hiD]; simp
theorem hiD_pos {n : Nat} (h : n ≠ 0) : hiD n = hiD (n / 128) ++ [((n : Int) % 128) + 128] := by rw [hiD]; simp [h]

theorem hiD_rng (n : Nat) : ∀ x ∈ hiD n, 128 ≤ x ∧ x < 256 := by
  induction n using Nat.strongRecOn with
  | _ n ih =>
    intro x hx
    by_cases h : n = 0
    · rw [h, hiD_zero] at hx; simp at hx
    · rw [hiD_pos h, List.mem_append] at hx
      rcases hx with hx | hx
      · exact ih (n / 128) (by omega) x hx
      · simp at hx; omega

theorem shortL_rng (n : Nat) : ∀ x ∈ shortL n, 0 ≤ x ∧ x < 256 := by
  intro x hx
  unfold shortL at hx
  rw [List.mem_append] at hx
  rcases hx with hx | hx
  · have := hiD_rng _ x hx; omega
  · simp at hx; omega

theorem hiD_len (n k : Nat) (h : n < 128 ^ k) : (hiD n).length ≤ k := by
  induction k generalizing n with
  | zero => have : n = 0 := by simpa using h
            rw [this, hiD_zero]; simp
  | succ k ih =>
    by_cases h0 : n = 0
    · rw [h0, hiD_zero]; simp
    · rw [hiD_pos h0]
      have := ih (n / 128) (by rw [Nat.pow_succ] at h; omega)
      simp; omega

theorem shortL_len (n : Nat) (h : n < 18446744073709551616) : (shortL n).length ≤ 10 := by
  unfold shortL
  have := hiD_len (n / 128) 9 (by omega)
  simp; omega

theorem shortL_pos (n : Nat) : 0 < (shortL n).length := by unfold shortL; simp

theorem hiD_mono (a : Nat) : ∀ b, a ≤ b → (hiD a).length ≤ (hiD b).length := by
  induction a using Nat.strongRecOn with
  | _ a ih =>
    intro b hab
    by_cases h : a = 0
    · rw [h, hiD_zero]; simp
    · rw [hiD_pos h, hiD_pos (n := b) (by omega)]
      have := ih (a / 128) (by omega) (b / 128) (by omega)
      simp; omega

theorem shortL_mono {a b : Nat} (h : a ≤ b) : (shortL a).length ≤ (shortL b).length := by
  unfold shortL
  have := hiD_mono (a / 128) (b / 128) (by omega)
  simp; omega

theorem short300 : shortL 300 = [130, 44] := by
  unfold shortL
  rw [hiD_pos (by decide), show 300 / 128 / 128 = 0 from rfl, hiD_zero]
  rfl

/-- What is read at the beginning: the number, how many bytes it has, the error's number. n: what is gathered; i: how many bytes are gone through. -/
def takeF : List Int → Nat → Nat → Nat × Nat × Nat
  | [], _, _ => (0, 0, 10)
  | c :: r, n, i => if i = 0 ∧ c = 128 then (0, 0, 11) else if 144115188075855872 ≤ n then (0, 0, 12) else
      if c < 128 then (n * 128 + (c % 128).toNat, i + 1, 0) else takeF r (n * 128 + (c % 128).toNat) (i + 1)

theorem takeF_cons (c : Int) (r : List Int) (n i : Nat) : takeF (c :: r) n i = if i = 0 ∧ c = 128 then (0, 0, 11) else if 144115188075855872 ≤ n then (0, 0, 12) else
      if c < 128 then (n * 128 + (c % 128).toNat, i + 1, 0) else takeF r (n * 128 + (c % 128).toNat) (i + 1) := rfl

/-- The digits of a number are gone through, and what stands behind them is read on. -/
theorem takeF_hiD (m : Nat) (hm : m < 144115188075855872) (rest : List Int) (hd : m = 0 → True) : takeF (hiD m ++ rest) 0 0 = takeF rest m (hiD m).length := by
  induction m using Nat.strongRecOn generalizing rest with
  | _ m ih =>
    by_cases h : m = 0
    · rw [h, hiD_zero]; rfl
    · rw [hiD_pos h, List.append_assoc, ih (m / 128) (by omega) (by omega) _ (fun _ => trivial)]
      have hl : (hiD (m / 128)).length = 0 → m / 128 = 0 := by
        intro hl
        by_cases h0 : m / 128 = 0
        · exact h0
        · rw [hiD_pos h0] at hl; simp at hl
      rw [List.cons_append, List.nil_append, takeF_cons, if_neg (by intro ⟨h1, h2⟩; have := hl h1; omega), if_neg (by omega), if_neg (by omega)]
      have e : m / 128 * 128 + ((((m : Int) % 128) + 128) % 128).toNat = m := by omega
      rw [e, List.length_append]
      congr 1

theorem takeF_short (n : Nat) (hn : n < 18446744073709551616) (rest : List Int) : takeF (shortL n ++ rest) 0 0 = (n, (shortL n).length, 0) := by
  unfold shortL
  rw [List.append_assoc, takeF_hiD _ (by omega) _ (fun _ => trivial)]
  rw [List.cons_append, List.nil_append, takeF_cons, if_neg (by omega), if_neg (by omega), if_pos (by omega)]
  have e : n / 128 * 128 + (((n : Int) % 128) % 128).toNat = n := by omega
  rw [e, List.length_append]
  congr 1

theorem takeF_cut (m : Nat) (hm : m < 144115188075855872) (c : Nat) (hc : c ≤ (hiD m).length) : takeF ((hiD m).take c) 0 0 = (0, 0, 10) := by
  induction m using Nat.strongRecOn generalizing c with
  | _ m ih =>
    by_cases h : m = 0
    · rw [h, hiD_zero]; simp [takeF]
    · by_cases hc1 : c ≤ (hiD (m / 128)).length
      · rw [hiD_pos h, List.take_append_of_le_length hc1]
        exact ih (m / 128) (by omega) (by omega) c hc1
      · have hl : (hiD m).length = (hiD (m / 128)).length + 1 := by rw [hiD_pos h]; simp
        rw [List.take_of_length_le (by omega)]
        have := takeF_hiD m hm [] (fun _ => trivial)
        rw [List.append_nil] at this
        rw [this]; rfl

/-- No beginning of a number's digits is read. -/
theorem takeF_short_cut (n : Nat) (hn : n < 18446744073709551616) (c : Nat) (hc : c < (shortL n).length) : takeF ((shortL n).take c) 0 0 = (0, 0, 10) := by
  unfold shortL at hc ⊢
  simp at hc
  rw [List.take_append_of_le_length (by omega)]
  exact takeF_cut _ (by omega) c (by omega)

/-- What is read is below 2^64, and its digits are just the bytes gone through. -/
theorem takeF_back (l : List Int) (hr : ∀ x ∈ l, 0 ≤ x ∧ x < 256) (done : List Int) (n i : Nat) (hd : done = hiD n) (hi : i = done.length) :
    ∀ z k, takeF l n i = (z, k, 0) → z < 18446744073709551616 ∧ i < k ∧ k ≤ i + l.length ∧ shortL z = (done ++ l).take k := by
  induction l generalizing done n i with
  | nil => intro z k h; simp [takeF] at h
  | cons c r ih =>
    intro z k h
    have hc := hr c (by simp)
    have hr' : ∀ x ∈ r, 0 ≤ x ∧ x < 256 := fun x hx => hr x (by simp [hx])
    rw [takeF_cons] at h
    by_cases h1 : i = 0 ∧ c = 128
    · rw [if_pos h1] at h; simp at h
    rw [if_neg h1] at h
    by_cases h2 : 144115188075855872 ≤ n
    · rw [if_pos h2] at h; simp at h
    rw [if_neg h2] at h
    have hn0 : i = 0 → n = 0 := by
      intro h0
      by_cases hn : n = 0
      · exact hn
      · rw [hd, hiD_pos hn] at hi; simp at hi; omega
    by_cases h3 : c < 128
    · rw [if_pos h3] at h
      simp only [Prod.mk.injEq, and_true] at h
      obtain ⟨hz, hk⟩ := h
      subst hk
      have hz' : z / 128 = n := by omega
      have hzm : ((z : Int) % 128) = c := by omega
      refine ⟨by omega, by omega, by simp, ?_⟩
      unfold shortL
      rw [hz', hzm, ← hd]
      rw [List.take_append, List.take_of_length_le (by omega)]
      have : i + 1 - done.length = 1 := by omega
      rw [this]; simp
    · rw [if_neg h3] at h
      have hne : n * 128 + (c % 128).toNat ≠ 0 := by
        intro h0
        have hn0' : n = 0 := by omega
        have hc0 : c = 128 := by omega
        have : i = 0 := by rw [hi, hd, hn0', hiD_zero]; rfl
        exact h1 ⟨this, hc0⟩
      have hstep : done ++ [c] = hiD (n * 128 + (c % 128).toNat) := by
        rw [hiD_pos hne]
        have e1 : (n * 128 + (c % 128).toNat) / 128 = n := by omega
        have e2 : ((n * 128 + (c % 128).toNat : Nat) : Int) % 128 + 128 = c := by omega
        rw [e1, e2, hd]
      obtain ⟨a1, a2, a3, a4⟩ := ih hr' (done ++ [c]) _ (i + 1) hstep (by simp [hi]) z k h
      refine ⟨a1, by omega, by simp; omega, ?_⟩
      rw [a4]; simp

theorem takeF_read (l : List Int) (hr : ∀ x ∈ l, 0 ≤ x ∧ x < 256) (z k : Nat) (h : takeF l 0 0 = (z, k, 0)) : z < 18446744073709551616 ∧ k ≤ l.length ∧ shortL z = l.take k := by
  obtain ⟨h1, _, h3, h4⟩ := takeF_back l hr [] 0 0 (by rw [hiD_zero]) rfl z k h
  exact ⟨h1, by omega, by simpa using h4⟩

theorem takeF_err (l : List Int) (n i : Nat) : (takeF l n i).2.2 = 0 ∨ (takeF l n i).2.2 = 10 ∨ (takeF l n i).2.2 = 11 ∨ (takeF l n i).2.2 = 12 := by
  induction l generalizing n i with
  | nil => simp [takeF]
  | cons c r ih =>
    rw [takeF_cons]
    by_cases h1 : i = 0 ∧ c = 128
    · rw [if_pos h1]; simp
    rw [if_neg h1]
    by_cases h2 : 144115188075855872 ≤ n
    · rw [if_pos h2]; simp
    rw [if_neg h2]
    by_cases h3 : c < 128
    · rw [if_pos h3]; simp
    · rw [if_neg h3]; exact ih _ _

/-- The big-endian bytes of n, k of them. -/
def wideL : Nat → Nat → List Int
  | 0, _ => []
  | k + 1, n => wideL k (n / 256) ++ [((n : Int) % 256)]

theorem wideL_len (k n : Nat) : (wideL k n).length = k := by
  induction k generalizing n with
  | zero => rfl
  | succ k ih => simp [wideL, ih]

theorem wideL_rng (k n : Nat) : ∀ x ∈ wideL k n, 0 ≤ x ∧ x < 256 := by
  induction k generalizing n with
  | zero => simp [wideL]
  | succ k ih =>
    intro x hx
    rw [wideL, List.mem_append] at hx
    rcases hx with hx | hx
    · exact ih _ x hx
    · simp at hx; omega

theorem wideL_at (k n i : Nat) (h : i < k) : (wideL k n).getD (k - 1 - i) 0 = ((n / 256 ^ i : Nat) : Int) % 256 := by
  induction k generalizing n i with
  | zero => omega
  | succ k ih =>
    cases i with
    | zero => simp [wideL, wideL_len, List.getD]
    | succ i =>
      have hlt : k + 1 - 1 - (i + 1) < (wideL k (n / 256)).length := by rw [wideL_len]; omega
      rw [wideL, List.getD, List.getElem?_append_left hlt]
      have := ih (n / 256) i (by omega)
      rw [List.getD, show k - 1 - i = k + 1 - 1 - (i + 1) from by omega] at this
      rw [this, Nat.div_div_eq_div_mul, Nat.pow_succ, Nat.mul_comm 256]

/-- The number whose big-endian bytes these are. -/
def ofWide (l : List Int) : Nat := l.foldl (fun n c => n * 256 + c.toNat) 0

theorem ofWide_snoc (l : List Int) (c : Int) : ofWide (l ++ [c]) = ofWide l * 256 + c.toNat := by simp [ofWide]

theorem ofWide_wideL (k n : Nat) (h : n < 256 ^ k) : ofWide (wideL k n) = n := by
  induction k generalizing n with
  | zero => have : n = 0 := by simpa using h
            rw [this]; rfl
  | succ k ih =>
    rw [wideL, ofWide_snoc, ih (n / 256) (by rw [Nat.pow_succ] at h; omega)]
    omega

theorem snocRec {α : Type} {p : List α → Prop} (nil : p []) (snoc : ∀ l c, p l → p (l ++ [c])) (l : List α) : p l := by
  have : ∀ n (l : List α), l.length = n → p l := by
    intro n
    induction n with
    | zero => intro l h; rw [List.eq_nil_of_length_eq_zero h]; exact nil
    | succ n ih =>
      intro l h
      have hne : l ≠ [] := by intro e; rw [e] at h; simp at h
      rw [← List.dropLast_concat_getLast hne]
      exact snoc _ _ (ih _ (by simp [h]))
  exact this _ l rfl

theorem ofWide_lt (l : List Int) (hr : ∀ x ∈ l, 0 ≤ x ∧ x < 256) : ofWide l < 256 ^ l.length := by
  induction l using snocRec with
  | nil => simp [ofWide]
  | snoc l c ih =>
    have := ih (fun x hx => hr x (by simp [hx]))
    have hc := hr c (by simp)
    rw [ofWide_snoc, List.length_append, List.length_singleton, Nat.pow_succ]
    omega

/-- What bytes are folded to. -/
def foldL (l : List Int) (n : Nat) : Nat := l.foldl (fun v c => (v * 31 + c.toNat) % n) 0

theorem foldL_snoc (l : List Int) (c : Int) (n : Nat) : foldL (l ++ [c]) n = (foldL l n * 31 + c.toNat) % n := by simp [foldL]

theorem foldL_lt (l : List Int) (n : Nat) (h : 0 < n) : foldL l n < n := by
  induction l using snocRec with
  | nil => exact h
  | snoc l c _ => rw [foldL_snoc]; exact Nat.mod_lt _ h

theorem foldL_step (l : List Int) (n k : Nat) (h : k < l.length) : foldL (l.take (k + 1)) n = (foldL (l.take k) n * 31 + (l.getD k 0).toNat) % n := by
  rw [List.take_succ_eq_append_getElem h, foldL_snoc]
  simp [List.getD, List.getElem?_eq_getElem h]
end Go.Proofs.Ytllkdcnejobinaa

/- num.TakeShort and trothref01.TakeShort answer what 'takeF' reads of the bytes, and write nothing. -/
namespace Go.Proofs.Ytllkdcnejobinaa
open Go.RowKit

def Take3 (k : IntKind) (l : List Int) (w : World) (e : Ending) (w' : World) : Prop :=
  e = .returned (.tuple #[.int .u64 ((takeF l 0 0).1 : Int), .int .i64 ((takeF l 0 0).2.1 : Int), .int k ((takeF l 0 0).2.2 : Int)]) ∧ ∃ m, w' = w.drewN m

theorem take3_of {k : IntKind} {l : List Int} {w w' : World} {a b c : Nat} {x y z : Int} (h : takeF l 0 0 = (a, b, c)) (hx : x = a) (hy : y = b) (hz : z = c) (hw : ∃ m, w' = w.drewN m) :
    Take3 k l w (.returned (.tuple #[.int .u64 x, .int .i64 y, .int k z])) w' := by
  subst hx hy hz
  exact ⟨by rw [h], hw⟩

/-- One step: what is read from place k on. -/
theorem takeF_at {l : List Int} {k m : Nat} (h : k < l.length) (e : takeF l 0 0 = takeF (l.drop k) m k) : takeF l 0 0 = if k = 0 ∧ l.getD k 0 = 128 then (0, 0, 11) else if 144115188075855872 ≤ m then (0, 0, 12) else
      if l.getD k 0 < 128 then (m * 128 + (l.getD k 0 % 128).toNat, k + 1, 0) else takeF (l.drop (k + 1)) (m * 128 + (l.getD k 0 % 128).toNat) (k + 1) := by
  rw [e, List.drop_eq_getElem_cons h, takeF_cons]
  have : l.getD k 0 = l[k] := by simp [List.getD, List.getElem?_eq_getElem h]
  rw [this]

set_option maxHeartbeats 1000000 in
theorem numTake_rows (g off n c : Nat) (l : List Int) (w : World) (h : Byt w (some ⟨g, off, none⟩) n c l) (hn : 0 < n) :
    Calls Try.prog 46 #[.slice (some ⟨g, off, none⟩) n c] w (Take3 .i64 l w) := by
  have hc0 : ∀ i, i < n → w.cell? ⟨g, off + i, none⟩ = some (.int .u8 (l.getD i 0)) := by
    obtain ⟨g1, o1, e, hc⟩ := h.at_ hn
    injection e with e; injection e with e1 e2; subst e1; subst e2
    exact hc
  have hcap := h.cap
  have hmax := h.max
  unfold maxLen at hmax
  have HL := Lib.hid h.len
  have HR := Lib.hid h.lt_
  have HC := Lib.hid hc0
  clear hc0 h
  go_enter Try.func46, Try.ntmps46
  go_wp2_with fail
  go_loop [5, 10] (fun s i => ∃ k m : Nat, k ≤ n ∧ m < 18446744073709551616 ∧ s = .int .u64 m ∧ i = .int .i64 k ∧ takeF l 0 0 = takeF (l.drop k) m k) (fun _ i => n - (intOf i).toNat)
  case atStart => exact ⟨0, 0, Nat.zero_le _, by omega, rfl, rfl, rfl⟩
  case round =>
    obtain ⟨k, m, hk, hm, rfl, rfl, ht⟩ := hrel
    have HT := Lib.hid ht
    clear ht
    by_cases hlt : k < n
    · have hx := HC.out k hlt
      have hr := HR.out k hlt
      have T := Lib.hid (takeF_at (by rw [HL.out]; exact hlt) HT.out)
      obtain ⟨x, ex⟩ : ∃ x, x = l.getD k 0 := ⟨_, rfl⟩
      rw [← ex] at hx hr T
      clear ex
      obtain ⟨hr0, hr1⟩ := hr
      by_cases h1 : k = 0 ∧ x = 128
      · obtain ⟨rfl, rfl⟩ := h1
        have T1 := T.out
        rw [if_pos ⟨rfl, rfl⟩] at T1
        have T2 := Lib.hid T1
        clear T1
        have hx' : w.cell? ⟨g, off, none⟩ = some (.int .u8 128) := hx
        clear hx
        go_wp2_with fail
        refine bodyPost_ret (results_tmp3 rfl _ _ _) rfl ?_
        exact take3_of T2.out rfl rfl rfl ⟨0, rfl⟩
      · have T1 := T.out
        rw [if_neg h1] at T1
        have HK := Lib.hid hk
        clear hk
        have two : ∀ {p : Prop}, (k = 0 → (x == 128) = false → p) → (((k : Int) == 0) = false → p) → p := by
          intro p a b
          by_cases h : k = 0
          · exact a h (by simp; intro e; exact h1 ⟨h, e⟩)
          · exact b (by simp; omega)
        clear h1
        have HX := Lib.hid hx
        clear hx
        by_cases h2 : 144115188075855872 ≤ m
        · rw [if_pos h2] at T1
          have T2 := Lib.hid T1
          have e2 : ((m : Int) / 144115188075855872 != 0) = true := by simp; omega
          clear T1 T h2 HT
          refine two ?_ ?_
          · rintro rfl hx1
            have hx := HX.out
            rw [Nat.add_zero] at hx
            clear two
            go_wp2_with fail
            refine bodyPost_ret (results_tmp3 rfl _ _ _) rfl ?_
            exact take3_of T2.out rfl rfl rfl ⟨0, rfl⟩
          · intro hk0
            have hx := HX.out
            clear two
            go_wp2_with fail
            refine bodyPost_ret (results_tmp3 rfl _ _ _) rfl ?_
            exact take3_of T2.out rfl rfl rfl ⟨0, rfl⟩
        · rw [if_neg h2] at T1
          have hm2 : (m : Int) < 144115188075855872 := by omega
          have e2 : ((m : Int) / 144115188075855872 != 0) = false := by simp; omega
          clear T HT h2
          by_cases h3 : x < 128
          · rw [if_pos h3] at T1
            have T2 := Lib.hid T1
            clear T1
            refine two ?_ ?_
            · rintro rfl hx1
              have hx := HX.out
              rw [Nat.add_zero] at hx
              clear two
              go_wp2_with fail
              refine bodyPost_ret (results_tmp3 rfl _ _ _) rfl ?_
              exact take3_of T2.out (by omega) (by omega) rfl ⟨0, rfl⟩
            · intro hk0
              have hx := HX.out
              clear two
              go_wp2_with fail
              refine bodyPost_ret (results_tmp3 rfl _ _ _) rfl ?_
              exact take3_of T2.out (by omega) (by omega) rfl ⟨0, rfl⟩
          · rw [if_neg h3] at T1
            have T2 := Lib.hid T1
            clear T1
            refine two ?_ ?_
            · rintro rfl hx1
              have hx := HX.out
              rw [Nat.add_zero] at hx
              clear two
              go_wp2_with fail
              have hk := HK.out
              go_round
              case rel => exact ⟨0 + 1, m * 128 + (x % 128).toNat, by omega, by omega, by congr 1; omega, by go_num, T2.out⟩
              case measure => simp [intOf]; omega
            · intro hk0
              have hx := HX.out
              clear two
              go_wp2_with fail
              have hk := HK.out
              go_round
              case rel => exact ⟨k + 1, m * 128 + (x % 128).toNat, by omega, by omega, by congr 1; omega, by go_num, T2.out⟩
              case measure => simp [intOf]; omega
    · have hkn : k = n := by omega
      subst hkn
      have T1 := HT.out
      rw [List.drop_of_length_le (by rw [HL.out]; omega)] at T1
      have T2 : Hid (takeF l 0 0 = (0, 0, 10)) := T1
      clear T1
      go_wp2_with fail
      refine bodyPost_ret (results_tmp3 rfl _ _ _) rfl ?_
      exact take3_of T2.out rfl rfl rfl ⟨0, rfl⟩

theorem numTake_any (A : Option Addr) (n c : Nat) (l : List Int) (w : World) (h : Byt w A n c l) :
    Calls Try.prog 46 #[.slice A n c] w (Take3 .i64 l w) := by
  by_cases hn : 0 < n
  · obtain ⟨g, off, rfl, _⟩ := h.at_ hn
    exact numTake_rows g off n c l w h hn
  · have h0 : n = 0 := by omega
    subst h0
    have e : l = [] := List.eq_nil_of_length_eq_zero h.len
    subst e
    clear h hn
    go_enter Try.func46, Try.ntmps46
    go_wp2_with fail
    refine wp_loop_rounds 1 ?_
    rw [rounds_succ]
    go_wp2_with fail
    refine bodyPost_ret (results_tmp3 rfl _ _ _) rfl ?_
    exact take3_of (a := 0) (b := 0) (c := 10) rfl rfl rfl rfl ⟨0, rfl⟩

theorem q128 (x : Int) : (18446744073709551615 - x % 128) / 128 = 144115188075855871 := by omega
attribute [local go_sem] q128

/-- The same, what is read being known. -/
theorem numTake_is (A : Option Addr) (n c : Nat) (l : List Int) (x i e : Nat) (w : World) (h : Byt w A n c l) (ht : takeF l 0 0 = (x, i, e)) :
    Calls Try.prog 46 #[.slice A n c] w (Quiet (.tuple #[.int .u64 x, .int .i64 i, .int .i64 e]) w) := by
  refine (numTake_any A n c l w h).mono fun e' w' hq => ?_
  unfold Take3 at hq
  rw [ht] at hq
  exact hq

end Go.Proofs.Ytllkdcnejobinaa

/- seal.firstNum and firstText answer the number, the text at the beginning of bytes; nothing is turned. -/
namespace Go.Proofs.Ytllkdcnejobinaa
open Go.RowKit

/-- A number of at most 'most'. -/
def numF (l : List Int) (most : Int) : Nat × Nat × Nat :=
  if (takeF l 0 0).2.2 ≠ 0 then (0, 0, (takeF l 0 0).2.2) else if most < 0 ∨ most < ((takeF l 0 0).1 : Int) then (0, 0, 12) else ((takeF l 0 0).1, (takeF l 0 0).2.1, 0)

/-- A text of at most 'most' bytes, and how many bytes it has with its length. -/
def textF (l : List Int) (most : Int) : List Int × Nat × Nat :=
  if (numF l most).2.2 ≠ 0 then ([], 0, (numF l most).2.2) else if l.length - (numF l most).2.1 < (numF l most).1 then ([], 0, 10) else ((l.drop (numF l most).2.1).take (numF l most).1, (numF l most).2.1 + (numF l most).1, 0)

theorem numF_ok {l : List Int} (hr : ∀ x ∈ l, 0 ≤ x ∧ x < 256) {most : Int} (h : (numF l most).2.2 = 0) : ((numF l most).1 : Int) ≤ most ∧ (numF l most).2.1 ≤ l.length ∧ shortL (numF l most).1 = l.take (numF l most).2.1 := by
  unfold numF at h ⊢
  split at h
  · rename_i h0; exact absurd h h0
  · rename_i h0
    split at h
    · simp at h
    · rename_i h1
      rw [if_neg h0, if_neg h1]
      have := takeF_read l hr (takeF l 0 0).1 (takeF l 0 0).2.1 (Prod.ext rfl (Prod.ext rfl (by omega)))
      simp only [not_or, Int.not_lt] at h1
      exact ⟨h1.2, this.2.1, this.2.2⟩

set_option maxHeartbeats 1000000 in
theorem firstNum_any (A : Option Addr) (n c : Nat) (l : List Int) (most : Int) (w : World) (h : Byt w A n c l) (hm : -9223372036854775808 ≤ most ∧ most ≤ 9223372036854775807) (x k e : Nat) (hF : numF l most = (x, k, e)) :
    Calls Try.prog 45 #[.slice A n c, .int .i64 most] w (Quiet (.tuple #[.int .i64 x, .int .i64 k, .int .i64 e]) w) := by
  obtain ⟨x0, k0, e0, ht⟩ : ∃ x k e, takeF l 0 0 = (x, k, e) := ⟨_, _, _, rfl⟩
  have hlt : e0 = 0 → x0 < 18446744073709551616 := fun e => (takeF_read l h.rng x0 k0 (by rw [ht, e])).1
  have C := Lib.hid (numTake_is A n c l x0 k0 e0 w h ht)
  have hF' : (if e0 ≠ 0 then (0, 0, e0) else if most < 0 ∨ most < (x0 : Int) then (0, 0, 12) else (x0, k0, 0)) = (x, k, e) := by
    rw [← hF]; unfold numF; rw [ht]
  clear h ht hF
  by_cases h0 : e0 = 0
  · subst h0
    have hx := hlt rfl
    rw [if_neg (by simp)] at hF'
    clear hlt
    by_cases h1 : most < 0
    · rw [if_pos (Or.inl h1)] at hF'
      injection hF' with e1 e2
      injection e2 with e2 e3
      subst e1 e2 e3
      go_enter Try.func45, Try.ntmps45
      go_wp2_with fail
      refine C.out.mono ?_
      rintro e w1 ⟨rfl, m, rfl⟩
      go_wp2_with fail
      go_ret3
      exact ⟨rfl, m, rfl⟩
    · obtain ⟨q, rfl⟩ := Int.eq_ofNat_of_zero_le (Int.not_lt.1 h1)
      obtain ⟨_, hq⟩ := hm
      by_cases h2 : q < x0
      · rw [if_pos (Or.inr (by omega))] at hF'
        injection hF' with e1 e2
        injection e2 with e2 e3
        subst e1 e2 e3
        go_enter Try.func45, Try.ntmps45
        go_wp2_with fail
        refine C.out.mono ?_
        rintro e w1 ⟨rfl, m, rfl⟩
        go_wp2_with fail
        go_ret3
        exact ⟨rfl, m, rfl⟩
      · rw [if_neg (by omega)] at hF'
        injection hF' with e1 e2
        injection e2 with e2 e3
        subst e1 e2 e3
        go_enter Try.func45, Try.ntmps45
        go_wp2_with fail
        refine C.out.mono ?_
        rintro e w1 ⟨rfl, m, rfl⟩
        go_wp2_with fail
        go_ret3
        exact ⟨rfl, m, rfl⟩
  · rw [if_pos h0] at hF'
    injection hF' with e1 e2
    injection e2 with e2 e3
    subst e1 e2 e3
    have hne : ((e0 : Int) != 0) = true := by simp; omega
    clear hlt h0
    go_enter Try.func45, Try.ntmps45
    go_wp2_with fail
    refine C.out.mono ?_
    rintro e w1 ⟨rfl, m, rfl⟩
    go_wp2_with fail
    go_ret3
    exact ⟨rfl, m, rfl⟩

/-- A slice, a number and an error. -/
def Ret3 (l : List Int) (u e0 : Nat) (w : World) (e : Ending) (w' : World) : Prop :=
  ∃ A n c, e = .returned (.tuple #[.slice A n c, .int .i64 u, .int .i64 e0]) ∧ Byt w' A n c l ∧ Below w.heap.size w w'

/-- The same of a call that draws at most. -/
def Ret3Q (l : List Int) (u e0 : Nat) (w : World) (e : Ending) (w' : World) : Prop :=
  ∃ A n c, e = .returned (.tuple #[.slice A n c, .int .i64 u, .int .i64 e0]) ∧ Byt w A n c l ∧ ∃ m, w' = w.drewN m

end Go.Proofs.Ytllkdcnejobinaa

/- seal.take at its four types: behind an error, or of a nil reader, it answers nothing; what its decoder refuses becomes the reader's error; else the reader goes on behind the value. -/
namespace Go.Proofs.Ytllkdcnejobinaa
open Go.RowKit

/-- What a decoder answers; it draws at most. -/
def Dec (v : Value) (used er : Nat) (w : World) (e : Ending) (w' : World) : Prop := e = .returned (.tuple #[v, .int .i64 used, .int .i64 er]) ∧ ∃ m, w' = w.drewN m

theorem Bk.drewN {w : World} {g : Nat} {t : TypeId} {cs : Array Value} (h : Bk w g t cs) (m : Nat) : Bk (w.drewN m) g t cs := h


theorem takeInt_nil (q : Addr) (w : World) :
    Calls Try.prog 43 #[.pointer none, .func (.func 44) #[] #[.pointer (some q)]] w (fun e w' => e = .returned (.int .i64 0) ∧ w = w') := by
  go_enter Try.func43, Try.ntmps43
  go_wp2_with fail
  go_ret
  exact ⟨rfl, rfl⟩


set_option maxHeartbeats 1000000 in
theorem takeInt_err (b : Nat) (q : Addr) (A : Option Addr) (n c e0 : Nat) (w : World) (h : Bk w b 90 #[.slice A n c, .int .i64 e0]) (he : e0 ≠ 0) :
    Calls Try.prog 43 #[.pointer (some ⟨b, 0, none⟩), .func (.func 44) #[] #[.pointer (some q)]] w (fun e w' => e = .returned (.int .i64 0) ∧ w = w') := by
  have h1 : w.cell? ⟨b, 1, none⟩ = some (.int .i64 e0) := h.cell 1
  have hne : ((e0 : Int) != 0) = true := by simp; omega
  clear h he
  go_enter Try.func43, Try.ntmps43
  go_wp2_with fail
  go_ret
  exact ⟨rfl, rfl⟩


set_option maxHeartbeats 1000000 in
theorem takeInt_fail (b : Nat) (q : Addr) (A : Option Addr) (n c : Nat) (v : Value) (used er : Nat) (w : World) (h : Bk w b 90 #[.slice A n c, .int .i64 0]) (he : er ≠ 0)
    (hd : Calls Try.prog 44 #[.slice A n c, .pointer (some q)] w (Dec v used er w)) :
    Calls Try.prog 43 #[.pointer (some ⟨b, 0, none⟩), .func (.func 44) #[] #[.pointer (some q)]] w (fun e w' => e = .returned (.int .i64 0) ∧ ∃ m, w' = (w.drewN m).setCell ⟨b, 1, none⟩ (.int .i64 er)) := by
  have h0 : w.cell? ⟨b, 0, none⟩ = some (.slice A n c) := h.cell 0
  have h1 : w.cell? ⟨b, 1, none⟩ = some (.int .i64 0) := h.cell 1
  have hf := h.frz 1
  have hne : ((er : Int) != 0) = true := by simp; omega
  have HD := Lib.hid hd
  clear h he hd
  go_enter Try.func43, Try.ntmps43
  go_wp2_with fail
  refine HD.out.mono ?_
  rintro e w1 ⟨rfl, m, rfl⟩
  go_wp2_with fail
  go_ret
  exact ⟨rfl, m, rfl⟩


set_option maxHeartbeats 1000000 in
theorem takeInt_ok (b : Nat) (q : Addr) (A : Option Addr) (n c : Nat) (v : Value) (used : Nat) (w : World) (h : Bk w b 90 #[.slice A n c, .int .i64 0]) (B : Option Addr) (k d : Nat)
    (hs : ∀ u, (Instr.slice 46 (.slice A n c) (some (.int .i64 used)) none none).run Try.prog u = .ok (.slice B k d) u)
    (hd : Calls Try.prog 44 #[.slice A n c, .pointer (some q)] w (Dec v used 0 w)) :
    Calls Try.prog 43 #[.pointer (some ⟨b, 0, none⟩), .func (.func 44) #[] #[.pointer (some q)]] w (fun e w' => e = .returned v ∧ ∃ m, w' = (w.drewN m).setCell ⟨b, 0, none⟩ (.slice B k d)) := by
  have h0 : w.cell? ⟨b, 0, none⟩ = some (.slice A n c) := h.cell 0
  have h1 : w.cell? ⟨b, 1, none⟩ = some (.int .i64 0) := h.cell 1
  have hf := h.frz 0
  have HD := Lib.hid hd
  clear h hd
  go_enter Try.func43, Try.ntmps43
  go_wp2_with fail
  refine HD.out.mono ?_
  rintro e w1 ⟨rfl, m, rfl⟩
  go_wp2_with fail
  go_ret
  exact ⟨rfl, m, rfl⟩


end Go.Proofs.Ytllkdcnejobinaa

/- a reader behind a pointer; seal.take at its four types as one step of it: the value, the rest, the error. -/
namespace Go.Proofs.Ytllkdcnejobinaa
open Go.RowKit

/-- The reader at block b: what is left (in block g), and the error. -/
structure Rd (w : World) (t : TypeId) (b g : Nat) (l : List Int) (e : Nat) : Prop where
  ne : g ≠ b
  ex : ∃ A n c, Bk w b t #[.slice A n c, .int .i64 e] ∧ Byt w A n c l ∧ (0 < n → ∀ a, A = some a → a.block = g)

theorem Rd.lt {w : World} {t : TypeId} {b g : Nat} {l : List Int} {e : Nat} (h : Rd w t b g l e) : b < w.heap.size := by
  obtain ⟨A, n, c, hb, _⟩ := h.ex
  exact hb.lt

/-- A slice whose block is not written. -/
theorem Byt.grown {w w' : World} {A : Option Addr} {n c : Nat} {l : List Int} {row : Option Nat} (h : Byt w A n c l) (hg : w.grownBy w' row) (hne : 0 < n → ∀ a, A = some a → some a.block ≠ row) : Byt w' A n c l :=
  ⟨h.len, h.cap, h.max, h.rng, h.nil_, fun hn => by
    obtain ⟨g, off, e, hc⟩ := h.at_ hn
    exact ⟨g, off, e, fun i hi => hg.cell (hc i hi) (show some g ≠ row from hne hn ⟨g, off, none⟩ e)⟩⟩

theorem Rd.grown {w w' : World} {t : TypeId} {b g : Nat} {l : List Int} {e : Nat} {row : Option Nat} (h : Rd w t b g l e) (hg : w.grownBy w' row) (hb : some b ≠ row) (hgr : some g ≠ row) : Rd w' t b g l e := by
  obtain ⟨A, n, c, h1, h2, h3⟩ := h.ex
  exact ⟨h.ne, A, n, c, (hg.block b h1.lt hb).trans h1, h2.grown hg (fun hn a ha => by rw [h3 hn a ha]; exact hgr), h3⟩

theorem grown_drewN (w : World) (m : Nat) (row : Option Nat) : w.grownBy (w.drewN m) row := ⟨rfl, rfl, rfl, Nat.le_refl _, fun _ _ _ => rfl⟩
theorem grown_set (w : World) (b k : Nat) (v : Value) : w.grownBy (w.setCell ⟨b, k, none⟩ v) (some b) :=
  ⟨rfl, rfl, rfl, by simp [World.setCell], fun i _ hi => Below.heap_setCell w _ _ i (fun e => hi (by simp [e]))⟩
theorem grown_trans {a b c : World} {row : Option Nat} (h : a.grownBy b row) (k : b.grownBy c row) : a.grownBy c row :=
  ⟨k.os.trans h.os, k.tape.trans h.tape, k.output.trans h.output, Nat.le_trans h.size k.size, fun i hi hr => (k.block i (Nat.lt_of_lt_of_le hi h.size) hr).trans (h.block i hi hr)⟩
theorem grown_below {w w' : World} {row : Option Nat} (h : Below w.heap.size w w') : w.grownBy w' row := ⟨h.os, h.tape, h.output, h.size, fun k hk _ => h.block k hk⟩

/-- What a reader's method leaves. -/
def RdPost (t : TypeId) (b g : Nat) (l : List Int) (e0 : Nat) (v : Value) (w : World) (e : Ending) (w' : World) : Prop := e = .returned v ∧ Rd w' t b g l e0 ∧ w.grownBy w' (some b)

theorem Rd.fail {w : World} {t : TypeId} {b g : Nat} {l : List Int} {e : Nat} (h : Rd w t b g l e) (m er : Nat) : Rd ((w.drewN m).setCell ⟨b, 1, none⟩ (.int .i64 er)) t b g l er ∧ w.grownBy ((w.drewN m).setCell ⟨b, 1, none⟩ (.int .i64 er)) (some b) := by
  have hg := grown_trans (grown_drewN w m (some b)) (grown_set (w.drewN m) b 1 (.int .i64 er))
  obtain ⟨A, n, c, h1, h2, h3⟩ := h.ex
  refine ⟨⟨h.ne, A, n, c, ?_, h2.grown hg (fun hn a ha => by rw [h3 hn a ha]; simpa using h.ne), h3⟩, hg⟩
  have := (h1.drewN m).setc 1 (.int .i64 er)
  simpa using this

theorem Rd.next {w : World} {t : TypeId} {b g : Nat} {l l' : List Int} {e : Nat} (h : Rd w t b g l e) (m : Nat) {B : Option Addr} {k d : Nat} (hb : Byt w B k d l') (hB : 0 < k → ∀ a, B = some a → a.block = g) :
    Rd ((w.drewN m).setCell ⟨b, 0, none⟩ (.slice B k d)) t b g l' e ∧ w.grownBy ((w.drewN m).setCell ⟨b, 0, none⟩ (.slice B k d)) (some b) := by
  have hg := grown_trans (grown_drewN w m (some b)) (grown_set (w.drewN m) b 0 (.slice B k d))
  obtain ⟨A, n, c, h1, h2, h3⟩ := h.ex
  refine ⟨⟨h.ne, B, k, d, ?_, hb.grown hg (fun hk a ha => by rw [hB hk a ha]; simpa using h.ne), hB⟩, hg⟩
  have := (h1.drewN m).setc 0 (.slice B k d)
  simpa using this

/-- Which of both: a reader's value, its rest, its error. -/
def stepV (z v : Value) (e er : Nat) : Value := if e ≠ 0 then z else if er ≠ 0 then z else v
def stepL (l : List Int) (used e er : Nat) : List Int := if e ≠ 0 then l else if er ≠ 0 then l else l.drop used
def stepE (e er : Nat) : Nat := if e ≠ 0 then e else er


theorem takeInt_step (b g : Nat) (q : Addr) (l : List Int) (e0 : Nat) (v : Value) (used er : Nat) (w : World) (h : Rd w 90 b g l e0) (hu : er = 0 → used ≤ l.length)
    (hd : e0 = 0 → ∀ A n c, Byt w A n c l → Calls Try.prog 44 #[.slice A n c, .pointer (some q)] w (Dec v used er w)) :
    Calls Try.prog 43 #[.pointer (some ⟨b, 0, none⟩), .func (.func 44) #[] #[.pointer (some q)]] w (RdPost 90 b g (stepL l used e0 er) (stepE e0 er) (stepV (.int .i64 0) v e0 er) w) := by
  obtain ⟨A, n, c, h1, h2, h3⟩ := h.ex
  by_cases he : e0 = 0
  · subst he
    have hd := hd rfl A n c h2
    by_cases hr : er = 0
    · subst hr
      obtain ⟨B, k, d, hs, hkn, hb, hB⟩ := cut_lb h2 used (by rw [← h2.len]; exact hu rfl) (used : Int) rfl
      refine (takeInt_ok b q A n c v used w h1 B k d hs hd).mono ?_
      rintro e w' ⟨rfl, m, rfl⟩
      have := h.next m hb (fun hk a ha => by obtain ⟨a', e1, e2⟩ := hB a ha; rw [e2]; exact h3 (by omega) a' e1)
      simp only [stepL, stepE, stepV]
      exact ⟨rfl, this⟩
    · refine (takeInt_fail b q A n c v used er w h1 hr hd).mono ?_
      rintro e w' ⟨rfl, m, rfl⟩
      simp only [stepL, stepE, stepV, if_pos hr, if_neg (show ¬ (0 : Nat) ≠ 0 by simp)]
      exact ⟨rfl, h.fail m er⟩
  · refine (takeInt_err b q A n c e0 w h1 he).mono ?_
    rintro e w' ⟨rfl, rfl⟩
    simp only [stepL, stepE, stepV, if_pos he]
    exact ⟨rfl, h, grown_drewN w 0 _⟩


end Go.Proofs.Ytllkdcnejobinaa

/- bytes.Clone hands back the same bytes in new memory. -/
namespace Go.Proofs.Ytllkdcnejobinaa
open Go.RowKit

/-- The same, of bytes.Clone, the slice not nil. -/
theorem clone_own (ad : Addr) (n c : Nat) (l : List Int) (w : World) (h : Byt w (some ad) n c l) (hn : n ≤ 140737488355328) :
    Calls Try.prog 38 #[.slice (some ad) n c] w (RetOwn l w) := by
  obtain ⟨i0, hi, hz0, hz1, hz2⟩ := info_parts info_u8
  have hown0 := World.ownsRow_made (base := w.heap.size) (e := 5) (size := 1) w #[] 0 (Nat.le_refl _) (Nat.zero_le _) rfl
  have q := fun w : World => Lib.run_eql_slice_nil (P := Try.prog) w 46 5 (some ad) n c 0 0 Try.underlying46
  go_enter Try.func38, Try.ntmps38
  go_wp2_with (at_builtin; refine wpList_append_byt rfl _ _ 46 rfl w.heap.size 5 i0 Try.underlying46 hi hz0 hz1 hz2 _ 0 [] rfl (by exact hown0) (some ad) n c l rfl (h.alloc _) (by omega) (by simp) ?_)
  intro A' c' w' h1 h2
  have R := Lib.hid (own_end h.rng h1 h2)
  clear h1 h2 h hown0 q
  go_wp2
  go_ret
  exact R.out

/-- The same, told of the bytes alone. -/
theorem bclone_any (ad : Addr) (n c : Nat) (l : List Int) (w : World) (h : Byt w (some ad) n c l) (hn : n ≤ 140737488355328) :
    Calls Try.prog 38 #[.slice (some ad) n c] w (RetByt l w) := (clone_own ad n c l w h hn).mono fun _ _ h => h.byt
end Go.Proofs.Ytllkdcnejobinaa

/- num.Short hands back a number's digits to the base 128, in new memory. -/
namespace Go.Proofs.Ytllkdcnejobinaa
open Go.RowKit

/-- What is gathered so far, in the last cells of the array. -/
structure ArrRel (n : Nat) (w : World) (m at_ : Nat) (acc : List Int) (cs : Array Value) (wr : World) : Prop where
  blk : Bk wr w.heap.size 87 cs
  size : cs.size = 10
  len : acc.length + at_ = 10
  pos : 0 < acc.length
  cells : ∀ i, i < acc.length → cs[at_ + i]? = some (.int .u8 (acc.getD i 0))
  all : hiD (m / 128) ++ acc = shortL n
  bel : Below w.heap.size w wr

theorem ArrRel.more {n : Nat} {w : World} {m at_ : Nat} {acc : List Int} {cs : Array Value} {wr : World} (h : ArrRel n w m at_ acc cs wr) (hn : n < 18446744073709551616) (hm : m / 128 ≠ 0) : ∃ j, at_ = j + 1 := by
  have h1 := shortL_len n hn
  rw [← h.all, hiD_pos hm] at h1
  simp at h1
  have := h.len
  exact ⟨at_ - 1, by omega⟩

theorem ArrRel.step {n : Nat} {w : World} {m j : Nat} {acc : List Int} {cs : Array Value} {wr : World} (h : ArrRel n w m (j + 1) acc cs wr) (hm : m / 128 ≠ 0) :
    ArrRel n w (m / 128) j ((((m / 128 : Nat) : Int) % 128 + 128) :: acc) (cs.setIfInBounds j (.int .u8 (((m / 128 : Nat) : Int) % 128 + 128))) (wr.setCell ⟨w.heap.size, j, none⟩ (.int .u8 (((m / 128 : Nat) : Int) % 128 + 128))) := by
  have hl := h.len
  refine ⟨h.blk.setc j _, by simp [h.size], by simp; omega, by simp, fun i hi => ?_, by rw [← h.all, hiD_pos hm]; simp, h.bel.setCell (Nat.le_refl _) _⟩
  have hs := h.size
  cases i with
  | zero => simp [Array.getElem?_setIfInBounds, hs]; omega
  | succ i =>
    have := h.cells i (by simpa using hi)
    rw [Array.getElem?_setIfInBounds, if_neg (by omega)]
    rw [show j + (i + 1) = j + 1 + i from by omega, this]
    simp

theorem ArrRel.byt {n : Nat} {w : World} {m at_ : Nat} {acc : List Int} {cs : Array Value} {wr : World} (h : ArrRel n w m at_ acc cs wr) (hm : m / 128 = 0) : Byt wr (some ⟨w.heap.size, at_, none⟩) (10 - at_) (10 - at_) (shortL n) := by
  have e := h.all
  rw [hm, hiD_zero, List.nil_append] at e
  have hl := h.len
  rw [← e]
  exact Byt.of_bk h.blk at_ _ _ acc (by omega) (Nat.le_refl _) (by unfold maxLen; omega) (by rw [e]; exact shortL_rng n) (fun i hi => h.cells i (by omega))

theorem ArrRel.start (n : Nat) (w : World) : ArrRel n w n 9 [(n : Int) % 128] #[.int .u8 0, .int .u8 0, .int .u8 0, .int .u8 0, .int .u8 0, .int .u8 0, .int .u8 0, .int .u8 0, .int .u8 0, .int .u8 ((n : Int) % 128)]
    (w.alloc (.cells #[.int .u8 0, .int .u8 0, .int .u8 0, .int .u8 0, .int .u8 0, .int .u8 0, .int .u8 0, .int .u8 0, .int .u8 0, .int .u8 ((n : Int) % 128)] 87)) :=
  ⟨Bk.new _ _ _, rfl, rfl, by simp, fun i hi => by
    have : i = 0 := by simpa using hi
    subst this; rfl, rfl, (Below.refl _ _).alloc (Nat.le_refl _) _⟩

theorem arrayLen10 : Try.prog.arrayLen 87 = 10 := by kernel_rfl
theorem elem10 : Try.prog.elem 87 = 5 := by kernel_rfl
theorem under10 : Try.prog.underlying 87 = some (.array (Try.prog.arrayLen 87) (Try.prog.elem 87)) := by kernel_rfl
theorem size_u8 (W : World) : (sizeOf 5).run Try.prog W = .ok 1 W := by
  obtain ⟨i0, hi, hz0, hz1, hz2⟩ := info_parts info_u8
  simp [sizeOf, typeInfo, hi, hz1]

theorem slice10 (B at_ : Nat) (h : at_ ≤ 9) (W : World) :
    (Instr.sliceAt 87 (.pointer (some ⟨B, 0, none⟩)) (some (.int .i64 (at_ : Int))) none none).run Try.prog W = .ok (.slice (some ⟨B, at_, none⟩) (10 - at_) (10 - at_)) W := by
  rw [run_sliceAt_array_l (P := Try.prog) W _ _ under10 .i64 (at_ : Int) (by omega) (by rw [arrayLen10]; omega), elem10, size_u8, arrayLen10]
  simp [slicedAt, Result.andThen]
  rw [if_neg (by omega)]
  by_cases h0 : at_ = 0 <;> simp [Addr.add, h0]

set_option maxHeartbeats 1000000 in
theorem numShort_any (n : Nat) (hn : n < 18446744073709551616) (w : World) :
    Calls Try.prog 37 #[.int .u64 n] w (RetByt (shortL n) w) := by
  have R0 := Lib.hid (ArrRel.start n w)
  go_enter Try.func37, Try.ntmps37
  go_wp2_with fail
  go_step3
  go_wp2_with fail
  go_step3
  go_wp2_with fail
  go_loopw [0, 4] (fun s v wr => ∃ (m at_ : Nat) (acc : List Int) (cs : Array Value), m < 18446744073709551616 ∧ s = .int .u64 m ∧ v = .int .i64 at_ ∧ ArrRel n w m at_ acc cs wr) (fun s _ _ => (intOf s).toNat)
  case atStart => exact ⟨n, 9, _, _, hn, rfl, rfl, R0.out⟩
  case round =>
    obtain ⟨m, at_, acc, cs, hm, rfl, rfl, R⟩ := hrel
    have HR := Lib.hid R
    clear R
    by_cases h0 : m / 128 = 0
    · have hat : at_ ≤ 9 := by have := HR.out.len; have := HR.out.pos; omega
      have H0 := Lib.hid h0
      have hz : ((m : Int) / 128 == 0) = true := by simp; omega
      have hs := slice10 w.heap.size at_ hat
      have HB := Lib.hid (HR.out.byt h0)
      clear h0
      go_wp2_with (go_at_call 38; refine (bclone_any _ _ _ _ _ HB.out (by omega)).mono ?_; rintro e w1 ⟨A, k, c, rfl, hb, hbel⟩)
      rw [Exit.noGoto_ret]
      go_ret
      exact ⟨A, k, c, rfl, hb, Below.then HR.out.bel hbel⟩
    · obtain ⟨j, rfl⟩ := HR.out.more hn h0
      have hj : j ≤ 9 := by have := HR.out.len; omega
      have hge : (128 : Int) ≤ (m : Int) := by omega
      obtain ⟨u, hc⟩ : ∃ u, wr.cell? ⟨w.heap.size, j, none⟩ = some u := by
        rw [HR.out.blk.cell]; exact ⟨_, Array.getElem?_eq_getElem (by rw [HR.out.size]; omega)⟩
      have hf := HR.out.blk.frz j
      have R1 := Lib.hid (HR.out.step h0)
      go_wp2_with fail
      go_roundw
      case rel => exact ⟨m / 128, j, _, _, by omega, by go_num, rfl, R1.out⟩
      case measure => simp [intOf]; omega
end Go.Proofs.Ytllkdcnejobinaa

/- a writer behind a pointer, and what its methods gather; nothing else that was there is turned. -/
namespace Go.Proofs.Ytllkdcnejobinaa
open Go.RowKit

/-- A block of another type than bytes is no row of bytes. -/
theorem apart_row {w : World} {b base n : Nat} {t : TypeId} {cs : Array Value} {v : Value} {xs : List Value} (ht : t ≠ 5) (h : Bk w b t cs) (ho : w.ownsRow base 5 1 v n xs) : v.ownBlock ≠ some b := by
  rcases ho.2 with ⟨rfl, _⟩ | ⟨g, cap, cur, rfl, _, hg, _⟩
  · simp [Value.ownBlock]
  · intro e
    simp [Value.ownBlock] at e
    subst e
    unfold Bk at h
    rw [h] at hg
    simp at hg
    exact ht hg.2

/-- The writer at block b, and what it has gathered: memory of the call's own, from block number base on. -/
structure Wrt (w : World) (base b : Nat) (l : List Int) : Prop where
  low : base ≤ b
  rng : ∀ x ∈ l, 0 ≤ x ∧ x < 256
  ex : ∃ A n c, Bk w b 72 #[.slice A n c] ∧ w.ownsRow base 5 1 (.slice A n c) n (l.map (Value.int .u8))

theorem Wrt.lt {w : World} {base b : Nat} {l : List Int} (h : Wrt w base b l) : b < w.heap.size := by
  obtain ⟨A, n, c, hb, _⟩ := h.ex
  exact hb.lt

theorem Wrt.ret {w w' : World} {base b : Nat} {l : List Int} (h : Wrt w base b l) (hb : Below w.heap.size w w') : Wrt w' base b l := by
  obtain ⟨A, n, c, h1, h2⟩ := h.ex
  refine ⟨h.low, h.rng, A, n, c, h1.bel hb h1.lt, ?_⟩
  exact h2.kept (row := none) ⟨hb.os, hb.tape, hb.output, hb.size, fun k hk _ => hb.block k hk⟩ (by
    cases A with
    | none => exact .inl rfl
    | some a => exact .inr (by simp [Value.ownBlock]))

/-- What a writer's method leaves. -/
def RetW (base b : Nat) (l : List Int) (w : World) (e : Ending) (w' : World) : Prop := e = .returned (.tuple #[]) ∧ Wrt w' base b l ∧ Below base w w'

theorem put_end {base b : Nat} {l m : List Int} {w w1 : World} {A A' : Option Addr} {n c n' c' : Nat} (hlow : base ≤ b) (hb : Bk w b 72 #[.slice A n c]) (hbz : base ≤ w.heap.size)
    (ho : w.ownsRow base 5 1 (.slice A n c) n (l.map (Value.int .u8))) (hl : ∀ x ∈ l, 0 ≤ x ∧ x < 256) (hm : ∀ x ∈ m, 0 ≤ x ∧ x < 256)
    (h1 : w1.ownsRow base 5 1 (.slice A' n' c') n' (l.map (Value.int .u8) ++ m.map (Value.int .u8))) (h2 : w.grownBy w1 (Value.ownBlock (.slice A n c))) :
    RetW base b (l ++ m) w (.returned (.tuple #[])) (w1.setCell ⟨b, 0, none⟩ (.slice A' n' c')) := by
  rw [← List.map_append] at h1
  have hb1 : Bk w1 b 72 #[.slice A n c] := (h2.block b hb.lt (fun e => apart_row (by decide) hb ho e.symm)).trans hb
  refine ⟨rfl, ⟨hlow, fun x hx => ?_, A', n', c', ?_, ?_⟩, ?_⟩
  · rcases List.mem_append.1 hx with h | h
    · exact hl x h
    · exact hm x h
  · have := hb1.setc 0 (.slice A' n' c')
    simpa using this
  · refine h1.kept (row := some b) ⟨rfl, rfl, rfl, by simp [World.setCell], fun k hk hk' => ?_⟩ (.inr (apart_row (by decide) hb1 h1))
    exact Below.heap_setCell w1 _ _ k (fun e => hk' (by simp [e]))
  · exact (((Below.refl base w).grown h2 hbz (fun k hk => (ho.lt k hk).1)).setCell hlow _)

/-- Behind 'append': the writer's cell is there still. -/
theorem put_cell {base b : Nat} {l : List Int} {w w1 : World} {A : Option Addr} {n c : Nat} (hb : Bk w b 72 #[.slice A n c])
    (ho : w.ownsRow base 5 1 (.slice A n c) n (l.map (Value.int .u8))) (h2 : w.grownBy w1 (Value.ownBlock (.slice A n c))) :
    w1.cell? ⟨b, 0, none⟩ = some (.slice A n c) ∧ w1.frozen? ⟨b, 0, none⟩ = false := by
  have hb1 : Bk w1 b 72 #[.slice A n c] := (h2.block b hb.lt (fun e => apart_row (by decide) hb ho e.symm)).trans hb
  exact ⟨hb1.cell 0, hb1.frz 0⟩

set_option maxHeartbeats 1000000 in
theorem put_any (base b : Nat) (l m : List Int) (A : Option Addr) (n c : Nat) (w : World) (h : Wrt w base b l) (hm : Byt w A n c m) (hn : l.length + n ≤ 140737488355328) :
    Calls Try.prog 36 #[.pointer (some ⟨b, 0, none⟩), .slice A n c] w (RetW base b (l ++ m) w) := by
  obtain ⟨i0, hi, hz0, hz1, hz2⟩ := info_parts info_u8
  obtain ⟨A0, n0, c0, hb, ho⟩ := h.ex
  have hl0 : l.length = n0 := by simpa using ho.1
  have hcell : w.cell? ⟨b, 0, none⟩ = some (.slice A0 n0 c0) := hb.cell 0
  have hbz : base ≤ w.heap.size := by have := hb.lt; have := h.low; omega
  have HE := fun A' n' c' w1 h1 h2 => @put_end base b l m w w1 A0 A' n0 c0 n' c' h.low hb hbz ho h.rng hm.rng h1 h2
  have HC := fun w1 h2 => @put_cell base b l w w1 A0 n0 c0 hb ho h2
  have HE := Lib.hid HE
  have HC := Lib.hid HC
  have HO := Lib.hid ho
  clear h hb ho
  go_enter Try.func36, Try.ntmps36
  go_wp2_with (at_builtin; refine wpList_append_byt rfl _ _ 46 rfl base 5 i0 Try.underlying46 hi hz0 hz1 hz2 _ n0 l rfl (by exact HO.out) A n c m rfl hm (by omega) hbz ?_)
  intro A' c' w1 h1 h2
  obtain ⟨hc1, hf1⟩ := HC.out w1 h2
  have R := Lib.hid (HE.out _ _ _ w1 h1 h2)
  clear h1 h2 hcell hm HC HE
  go_wp2
  go_end0
  exact R.out

/-- A nil writer gathers nothing. -/
theorem put_nil (A : Option Addr) (n c : Nat) (w : World) :
    Calls Try.prog 36 #[.pointer none, .slice A n c] w (Ret (.tuple #[]) w) := by
  go_enter Try.func36, Try.ntmps36
  go_wp2
  go_end0
  exact ⟨rfl, Below.refl _ _⟩
end Go.Proofs.Ytllkdcnejobinaa

/- what a writer's methods gather: a number, a byte, a flag, a text; a nil one gathers nothing; Bytes hands it back in new memory. -/
namespace Go.Proofs.Ytllkdcnejobinaa
open Go.RowKit

theorem RetW.snd {base b : Nat} {l : List Int} {w w1 : World} {e : Ending} {w2 : World} (h1 : Below base w w1) (h : RetW base b l w1 e w2) : RetW base b l w e w2 := ⟨h.1, h.2.1, h1.trans h.2.2⟩

/-- Below base, where all of the writer's memory lies. -/
theorem Wrt.base_le {w : World} {base b : Nat} {l : List Int} (h : Wrt w base b l) : base ≤ w.heap.size := by have := h.lt; have := h.low; omega

/-- What Num writes. -/
def numL (n : Int) : List Int := shortL (max n 0).toNat
theorem numL_rng (n : Int) : ∀ x ∈ numL n, 0 ≤ x ∧ x < 256 := shortL_rng _
theorem numL_len (n : Int) (hn : n ≤ 9223372036854775807) : (numL n).length ≤ 10 := shortL_len _ (by omega)

theorem numL_nat (z : Nat) : numL (z : Int) = shortL z := by unfold numL; congr 1; omega
theorem numL_neg {n : Int} (h : n < 0) : numL n = shortL 0 := by unfold numL; congr 1; omega

set_option maxHeartbeats 1000000 in
theorem wNum_any (base b : Nat) (l : List Int) (n : Int) (w : World) (h : Wrt w base b l) (hn : -9223372036854775808 ≤ n ∧ n ≤ 9223372036854775807) (hl : l.length ≤ 140737488350000) :
    Calls Try.prog 28 #[.pointer (some ⟨b, 0, none⟩), .int .i64 n] w (RetW base b (l ++ numL n) w) := by
  have go : ∀ z : Nat, z ≤ 9223372036854775807 → ∀ (A : Option Addr) (k c : Nat) (w1 : World), Byt w1 A k c (shortL z) → Below w.heap.size w w1 → Calls Try.prog 36 #[.pointer (some ⟨b, 0, none⟩), .slice A k c] w1 (RetW base b (l ++ shortL z) w) := by
    intro z hz A k c w1 hb hbel
    have hk : k ≤ 10 := by rw [← hb.len]; exact shortL_len z (by omega)
    exact (put_any base b l (shortL z) A k c w1 (h.ret hbel) hb (by omega)).mono fun e w2 hr => hr.snd (hbel.mono h.base_le)
  have GO := Lib.hid go
  clear go h
  by_cases h0 : n < 0
  · rw [numL_neg h0]
    go_enter Try.func28, Try.ntmps28
    go_wp2_with fail
    refine (numShort_any 0 (by omega) w).mono ?_
    rintro e w1 ⟨A, k, c, rfl, hb, hbel⟩
    have C := Lib.hid (GO.out 0 (by omega) A k c w1 hb hbel)
    clear hb hbel
    go_wp2_with fail
    refine C.out.mono ?_
    rintro e w2 ⟨rfl, R⟩
    have R := Lib.hid R
    go_wp2_with fail
    go_end0
    exact ⟨rfl, R.out⟩
  · obtain ⟨z, rfl⟩ := Int.eq_ofNat_of_zero_le (Int.not_lt.1 h0)
    rw [numL_nat]
    obtain ⟨_, hz⟩ := hn
    go_enter Try.func28, Try.ntmps28
    go_wp2_with fail
    refine (numShort_any z (by omega) w).mono ?_
    rintro e w1 ⟨A, k, c, rfl, hb, hbel⟩
    have C := Lib.hid (GO.out z (by omega) A k c w1 hb hbel)
    clear hb hbel
    go_wp2_with fail
    refine C.out.mono ?_
    rintro e w2 ⟨rfl, R⟩
    have R := Lib.hid R
    go_wp2_with fail
    go_end0
    exact ⟨rfl, R.out⟩

set_option maxHeartbeats 1000000 in
theorem wNum_nil (n : Int) (w : World) (hn : -9223372036854775808 ≤ n ∧ n ≤ 9223372036854775807) :
    Calls Try.prog 28 #[.pointer none, .int .i64 n] w (Ret (.tuple #[]) w) := by
  by_cases h0 : n < 0
  · go_enter Try.func28, Try.ntmps28
    go_wp2_with fail
    refine (numShort_any 0 (by omega) w).mono ?_
    rintro e w1 ⟨A, k, c, rfl, hb, hbel⟩
    have L := Lib.hid hbel
    clear hb hbel
    go_wp2_with fail
    refine (put_nil _ _ _ _).mono ?_
    rintro e w2 ⟨rfl, b2⟩
    have R := Lib.hid (Below.then L.out b2)
    clear b2
    go_wp2_with fail
    go_end0
    exact ⟨rfl, R.out⟩
  · obtain ⟨z, rfl⟩ := Int.eq_ofNat_of_zero_le (Int.not_lt.1 h0)
    obtain ⟨_, hz⟩ := hn
    go_enter Try.func28, Try.ntmps28
    go_wp2_with fail
    refine (numShort_any z (by omega) w).mono ?_
    rintro e w1 ⟨A, k, c, rfl, hb, hbel⟩
    have L := Lib.hid hbel
    clear hb hbel
    go_wp2_with fail
    refine (put_nil _ _ _ _).mono ?_
    rintro e w2 ⟨rfl, b2⟩
    have R := Lib.hid (Below.then L.out b2)
    clear b2
    go_wp2_with fail
    go_end0
    exact ⟨rfl, R.out⟩

/-- A new slice of one byte, as 'put(c)' lays it. -/
theorem one_byt (W : World) (x : Int) (hx : 0 ≤ x ∧ x < 256) : Byt (W.alloc (.cells #[.int .u8 x] 5)) (some ⟨W.heap.size, 0, none⟩) 1 1 [x] :=
  Byt.of_own (own_one W W.heap.size 5 x (Nat.le_refl _)) (by intro y hy; simp at hy; subst hy; exact hx)

theorem put_one {w : World} {base b : Nat} {l : List Int} (h : Wrt w base b l) (x : Int) (hx : 0 ≤ x ∧ x < 256) (hl : l.length ≤ 140737488350000) :
    Calls Try.prog 36 #[.pointer (some ⟨b, 0, none⟩), .slice (some ⟨w.heap.size, 0, none⟩) 1 1] (w.alloc (.cells #[.int .u8 x] 5)) (RetW base b (l ++ [x]) w) :=
  (put_any base b l [x] _ 1 1 _ (h.ret ((Below.refl _ _).alloc (Nat.le_refl _) _)) (one_byt w x hx) (by omega)).mono fun e w2 hr => hr.snd ((Below.refl _ _).alloc h.base_le _)

/-- What Flag writes. -/
def flagL (is : Bool) : List Int := [if is then 1 else 0]
theorem flagL_rng (is : Bool) : ∀ x ∈ flagL is, 0 ≤ x ∧ x < 256 := by cases is <;> simp [flagL]

theorem one_nil (x : Int) (w : World) :
    Calls Try.prog 36 #[.pointer none, .slice (some ⟨w.heap.size, 0, none⟩) 1 1] (w.alloc (.cells #[.int .u8 x] 5)) (Ret (.tuple #[]) w) :=
  (put_nil _ _ _ _).mono fun _ _ ⟨he, hb⟩ => ⟨he, Below.then ((Below.refl _ _).alloc (Nat.le_refl _) _) hb⟩

/-- What Text writes. -/
def textL (m : List Int) : List Int := shortL m.length ++ m
theorem textL_rng {m : List Int} (h : ∀ x ∈ m, 0 ≤ x ∧ x < 256) : ∀ x ∈ textL m, 0 ≤ x ∧ x < 256 := fun x hx => by
  rcases List.mem_append.1 hx with h1 | h1
  · exact shortL_rng _ x h1
  · exact h x h1
theorem textL_len (m : List Int) (h : m.length ≤ 9223372036854775807) : (textL m).length ≤ m.length + 10 := by
  have := shortL_len m.length (by omega)
  simp [textL]; omega

set_option maxHeartbeats 1000000 in
theorem wBytes_nil (w : World) :
    Calls Try.prog 29 #[.pointer none] w (RetByt [] w) := by
  go_enter Try.func29, Try.ntmps29
  go_wp2_with fail
  go_ret
  exact ⟨none, 0, 0, rfl, Byt.nil _, Below.refl _ _⟩
end Go.Proofs.Ytllkdcnejobinaa

/- a master record in plain mathematics: which may be, its bytes, what is read back out of a sector, which of two counts. -/
namespace Go.Proofs.Ytllkdcnejobinaa
open Go.RowKit

/-- A record's numbers. -/
structure Ms where
  gen : Int
  inc : Int
  first : Int
  lsn : Int
  chk : Int
/-- Its value. -/
def msV (m : Ms) : Value := .agg #[.int .i64 m.gen, .int .i64 m.inc, .int .i64 m.first, .int .i64 m.lsn, .int .i64 m.chk]
/-- Number k of it. -/
def Ms.at_ (m : Ms) : Nat → Int
  | 0 => m.gen
  | 1 => m.inc
  | 2 => m.first
  | 3 => m.lsn
  | _ => m.chk
def ms0 : Ms := ⟨0, 0, 0, 0, 0⟩
theorem Ms.ext5 {a b : Ms} (h0 : a.gen = b.gen) (h1 : a.inc = b.inc) (h2 : a.first = b.first) (h3 : a.lsn = b.lsn) (h4 : a.chk = b.chk) : a = b := by
  cases a; cases b; simp only at h0 h1 h2 h3 h4; subst h0 h1 h2 h3 h4; rfl
/-- All its numbers are int's. -/
def Ms.fits (m : Ms) : Prop := ∀ k, -9223372036854775808 ≤ m.at_ k ∧ m.at_ k ≤ 9223372036854775807
theorem Ms.fits.all {m : Ms} (h : m.fits) : (-9223372036854775808 ≤ m.gen ∧ m.gen ≤ 9223372036854775807) ∧ (-9223372036854775808 ≤ m.inc ∧ m.inc ≤ 9223372036854775807) ∧ (-9223372036854775808 ≤ m.first ∧ m.first ≤ 9223372036854775807) ∧ (-9223372036854775808 ≤ m.lsn ∧ m.lsn ≤ 9223372036854775807) ∧ (-9223372036854775808 ≤ m.chk ∧ m.chk ≤ 9223372036854775807) := ⟨h 0, h 1, h 2, h 3, h 4⟩

/-- May it be? -/
structure Ms.ok (m : Ms) : Prop where
  gen : 1 ≤ m.gen ∧ m.gen ≤ 1099511627776
  inc : 0 ≤ m.inc ∧ m.inc ≤ 1099511627776
  first : 0 ≤ m.first ∧ m.first ≤ 1099511627776
  lsn : 0 ≤ m.lsn ∧ m.lsn ≤ 1099511627776
  chk : 0 ≤ m.chk ∧ m.chk ≤ 1099511627776
instance (m : Ms) : Decidable m.ok := decidable_of_iff ((1 ≤ m.gen ∧ m.gen ≤ 1099511627776) ∧ (0 ≤ m.inc ∧ m.inc ≤ 1099511627776) ∧ (0 ≤ m.first ∧ m.first ≤ 1099511627776) ∧ (0 ≤ m.lsn ∧ m.lsn ≤ 1099511627776) ∧ (0 ≤ m.chk ∧ m.chk ≤ 1099511627776)) ⟨fun ⟨a, b, c, d, e⟩ => ⟨a, b, c, d, e⟩, fun h => ⟨h.gen, h.inc, h.first, h.lsn, h.chk⟩⟩
theorem Ms.ok.at0 {m : Ms} (h : m.ok) (k : Nat) : 0 ≤ m.at_ k ∧ m.at_ k ≤ 1099511627776 := by
  match k with
  | 0 => exact ⟨by have := h.gen; show 0 ≤ m.gen; omega, h.gen.2⟩
  | 1 => exact h.inc
  | 2 => exact h.first
  | 3 => exact h.lsn
  | _ + 4 => exact h.chk
theorem Ms.ok.fits {m : Ms} (h : m.ok) : m.fits := fun k => by have := h.at0 k; omega
theorem Ms.ok_of {m : Ms} (h : ∀ k, k < 5 → 0 ≤ m.at_ k ∧ m.at_ k ≤ 1099511627776) (h1 : 0 < m.gen) : m.ok :=
  ⟨⟨by omega, (h 0 (by omega)).2⟩, h 1 (by omega), h 2 (by omega), h 3 (by omega), h 4 (by omega)⟩
theorem ms0_no : ¬ ms0.ok := fun h => by have h1 := h.gen.1; simp [ms0] at h1

/-- Its bytes. -/
def bodyM (m : Ms) : List Int := numL m.gen ++ numL m.inc ++ numL m.first ++ numL m.lsn ++ numL m.chk
/-- The first k numbers' bytes. -/
def bodyN (m : Ms) : Nat → List Int
  | 0 => []
  | k + 1 => bodyN m k ++ numL (m.at_ k)
theorem bodyN_all (m : Ms) : bodyN m 5 = bodyM m := by simp [bodyN, bodyM, Ms.at_]
theorem bodyM_rng (m : Ms) : ∀ x ∈ bodyM m, 0 ≤ x ∧ x < 256 := fun x hx => by
  simp only [bodyM, List.mem_append] at hx
  rcases hx with (((hx | hx) | hx) | hx) | hx <;> exact numL_rng _ x hx
theorem bodyN_len {m : Ms} (h : m.fits) : ∀ k, (bodyN m k).length ≤ 10 * k
  | 0 => by simp [bodyN]
  | k + 1 => by
    have h1 := bodyN_len h k
    have h2 := numL_len (m.at_ k) (h k).2
    simp only [bodyN, List.length_append]
    omega
theorem bodyM_len {m : Ms} (h : m.fits) : (bodyM m).length ≤ 50 := by have := bodyN_len h 5; rw [bodyN_all] at this; omega

/-- One number that is read, the rest, the error. -/
def rdV (l : List Int) (e : Nat) : Int := if e ≠ 0 then 0 else if (numF l 1099511627776).2.2 ≠ 0 then 0 else ((numF l 1099511627776).1 : Int)
def rdL (l : List Int) (e : Nat) : List Int := stepL l (numF l 1099511627776).2.1 e (numF l 1099511627776).2.2
def rdE (l : List Int) (e : Nat) : Nat := stepE e (numF l 1099511627776).2.2
theorem rdV_step (l : List Int) (e : Nat) : stepV (.int .i64 0) (.int .i64 ((numF l 1099511627776).1 : Int)) e (numF l 1099511627776).2.2 = .int .i64 (rdV l e) := by
  unfold stepV rdV
  split
  · rfl
  · split <;> rfl
theorem rdV_rng {l : List Int} (hr : ∀ x ∈ l, 0 ≤ x ∧ x < 256) (e : Nat) : 0 ≤ rdV l e ∧ rdV l e ≤ 1099511627776 := by
  unfold rdV
  split
  · omega
  · split
    · omega
    · rename_i h0 h1
      have := (numF_ok hr (most := 1099511627776) (by omega)).1
      omega
theorem rdL_rng {l : List Int} (hr : ∀ x ∈ l, 0 ≤ x ∧ x < 256) (e : Nat) : ∀ x ∈ rdL l e, 0 ≤ x ∧ x < 256 := by
  unfold rdL stepL
  split
  · exact hr
  · split
    · exact hr
    · exact fun x hx => hr x (List.mem_of_mem_drop hx)
/-- Behind k numbers. -/
def rdAt (l : List Int) : Nat → List Int × Nat
  | 0 => (l, 0)
  | k + 1 => (rdL (rdAt l k).1 (rdAt l k).2, rdE (rdAt l k).1 (rdAt l k).2)
theorem rdAt_rng {l : List Int} (hr : ∀ x ∈ l, 0 ≤ x ∧ x < 256) : ∀ k, ∀ x ∈ (rdAt l k).1, 0 ≤ x ∧ x < 256
  | 0 => hr
  | k + 1 => rdL_rng (rdAt_rng hr k) _
def rdN (l : List Int) (k : Nat) : Int := rdV (rdAt l k).1 (rdAt l k).2
theorem rdN_rng {l : List Int} (hr : ∀ x ∈ l, 0 ≤ x ∧ x < 256) (k : Nat) : 0 ≤ rdN l k ∧ rdN l k ≤ 1099511627776 := rdV_rng (rdAt_rng hr k) _
def decR (l : List Int) : Ms := ⟨rdN l 0, rdN l 1, rdN l 2, rdN l 3, rdN l 4⟩
def decE (l : List Int) : Nat := (rdAt l 5).2
theorem decR_fits {l : List Int} (hr : ∀ x ∈ l, 0 ≤ x ∧ x < 256) (k : Nat) : 0 ≤ (decR l).at_ k ∧ (decR l).at_ k ≤ 1099511627776 := by
  match k with
  | 0 => exact rdN_rng hr 0
  | 1 => exact rdN_rng hr 1
  | 2 => exact rdN_rng hr 2
  | 3 => exact rdN_rng hr 3
  | _ + 4 => exact rdN_rng hr 4
theorem decR_ok {l : List Int} (hr : ∀ x ∈ l, 0 ≤ x ∧ x < 256) : (decR l).ok ↔ 1 ≤ (decR l).gen :=
  ⟨fun h => h.gen.1, fun h => Ms.ok_of (fun k _ => decR_fits hr k) (by omega)⟩
def decM (l : List Int) : Ms := if decE l ≠ 0 then ms0 else decR l

/-- A number at the beginning. -/
theorem numF_at (z : Int) (hz : 0 ≤ z ∧ z ≤ 1099511627776) (r : List Int) : numF (numL z ++ r) 1099511627776 = (z.toNat, (numL z).length, 0) := by
  obtain ⟨n, rfl⟩ := Int.eq_ofNat_of_zero_le hz.1
  rw [numL_nat]
  unfold numF
  rw [takeF_short n (by omega) r]
  simp only [ne_eq, not_true_eq_false, if_false]
  rw [if_neg (by omega)]
  rfl
theorem rd_at (z : Int) (hz : 0 ≤ z ∧ z ≤ 1099511627776) (r : List Int) : rdV (numL z ++ r) 0 = z ∧ rdL (numL z ++ r) 0 = r ∧ rdE (numL z ++ r) 0 = 0 := by
  unfold rdV rdL rdE stepL stepE
  rw [numF_at z hz r]
  refine ⟨?_, ?_, ?_⟩
  · simp only [ne_eq, not_true_eq_false, if_false]
    omega
  · simp
  · simp
theorem rdAt_next {l : List Int} {k : Nat} {z : Int} {r : List Int} (h : rdAt l k = (numL z ++ r, 0)) (hz : 0 ≤ z ∧ z ≤ 1099511627776) : rdN l k = z ∧ rdAt l (k + 1) = (r, 0) := by
  obtain ⟨a, b, c⟩ := rd_at z hz r
  refine ⟨?_, ?_⟩
  · unfold rdN; rw [h]; exact a
  · have e : rdAt l (k + 1) = (rdL (rdAt l k).1 (rdAt l k).2, rdE (rdAt l k).1 (rdAt l k).2) := rfl
    rw [e, h]
    exact Prod.ext b c
/-- A record's bytes, whatever follows them, are read as the record. -/
theorem dec_body {m : Ms} (h : m.ok) (r : List Int) : decR (bodyM m ++ r) = m ∧ decE (bodyM m ++ r) = 0 := by
  have h0 : rdAt (bodyM m ++ r) 0 = (numL m.gen ++ (numL m.inc ++ (numL m.first ++ (numL m.lsn ++ (numL m.chk ++ r)))), 0) := by
    show (bodyM m ++ r, 0) = _
    simp [bodyM]
  obtain ⟨a0, h1⟩ := rdAt_next h0 (h.at0 0)
  obtain ⟨a1, h2⟩ := rdAt_next h1 (h.at0 1)
  obtain ⟨a2, h3⟩ := rdAt_next h2 (h.at0 2)
  obtain ⟨a3, h4⟩ := rdAt_next h3 (h.at0 3)
  obtain ⟨a4, h5⟩ := rdAt_next h4 (h.at0 4)
  have g : decE (bodyM m ++ r) = (rdAt (bodyM m ++ r) 5).2 := rfl
  rw [h5] at g
  refine ⟨?_, g⟩
  unfold decR
  rw [a0, a1, a2, a3, a4]

/-- The record of sector n. -/
def recM (n : Int) (l : List Int) : Ms := if openE l = 0 ∧ decE (openB l) = 0 ∧ (decR (openB l)).ok ∧ (decR (openB l)).gen % 2 = n then decR (openB l) else ms0
theorem recM_no {n : Int} {l : List Int} (h : ¬ (openE l = 0 ∧ decE (openB l) = 0 ∧ (decR (openB l)).ok ∧ (decR (openB l)).gen % 2 = n)) : recM n l = ms0 := if_neg h
theorem recM_yes {n : Int} {l : List Int} (h : openE l = 0 ∧ decE (openB l) = 0 ∧ (decR (openB l)).ok ∧ (decR (openB l)).gen % 2 = n) : recM n l = decR (openB l) := if_pos h
theorem recM_two (n : Int) (l : List Int) : recM n l = ms0 ∨ (recM n l).ok := by
  by_cases h : openE l = 0 ∧ decE (openB l) = 0 ∧ (decR (openB l)).ok ∧ (decR (openB l)).gen % 2 = n
  · rw [recM_yes h]; exact .inr h.2.2.1
  · exact .inl (recM_no h)
theorem recM_gen (n : Int) (l : List Int) : 0 ≤ (recM n l).gen := by
  rcases recM_two n l with h | h
  · rw [h]; exact Int.le_refl _
  · have := h.gen; omega
theorem recM_zero {n : Int} {l : List Int} (h : (recM n l).gen = 0) : recM n l = ms0 := by
  rcases recM_two n l with q | q
  · exact q
  · have := q.gen; omega
theorem recM_fits (n : Int) (l : List Int) : (recM n l).fits := by
  rcases recM_two n l with h | h
  · rw [h]; intro k; match k with
    | 0 => exact ⟨by decide, by decide⟩
    | 1 => exact ⟨by decide, by decide⟩
    | 2 => exact ⟨by decide, by decide⟩
    | 3 => exact ⟨by decide, by decide⟩
    | _ + 4 => exact ⟨by show (-9223372036854775808 : Int) ≤ 0; decide, by show (0 : Int) ≤ _; decide⟩
  · exact h.fits
/-- A record that was put is read. -/
theorem recM_wrap {m : Ms} (h : m.ok) {t : Int} (ht : 1 ≤ t ∧ t ≤ 3) : recM (m.gen % 2) (wrapL t (bodyM m)) = m := by
  have hl : (bodyM m).length ≤ 254 := by have := bodyM_len h.fits; omega
  have hs : (wrapL t (bodyM m)).length = 256 := by simp [wrapL, padL_len hl]
  have e := openE_right hs (right_wrap ht hl)
  have eb : openB (wrapL t (bodyM m)) = bodyM m ++ List.replicate (254 - (bodyM m).length) 0 := by rw [openB_right hs (right_wrap ht hl), bodyL_wrap hl]; rfl
  obtain ⟨d1, d2⟩ := dec_body h (List.replicate (254 - (bodyM m).length) 0)
  rw [recM_yes, eb, d1]
  rw [eb, d1, d2]
  exact ⟨e, rfl, h, rfl⟩
/-- A torn sector has none. -/
theorem recM_torn {n : Int} {l : List Int} (h : openE l = 50) : recM n l = ms0 := recM_no (fun q => by omega)

/-- Which of both counts. -/
def loadM (a b : List Int) : Ms := if (recM 0 a).gen < (recM 1 b).gen then recM 1 b else recM 0 a
theorem loadM_zero {a b : List Int} (h : (loadM a b).gen = 0) : loadM a b = ms0 := by
  unfold loadM at h ⊢
  split
  · rename_i q; rw [if_pos q] at h; exact recM_zero h
  · rename_i q; rw [if_neg q] at h; exact recM_zero h
theorem loadM_gen (a b : List Int) : 0 ≤ (loadM a b).gen := by
  unfold loadM
  split
  · exact recM_gen _ _
  · exact recM_gen _ _
def lostE (m : Ms) : Int := if m.gen = 0 then 60 else 0
end Go.Proofs.Ytllkdcnejobinaa

/- which blocks a call may turn; things in memory, each with the blocks that are its own; two such things side by side. No program is named; no condition. -/
namespace Go.Proofs.Ytllkdcnejobinaa
open Go.RowKit

/-- From w to w' no old block is turned but those of F. -/
structure Fr (F : Nat → Prop) (w w' : World) : Prop where
  os : w'.os = w.os
  tape : w'.tape = w.tape
  output : w'.output = w.output
  size : w.heap.size ≤ w'.heap.size
  block : ∀ k, k < w.heap.size → ¬ F k → w'.heap[k]? = w.heap[k]?

/-- F, and what is new. -/
def grow (F : Nat → Prop) (w w' : World) : Nat → Prop := fun k => F k ∨ (w.heap.size ≤ k ∧ k < w'.heap.size)
/-- What is new. -/
def fresh (w w' : World) : Nat → Prop := fun k => w.heap.size ≤ k ∧ k < w'.heap.size

section
variable {F G : Nat → Prop} {w w1 w2 : World}
theorem Fr.refl (F : Nat → Prop) (w : World) : Fr F w w := ⟨rfl, rfl, rfl, Nat.le_refl _, fun _ _ _ => rfl⟩
theorem Fr.trans (h : Fr F w w1) (k : Fr (grow F w w1) w1 w2) : Fr F w w2 :=
  ⟨k.os.trans h.os, k.tape.trans h.tape, k.output.trans h.output, Nat.le_trans h.size k.size, fun i hi hn => (k.block i (Nat.lt_of_lt_of_le hi h.size) (fun g => by
    rcases g with g | g
    · exact hn g
    · omega)).trans (h.block i hi hn)⟩
theorem Fr.mono (h : Fr F w w1) (hFG : ∀ k, F k → G k) : Fr G w w1 := ⟨h.os, h.tape, h.output, h.size, fun k hk hn => h.block k hk (fun f => hn (hFG k f))⟩
theorem Fr.then (h : Fr F w w1) (k : Fr F w1 w2) : Fr F w w2 := h.trans (k.mono fun _ f => .inl f)
theorem Fr.of_below (h : Below w.heap.size w w1) : Fr F w w1 := ⟨h.os, h.tape, h.output, h.size, fun k hk _ => h.block k hk⟩
theorem Fr.below {B : Nat} (h : Fr F w w1) (hB : B ≤ w.heap.size) (hF : ∀ k, F k → B ≤ k) : Below B w w1 :=
  ⟨h.os, h.tape, h.output, h.size, fun k hk => h.block k (by omega) (fun f => by have := hF k f; omega)⟩
theorem Fr.setCell (h : Fr F w w1) {a : Addr} (ha : F a.block) (u : Value) : Fr F w (w1.setCell a u) :=
  ⟨h.os, h.tape, h.output, by simpa [World.setCell] using h.size, fun k hk hn => (Below.heap_setCell w1 a u k (fun e => hn (e ▸ ha))).trans (h.block k hk hn)⟩
theorem Fr.grown (h : Fr F w w1) {row : Option Nat} (hg : w1.grownBy w2 row) (hr : ∀ k, row = some k → F k ∨ w.heap.size ≤ k) : Fr F w w2 :=
  h.trans ⟨hg.os, hg.tape, hg.output, hg.size, fun k hk hn => hg.block k hk (fun e => by
    rcases hr k e.symm with h | h
    · exact hn (.inl h)
    · exact hn (.inr ⟨h, hk⟩))⟩
theorem Fr.alloc (h : Fr F w w1) (o : Obj) : Fr F w (w1.alloc o) := h.grown (row := none) (World.grownBy_alloc w1 o none) (fun _ e => nomatch e)
theorem Fr.drewN (h : Fr F w w1) (n : Nat) : Fr F w (w1.drewN n) := ⟨h.os, h.tape, h.output, h.size, h.block⟩
theorem Fr.cell1 (w : World) (b i : Nat) (u : Value) : Fr (fun k => k = b) w (w.setCell ⟨b, i, none⟩ u) := Fr.setCell (a := ⟨b, i, none⟩) (Fr.refl (fun k => k = b) w) (show (fun k => k = b) b from rfl) u
theorem Fr.grow_of_below {F : Nat → Prop} {w w' : World} {k : Nat} (h : F k) : grow F w w' k := .inl h
end

/-- A thing in memory: what holds of it in a world where the blocks F are its own. -/
structure Res where
  is : World → (Nat → Prop) → Prop
  lt : ∀ w F, is w F → ∀ k, F k → k < w.heap.size
  keep : ∀ w w' F, is w F → w.heap.size ≤ w'.heap.size → (∀ k, F k → w'.heap[k]? = w.heap[k]?) → is w' F

/-- R has become R'; nothing else is turned. -/
def Turn (R : Res) (F : Nat → Prop) (w w' : World) : Prop := R.is w' (grow F w w') ∧ Fr F w w'

/-- Two things side by side. -/
def Res.star (R S : Res) : Res where
  is w F := ∃ F1 F2, R.is w F1 ∧ S.is w F2 ∧ (∀ k, F1 k → ¬ F2 k) ∧ (∀ k, F1 k → F k) ∧ (∀ k, F2 k → F k) ∧ ∀ k, F k → k < w.heap.size
  lt _ _ := fun ⟨_, _, _, _, _, _, _, h⟩ => h
  keep w w' F := fun ⟨F1, F2, h1, h2, h3, h4, h5, h6⟩ hs hk => ⟨F1, F2, R.keep w w' F1 h1 hs (fun k f => hk k (h4 k f)), S.keep w w' F2 h2 hs (fun k f => hk k (h5 k f)), h3, h4, h5, fun k f => Nat.lt_of_lt_of_le (h6 k f) hs⟩

theorem Res.star_comm {R S : Res} {w : World} {F : Nat → Prop} (h : (R.star S).is w F) : (S.star R).is w F := by
  obtain ⟨F1, F2, h1, h2, h3, h4, h5, h6⟩ := h
  exact ⟨F2, F1, h2, h1, fun k f g => h3 k g f, h5, h4, h6⟩

/-- The second thing doesn't mind what becomes of the first. -/
theorem Res.star_turn {R S : Res} {w : World} {F : Nat → Prop} (h : (R.star S).is w F) : ∃ F1, R.is w F1 ∧ ∀ R' w', Turn R' F1 w w' → Turn (R'.star S) F w w' := by
  obtain ⟨F1, F2, h1, h2, h3, h4, h5, h6⟩ := h
  refine ⟨F1, h1, fun R' w' ⟨t1, t2⟩ => ⟨⟨grow F1 w w', F2, t1, ?_, ?_, ?_, fun k f => .inl (h5 k f), ?_⟩, t2.mono h4⟩⟩
  · exact S.keep w w' F2 h2 t2.size (fun k f => t2.block k (S.lt w F2 h2 k f) (fun g => h3 k g f))
  · intro k f g
    rcases f with f | f
    · exact h3 k f g
    · have := S.lt w F2 h2 k g
      omega
  · intro k f
    rcases f with f | f
    · exact .inl (h4 k f)
    · exact .inr f
  · intro k f
    rcases f with f | f
    · exact Nat.lt_of_lt_of_le (h6 k f) t2.size
    · exact f.2

/-- A thing that is there, all of it from block B on. -/
def Has (B : Nat) (R : Res) (w : World) : Prop := ∃ F, R.is w F ∧ ∀ k, F k → B ≤ k

section
variable {B : Nat} {R S : Res} {w w' : World}
theorem Has.below (h : Has B R w) (hb : Below w.heap.size w w') : Has B R w' := by
  obtain ⟨F, h1, h2⟩ := h
  exact ⟨F, R.keep w w' F h1 hb.size (fun k f => hb.block k (R.lt w F h1 k f)), h2⟩

theorem Has.turn (h : Has B R w) (hB : B ≤ w.heap.size) : ∃ F, R.is w F ∧ ∀ R' w', Turn R' F w w' → Has B R' w' ∧ Below B w w' := by
  obtain ⟨F, h1, h2⟩ := h
  refine ⟨F, h1, fun R' w' ⟨t1, t2⟩ => ⟨⟨_, t1, fun k f => ?_⟩, t2.below hB h2⟩⟩
  rcases f with f | f
  · exact h2 k f
  · omega

theorem Has.comm (h : Has B (R.star S) w) : Has B (S.star R) w := by
  obtain ⟨F, h1, h2⟩ := h
  exact ⟨F, Res.star_comm h1, h2⟩

/-- What turns the first thing. -/
theorem Has.turn1 (h : Has B (R.star S) w) (hB : B ≤ w.heap.size) : ∃ F, R.is w F ∧ ∀ R' w', Turn R' F w w' → Has B (R'.star S) w' ∧ Below B w w' := by
  obtain ⟨F, h1, h2⟩ := h.turn hB
  obtain ⟨F1, h3, h4⟩ := Res.star_turn h1
  exact ⟨F1, h3, fun R' w' t => h2 _ _ (h4 R' w' t)⟩

theorem Has.fst (h : Has B (R.star S) w) : Has B R w := by
  obtain ⟨F, ⟨F1, F2, h1, h2, h3, h4, h5, h6⟩, h7⟩ := h
  exact ⟨F1, h1, fun k f => h7 k (h4 k f)⟩
theorem Has.snd (h : Has B (R.star S) w) : Has B S w := h.comm.fst
theorem Has.ex (h : Has B R w) : ∃ F, R.is w F := ⟨h.choose, h.choose_spec.1⟩

/-- A new thing beside the old ones. -/
theorem Has.new (h : Has B S w) (hB : B ≤ w.heap.size) (hb : Below w.heap.size w w') (hr : R.is w' (fresh w w')) : Has B (R.star S) w' := by
  obtain ⟨F, h1, h2⟩ := h
  refine ⟨fun k => fresh w w' k ∨ F k, ⟨fresh w w', F, hr, S.keep w w' F h1 hb.size (fun k f => hb.block k (S.lt w F h1 k f)), ?_, fun _ f => .inl f, fun _ f => .inr f, ?_⟩, ?_⟩
  · intro k f g
    have := S.lt w F h1 k g
    have := f.1
    omega
  · intro k f
    rcases f with f | f
    · exact f.2
    · exact Nat.lt_of_lt_of_le (S.lt w F h1 k f) hb.size
  · intro k f
    rcases f with f | f
    · have := f.1
      omega
    · exact h2 k f

/-- A new thing alone. -/
theorem Has.first (hB : B ≤ w.heap.size) (hr : R.is w' (fresh w w')) : Has B R w' := ⟨_, hr, fun k f => by have := f.1; omega⟩

/-- Behind more that makes memory alone. -/
theorem fresh_more {R : Res} {w w1 w2 : World} (h : R.is w1 (fresh w w1)) (hm : ∀ w F G, R.is w F → (∀ k, F k → G k) → (∀ k, G k → k < w.heap.size) → R.is w G) (hb : Below w1.heap.size w1 w2) : R.is w2 (fresh w w2) := by
  have h2 := R.keep w1 w2 _ h hb.size (fun k f => hb.block k f.2)
  have := hb.size
  exact hm w2 _ _ h2 (fun k f => ⟨f.1, by have := f.2; omega⟩) (fun k f => f.2)

theorem Has.assoc {T : Res} (h : Has B ((R.star S).star T) w) : Has B (R.star (S.star T)) w := by
  obtain ⟨F, ⟨F1, F2, ⟨F3, F4, a1, a2, a3, a4, a5, a6⟩, h2, h3, h4, h5, h6⟩, h7⟩ := h
  refine ⟨F, ⟨F3, fun k => F4 k ∨ F2 k, a1, ⟨F4, F2, a2, h2, fun k f => h3 k (a5 k f), fun _ f => .inl f, fun _ f => .inr f, ?_⟩, ?_, fun k f => h4 k (a4 k f), ?_, h6⟩, h7⟩
  · intro k f
    rcases f with f | f
    · exact a6 k (a5 k f)
    · exact h6 k (h5 k f)
  · intro k f g
    rcases g with g | g
    · exact a3 k f g
    · exact h3 k (a4 k f) g
  · intro k f
    rcases f with f | f
    · exact h4 k (a5 k f)
    · exact h5 k f
theorem Has.assoc' {T : Res} (h : Has B (R.star (S.star T)) w) : Has B ((R.star S).star T) w := h.comm.assoc.comm.assoc.comm
end

/-- A row of bytes. -/
def rowOf (e : TypeId) (v : Value) (n : Nat) (l : List Int) : Res where
  is w F := w.ownsRow 0 e 1 v n (l.map (Value.int .u8)) ∧ (∀ k, v.ownBlock = some k → F k) ∧ ∀ k, F k → k < w.heap.size
  lt _ _ := fun h => h.2.2
  keep w w' F := fun h hs hk => by
    refine ⟨?_, h.2.1, fun k f => Nat.lt_of_lt_of_le (h.2.2 k f) hs⟩
    obtain ⟨⟨h1, h2⟩, h3, _⟩ := h
    refine ⟨h1, ?_⟩
    rcases h2 with h2 | ⟨g, cap, cur, hv, hb, hg, r⟩
    · exact .inl h2
    · exact .inr ⟨g, cap, cur, hv, hb, (hk g (h3 g (by rw [hv]; rfl))).trans hg, r⟩

theorem owns_keep {w w' : World} {base : Nat} {e : TypeId} {size : Nat} {v : Value} {n : Nat} {xs : List Value} (h : w.ownsRow base e size v n xs) (hk : ∀ k, v.ownBlock = some k → w'.heap[k]? = w.heap[k]?) : w'.ownsRow base e size v n xs := by
  obtain ⟨h1, h2⟩ := h
  refine ⟨h1, ?_⟩
  rcases h2 with h2 | ⟨g, cap, cur, hv, hb, hg, r⟩
  · exact .inl h2
  · exact .inr ⟨g, cap, cur, hv, hb, (hk g (by rw [hv]; rfl)).trans hg, r⟩

theorem owns_low {w : World} {base base' : Nat} {e : TypeId} {size : Nat} {v : Value} {n : Nat} {xs : List Value} (h : w.ownsRow base e size v n xs) (hb : base' ≤ base) : w.ownsRow base' e size v n xs := by
  obtain ⟨h1, h2⟩ := h
  refine ⟨h1, ?_⟩
  rcases h2 with h2 | ⟨g, cap, cur, hv, hg, r⟩
  · exact .inl h2
  · exact .inr ⟨g, cap, cur, hv, Nat.le_trans hb hg, r⟩

theorem Bk.eq {w w' : World} {g : Nat} {t : TypeId} {cs : Array Value} (h : Bk w g t cs) (hk : w'.heap[g]? = w.heap[g]?) : Bk w' g t cs := hk.trans h
theorem range_none : Array.range 0 = #[] := Array.eq_empty_of_size_eq_zero (by simp)
end Go.Proofs.Ytllkdcnejobinaa

/- master.numbers answers the five places of a record. -/
namespace Go.Proofs.Ytllkdcnejobinaa
open Go.RowKit

/-- The five places of the record at block b. -/
def ptrs5 (b : Nat) : Value := .agg #[.pointer (some ⟨b, 0, none⟩), .pointer (some ⟨b, 1, none⟩), .pointer (some ⟨b, 2, none⟩), .pointer (some ⟨b, 3, none⟩), .pointer (some ⟨b, 4, none⟩)]

/-- 'a[i]' of an array of pointers by value. -/
theorem run_index_ptrs {P : Program} (w : World) (t e te : TypeId) (n : Nat) (cs : Array Value) (i : Nat) (v : Value) (hi : i < n) (hu : P.underlying t = some (.array n e)) (hue : P.underlying e = some (.pointer te)) (hs : (P.info? e).map (·.size) = some 1) (ha : cs[i]? = some v) :
    (Instr.index t (.agg cs) (.int .i64 (i : Int))).run P w = .ok v w := by
  cases hq : P.info? e with
  | none => simp [hq] at hs
  | some ie =>
    have h1 : ie.size = 1 := by simpa [hq] using hs
    have hsz : ∀ w, (sizeOf e).run P w = .ok 1 w := fun w => by simp [sizeOf, typeInfo, hq, h1]
    have hagg : ∀ w, (isAgg e).run P w = .ok false w := fun w => by simp [isAgg, Sem.run_bind, run_underlying hue w]
    have hc : (0 ≤ (i : Int) ∧ (i : Int) < ((n : Nat) : Int)) := by omega
    unfold Instr.index
    simp only [Sem.run_bind, asIntOf, Sem.run_pure, Result.andThen, run_underlying hu w]
    rw [if_pos hc]
    simp only [Sem.run_bind, hsz, Result.andThen, part, hagg, Int.toNat_natCast, Nat.mul_one, ha]
    simp
set_option maxRecDepth 100000 in
/-- Each of the five. -/
theorem ptrs_at (b : Nat) (w : World) (k : Nat) (hk : k < 5) : (Instr.index 65 (ptrs5 b) (.int .i64 (k : Int))).run Try.prog w = .ok (.pointer (some ⟨b, k, none⟩)) w :=
  run_index_ptrs w 65 64 3 5 _ k _ hk Try.underlying65 Try.underlying64 (by rfl) (by
    match k, hk with
    | 0, _ => rfl
    | 1, _ => rfl
    | 2, _ => rfl
    | 3, _ => rfl
    | 4, _ => rfl)
theorem ptrs_all (b : Nat) : (∀ w, (Instr.index 65 (ptrs5 b) (.int .i64 0)).run Try.prog w = .ok (.pointer (some ⟨b, 0, none⟩)) w) ∧ (∀ w, (Instr.index 65 (ptrs5 b) (.int .i64 1)).run Try.prog w = .ok (.pointer (some ⟨b, 1, none⟩)) w) ∧ (∀ w, (Instr.index 65 (ptrs5 b) (.int .i64 2)).run Try.prog w = .ok (.pointer (some ⟨b, 2, none⟩)) w) ∧ (∀ w, (Instr.index 65 (ptrs5 b) (.int .i64 3)).run Try.prog w = .ok (.pointer (some ⟨b, 3, none⟩)) w) ∧ (∀ w, (Instr.index 65 (ptrs5 b) (.int .i64 4)).run Try.prog w = .ok (.pointer (some ⟨b, 4, none⟩)) w) :=
  ⟨fun w => ptrs_at b w 0 (by omega), fun w => ptrs_at b w 1 (by omega), fun w => ptrs_at b w 2 (by omega), fun w => ptrs_at b w 3 (by omega), fun w => ptrs_at b w 4 (by omega)⟩

set_option maxHeartbeats 4000000 in
theorem numbers_any (b : Nat) (w : World) :
    Calls Try.prog 24 #[.pointer (some ⟨b, 0, none⟩)] w (Ret (ptrs5 b) w) := by
  unfold ptrs5
  go_enter Try.func24, Try.ntmps24
  go_wp2_with fail
  go_region
  go_wp2_with fail
  go_returns
  exact ⟨rfl, ((Below.refl _ _).alloc (Nat.le_refl _) _).drew⟩

set_option maxRecDepth 100000 in
set_option maxHeartbeats 4000000 in
theorem isValid_any (m : Ms) (w : World) :
    Calls Try.prog 13 #[msV m] w (Ret (.bool (decide m.ok)) w) := by
  have CN := Lib.hid (numbers_any w.heap.size (w.alloc (.cells #[.int .i64 m.gen, .int .i64 m.inc, .int .i64 m.first, .int .i64 m.lsn, .int .i64 m.chk] 30)))
  unfold msV
  go_enter Try.func13, Try.ntmps13
  go_wp2_with fail
  refine CN.out.mono ?_
  rintro e w1 ⟨rfl, b1⟩
  have hk := (Bk.new w 30 #[.int .i64 m.gen, .int .i64 m.inc, .int .i64 m.first, .int .i64 m.lsn, .int .i64 m.chk]).bel b1 (by simp)
  have c0 : w1.cell? ⟨w.heap.size, 0, none⟩ = some (.int .i64 m.gen) := hk.cell 0
  have c1 : w1.cell? ⟨w.heap.size, 1, none⟩ = some (.int .i64 m.inc) := hk.cell 1
  have c2 : w1.cell? ⟨w.heap.size, 2, none⟩ = some (.int .i64 m.first) := hk.cell 2
  have c3 : w1.cell? ⟨w.heap.size, 3, none⟩ = some (.int .i64 m.lsn) := hk.cell 3
  have c4 : w1.cell? ⟨w.heap.size, 4, none⟩ = some (.int .i64 m.chk) := hk.cell 4
  have B1 := Lib.hid (((Below.refl w.heap.size w).alloc (Nat.le_refl _) _).trans (b1.mono (by simp)))
  clear hk b1 CN
  obtain ⟨q0, q1, q2, q3, q4⟩ := ptrs_all w.heap.size
  go_wp2_with fail
  have HNO : Hid (¬ ((1 ≤ m.gen ∧ m.gen ≤ 1099511627776) ∧ (0 ≤ m.inc ∧ m.inc ≤ 1099511627776) ∧ (0 ≤ m.first ∧ m.first ≤ 1099511627776) ∧ (0 ≤ m.lsn ∧ m.lsn ≤ 1099511627776) ∧ (0 ≤ m.chk ∧ m.chk ≤ 1099511627776)) → decide m.ok = false) := Lib.hid fun q => decide_eq_false fun h => q ⟨h.gen, h.inc, h.first, h.lsn, h.chk⟩
  have HYES : Hid (((1 ≤ m.gen ∧ m.gen ≤ 1099511627776) ∧ (0 ≤ m.inc ∧ m.inc ≤ 1099511627776) ∧ (0 ≤ m.first ∧ m.first ≤ 1099511627776) ∧ (0 ≤ m.lsn ∧ m.lsn ≤ 1099511627776) ∧ (0 ≤ m.chk ∧ m.chk ≤ 1099511627776)) → decide m.ok = true) := Lib.hid fun ⟨a, b, c, d, e⟩ => decide_eq_true ⟨a, b, c, d, e⟩
  by_cases hg : 0 < m.gen
  · go_rounds 6
    all_goals go_returns
    all_goals refine ⟨?_, B1.out⟩
    all_goals first
      | (rw [HNO.out (by omega)]; first | rfl | exact congrArg (fun b => Ending.returned (.bool b)) (decide_eq_false (by omega)))
      | (rw [HYES.out (by omega)]; first | rfl | exact congrArg (fun b => Ending.returned (.bool b)) (decide_eq_true (by omega)))
  · go_rounds 6
    all_goals go_returns
    all_goals refine ⟨?_, B1.out⟩
    all_goals first
      | (rw [HNO.out (by omega)]; first | rfl | exact congrArg (fun b => Ending.returned (.bool b)) (decide_eq_false (by omega)))
      | (rw [HYES.out (by omega)]; first | rfl | exact congrArg (fun b => Ending.returned (.bool b)) (decide_eq_true (by omega)))

/-- The sector of a record that may be. -/
theorem sectorOf_any (m : Ms) (w : World) (h : 0 ≤ m.gen) :
    Calls Try.prog 15 #[msV m] w (Ret (.int .i64 (m.gen % 2)) w) := by
  obtain ⟨g, hg⟩ := Int.eq_ofNat_of_zero_le h
  unfold msV
  rw [hg]
  clear hg h
  go_enter Try.func15, Try.ntmps15
  go_wp2_with fail
  go_ret
  exact ⟨rfl, (Below.refl _ _).alloc (Nat.le_refl _) _⟩
end Go.Proofs.Ytllkdcnejobinaa

/- plain mathematics of CRC-32: the register's step over one bit is linear and one to one; bytes put in one behind the other are one great number put in at the start. No program is named; no condition. -/
namespace Go.Proofs.Ytllkdcnejobinaa

def poly : Nat := 3988292384

/-- One bit more. -/
def stepBit (c : Nat) : Nat := if c % 2 = 1 then (c / 2) ^^^ poly else c / 2

/-- k bits more. -/
def steps : Nat → Nat → Nat
  | 0, c => c
  | k + 1, c => steps k (stepBit c)

theorem steps_add (j k c : Nat) : steps (j + k) c = steps k (steps j c) := by
  induction j generalizing c with
  | zero => rw [Nat.zero_add]; rfl
  | succ j ih => rw [Nat.add_right_comm]; exact ih (stepBit c)

theorem steps_succ (k c : Nat) : steps (k + 1) c = stepBit (steps k c) := by rw [steps_add k 1]; rfl

theorem xor_half (a b : Nat) : (a ^^^ b) / 2 = (a / 2) ^^^ (b / 2) := by
  apply Nat.eq_of_testBit_eq
  intro i
  simp [Nat.testBit_div_two]

theorem xor_low (a b : Nat) : (a ^^^ b) % 2 = (a % 2 + b % 2) % 2 := by
  have h := Nat.testBit_xor a b 0
  simp only [Nat.testBit_zero] at h
  rcases Nat.mod_two_eq_zero_or_one a with ha | ha <;> rcases Nat.mod_two_eq_zero_or_one b with hb | hb <;>
    rcases Nat.mod_two_eq_zero_or_one (a ^^^ b) with hc | hc <;> simp [ha, hb, hc] at h ⊢

theorem stepBit_xor (a b : Nat) : stepBit (a ^^^ b) = stepBit a ^^^ stepBit b := by
  unfold stepBit
  rw [xor_half, xor_low]
  rcases Nat.mod_two_eq_zero_or_one a with ha | ha <;> rcases Nat.mod_two_eq_zero_or_one b with hb | hb <;> simp [ha, hb]
  · rw [Nat.xor_assoc]
  · rw [Nat.xor_assoc, Nat.xor_assoc, Nat.xor_comm (b / 2)]
  · rw [Nat.xor_assoc, Nat.xor_comm (b / 2) poly, ← Nat.xor_assoc poly, Nat.xor_self, Nat.zero_xor]

theorem steps_xor (k a b : Nat) : steps k (a ^^^ b) = steps k a ^^^ steps k b := by
  induction k generalizing a b with
  | zero => rfl
  | succ k ih => rw [steps, stepBit_xor, ih]; rfl

theorem stepBit_zero : stepBit 0 = 0 := rfl
theorem steps_zero (k : Nat) : steps k 0 = 0 := by
  induction k with
  | zero => rfl
  | succ k ih => rw [steps, stepBit_zero, ih]

theorem stepBit_lt {c : Nat} (h : c < 4294967296) : stepBit c < 4294967296 := by
  unfold stepBit
  split
  · exact Nat.xor_lt_two_pow (n := 32) (by omega) (by decide)
  · omega

theorem steps_lt (k : Nat) {c : Nat} (h : c < 4294967296) : steps k c < 4294967296 := by
  induction k generalizing c with
  | zero => exact h
  | succ k ih => exact ih (stepBit_lt h)

theorem xor_eq_zero {a b : Nat} (h : a ^^^ b = 0) : a = b := by
  have : (a ^^^ b) ^^^ b = b := by rw [h, Nat.zero_xor]
  rwa [Nat.xor_assoc, Nat.xor_self, Nat.xor_zero] at this

theorem stepBit_ne {c : Nat} (h : c < 4294967296) (h0 : c ≠ 0) : stepBit c ≠ 0 := by
  unfold stepBit
  split
  · intro e
    have := xor_eq_zero e
    unfold poly at this
    omega
  · omega

theorem steps_ne (k : Nat) {c : Nat} (h : c < 4294967296) (h0 : c ≠ 0) : steps k c ≠ 0 := by
  induction k generalizing c with
  | zero => exact h0
  | succ k ih => exact ih (stepBit_lt h) (stepBit_ne h h0)

theorem steps_inj (k : Nat) {a b : Nat} (ha : a < 4294967296) (hb : b < 4294967296) (h : steps k a = steps k b) : a = b := by
  by_cases e : a ^^^ b = 0
  · exact xor_eq_zero e
  · exfalso
    refine steps_ne k (Nat.xor_lt_two_pow (n := 32) ha hb) e ?_
    rw [steps_xor, h, Nat.xor_self]

/-- What stands high up comes down. -/
theorem steps_shift (k c : Nat) : steps k (c * 2 ^ k) = c := by
  induction k with
  | zero => simp [steps]
  | succ k ih =>
    have e : c * 2 ^ (k + 1) = (c * 2 ^ k) * 2 := by rw [Nat.pow_succ, Nat.mul_assoc]
    rw [steps, stepBit, e, if_neg (by omega), Nat.mul_div_cancel _ (by decide), ih]

/-- Bytes as one number, the first one lowest. -/
def leN : List Int → Nat
  | [] => 0
  | x :: r => x.toNat + 256 * leN r

/-- A byte more. -/
def stepByte (c : Nat) (x : Int) : Nat := steps 8 (c ^^^ x.toNat)

/-- Bytes more. -/
def crcFrom (c : Nat) (l : List Int) : Nat := l.foldl stepByte c

theorem crcFrom_cons (c : Nat) (x : Int) (l : List Int) : crcFrom c (x :: l) = crcFrom (stepByte c x) l := rfl
theorem crcFrom_append (c : Nat) (l m : List Int) : crcFrom c (l ++ m) = crcFrom (crcFrom c l) m := by simp [crcFrom]
theorem crcFrom_snoc (c : Nat) (l : List Int) (x : Int) : crcFrom c (l ++ [x]) = stepByte (crcFrom c l) x := by simp [crcFrom]

theorem add_eq_xor (x n : Nat) (h : x < 256) : x + 256 * n = x ^^^ (n * 256) := by
  have e : n * 256 = n <<< 8 := by rw [Nat.shiftLeft_eq]
  rw [e, Nat.mul_comm]
  have h1 : n * 256 + x = n <<< 8 ||| x := by rw [← Nat.shiftLeft_add_eq_or_of_lt (by simpa using h) n, Nat.shiftLeft_eq]
  have h2 : (n <<< 8) ^^^ x = n <<< 8 ||| x := by
    apply Nat.eq_of_testBit_eq
    intro i
    simp only [Nat.testBit_xor, Nat.testBit_or, Nat.testBit_shiftLeft]
    by_cases hi : 8 ≤ i
    · have : x.testBit i = false := Nat.testBit_lt_two_pow (Nat.lt_of_lt_of_le h (by
        have : 2 ^ 8 ≤ 2 ^ i := Nat.pow_le_pow_right (by decide) hi
        simpa using this))
      simp [this]
    · simp [hi]
  rw [Nat.add_comm, h1, ← h2, Nat.xor_comm]

theorem crcFrom_num (l : List Int) (hr : ∀ x ∈ l, 0 ≤ x ∧ x < 256) (c : Nat) : crcFrom c l = steps (8 * l.length) (c ^^^ leN l) := by
  induction l generalizing c with
  | nil => simp [crcFrom, leN, steps]
  | cons x r ih =>
    have hx := hr x (by simp)
    rw [crcFrom_cons, ih (fun y hy => hr y (by simp [hy])), leN, add_eq_xor _ _ (by omega)]
    rw [List.length_cons, show 8 * (r.length + 1) = 8 + 8 * r.length from by omega, steps_add]
    congr 1
    rw [← Nat.xor_assoc, steps_xor 8 _ (leN r * 256), stepByte]
    congr 1
    exact (steps_shift 8 (leN r)).symm

def ones : Nat := 4294967295

/-- The checksum. -/
def crcL (l : List Int) : Nat := crcFrom ones l ^^^ ones

theorem crcFrom_lt (l : List Int) (hr : ∀ x ∈ l, 0 ≤ x ∧ x < 256) (c : Nat) (hc : c < 4294967296) : crcFrom c l < 4294967296 := by
  induction l generalizing c with
  | nil => exact hc
  | cons x r ih =>
    have hx := hr x (by simp)
    exact ih (fun y hy => hr y (by simp [hy])) _ (steps_lt 8 (Nat.xor_lt_two_pow (n := 32) hc (by omega)))

theorem crcL_lt (l : List Int) (hr : ∀ x ∈ l, 0 ≤ x ∧ x < 256) : crcL l < 4294967296 :=
  Nat.xor_lt_two_pow (n := 32) (crcFrom_lt l hr _ (by decide)) (by decide)

/-- Two checksums told by their texts' numbers. -/
theorem crcL_xor (l m : List Int) (hl : ∀ x ∈ l, 0 ≤ x ∧ x < 256) (hm : ∀ x ∈ m, 0 ≤ x ∧ x < 256) (he : l.length = m.length) : crcL l ^^^ crcL m = steps (8 * l.length) (leN l ^^^ leN m) := by
  unfold crcL
  rw [crcFrom_num l hl, crcFrom_num m hm, ← he, steps_xor, steps_xor, steps_xor]
  generalize steps (8 * l.length) ones = a
  generalize steps (8 * l.length) (leN l) = b
  generalize steps (8 * l.length) (leN m) = c
  apply Nat.eq_of_testBit_eq
  intro i
  simp only [Nat.testBit_xor]
  cases a.testBit i <;> cases b.testBit i <;> cases c.testBit i <;> cases ones.testBit i <;> rfl

/-- P2.4: where up to 32 neighbouring bits are other ones the checksum is another one. -/
theorem crc_turned (l m : List Int) (hl : ∀ x ∈ l, 0 ≤ x ∧ x < 256) (hm : ∀ x ∈ m, 0 ≤ x ∧ x < 256) (he : l.length = m.length) (at_ u : Nat) (hat : at_ ≤ 8 * l.length) (hu : u < 4294967296) (h : leN m = leN l ^^^ (u * 2 ^ at_)) : crcL l = crcL m ↔ u = 0 := by
  have e : leN l ^^^ leN m = u * 2 ^ at_ := by rw [h, ← Nat.xor_assoc, Nat.xor_self, Nat.zero_xor]
  have x := crcL_xor l m hl hm he
  rw [e, show 8 * l.length = at_ + (8 * l.length - at_) from by omega, steps_add, steps_shift] at x
  constructor
  · intro hc
    by_cases h0 : u = 0
    · exact h0
    · exfalso
      rw [hc, Nat.xor_self] at x
      exact steps_ne _ hu h0 x.symm
  · intro h0
    rw [h0, steps_zero] at x
    exact xor_eq_zero x

theorem leN_cons (x : Int) (r : List Int) (h : 0 ≤ x ∧ x < 256) : leN (x :: r) = x.toNat ^^^ (leN r * 256) := by
  rw [leN, add_eq_xor _ _ (by omega)]

theorem xor_mul256 (a b : Nat) : (a ^^^ b) * 256 = (a * 256) ^^^ (b * 256) := by
  have e : ∀ n : Nat, n * 256 = n <<< 8 := fun n => by rw [Nat.shiftLeft_eq]
  rw [e, e, e]
  apply Nat.eq_of_testBit_eq
  intro i
  simp only [Nat.testBit_xor, Nat.testBit_shiftLeft]
  by_cases h : 8 ≤ i <;> simp [h]

/-- One bit of one byte is turned. -/
theorem leN_turn (l : List Int) (hr : ∀ x ∈ l, 0 ≤ x ∧ x < 256) (j b : Nat) (hj : j < l.length) (hb : b < 8) :
    leN (l.set j (((l.getD j 0).toNat ^^^ 2 ^ b : Nat) : Int)) = leN l ^^^ 2 ^ (8 * j + b) := by
  have hpb : 2 ^ b < 256 := Nat.lt_of_le_of_lt (Nat.pow_le_pow_right (by decide) (show b ≤ 7 by omega)) (by decide)
  induction l generalizing j with
  | nil => simp at hj
  | cons x r ih =>
    have hx := hr x (by simp)
    have hr' : ∀ y ∈ r, 0 ≤ y ∧ y < 256 := fun y hy => hr y (by simp [hy])
    cases j with
    | zero =>
      have hlt : x.toNat ^^^ 2 ^ b < 256 := Nat.xor_lt_two_pow (n := 8) (by omega) hpb
      simp only [List.set_cons_zero, List.getD_cons_zero, Nat.mul_zero, Nat.zero_add]
      rw [leN_cons _ _ (by omega), leN_cons _ _ hx, Int.toNat_natCast, Nat.xor_assoc, Nat.xor_assoc, Nat.xor_comm (2 ^ b)]
    | succ j =>
      simp only [List.set_cons_succ, List.getD_cons_succ]
      rw [leN_cons _ _ hx, leN_cons _ _ hx, ih hr' j (by simpa using hj), xor_mul256, ← Nat.xor_assoc]
      congr 1
      rw [show 8 * (j + 1) + b = 8 * j + b + 8 from by omega, Nat.pow_add _ _ 8]

/-- P2.2: a text behind another one. -/
theorem crc_join (l m : List Int) (hm : ∀ x ∈ m, 0 ≤ x ∧ x < 256) : crcL (l ++ m) = steps (8 * m.length) (crcL l) ^^^ crcL m := by
  unfold crcL
  rw [crcFrom_append, crcFrom_num m hm, crcFrom_num m hm, steps_xor, steps_xor, steps_xor]
  generalize steps (8 * m.length) ones = a
  generalize steps (8 * m.length) (leN m) = b
  generalize steps (8 * m.length) (crcFrom ones l) = c
  apply Nat.eq_of_testBit_eq
  intro i
  simp only [Nat.testBit_xor]
  cases a.testBit i <;> cases b.testBit i <;> cases c.testBit i <;> cases ones.testBit i <;> rfl

/-- What stands below bit k, and what stands from it on. -/
theorem split_xor (k c : Nat) : (c % 2 ^ k) ^^^ (c / 2 ^ k * 2 ^ k) = c := by
  have e : c / 2 ^ k * 2 ^ k = (c >>> k) <<< k := by rw [Nat.shiftLeft_eq, Nat.shiftRight_eq_div_pow]
  rw [e]
  apply Nat.eq_of_testBit_eq
  intro i
  simp only [Nat.testBit_xor, Nat.testBit_mod_two_pow, Nat.testBit_shiftLeft, Nat.testBit_shiftRight]
  by_cases h : i < k
  · have h2 : ¬ k ≤ i := by omega
    simp [h, h2]
  · have h1 : k ≤ i := by omega
    have : k + (i - k) = i := by omega
    simp [h, h1, this]

/-- What the four lowest bits leave behind. -/
def nib : Nat → Nat
  | 0 => 0x00000000 | 1 => 0x1DB71064 | 2 => 0x3B6E20C8 | 3 => 0x26D930AC
  | 4 => 0x76DC4190 | 5 => 0x6B6B51F4 | 6 => 0x4DB26158 | 7 => 0x5005713C
  | 8 => 0xEDB88320 | 9 => 0xF00F9344 | 10 => 0xD6D6A3E8 | 11 => 0xCB61B38C
  | 12 => 0x9B64C2B0 | 13 => 0x86D3D2D4 | 14 => 0xA00AE278 | 15 => 0xBDBDF21C
  | _ => 0

theorem nib_steps (c : Nat) (h : c < 16) : steps 4 c = nib c := by
  have : c = 0 ∨ c = 1 ∨ c = 2 ∨ c = 3 ∨ c = 4 ∨ c = 5 ∨ c = 6 ∨ c = 7 ∨ c = 8 ∨ c = 9 ∨ c = 10 ∨ c = 11 ∨ c = 12 ∨ c = 13 ∨ c = 14 ∨ c = 15 := by omega
  rcases this with h | h | h | h | h | h | h | h | h | h | h | h | h | h | h | h <;> subst h <;> decide +kernel

theorem steps4 (c : Nat) : steps 4 c = (c / 16) ^^^ nib (c % 16) := by
  have e := split_xor 4 c
  have h16 : (2 : Nat) ^ 4 = 16 := rfl
  rw [h16] at e
  have : steps 4 c = steps 4 ((c % 16) ^^^ (c / 16 * 16)) := by rw [e]
  rw [this, steps_xor, nib_steps _ (Nat.mod_lt _ (by decide)), Nat.xor_comm]
  congr 1
  exact steps_shift 4 _

theorem steps8 (c : Nat) : steps 8 c = (steps 4 c / 16) ^^^ nib (steps 4 c % 16) := by
  rw [show (8 : Nat) = 4 + 4 from rfl, steps_add, steps4 (steps 4 c)]

/-- A register behind a linear change of which column i is m i: its first n bits. -/
def timesL (m : Nat → Nat) (c : Nat) : Nat → Nat
  | 0 => 0
  | n + 1 => if c / 2 ^ n % 2 = 1 then timesL m c n ^^^ m n else timesL m c n

theorem timesL_steps (k c : Nat) (n : Nat) : timesL (fun i => steps k (2 ^ i)) c n = steps k (c % 2 ^ n) := by
  induction n with
  | zero => simp [timesL, steps_zero, Nat.mod_one]
  | succ n ih =>
    rw [timesL, ih]
    have e := split_xor n (c % 2 ^ (n + 1))
    have e1 : c % 2 ^ (n + 1) % 2 ^ n = c % 2 ^ n := Nat.mod_mod_of_dvd _ ⟨2, by rw [Nat.pow_succ]⟩
    have e2 : c % 2 ^ (n + 1) / 2 ^ n = c / 2 ^ n % 2 := by rw [Nat.pow_succ, Nat.mod_mul_right_div_self]
    rw [e1, e2] at e
    rw [← e, steps_xor]
    split
    · rename_i h
      rw [h, Nat.one_mul]
    · rename_i h
      rw [show c / 2 ^ n % 2 = 0 from by omega, Nat.zero_mul, steps_zero, Nat.xor_zero]

theorem timesL_congr (m m' : Nat → Nat) (c n : Nat) (h : ∀ i, i < n → m i = m' i) : timesL m c n = timesL m' c n := by
  induction n with
  | zero => rfl
  | succ n ih => rw [timesL, timesL, ih (fun i hi => h i (by omega)), h n (by omega)]

theorem timesL_all (k c : Nat) (hc : c < 4294967296) (m : Nat → Nat) (h : ∀ i, i < 32 → m i = steps k (2 ^ i)) : timesL m c 32 = steps k c := by
  rw [timesL_congr m (fun i => steps k (2 ^ i)) c 32 h, timesL_steps, Nat.mod_eq_of_lt (by simpa using hc)]

/-- One bit back. -/
def unstep (r : Nat) : Nat := if r / 2147483648 = 1 then (r ^^^ poly) * 2 + 1 else r * 2

theorem xor_poly_lt (r : Nat) (_h : r < 4294967296) (h1 : r / 2147483648 = 1) : (r ^^^ poly) < 2147483648 := by
  have h31 : (r ^^^ poly) / 2147483648 = 0 := by
    have e : ∀ x : Nat, x / 2147483648 = x >>> 31 := fun x => by rw [Nat.shiftRight_eq_div_pow]
    rw [e, Nat.shiftRight_xor_distrib, ← e, ← e, h1]
    rfl
  omega

theorem unstep_lt (r : Nat) (h : r < 4294967296) : unstep r < 4294967296 := by
  unfold unstep
  split
  · rename_i h1
    have := xor_poly_lt r h h1
    omega
  · omega

theorem step_unstep (r : Nat) (_h : r < 4294967296) : stepBit (unstep r) = r := by
  unfold unstep
  split
  · rename_i h1
    rw [stepBit, if_pos (by omega), show ((r ^^^ poly) * 2 + 1) / 2 = r ^^^ poly from by omega, Nat.xor_assoc, Nat.xor_self, Nat.xor_zero]
  · rw [stepBit, if_neg (by omega)]
    omega

/-- k bits back. -/
def unsteps : Nat → Nat → Nat
  | 0, r => r
  | k + 1, r => unstep (unsteps k r)

theorem unsteps_lt (k r : Nat) (h : r < 4294967296) : unsteps k r < 4294967296 := by
  induction k with
  | zero => exact h
  | succ k ih => exact unstep_lt _ ih

theorem steps_unsteps (k r : Nat) (h : r < 4294967296) : steps k (unsteps k r) = r := by
  induction k with
  | zero => rfl
  | succ k ih => rw [steps, unsteps, step_unstep _ (unsteps_lt k r h), ih]

/-- The four bytes of a word, the lowest one first. -/
def le4 (x : Nat) : List Int := [((x % 256 : Nat) : Int), ((x / 256 % 256 : Nat) : Int), ((x / 65536 % 256 : Nat) : Int), ((x / 16777216 % 256 : Nat) : Int)]

theorem le4_rng (x : Nat) : ∀ y ∈ le4 x, 0 ≤ y ∧ y < 256 := by
  intro y hy
  simp only [le4, List.mem_cons, List.not_mem_nil, or_false] at hy
  rcases hy with h | h | h | h <;> subst h <;> omega

theorem leN_le4 (x : Nat) (h : x < 4294967296) : leN (le4 x) = x := by
  simp only [le4, leN, Int.toNat_natCast]
  omega

/-- P2.3: the four bytes that make the register what it was wanted to be. -/
theorem crc_patched (l : List Int) (hl : ∀ x ∈ l, 0 ≤ x ∧ x < 256) (want : Nat) (hw : want < 4294967296) :
    crcL (l ++ le4 ((crcL l ^^^ ones) ^^^ unsteps 32 (want ^^^ ones))) = want := by
  have hx : want ^^^ ones < 4294967296 := Nat.xor_lt_two_pow (n := 32) hw (by decide)
  have hu := unsteps_lt 32 _ hx
  have hc : crcL l ^^^ ones = crcFrom ones l := by unfold crcL; rw [Nat.xor_assoc, Nat.xor_self, Nat.xor_zero]
  rw [hc]
  have hlt := crcFrom_lt l hl ones (by decide)
  have hp : crcFrom ones l ^^^ unsteps 32 (want ^^^ ones) < 4294967296 := Nat.xor_lt_two_pow (n := 32) hlt hu
  unfold crcL
  rw [crcFrom_append, crcFrom_num _ (le4_rng _), leN_le4 _ hp, ← Nat.xor_assoc, Nat.xor_self, Nat.zero_xor]
  rw [show 8 * (le4 (crcFrom ones l ^^^ unsteps 32 (want ^^^ ones))).length = 32 from rfl, steps_unsteps _ _ hx, Nat.xor_assoc, Nat.xor_self, Nat.xor_zero]

theorem crcL_nil : crcL [] = 0 := by decide +kernel
theorem crcL_awake : crcL [49, 50, 51, 52, 53, 54, 55, 56, 57] = 3421780262 := by decide +kernel

end Go.Proofs.Ytllkdcnejobinaa

/- crc.shiftByte and trothref02.Step shift a register by eight bits, crc.unshift back by 32; nothing is turned. The table reads as its text lays it. -/
namespace Go.Proofs.Ytllkdcnejobinaa
open Go.RowKit

/-- What a call answers; nothing is turned. -/
def Same32 (x : Int) (w : World) (e : Ending) (w' : World) : Prop := e = .returned (.int .u32 x) ∧ w = w'

theorem xor32 (a b : Nat) (ha : a < 4294967296) (hb : b < 4294967296) : bits .xor .u32 (a : Int) (b : Int) = ((a ^^^ b : Nat) : Int) := u32_xor_nat a b ha hb

theorem and15 (c : Nat) (hc : c < 4294967296) : bits .and .u32 (c : Int) 15 = ((c % 16 : Nat) : Int) := by
  have := u32_and_nat c 15 hc (by omega)
  rw [show ((15 : Nat) : Int) = 15 from rfl] at this
  rw [this]
  congr 1
  exact Nat.and_two_pow_sub_one_eq_mod c 4

theorem nib_lt (m : Nat) (h : m < 16) : nib m < 4294967296 := by
  rw [← nib_steps m h]
  exact steps_lt 4 (by omega)

theorem stepBit_odd (c r : Nat) (hc : c < 4294967296) (h : c % 2 = 1) (hr : stepBit c = r) : bits .xor .u32 ((c / 2 : Nat) : Int) 3988292384 = (r : Int) := by
  rw [stepBit, if_pos h] at hr
  have := xor32 (c / 2) poly (by omega) (by decide)
  rw [hr] at this
  exact this

theorem stepBit_even (c r : Nat) (h : ¬ c % 2 = 1) (hr : stepBit c = r) : c / 2 = r := by rwa [stepBit, if_neg h] at hr

theorem bit_of (c i : Nat) (hc : c < 4294967296) : bits .and .u32 ((c : Int) / 2 ^ i) 1 = ((c / 2 ^ i % 2 : Nat) : Int) := by
  have e : (c : Int) / 2 ^ i = ((c / 2 ^ i : Nat) : Int) := by simp
  rw [e]
  have hlt : c / 2 ^ i < 4294967296 := Nat.lt_of_le_of_lt (Nat.div_le_self _ _) hc
  have := u32_and_nat (c / 2 ^ i) 1 hlt (by omega)
  rw [show ((1 : Nat) : Int) = 1 from rfl] at this
  rw [this, Nat.and_one_is_mod]
end Go.Proofs.Ytllkdcnejobinaa

/- crc.Sum and trothref02.Sum answer the checksum of what a slice reads as; nothing is turned. -/
namespace Go.Proofs.Ytllkdcnejobinaa
open Go.RowKit

theorem crc_next (l : List Int) (k : Nat) (hk : k < l.length) (x : Nat) (hx : l.getD k 0 = (x : Int)) : crcFrom ones (l.take (k + 1)) = steps 8 (crcFrom ones (l.take k) ^^^ x) := by
  rw [List.take_succ_eq_append_getElem hk, crcFrom_snoc, stepByte]
  simp [List.getD, List.getElem?_eq_getElem hk] at hx
  rw [hx, Int.toNat_natCast]

theorem not32 (v : Nat) (h : v < 4294967296) : bits .xor .u32 (v : Int) 4294967295 = ((v ^^^ ones : Nat) : Int) := by
  have := xor32 v 4294967295 h (by omega)
  exact this

theorem not_u32 (v : Nat) (h : v < 4294967296) : bits .xor .u32 IntKind.u32.max (v : Int) = ((v ^^^ ones : Nat) : Int) := by
  have := xor32 4294967295 v (by omega) h
  rw [Nat.xor_comm] at this
  exact this

theorem ret32 {a b : Int} (h : a = b) : Ending.returned (.int .u32 a) = .returned (.int .u32 b) := by rw [h]

end Go.Proofs.Ytllkdcnejobinaa

/- bytes.Clone of any slice, bytes.Equal, the writer's Bytes, and the four bytes of a checksum. -/
namespace Go.Proofs.Ytllkdcnejobinaa
open Go.RowKit

theorem cloneNil (c : Nat) (l : List Int) (w : World) (h : Byt w none 0 c l) : Calls Try.prog 38 #[.slice none 0 0] w (RetOwn l w) := by
  have e : l = [] := List.eq_nil_of_length_eq_zero h.len
  subst e
  have q := fun w : World => Lib.run_eql_slice_nil (P := Try.prog) w 46 5 none 0 0 0 0 Try.underlying46
  clear h
  go_enter Try.func38, Try.ntmps38
  go_wp2_with fail
  go_ret
  exact ⟨none, 0, 0, rfl, World.ownsRow_nil _ _ _ _, by simp, Below.refl _ _⟩

/-- bytes.Clone, nil or not. -/
theorem clone_all_own (A : Option Addr) (n c : Nat) (l : List Int) (w : World) (h : Byt w A n c l) (hn : n ≤ 140737488355328) :
    Calls Try.prog 38 #[.slice A n c] w (RetOwn l w) := by
  cases A with
  | none =>
    obtain ⟨rfl, rfl⟩ := h.nil_ rfl
    exact cloneNil 0 l w h
  | some a => exact clone_own a n c l w h hn

theorem clone_all (A : Option Addr) (n c : Nat) (l : List Int) (w : World) (h : Byt w A n c l) (hn : n ≤ 140737488355328) :
    Calls Try.prog 38 #[.slice A n c] w (RetByt l w) := (clone_all_own A n c l w h hn).mono fun _ _ h => h.byt

set_option maxHeartbeats 1000000 in
theorem wBytes_own (base b : Nat) (l : List Int) (w : World) (h : Wrt w base b l) (hl : l.length ≤ 140737488355328) :
    Calls Try.prog 29 #[.pointer (some ⟨b, 0, none⟩)] w (RetOwn l w) := by
  obtain ⟨A, n, c, hb, ho⟩ := h.ex
  have hn : l.length = n := by simpa using ho.1
  have hcell : w.cell? ⟨b, 0, none⟩ = some (.slice A n c) := hb.cell 0
  have C := Lib.hid (clone_all_own A n c l w (Byt.of_own ho h.rng) (by omega))
  clear h hb ho hn
  go_enter Try.func29, Try.ntmps29
  go_wp2_with fail
  refine C.out.mono ?_
  rintro e w1 ⟨A1, n1, c1, rfl, R⟩
  have R := Lib.hid R
  go_wp2_with fail
  go_ret
  exact ⟨A1, n1, c1, rfl, R.out⟩

theorem wBytes_any (base b : Nat) (l : List Int) (w : World) (h : Wrt w base b l) (hl : l.length ≤ 140737488355328) :
    Calls Try.prog 29 #[.pointer (some ⟨b, 0, none⟩)] w (RetByt l w) := (wBytes_own base b l w h hl).mono fun _ _ h => h.byt

/-- The four bytes of a checksum. -/
def sumL (l : List Int) : List Int := le4 (crcL l)
theorem sumL_rng (l : List Int) : ∀ x ∈ sumL l, 0 ≤ x ∧ x < 256 := le4_rng _
theorem sumL_len (l : List Int) : (sumL l).length = 4 := rfl

/-- What is gathered of a sum: i bytes, the rest is z. -/
structure SumRel (w : World) (x i z : Nat) (A : Option Addr) (k c : Nat) (acc : List Int) (wr : World) : Prop where
  own : wr.ownsRow w.heap.size 5 1 (.slice A k c) k (acc.map (Value.int .u8))
  rng : ∀ y ∈ acc, 0 ≤ y ∧ y < 256
  len : k = i
  num : z = x / 256 ^ i
  all : acc = (le4 x).take i
  bel : Below w.heap.size w wr

theorem le4_next (x i : Nat) (h : i < 4) : (le4 x).take (i + 1) = (le4 x).take i ++ [((x / 256 ^ i : Nat) : Int) % 256] := by
  have : i = 0 ∨ i = 1 ∨ i = 2 ∨ i = 3 := by omega
  rcases this with h | h | h | h <;> subst h <;> simp [le4]

theorem SumRel.step {w : World} {x i z : Nat} {A A' : Option Addr} {k c c' k' : Nat} {acc : List Int} {wr w' : World} (h : SumRel w x i z A k c acc wr) (hi : i < 4)
    (h1 : w'.ownsRow w.heap.size 5 1 (.slice A' k' c') k' (acc.map (Value.int .u8) ++ [(z : Int) % 256].map (Value.int .u8))) (hk : k' = k + 1)
    (h2 : (wr.alloc (.cells #[.int .u8 ((z : Int) % 256)] 5)).grownBy w' (Value.ownBlock (.slice A k c))) :
    SumRel w x (i + 1) (z / 256) A' k' c' (acc ++ [(z : Int) % 256]) w' := by
  rw [← List.map_append] at h1
  refine ⟨h1, fun y hy => ?_, by rw [hk, h.len], by rw [h.num, Nat.pow_succ, Nat.div_div_eq_div_mul], by rw [le4_next x i hi, ← h.num, ← h.all], (h.bel.alloc h.bel.size _).grown h2 (by have := h.bel.size; simp; omega) (fun j hj => (h.own.lt j hj).1)⟩
  rcases List.mem_append.1 hy with h3 | h3
  · exact h.rng y h3
  · simp at h3; subst h3; omega

end Go.Proofs.Ytllkdcnejobinaa

/- trothref01.Short hands back a number's digits to the base 128, in new memory. -/
namespace Go.Proofs.Ytllkdcnejobinaa
open Go.RowKit

/-- What is gathered so far. -/
structure ShortRel (n : Nat) (w : World) (m : Nat) (A : Option Addr) (k c : Nat) (acc : List Int) (wr : World) : Prop where
  own : wr.ownsRow w.heap.size 5 1 (.slice A k c) k (acc.map (Value.int .u8))
  all : hiD m ++ acc = shortL n
  bel : Below w.heap.size w wr

theorem ShortRel.rng {n : Nat} {w : World} {m : Nat} {A : Option Addr} {k c : Nat} {acc : List Int} {wr : World} (h : ShortRel n w m A k c acc wr) : ∀ x ∈ acc, 0 ≤ x ∧ x < 256 :=
  fun x hx => shortL_rng n x (by rw [← h.all]; simp [hx])
theorem ShortRel.len {n : Nat} {w : World} {m : Nat} {A : Option Addr} {k c : Nat} {acc : List Int} {wr : World} (h : ShortRel n w m A k c acc wr) (hn : n < 18446744073709551616) : k ≤ 10 := by
  have h1 := shortL_len n hn
  rw [← h.all] at h1
  have h2 : acc.length = k := by simpa using h.own.1
  simp at h1; omega

theorem ShortRel.step {n : Nat} {w : World} {m : Nat} {A A' : Option Addr} {k c c' k' : Nat} {acc : List Int} {wr w' : World} (h : ShortRel n w m A k c acc wr) (hm : m ≠ 0) (_hk : k' = 1 + k)
    (h1 : w'.ownsRow w.heap.size 5 1 (.slice A' k' c') k' (([((m : Int) % 128) + 128] ++ acc).map (Value.int .u8)))
    (h2 : (wr.alloc (.cells #[.int .u8 (((m : Int) % 128) + 128)] 5)).grownBy w' (Value.ownBlock (.slice (some ⟨wr.heap.size, 0, none⟩) 1 1))) :
    ShortRel n w (m / 128) A' k' c' ((((m : Int) % 128) + 128) :: acc) w' :=
  ⟨h1, by rw [← h.all, hiD_pos hm]; simp, (h.bel.alloc h.bel.size _).grown h2 (by have := h.bel.size; simp; omega) (by intro g hg; have := h.bel.size; simp [Value.ownBlock] at hg; omega)⟩

end Go.Proofs.Ytllkdcnejobinaa

/- seal.Seal and trothref03.Seal hand back the document's sealed body, in new memory, or ErrLong. -/
namespace Go.Proofs.Ytllkdcnejobinaa
open Go.RowKit

/-- A sealed body. -/
def sealL (l : List Int) : List Int := textL l ++ sumL (textL l)
theorem sealL_rng {l : List Int} (h : ∀ x ∈ l, 0 ≤ x ∧ x < 256) : ∀ x ∈ sealL l, 0 ≤ x ∧ x < 256 := fun x hx => by
  rcases List.mem_append.1 hx with h1 | h1
  · exact textL_rng h x h1
  · exact sumL_rng _ x h1

/-- A row of the call's own and an error beside it. -/
def RetOwn2 (l : List Int) (x : Int) (w : World) (e : Ending) (w' : World) : Prop :=
  ∃ A n c, e = .returned (.tuple #[.slice A n c, .int .i64 x]) ∧ w'.ownsRow w.heap.size 5 1 (.slice A n c) n (l.map (Value.int .u8)) ∧ (∀ x ∈ l, 0 ≤ x ∧ x < 256) ∧ Below w.heap.size w w'

theorem Wrt.new (w : World) : Wrt (w.alloc (.cells #[.slice none 0 0] 72)) w.heap.size w.heap.size [] :=
  ⟨Nat.le_refl _, by simp, none, 0, 0, Bk.new _ _ _, World.ownsRow_nil _ _ _ _⟩

/-- What Seal answers. -/
def SealPost (l : List Int) (w : World) : Ending → World → Prop := if 4096 < l.length then RetOwn2 [] 12 w else RetOwn2 (sealL l) 0 w

/-- A row of the call's own, told from an earlier world. -/
theorem RetOwn.rebase {l : List Int} {w w1 : World} {e : Ending} {w2 : World} (hb : Below w.heap.size w w1) (h : RetOwn l w1 e w2) : RetOwn l w e w2 := by
  obtain ⟨A, n, c, he, ho, hr, hbel⟩ := h
  refine ⟨A, n, c, he, ⟨ho.1, ?_⟩, hr, Below.then hb hbel⟩
  rcases ho.2 with h | ⟨g, cap, cur, h1, h2, h3⟩
  · exact .inl h
  · exact .inr ⟨g, cap, cur, h1, Nat.le_trans hb.size h2, h3⟩

theorem ownText_end {w w1 w2 : World} {A : Option Addr} {k c m : Nat} {v : Value} {s : ByteArray} (_hk : (shortL s.size).length = k) (h : w1.ownsRow w.heap.size 5 1 (.slice A k c) k ((shortL s.size).map (Value.int .u8))) (hb : Below w.heap.size w w1)
    (h1 : w2.ownsRow w.heap.size 5 1 v m ((shortL s.size).map (Value.int .u8) ++ Lib.strCells s)) (h2 : w1.grownBy w2 (Value.ownBlock (.slice A k c))) :
    RetOwn (textL (nums s)) w (.returned v) w2 := by
  have form : ∃ A' c', v = .slice A' m c' := by
    rcases h1.2 with ⟨e1, e2⟩ | ⟨g, cap, _, e1, _⟩
    · subst e2; exact ⟨none, 0, e1⟩
    · exact ⟨_, _, e1⟩
  obtain ⟨A', c', rfl⟩ := form
  rw [strCells_nums, ← List.map_append] at h1
  refine ⟨A', m, c', rfl, by unfold textL; rw [nums_len]; exact h1, textL_rng (nums_rng s), hb.grown h2 hb.size (fun i hi => (h.lt i hi).1)⟩

/-- What trothref03.Seal answers. -/
theorem refSeal_end {w w1 w2 w3 : World} {A A3 : Option Addr} {k c k3 c3 : Nat} {l : List Int} (hr : ∀ x ∈ l, 0 ≤ x ∧ x < 256) (h1 : w1.ownsRow w.heap.size 5 1 (.slice A k c) k ((textL l).map (Value.int .u8))) (hb : Below w.heap.size w w1)
    (b2 : Below w1.heap.size w1 w2)
    (h3 : w3.ownsRow w.heap.size 5 1 (.slice A3 k3 c3) k3 ((textL l).map (Value.int .u8) ++ (sumL (textL l)).map (Value.int .u8))) (g3 : w2.grownBy w3 (Value.ownBlock (.slice A k c))) :
    RetOwn2 (sealL l) 0 w (.returned (.tuple #[.slice A3 k3 c3, .int .i64 0])) w3 := by
  rw [← List.map_append] at h3
  exact ⟨A3, k3, c3, rfl, h3, sealL_rng hr, (Below.then hb b2).grown g3 (Below.then hb b2).size (fun i hi => (h1.lt i hi).1)⟩

theorem own_later {w1 w2 : World} {base n : Nat} {v : Value} {xs : List Value} (h : w1.ownsRow base 5 1 v n xs) (b2 : Below w1.heap.size w1 w2) : w2.ownsRow base 5 1 v n xs :=
  h.kept (row := none) ⟨b2.os, b2.tape, b2.output, b2.size, fun k hk _ => b2.block k hk⟩ (by
    cases hv : v.ownBlock with
    | none => exact .inl rfl
    | some a => exact .inr (by simp))

end Go.Proofs.Ytllkdcnejobinaa

/- master.encode answers a record's bytes. -/
namespace Go.Proofs.Ytllkdcnejobinaa
open Go.RowKit

/-- A record's cells. -/
def msC (m : Ms) : Array Value := #[.int .i64 m.gen, .int .i64 m.inc, .int .i64 m.first, .int .i64 m.lsn, .int .i64 m.chk]

set_option maxRecDepth 100000 in
set_option maxHeartbeats 4000000 in
theorem encode_any (m : Ms) (hm : m.fits) (w : World) :
    Calls Try.prog 16 #[msV m] w (RetOwn (bodyM m) w) := by
  have HLEN := Lib.hid (bodyN_len hm)
  have HALL := Lib.hid (bodyN_all m)
  have HM := Lib.hid hm
  obtain ⟨q0, q1, q2, q3, q4⟩ := ptrs_all w.heap.size
  obtain ⟨W1, hW1⟩ : ∃ W1, W1 = (w.alloc (.cells #[.int .i64 m.gen, .int .i64 m.inc, .int .i64 m.first, .int .i64 m.lsn, .int .i64 m.chk] 30)).alloc (.cells #[.slice none 0 0] 72) := ⟨_, rfl⟩
  have HK1 : Hid (Bk W1 w.heap.size 30 (msC m)) := Lib.hid (by rw [hW1]; exact (Bk.new w _ _).bel ((Below.refl _ _).alloc (Nat.le_refl _) _) (by simp))
  have HB1 : Hid (Below w.heap.size w W1) := Lib.hid (by rw [hW1]; exact ((Below.refl _ _).alloc (Nat.le_refl _) _).alloc (by simp) _)
  have HR0 : Hid (Wrt W1 (w.heap.size + 1) (w.heap.size + 1) (bodyN m 0)) := Lib.hid (by
    rw [hW1]
    have := Wrt.new (w.alloc (.cells #[.int .i64 m.gen, .int .i64 m.inc, .int .i64 m.first, .int .i64 m.lsn, .int .i64 m.chk] 30))
    rw [World.size_alloc] at this
    exact this)
  have HS1 : Hid (W1.heap.size = w.heap.size + 2) := Lib.hid (by rw [hW1]; simp)
  have HW1 := Lib.hid hW1
  unfold msV
  clear hm hW1
  go_enter Try.func16, Try.ntmps16
  go_wp2_with fail
  rw [← HW1.out]
  have CN := Lib.hid (numbers_any w.heap.size W1)
  go_wp2_with fail
  refine CN.out.mono ?_
  rintro e w0 ⟨rfl, b0⟩
  have R0 := Lib.hid (HR0.out.ret b0)
  have B0 : Hid (Below (w.heap.size + 1) W1 w0) := Lib.hid (b0.mono (by have := HS1.out; omega))
  have K0 : Hid (Bk w0 w.heap.size 30 (msC m)) := Lib.hid (HK1.out.bel B0.out (by omega))
  clear b0 CN HR0 HW1
  go_wp2_with fail
  refine wp_loop_rounds 6 ?_
  rw [rounds_succ]
  have c0 : w0.cell? ⟨w.heap.size, 0, none⟩ = some (.int .i64 m.gen) := K0.out.cell 0
  have CW0 := Lib.hid (wNum_any (w.heap.size + 1) (w.heap.size + 1) (bodyN m 0) (m.at_ 0) w0 R0.out (HM.out 0) (by have := HLEN.out 0; omega))
  go_wp2_with fail
  refine CW0.out.mono ?_
  rintro e w1 ⟨rfl, hw, hb⟩
  have R1 : Hid (Wrt w1 (w.heap.size + 1) (w.heap.size + 1) (bodyN m 1)) := Lib.hid hw
  have B1 : Hid (Below (w.heap.size + 1) W1 w1) := Lib.hid (B0.out.trans hb)
  have K1 : Hid (Bk w1 w.heap.size 30 (msC m)) := Lib.hid (HK1.out.bel B1.out (by omega))
  clear hw hb c0 CW0
  go_wp2_with fail
  rw [rounds_succ]
  have c1 : w1.cell? ⟨w.heap.size, 1, none⟩ = some (.int .i64 m.inc) := K1.out.cell 1
  have CW1 := Lib.hid (wNum_any (w.heap.size + 1) (w.heap.size + 1) (bodyN m 1) (m.at_ 1) w1 R1.out (HM.out 1) (by have := HLEN.out 1; omega))
  go_wp2_with fail
  refine CW1.out.mono ?_
  rintro e w2 ⟨rfl, hw, hb⟩
  have R2 : Hid (Wrt w2 (w.heap.size + 1) (w.heap.size + 1) (bodyN m 2)) := Lib.hid hw
  have B2 : Hid (Below (w.heap.size + 1) W1 w2) := Lib.hid (B1.out.trans hb)
  have K2 : Hid (Bk w2 w.heap.size 30 (msC m)) := Lib.hid (HK1.out.bel B2.out (by omega))
  clear hw hb c1 CW1
  go_wp2_with fail
  rw [rounds_succ]
  have c2 : w2.cell? ⟨w.heap.size, 2, none⟩ = some (.int .i64 m.first) := K2.out.cell 2
  have CW2 := Lib.hid (wNum_any (w.heap.size + 1) (w.heap.size + 1) (bodyN m 2) (m.at_ 2) w2 R2.out (HM.out 2) (by have := HLEN.out 2; omega))
  go_wp2_with fail
  refine CW2.out.mono ?_
  rintro e w3 ⟨rfl, hw, hb⟩
  have R3 : Hid (Wrt w3 (w.heap.size + 1) (w.heap.size + 1) (bodyN m 3)) := Lib.hid hw
  have B3 : Hid (Below (w.heap.size + 1) W1 w3) := Lib.hid (B2.out.trans hb)
  have K3 : Hid (Bk w3 w.heap.size 30 (msC m)) := Lib.hid (HK1.out.bel B3.out (by omega))
  clear hw hb c2 CW2
  go_wp2_with fail
  rw [rounds_succ]
  have c3 : w3.cell? ⟨w.heap.size, 3, none⟩ = some (.int .i64 m.lsn) := K3.out.cell 3
  have CW3 := Lib.hid (wNum_any (w.heap.size + 1) (w.heap.size + 1) (bodyN m 3) (m.at_ 3) w3 R3.out (HM.out 3) (by have := HLEN.out 3; omega))
  go_wp2_with fail
  refine CW3.out.mono ?_
  rintro e w4 ⟨rfl, hw, hb⟩
  have R4 : Hid (Wrt w4 (w.heap.size + 1) (w.heap.size + 1) (bodyN m 4)) := Lib.hid hw
  have B4 : Hid (Below (w.heap.size + 1) W1 w4) := Lib.hid (B3.out.trans hb)
  have K4 : Hid (Bk w4 w.heap.size 30 (msC m)) := Lib.hid (HK1.out.bel B4.out (by omega))
  clear hw hb c3 CW3
  go_wp2_with fail
  rw [rounds_succ]
  have c4 : w4.cell? ⟨w.heap.size, 4, none⟩ = some (.int .i64 m.chk) := K4.out.cell 4
  have CW4 := Lib.hid (wNum_any (w.heap.size + 1) (w.heap.size + 1) (bodyN m 4) (m.at_ 4) w4 R4.out (HM.out 4) (by have := HLEN.out 4; omega))
  go_wp2_with fail
  refine CW4.out.mono ?_
  rintro e w5 ⟨rfl, hw, hb⟩
  have R5 : Hid (Wrt w5 (w.heap.size + 1) (w.heap.size + 1) (bodyN m 5)) := Lib.hid hw
  have B5 : Hid (Below (w.heap.size + 1) W1 w5) := Lib.hid (B4.out.trans hb)
  have K5 : Hid (Bk w5 w.heap.size 30 (msC m)) := Lib.hid (HK1.out.bel B5.out (by omega))
  clear hw hb c4 CW4
  go_wp2_with fail
  rw [rounds_succ]
  have CB := Lib.hid (wBytes_own (w.heap.size + 1) (w.heap.size + 1) (bodyN m 5) w5 R5.out (by have := HLEN.out 5; omega))
  rw [HALL.out] at CB
  go_wp2_with fail
  refine CB.out.mono ?_
  rintro e w6 ⟨A, n, c, rfl, ho, hr, hb⟩
  have hs5 := B5.out.size
  have hs1 := HS1.out
  have hle : w.heap.size ≤ w5.heap.size := by omega
  have R6 : Hid (RetOwn (bodyM m) w (.returned (.slice A n c)) w6) := Lib.hid ⟨A, n, c, rfl, owns_low ho hle, hr, (HB1.out.trans (B5.out.mono (by omega))).trans (hb.mono hle)⟩
  clear ho hr hb CB
  go_wp2_with fail
  go_ret
  exact R6.out
end Go.Proofs.Ytllkdcnejobinaa

/- what a reader's methods answer, and where they leave it; of a nil one. -/
namespace Go.Proofs.Ytllkdcnejobinaa
open Go.RowKit

/-- A byte, a flag: value, how many bytes, error. -/
def byteF : List Int → Int × Nat × Nat
  | [] => (0, 0, 10)
  | c :: _ => (c, 1, 0)
def flagF : List Int → Bool × Nat × Nat
  | [] => (false, 0, 10)
  | c :: _ => if 1 < c then (false, 0, 11) else (c == 1, 1, 0)

theorem numDec (A : Option Addr) (n c : Nat) (l : List Int) (most : Int) (q : Addr) (w : World) (h : Byt w A n c l) (hq : w.cell? q = some (.int .i64 most)) (hm : -9223372036854775808 ≤ most ∧ most ≤ 9223372036854775807) (x k e : Nat) (hF : numF l most = (x, k, e)) :
    Calls Try.prog 44 #[.slice A n c, .pointer (some q)] w (Dec (.int .i64 x) k e w) := by
  have C := Lib.hid (firstNum_any A n c l most w h hm x k e hF)
  clear h hm hF
  go_enter Try.func44, Try.ntmps44
  go_wp2_with fail
  refine C.out.mono ?_
  rintro e w1 ⟨rfl, m, rfl⟩
  go_wp2_with fail
  go_ret3
  exact ⟨rfl, m, rfl⟩

theorem numF_le {l : List Int} (hr : ∀ x ∈ l, 0 ≤ x ∧ x < 256) {most : Int} {x k e : Nat} (hF : numF l most = (x, k, e)) : e = 0 → k ≤ l.length := fun h => by
  have := (numF_ok hr (l := l) (most := most) (by rw [hF]; exact h)).2.1
  rw [hF] at this
  exact this

theorem textF_le {l : List Int} (hr : ∀ x ∈ l, 0 ≤ x ∧ x < 256) {most : Int} {b : List Int} {u e : Nat} (hF : textF l most = (b, u, e)) : e = 0 → u ≤ l.length := fun h => by
  have hF2 := hF
  unfold textF at hF
  split at hF
  · rename_i h0
    injection hF with _ e2
    injection e2 with _ e3
    exact absurd (e3.trans h) h0
  · rename_i h0
    split at hF
    · injection hF with _ e2
      injection e2 with _ e3
      omega
    · rename_i h1
      injection hF with _ e2
      injection e2 with e2 _
      have := (numF_ok hr (l := l) (most := most) (by omega)).2.1
      omega

theorem byteF_le (l : List Int) : (byteF l).2.2 = 0 → (byteF l).2.1 ≤ l.length := by
  cases l with
  | nil => simp [byteF]
  | cons x r => simp [byteF]

theorem flagF_le (l : List Int) : (flagF l).2.2 = 0 → (flagF l).2.1 ≤ l.length := by
  cases l with
  | nil => simp [flagF]
  | cons x r =>
    by_cases h1 : 1 < x
    · rw [show flagF (x :: r) = (false, 0, 11) from if_pos h1]; simp
    · rw [show flagF (x :: r) = (x == 1, 1, 0) from if_neg h1]; simp

theorem Rd.byt {w : World} {t : TypeId} {b g : Nat} {l : List Int} {e : Nat} (h : Rd w t b g l e) : ∃ A n c, Byt w A n c l ∧ w.cell? ⟨b, 0, none⟩ = some (.slice A n c) ∧ w.cell? ⟨b, 1, none⟩ = some (.int .i64 e) ∧ n = l.length := by
  obtain ⟨A, n, c, h1, h2, _⟩ := h.ex
  exact ⟨A, n, c, h2, h1.cell 0, h1.cell 1, h2.len.symm⟩

theorem Rd.rng {w : World} {t : TypeId} {b g : Nat} {l : List Int} {e : Nat} (h : Rd w t b g l e) : ∀ x ∈ l, 0 ≤ x ∧ x < 256 := by
  obtain ⟨A, n, c, h2, _⟩ := h.byt
  exact h2.rng

theorem RdPost.later {t : TypeId} {b g : Nat} {l : List Int} {e0 : Nat} {v : Value} {w w1 : World} {e : Ending} {w' : World} (hg : w.grownBy w1 (some b)) (h : RdPost t b g l e0 v w1 e w') : RdPost t b g l e0 v w e w' :=
  ⟨h.1, h.2.1, grown_trans hg h.2.2⟩

theorem Rd.alloc {w : World} {t : TypeId} {b g : Nat} {l : List Int} {e : Nat} (h : Rd w t b g l e) (o : Obj) : Rd (w.alloc o) t b g l e :=
  h.grown (World.grownBy_alloc w o none) (by simp) (by simp)

set_option maxHeartbeats 1000000 in
theorem rNum_any (b g : Nat) (l : List Int) (e0 : Nat) (most : Int) (w : World) (h : Rd w 90 b g l e0) (hm : -9223372036854775808 ≤ most ∧ most ≤ 9223372036854775807) (x k er : Nat) (hF : numF l most = (x, k, er)) :
    Calls Try.prog 41 #[.pointer (some ⟨b, 0, none⟩), .int .i64 most] w (RdPost 90 b g (stepL l k e0 er) (stepE e0 er) (stepV (.int .i64 0) (.int .i64 x) e0 er) w) := by
  have hq : (w.alloc (.cells #[.int .i64 most] 3)).cell? ⟨w.heap.size, 0, none⟩ = some (.int .i64 most) := (Bk.new w _ _).cell 0
  have C := takeInt_step b g ⟨w.heap.size, 0, none⟩ l e0 (.int .i64 x) k er _ (h.alloc (.cells #[.int .i64 most] 3)) (numF_le h.rng hF) (fun _ A n c hb => numDec A n c l most _ _ hb hq hm x k er hF)
  have C := Lib.hid (C.mono fun e w' hp => hp.later (World.grownBy_alloc w _ (some b)))
  clear h hm hF hq
  go_enter Try.func41, Try.ntmps41
  go_wp2_with fail
  refine C.out.mono ?_
  rintro e w1 ⟨rfl, R⟩
  have R := Lib.hid R
  go_wp2_with fail
  go_ret
  exact ⟨rfl, R.out⟩

end Go.Proofs.Ytllkdcnejobinaa

/- seal.Read lays a reader in new memory; Left, Err, End; a nil reader's methods. -/
namespace Go.Proofs.Ytllkdcnejobinaa
open Go.RowKit

/-- Behind the end: what End makes of a reader's error. -/
def endE (l : List Int) (e : Nat) : Nat := if e = 0 ∧ 0 < l.length then 13 else e

theorem rErr_any (b g : Nat) (l : List Int) (e0 : Nat) (w : World) (h : Rd w 90 b g l e0) :
    Calls Try.prog 42 #[.pointer (some ⟨b, 0, none⟩)] w (fun e w' => e = .returned (.int .i64 e0) ∧ w = w') := by
  obtain ⟨A, n, c, _, _, h1, _⟩ := h.byt
  clear h
  go_enter Try.func42, Try.ntmps42
  go_wp2_with fail
  go_ret
  exact ⟨rfl, rfl⟩

/-- A new struct of a slice and a number is a reader. -/
theorem Rd.new {w1 : World} (t : TypeId) {A : Option Addr} {n c : Nat} {l : List Int} (h : Byt w1 A n c l) (h0 : 0 < w1.heap.size) : ∃ g, g < w1.heap.size ∧ Rd (w1.alloc (.cells #[.slice A n c, .int .i64 0] t)) t w1.heap.size g l 0 := by
  by_cases hn : 0 < n
  · obtain ⟨g, off, rfl, hc⟩ := h.at_ hn
    have hg : g < w1.heap.size := World.block_lt_of_cell? w1 _ (hc 0 hn)
    exact ⟨g, hg, by omega, _, n, c, Bk.new _ _ _, h.alloc _, fun _ a ha => by injection ha with ha; rw [← ha]⟩
  · exact ⟨0, h0, by omega, A, n, c, Bk.new _ _ _, h.alloc _, fun h => absurd h hn⟩

set_option maxHeartbeats 1000000 in
theorem read_any (A : Option Addr) (n c : Nat) (l : List Int) (w : World) (h : Byt w A n c l) (hn : n ≤ 140737488355328) (h0 : 0 < w.heap.size) :
    Calls Try.prog 40 #[.slice A n c] w (fun e w' => ∃ b g, e = .returned (.pointer (some ⟨b, 0, none⟩)) ∧ w.heap.size ≤ b ∧ g < b ∧ Rd w' 90 b g l 0 ∧ Below w.heap.size w w') := by
  have C := Lib.hid (clone_all A n c l w h hn)
  clear h
  go_enter Try.func40, Try.ntmps40
  go_wp2_with fail
  refine C.out.mono ?_
  rintro e w1 ⟨A1, n1, c1, rfl, hb, b1⟩
  obtain ⟨g, hg, R⟩ := Rd.new 90 hb (by have := b1.size; omega)
  have R := Lib.hid R
  have G := Lib.hid hg
  have L := Lib.hid b1
  clear hb b1 hg
  go_wp2_with fail
  go_ret
  exact ⟨w1.heap.size, g, rfl, L.out.size, G.out, R.out, L.out.alloc L.out.size _⟩

/-- The same, and that the bytes lie in new memory. -/
theorem read_own (A : Option Addr) (n c : Nat) (l : List Int) (w : World) (h : Byt w A n c l) (hn : n ≤ 140737488355328) (h0 : 0 < l.length) :
    Calls Try.prog 40 #[.slice A n c] w (fun e w' => ∃ b g, e = .returned (.pointer (some ⟨b, 0, none⟩)) ∧ w.heap.size ≤ b ∧ w.heap.size ≤ g ∧ g < b ∧ Rd w' 90 b g l 0 ∧ Below w.heap.size w w') := by
  have C := Lib.hid (clone_all_own A n c l w h hn)
  clear h
  go_enter Try.func40, Try.ntmps40
  go_wp2_with fail
  refine C.out.mono ?_
  rintro e w1 ⟨A1, n1, c1, rfl, ho, hr, b1⟩
  have hb := Byt.of_own ho hr
  have hl1 : n1 = l.length := hb.len.symm
  obtain ⟨g, hg, hgl, R⟩ : ∃ g, w.heap.size ≤ g ∧ g < w1.heap.size ∧ Rd (w1.alloc (.cells #[.slice A1 n1 c1, .int .i64 0] 90)) 90 w1.heap.size g l 0 := by
    obtain ⟨g, off, rfl, hc⟩ := hb.at_ (by omega)
    have hlt := ho.lt g rfl
    exact ⟨g, hlt.1, hlt.2, by omega, _, n1, c1, Bk.new _ _ _, hb.alloc _, fun _ a ha => by injection ha with ha; rw [← ha]⟩
  have R := Lib.hid R
  have G := Lib.hid (And.intro hg hgl)
  have L := Lib.hid b1
  clear ho hr hb b1 hg hgl hl1
  go_wp2_with fail
  go_ret
  exact ⟨w1.heap.size, g, rfl, L.out.size, G.out.1, G.out.2, R.out, L.out.alloc L.out.size _⟩

theorem rNum_nil (most : Int) (w : World) :
    Calls Try.prog 41 #[.pointer none, .int .i64 most] w (Ret (.int .i64 0) w) := by
  go_enter Try.func41, Try.ntmps41
  go_wp2_with fail
  refine (takeInt_nil _ _).mono ?_
  rintro e w1 ⟨rfl, rfl⟩
  go_wp2_with fail
  go_ret
  exact ⟨rfl, (Below.refl _ _).alloc (Nat.le_refl _) _⟩

theorem rErr_nil (w : World) : Calls Try.prog 42 #[.pointer none] w (Ret (.int .i64 2) w) := by
  go_enter Try.func42, Try.ntmps42
  go_wp2_with fail
  go_ret
  exact ⟨rfl, Below.refl _ _⟩

end Go.Proofs.Ytllkdcnejobinaa

/- master.decode answers the five numbers at the beginning of bytes, or the error. -/
namespace Go.Proofs.Ytllkdcnejobinaa
open Go.RowKit

/-- A struct's cells and one number beside it. -/
theorem results_cellT {P : Program} {fn : Func} {p u : Tmp} {ty : TypeId} (h : fn.results = #[.cell p ty, .tmp u]) (tmps : Array Value) (w : World) (g : Nat) (t : TypeId) (cs : Array Value) (d : TypeDesc)
    (hp : tmps.getD p undef = .pointer (some ⟨g, 0, none⟩)) (hg : Bk w g t cs)
    (hu : P.underlying ty = some d) (hd : (match d with | .struct _ | .array _ _ => true | _ => false) = true) (hi : (P.info? ty).map (·.size) = some cs.size) :
    (results fn tmps).run P w = .ok (.tuple #[.agg cs, tmps.getD u undef]) w := by
  rw [results_cell_tmp h, hp]
  simp [asAddr, run_loadVar_row w g t ty cs (0, 0) d hg hu hd hi, Result.andThen]

theorem ms_one (x0 x1 x2 x3 x4 : Int) : (#[Value.int .i64 x0, .int .i64 x1, .int .i64 x2, .int .i64 x3, .int .i64 x4] : Array Value).all (·.oneCell') = true := by simp [Value.oneCell']
theorem ms_info : (Try.prog.info? 30).map (·.size) = some 5 := by kernel_rfl
theorem Bk.later {w w' : World} {g : Nat} {t : TypeId} {cs : Array Value} (h : Bk w g t cs) (hb : Below w.heap.size w w') : Bk w' g t cs := h.bel hb h.lt
theorem Bk.row {w : World} {g : Nat} {t : TypeId} {old : Array Value} (h : Bk w g t old) (cs : Array Value) : Bk (w.setRow g cs) g t cs := setRow_heap w g old cs _ _ h

theorem rdNum_any (b g : Nat) (l : List Int) (e : Nat) (w : World) (h : Rd w 90 b g l e) :
    Calls Try.prog 41 #[.pointer (some ⟨b, 0, none⟩), .int .i64 1099511627776] w (RdPost 90 b g (rdL l e) (rdE l e) (.int .i64 (rdV l e)) w) := by
  have := rNum_any b g l e 1099511627776 w h (by omega) (numF l 1099511627776).1 (numF l 1099511627776).2.1 (numF l 1099511627776).2.2 rfl
  rw [rdV_step] at this
  exact this

set_option maxRecDepth 100000 in
set_option maxHeartbeats 4000000 in
theorem decode_any (A : Option Addr) (n c : Nat) (l : List Int) (w : World) (h : Byt w A n c l) (h0 : 0 < l.length) (hn : n ≤ 140737488355328) :
    Calls Try.prog 35 #[.slice A n c] w (Ret (.tuple #[msV (decM l), .int .i64 (decE l)]) w) := by
  obtain ⟨W0, hW0⟩ : ∃ W0, W0 = (w.alloc (.cells #[.int .i64 0, .int .i64 0, .int .i64 0, .int .i64 0, .int .i64 0] 30)).alloc (.cells #[.int .i64 0, .int .i64 0, .int .i64 0, .int .i64 0, .int .i64 0] 30) := ⟨_, rfl⟩
  obtain ⟨r, hr⟩ : ∃ r, w.heap.size = r := ⟨_, rfl⟩
  have HZ0 : Hid (Bk W0 r 30 #[.int .i64 0, .int .i64 0, .int .i64 0, .int .i64 0, .int .i64 0]) := Lib.hid (by rw [hW0, ← hr]; exact (Bk.new w _ _).bel ((Below.refl _ _).alloc (Nat.le_refl _) _) (by simp))
  have HM0 : Hid (Bk W0 (r + 1) 30 #[.int .i64 0, .int .i64 0, .int .i64 0, .int .i64 0, .int .i64 0]) := Lib.hid (by
    have := Bk.new (w.alloc (.cells #[.int .i64 0, .int .i64 0, .int .i64 0, .int .i64 0, .int .i64 0] 30)) 30 #[.int .i64 0, .int .i64 0, .int .i64 0, .int .i64 0, .int .i64 0]
    rw [World.size_alloc, hr] at this
    rw [hW0]
    exact this)
  have HB0 : Hid (Below w.heap.size w W0) := Lib.hid (by rw [hW0]; exact ((Below.refl _ _).alloc (Nat.le_refl _) _).alloc (by simp) _)
  have HS0 : Hid (W0.heap.size = r + 2) := Lib.hid (by rw [hW0, ← hr]; simp)
  have CR := Lib.hid (read_own A n c l W0 (h.below HB0.out) hn h0)
  have HRG := Lib.hid h.rng
  have HW0 := Lib.hid hW0
  have HR := Lib.hid hr
  obtain ⟨q0, q1, q2, q3, q4⟩ := ptrs_all (r + 1)
  clear h hW0 hr
  go_enter Try.func35, Try.ntmps35
  go_wp2_with fail
  rw [← HW0.out, HR.out]
  refine CR.out.mono ?_
  rintro e W1 ⟨b, g, rfl, hbb, hgg, hgb, hrd, hbel⟩
  have HB1 := Lib.hid hbel
  have HRD := Lib.hid hrd
  have HBB : Hid (r + 2 ≤ b ∧ r + 2 ≤ g) := Lib.hid (by have := HS0.out; omega)
  clear hbb hgg hgb hrd hbel CR HW0
  have CN := Lib.hid (numbers_any (r + 1) W1)
  go_wp2_with fail
  refine CN.out.mono ?_
  rintro e w0 ⟨rfl, b0⟩
  have R0 : Hid (Rd w0 90 b g (rdAt l 0).1 (rdAt l 0).2) := Lib.hid (HRD.out.grown (grown_below (row := none) b0) (by simp) (by simp))
  have B0 : Hid (Below W0.heap.size W0 w0) := Lib.hid (HB1.out.trans (b0.mono HB1.out.size))
  have M0 : Hid (Bk w0 (r + 1) 30 #[.int .i64 0, .int .i64 0, .int .i64 0, .int .i64 0, .int .i64 0]) := Lib.hid (HM0.out.bel B0.out (by have := HS0.out; omega))
  have Z0 : Hid (Bk w0 r 30 #[.int .i64 0, .int .i64 0, .int .i64 0, .int .i64 0, .int .i64 0]) := Lib.hid (HZ0.out.bel B0.out (by have := HS0.out; omega))
  have L0 : Hid (Below r w w0) := Lib.hid (by rw [← HR.out]; exact HB0.out.trans (B0.out.mono HB0.out.size))
  clear b0 CN HRD HB1 HM0 HZ0 HB0 B0
  go_wp2_with fail
  refine wp_loop_rounds 6 ?_
  rw [rounds_succ]
  have CW0 := Lib.hid (rdNum_any b g (rdAt l 0).1 (rdAt l 0).2 w0 R0.out)
  go_wp2_with fail
  refine CW0.out.mono ?_
  rintro e v0 ⟨rfl, hrd, hg⟩
  have M0' : Hid (Bk v0 (r + 1) 30 #[.int .i64 0, .int .i64 0, .int .i64 0, .int .i64 0, .int .i64 0]) := Lib.hid ((hg.block _ M0.out.lt (by have := HBB.out; simp; omega)).trans M0.out)
  have Z0' : Hid (Bk v0 r 30 #[.int .i64 0, .int .i64 0, .int .i64 0, .int .i64 0, .int .i64 0]) := Lib.hid ((hg.block _ Z0.out.lt (by have := HBB.out; simp; omega)).trans Z0.out)
  have L0' : Hid (Below r w v0) := Lib.hid (L0.out.grown hg (Nat.le_of_lt Z0.out.lt) (fun q hq => by have := HBB.out; injection hq with hq; omega))
  have c0 : v0.cell? ⟨r + 1, 0, none⟩ = some (.int .i64 0) := M0'.out.cell 0
  have f0 : v0.frozen? ⟨r + 1, 0, none⟩ = false := M0'.out.frz 0
  obtain ⟨w1, hw1⟩ : ∃ w1, w1 = v0.setCell ⟨r + 1, 0, none⟩ (.int .i64 (rdV (rdAt l 0).1 (rdAt l 0).2)) := ⟨_, rfl⟩
  have R1 : Hid (Rd w1 90 b g (rdAt l 1).1 (rdAt l 1).2) := Lib.hid (by
    rw [hw1]
    exact Rd.grown (row := some (r + 1)) hrd (grown_set v0 (r + 1) 0 _) (by have := HBB.out; simp; omega) (by have := HBB.out; simp; omega))
  have M1 : Hid (Bk w1 (r + 1) 30 #[.int .i64 (rdN l 0), .int .i64 0, .int .i64 0, .int .i64 0, .int .i64 0]) := Lib.hid (by rw [hw1]; exact M0'.out.setc 0 _)
  have Z1 : Hid (Bk w1 r 30 #[.int .i64 0, .int .i64 0, .int .i64 0, .int .i64 0, .int .i64 0]) := Lib.hid (by rw [hw1]; exact ((grown_set v0 (r + 1) 0 _).block r Z0'.out.lt (by simp)).trans Z0'.out)
  have L1 : Hid (Below r w w1) := Lib.hid (by rw [hw1]; exact L0'.out.setCell (by simp) _)
  have HWW1 := Lib.hid hw1
  clear hrd hg CW0 hw1 R0 M0 Z0 L0 M0' Z0' L0'
  go_wp2_with fail
  rw [← HWW1.out]
  clear HWW1 c0 f0
  rw [rounds_succ]
  have CW1 := Lib.hid (rdNum_any b g (rdAt l 1).1 (rdAt l 1).2 w1 R1.out)
  go_wp2_with fail
  refine CW1.out.mono ?_
  rintro e v1 ⟨rfl, hrd, hg⟩
  have M1' : Hid (Bk v1 (r + 1) 30 #[.int .i64 (rdN l 0), .int .i64 0, .int .i64 0, .int .i64 0, .int .i64 0]) := Lib.hid ((hg.block _ M1.out.lt (by have := HBB.out; simp; omega)).trans M1.out)
  have Z1' : Hid (Bk v1 r 30 #[.int .i64 0, .int .i64 0, .int .i64 0, .int .i64 0, .int .i64 0]) := Lib.hid ((hg.block _ Z1.out.lt (by have := HBB.out; simp; omega)).trans Z1.out)
  have L1' : Hid (Below r w v1) := Lib.hid (L1.out.grown hg (Nat.le_of_lt Z1.out.lt) (fun q hq => by have := HBB.out; injection hq with hq; omega))
  have c1 : v1.cell? ⟨r + 1, 1, none⟩ = some (.int .i64 0) := M1'.out.cell 1
  have f1 : v1.frozen? ⟨r + 1, 1, none⟩ = false := M1'.out.frz 1
  obtain ⟨w2, hw2⟩ : ∃ w2, w2 = v1.setCell ⟨r + 1, 1, none⟩ (.int .i64 (rdV (rdAt l 1).1 (rdAt l 1).2)) := ⟨_, rfl⟩
  have R2 : Hid (Rd w2 90 b g (rdAt l 2).1 (rdAt l 2).2) := Lib.hid (by
    rw [hw2]
    exact Rd.grown (row := some (r + 1)) hrd (grown_set v1 (r + 1) 1 _) (by have := HBB.out; simp; omega) (by have := HBB.out; simp; omega))
  have M2 : Hid (Bk w2 (r + 1) 30 #[.int .i64 (rdN l 0), .int .i64 (rdN l 1), .int .i64 0, .int .i64 0, .int .i64 0]) := Lib.hid (by rw [hw2]; exact M1'.out.setc 1 _)
  have Z2 : Hid (Bk w2 r 30 #[.int .i64 0, .int .i64 0, .int .i64 0, .int .i64 0, .int .i64 0]) := Lib.hid (by rw [hw2]; exact ((grown_set v1 (r + 1) 1 _).block r Z1'.out.lt (by simp)).trans Z1'.out)
  have L2 : Hid (Below r w w2) := Lib.hid (by rw [hw2]; exact L1'.out.setCell (by simp) _)
  have HWW2 := Lib.hid hw2
  clear hrd hg CW1 hw2 R1 M1 Z1 L1 M1' Z1' L1'
  go_wp2_with fail
  rw [← HWW2.out]
  clear HWW2 c1 f1
  rw [rounds_succ]
  have CW2 := Lib.hid (rdNum_any b g (rdAt l 2).1 (rdAt l 2).2 w2 R2.out)
  go_wp2_with fail
  refine CW2.out.mono ?_
  rintro e v2 ⟨rfl, hrd, hg⟩
  have M2' : Hid (Bk v2 (r + 1) 30 #[.int .i64 (rdN l 0), .int .i64 (rdN l 1), .int .i64 0, .int .i64 0, .int .i64 0]) := Lib.hid ((hg.block _ M2.out.lt (by have := HBB.out; simp; omega)).trans M2.out)
  have Z2' : Hid (Bk v2 r 30 #[.int .i64 0, .int .i64 0, .int .i64 0, .int .i64 0, .int .i64 0]) := Lib.hid ((hg.block _ Z2.out.lt (by have := HBB.out; simp; omega)).trans Z2.out)
  have L2' : Hid (Below r w v2) := Lib.hid (L2.out.grown hg (Nat.le_of_lt Z2.out.lt) (fun q hq => by have := HBB.out; injection hq with hq; omega))
  have c2 : v2.cell? ⟨r + 1, 2, none⟩ = some (.int .i64 0) := M2'.out.cell 2
  have f2 : v2.frozen? ⟨r + 1, 2, none⟩ = false := M2'.out.frz 2
  obtain ⟨w3, hw3⟩ : ∃ w3, w3 = v2.setCell ⟨r + 1, 2, none⟩ (.int .i64 (rdV (rdAt l 2).1 (rdAt l 2).2)) := ⟨_, rfl⟩
  have R3 : Hid (Rd w3 90 b g (rdAt l 3).1 (rdAt l 3).2) := Lib.hid (by
    rw [hw3]
    exact Rd.grown (row := some (r + 1)) hrd (grown_set v2 (r + 1) 2 _) (by have := HBB.out; simp; omega) (by have := HBB.out; simp; omega))
  have M3 : Hid (Bk w3 (r + 1) 30 #[.int .i64 (rdN l 0), .int .i64 (rdN l 1), .int .i64 (rdN l 2), .int .i64 0, .int .i64 0]) := Lib.hid (by rw [hw3]; exact M2'.out.setc 2 _)
  have Z3 : Hid (Bk w3 r 30 #[.int .i64 0, .int .i64 0, .int .i64 0, .int .i64 0, .int .i64 0]) := Lib.hid (by rw [hw3]; exact ((grown_set v2 (r + 1) 2 _).block r Z2'.out.lt (by simp)).trans Z2'.out)
  have L3 : Hid (Below r w w3) := Lib.hid (by rw [hw3]; exact L2'.out.setCell (by simp) _)
  have HWW3 := Lib.hid hw3
  clear hrd hg CW2 hw3 R2 M2 Z2 L2 M2' Z2' L2'
  go_wp2_with fail
  rw [← HWW3.out]
  clear HWW3 c2 f2
  rw [rounds_succ]
  have CW3 := Lib.hid (rdNum_any b g (rdAt l 3).1 (rdAt l 3).2 w3 R3.out)
  go_wp2_with fail
  refine CW3.out.mono ?_
  rintro e v3 ⟨rfl, hrd, hg⟩
  have M3' : Hid (Bk v3 (r + 1) 30 #[.int .i64 (rdN l 0), .int .i64 (rdN l 1), .int .i64 (rdN l 2), .int .i64 0, .int .i64 0]) := Lib.hid ((hg.block _ M3.out.lt (by have := HBB.out; simp; omega)).trans M3.out)
  have Z3' : Hid (Bk v3 r 30 #[.int .i64 0, .int .i64 0, .int .i64 0, .int .i64 0, .int .i64 0]) := Lib.hid ((hg.block _ Z3.out.lt (by have := HBB.out; simp; omega)).trans Z3.out)
  have L3' : Hid (Below r w v3) := Lib.hid (L3.out.grown hg (Nat.le_of_lt Z3.out.lt) (fun q hq => by have := HBB.out; injection hq with hq; omega))
  have c3 : v3.cell? ⟨r + 1, 3, none⟩ = some (.int .i64 0) := M3'.out.cell 3
  have f3 : v3.frozen? ⟨r + 1, 3, none⟩ = false := M3'.out.frz 3
  obtain ⟨w4, hw4⟩ : ∃ w4, w4 = v3.setCell ⟨r + 1, 3, none⟩ (.int .i64 (rdV (rdAt l 3).1 (rdAt l 3).2)) := ⟨_, rfl⟩
  have R4 : Hid (Rd w4 90 b g (rdAt l 4).1 (rdAt l 4).2) := Lib.hid (by
    rw [hw4]
    exact Rd.grown (row := some (r + 1)) hrd (grown_set v3 (r + 1) 3 _) (by have := HBB.out; simp; omega) (by have := HBB.out; simp; omega))
  have M4 : Hid (Bk w4 (r + 1) 30 #[.int .i64 (rdN l 0), .int .i64 (rdN l 1), .int .i64 (rdN l 2), .int .i64 (rdN l 3), .int .i64 0]) := Lib.hid (by rw [hw4]; exact M3'.out.setc 3 _)
  have Z4 : Hid (Bk w4 r 30 #[.int .i64 0, .int .i64 0, .int .i64 0, .int .i64 0, .int .i64 0]) := Lib.hid (by rw [hw4]; exact ((grown_set v3 (r + 1) 3 _).block r Z3'.out.lt (by simp)).trans Z3'.out)
  have L4 : Hid (Below r w w4) := Lib.hid (by rw [hw4]; exact L3'.out.setCell (by simp) _)
  have HWW4 := Lib.hid hw4
  clear hrd hg CW3 hw4 R3 M3 Z3 L3 M3' Z3' L3'
  go_wp2_with fail
  rw [← HWW4.out]
  clear HWW4 c3 f3
  rw [rounds_succ]
  have CW4 := Lib.hid (rdNum_any b g (rdAt l 4).1 (rdAt l 4).2 w4 R4.out)
  go_wp2_with fail
  refine CW4.out.mono ?_
  rintro e v4 ⟨rfl, hrd, hg⟩
  have M4' : Hid (Bk v4 (r + 1) 30 #[.int .i64 (rdN l 0), .int .i64 (rdN l 1), .int .i64 (rdN l 2), .int .i64 (rdN l 3), .int .i64 0]) := Lib.hid ((hg.block _ M4.out.lt (by have := HBB.out; simp; omega)).trans M4.out)
  have Z4' : Hid (Bk v4 r 30 #[.int .i64 0, .int .i64 0, .int .i64 0, .int .i64 0, .int .i64 0]) := Lib.hid ((hg.block _ Z4.out.lt (by have := HBB.out; simp; omega)).trans Z4.out)
  have L4' : Hid (Below r w v4) := Lib.hid (L4.out.grown hg (Nat.le_of_lt Z4.out.lt) (fun q hq => by have := HBB.out; injection hq with hq; omega))
  have c4 : v4.cell? ⟨r + 1, 4, none⟩ = some (.int .i64 0) := M4'.out.cell 4
  have f4 : v4.frozen? ⟨r + 1, 4, none⟩ = false := M4'.out.frz 4
  obtain ⟨w5, hw5⟩ : ∃ w5, w5 = v4.setCell ⟨r + 1, 4, none⟩ (.int .i64 (rdV (rdAt l 4).1 (rdAt l 4).2)) := ⟨_, rfl⟩
  have R5 : Hid (Rd w5 90 b g (rdAt l 5).1 (rdAt l 5).2) := Lib.hid (by
    rw [hw5]
    exact Rd.grown (row := some (r + 1)) hrd (grown_set v4 (r + 1) 4 _) (by have := HBB.out; simp; omega) (by have := HBB.out; simp; omega))
  have M5 : Hid (Bk w5 (r + 1) 30 #[.int .i64 (rdN l 0), .int .i64 (rdN l 1), .int .i64 (rdN l 2), .int .i64 (rdN l 3), .int .i64 (rdN l 4)]) := Lib.hid (by rw [hw5]; exact M4'.out.setc 4 _)
  have Z5 : Hid (Bk w5 r 30 #[.int .i64 0, .int .i64 0, .int .i64 0, .int .i64 0, .int .i64 0]) := Lib.hid (by rw [hw5]; exact ((grown_set v4 (r + 1) 4 _).block r Z4'.out.lt (by simp)).trans Z4'.out)
  have L5 : Hid (Below r w w5) := Lib.hid (by rw [hw5]; exact L4'.out.setCell (by simp) _)
  have HWW5 := Lib.hid hw5
  clear hrd hg CW4 hw5 R4 M4 Z4 L4 M4' Z4' L4'
  go_wp2_with fail
  rw [← HWW5.out]
  clear HWW5 c4 f4
  rw [rounds_succ]
  have CE := Lib.hid (rErr_any b g _ _ w5 R5.out)
  have HRS := Lib.hid (And.intro HR.out HS0.out)
  clear q0 q1 q2 q3 q4 HR HS0
  go_wp2_with fail
  refine CE.out.mono ?_
  rintro e w6 ⟨rfl, rfl⟩
  have HDE : Hid (decE l = (rdAt l 5).2) := Lib.hid rfl
  obtain ⟨x, hx⟩ : ∃ x, (rdAt l 5).2 = x := ⟨_, rfl⟩
  rw [hx] at HDE
  rw [hx]
  clear hx CE R5
  by_cases he : x = 0
  · subst he
    have HD : Hid (decM l = decR l) := Lib.hid (by unfold decM; rw [if_neg (by rw [HDE.out]; simp)])
    have hb := Z5.out.row #[.int .i64 (rdN l 0), .int .i64 (rdN l 1), .int .i64 (rdN l 2), .int .i64 (rdN l 3), .int .i64 (rdN l 4)]
    have hl := below_setRow L5.out (Nat.le_refl r) #[.int .i64 (rdN l 0), .int .i64 (rdN l 1), .int .i64 (rdN l 2), .int .i64 (rdN l 3), .int .i64 (rdN l 4)]
    have HBK := Lib.hid hb
    have HL := Lib.hid hl
    clear hb hl
    go_wp2_with (first
      | (refine wpList_load_row rfl 30 _ rfl (r + 1) rfl 30 _ (0, 0) _ M5.out Try.underlying30 rfl ms_info ?_)
      | (refine wpList_store_row rfl 30 _ _ rfl r _ rfl rfl 30 _ Z5.out ms_info rfl (ms_one _ _ _ _ _) ?_; simp only [Act.put]))
    (try simp only [Exit.inBlock, Exit.then])
    refine bodyPost_ret (results_cellT rfl _ _ r 30 _ _ rfl HBK.out Try.underlying30 rfl ms_info) rfl ?_
    rw [HD.out, HDE.out]
    refine ⟨rfl, ?_⟩
    rw [HRS.out.1]
    exact HL.out
  · have HD : Hid (decM l = ms0) := Lib.hid (by unfold decM; rw [if_pos (by rw [HDE.out]; exact he)])
    have hd : ((x : Int) != 0) = true := by simp; omega
    have hb := Z5.out.row #[.int .i64 0, .int .i64 0, .int .i64 0, .int .i64 0, .int .i64 0]
    have hl := below_setRow L5.out (Nat.le_refl r) #[.int .i64 0, .int .i64 0, .int .i64 0, .int .i64 0, .int .i64 0]
    have HBK := Lib.hid hb
    have HL := Lib.hid hl
    clear hb hl he
    go_wp2_with (first
      | (refine wpList_store_row rfl 30 _ _ rfl r #[.int .i64 0, .int .i64 0, .int .i64 0, .int .i64 0, .int .i64 0] rfl rfl 30 _ Z5.out ms_info rfl (ms_one _ _ _ _ _) ?_; simp only [Act.put]))
    (try simp only [Exit.inBlock, Exit.then])
    refine bodyPost_ret (results_cellT rfl _ _ r 30 _ _ rfl HBK.out Try.underlying30 rfl ms_info) rfl ?_
    rw [HD.out, HDE.out]
    refine ⟨rfl, ?_⟩
    rw [HRS.out.1]
    exact HL.out
end Go.Proofs.Ytllkdcnejobinaa

/- a map keyed by ints: what it holds at each key; a look-up, a store, a copy. No program is named; no condition. -/
namespace Go.Proofs.Ytllkdcnejobinaa
open Go.RowKit Go.MapKept

open Classical in
/-- The first entry at a key. -/
noncomputable def look : List MapEntry → Value → Option Value
  | [], _ => none
  | e :: r, k => if e.key = k then some e.val else look r k

theorem look_none {k : Value} : ∀ {l : List MapEntry}, (∀ x ∈ l, x.key ≠ k) → look l k = none
  | [], _ => rfl
  | e :: r, h => by
    rw [look, if_neg (h e (.head _))]
    exact look_none (fun x hx => h x (.tail _ hx))

open Classical in
theorem look_append {k : Value} {e : MapEntry} : ∀ {l : List MapEntry}, look (l ++ [e]) k = (look l k).or (if e.key = k then some e.val else none)
  | [] => by simp [look]
  | x :: r => by
    rw [List.cons_append, look, look]
    split
    · rfl
    · exact look_append

open Classical in
theorem findNow_look {d : TypeDesc} {k : Value} (hk : IsKey d k) : ∀ (l : List MapEntry) (i : Nat), (∀ x ∈ l, IsKey d x.key) →
    (Instr.findNow d k l i = some none ∧ look l k = none ∧ ∀ x ∈ l, x.key ≠ k) ∨
    ∃ j e, Instr.findNow d k l i = some (some (i + j, e.val)) ∧ l[j]? = some e ∧ e.key = k ∧ look l k = some e.val ∧
      ∀ v k', look (l.modify j fun e => { e with key := k, val := v }) k' = if k' = k then some v else look l k'
  | [], _, _ => .inl ⟨rfl, rfl, by simp⟩
  | e :: es, i, h => by
    obtain ⟨r, hr, hiff⟩ := sameNow_of_keys hk (h e (.head _))
    cases r with
    | true =>
      have he : e.key = k := (hiff.1 rfl).symm
      refine .inr ⟨0, e, by simp [Instr.findNow, hr], rfl, he, by rw [look, if_pos he], fun v k' => ?_⟩
      show look ({ e with key := k, val := v } :: es) k' = _
      rw [look]
      by_cases hq : k' = k
      · subst hq
        rw [if_pos rfl, if_pos rfl]
      · rw [if_neg (fun q => hq q.symm), if_neg hq, look, if_neg (fun q => hq (q.symm.trans he))]
    | false =>
      have hne : e.key ≠ k := fun q => by have := hiff.2 q.symm; cases this
      rcases findNow_look hk es (i + 1) (fun x hx => h x (.tail _ hx)) with ⟨h1, h2, h3⟩ | ⟨j, e', h1, h2, h3, h4, h5⟩
      · refine .inl ⟨by simp [Instr.findNow, hr, h1], by rw [look, if_neg hne, h2], fun x hx => ?_⟩
        cases hx with
        | head => exact hne
        | tail _ hx => exact h3 x hx
      · refine .inr ⟨j + 1, e', by simp [Instr.findNow, hr, h1]; omega, by simpa using h2, h3, by rw [look, if_neg hne, h4], fun v k' => ?_⟩
        rw [List.modify_succ_cons, look, h5, look]
        by_cases hq : k' = k
        · subst hq
          rw [if_pos rfl, if_neg hne, if_pos rfl]
        · rw [if_neg hq, if_neg hq]

/-- Map mb holds g n at key n; z where there is none. -/
def MapFn (w : World) (mb : Nat) (z : Value) (g : Nat → Value) : Prop :=
  ∃ es clock, w.heap[mb]? = some (.map es clock) ∧ (∀ x ∈ es.toList, IsKey (.int .i64) x.key) ∧ ∀ n : Nat, (look es.toList (.int .i64 n)).getD z = g n

section
variable {w w' : World} {mb : Nat} {z : Value} {g : Nat → Value}
theorem MapFn.lt (h : MapFn w mb z g) : mb < w.heap.size := by
  obtain ⟨es, cl, hb, _⟩ := h
  exact (Array.getElem?_eq_some_iff.1 hb).1
theorem MapFn.eq (h : MapFn w mb z g) (hk : w'.heap[mb]? = w.heap[mb]?) : MapFn w' mb z g := by
  obtain ⟨es, cl, hb, r⟩ := h
  exact ⟨es, cl, hk.trans hb, r⟩
theorem MapFn.new (w : World) (z : Value) : MapFn (w.alloc (.map #[] 0)) w.heap.size z (fun _ => z) :=
  ⟨#[], 0, (heap_alloc w _).1, by simp, fun _ => rfl⟩
theorem MapFn.not_bk {t : TypeId} {cs : Array Value} {b : Nat} (h : MapFn w mb z g) (hb : Bk w b t cs) : mb ≠ b := by
  rintro rfl
  obtain ⟨es, cl, h1, _⟩ := h
  unfold Bk at hb
  rw [hb] at h1
  simp at h1
theorem MapFn.not_row {e : TypeId} {base size n : Nat} {v : Value} {xs : List Value} (h : MapFn w mb z g) (ho : w.ownsRow base e size v n xs) : v.ownBlock ≠ some mb := by
  obtain ⟨es, cl, h1, _⟩ := h
  rcases ho.2 with ⟨rfl, _⟩ | ⟨g, cap, cur, rfl, _, hg, _⟩
  · simp [Value.ownBlock]
  · intro q
    simp [Value.ownBlock] at q
    subst q
    rw [hg] at h1
    simp at h1

theorem isKey_nat (n : Nat) : IsKey (.int .i64) (.int .i64 (n : Int)) := rfl

variable {P : Program} {t kt et : TypeId}

theorem MapFn.run_lookup (h : MapFn w mb z g) (ht : P.underlying t = some (.map kt et)) (hk : P.underlying kt = some (.int .i64)) (hz : (zeroValue et).run P w = .ok z w) (n : Nat) :
    (Instr.lookup t (.map (some mb)) (.int .i64 n) false).run P w = .ok (g n) w := by
  obtain ⟨es, cl, hb, hks, hg⟩ := h
  have hgn := hg n
  unfold Instr.lookup
  rcases findNow_look (isKey_nat n) es.toList 0 hks with ⟨h1, h2, _⟩ | ⟨j, e, h1, _, _, h4, _⟩
  · rw [h2] at hgn
    simp [run_underlying ht, MapKept.run_getObj_map hb, run_checkKey hk (isKey_nat n), run_findKey hk h1, hz, Result.andThen]
    exact hgn
  · rw [h4] at hgn
    simp [run_underlying ht, MapKept.run_getObj_map hb, run_checkKey hk (isKey_nat n), run_findKey hk h1, Result.andThen]
    exact hgn

theorem setObj_fr (w : World) (mb : Nat) (o : Obj) : Fr (fun k => k = mb) w { w with heap := w.heap.setIfInBounds mb o } :=
  ⟨rfl, rfl, rfl, by simp, fun k hk hn => by simp [Ne.symm hn]⟩

theorem MapFn.run_update (h : MapFn w mb z g) (ht : P.underlying t = some (.map kt et)) (hk : P.underlying kt = some (.int .i64)) (n : Nat) (v : Value) :
    ∃ w', (Instr.mapUpdate t (.map (some mb)) (.int .i64 n) v).run P w = .ok () w' ∧ MapFn w' mb z (fun m => if m = n then v else g m) ∧ Fr (fun k => k = mb) w w' := by
  obtain ⟨es, cl, hb, hks, hg⟩ := h
  rcases findNow_look (isKey_nat n) es.toList 0 hks with ⟨h1, h2, h3⟩ | ⟨j, e, h1, h2, h3, h4, h5⟩
  · refine ⟨{ w with heap := w.heap.setIfInBounds mb (.map (es.push { key := .int .i64 n, val := v, born := cl }) (cl + 1)) }, ?_, ⟨_, _, (heap_set hb).1, ?_, fun m => ?_⟩, setObj_fr _ _ _⟩
    · simp [Instr.mapUpdate, run_underlying ht, MapKept.run_getObj_map hb, run_checkKey hk (isKey_nat n), run_findKey hk h1, MapKept.run_setObj_map _ hb, Result.andThen]
    · intro x hx
      simp only [Array.toList_push, List.mem_append, List.mem_singleton] at hx
      rcases hx with hx | rfl
      · exact hks x hx
      · exact isKey_nat n
    · rw [Array.toList_push, look_append]
      by_cases hm : m = n
      · subst hm
        rw [h2]
        simp
      · have hne : ¬ ((Value.int .i64 n) = .int .i64 m) := by
          intro q
          injection q with _ q
          omega
        rw [if_neg hne, Option.or_none]
        show _ = if m = n then v else g m
        rw [if_neg hm]
        exact hg m
  · have hj : es[j]? = some e := by simpa using h2
    refine ⟨{ w with heap := w.heap.setIfInBounds mb (.map (es.modify j fun e => { e with key := .int .i64 n, val := v }) cl) }, ?_, ⟨_, _, (heap_set hb).1, ?_, fun m => ?_⟩, setObj_fr _ _ _⟩
    · simp [Instr.mapUpdate, run_underlying ht, MapKept.run_getObj_map hb, run_checkKey hk (isKey_nat n), run_findKey hk h1, hj, h3, run_keyThatStays (isKey_nat n), MapKept.run_setObj_map _ hb, Result.andThen]
    · exact isKey_modify hks _ _ (fun e' he' => by rw [hj] at he'; cases he'; exact h3.symm)
    · rw [Array.toList_modify, h5]
      by_cases hm : m = n
      · subst hm
        simp
      · have hne : ¬ ((Value.int .i64 m) = .int .i64 n) := by
          intro q
          injection q with _ q
          omega
        rw [if_neg hne]
        show _ = if m = n then v else g m
        rw [if_neg hm]
        exact hg m
end

section
variable {P : Program} {w : World} {ops : Array Oper} {rest : List Oper} {o : Oper} {a : Act} {Q : Exit → Act → World → Prop} {t kt et : TypeId}

/-- 'm[k]' at the operation. -/
theorem wpList_lookup_fn (hgd : o.guard = none) (m x : Operand) (hop : o.op = Op.lookup t m x false) (ht : P.underlying t = some (.map kt et)) (hk : P.underlying kt = some (.int .i64))
    (mb : Nat) (z : Value) (g : Nat → Value) (hz : (zeroValue et).run P w = .ok z w) (hM : MapFn w mb z g) (hm : a.eval m = .map (some mb)) (n : Nat) (hx : a.eval x = .int .i64 n)
    (h : wpList P ops Q rest (a.put o.dst (g n)) w) : wpList P ops Q (o :: rest) a w := by
  refine wpList_plain hgd fun K' hK' => ?_
  have hrun := hM.run_lookup ht hk hz n
  unfold Oper.wp
  simp [execOp, hop, hm, hx, hrun, Result.andThen]
  exact hK' _ _ h

/-- 'm[k] = v' at the operation. -/
theorem wpList_update_fn (hgd : o.guard = none) (m x v : Operand) (hop : o.op = Op.mapUpdate t m x v) (ht : P.underlying t = some (.map kt et)) (hk : P.underlying kt = some (.int .i64))
    (mb : Nat) (z : Value) (g : Nat → Value) (hM : MapFn w mb z g) (hm : a.eval m = .map (some mb)) (n : Nat) (hx : a.eval x = .int .i64 n) (val : Value) (hv : a.eval v = val)
    (h : ∀ w', MapFn w' mb z (fun m => if m = n then val else g m) → Fr (fun k => k = mb) w w' → wpList P ops Q rest (a.put o.dst undef) w') : wpList P ops Q (o :: rest) a w := by
  refine wpList_plain hgd fun K' hK' => ?_
  obtain ⟨w', hrun, h1, h2⟩ := hM.run_update ht hk n val
  unfold Oper.wp
  simp [execOp, hop, hm, hx, hv, hrun, Result.andThen]
  exact hK' _ _ (h w' h1 h2)
end
end Go.Proofs.Ytllkdcnejobinaa

/- a disk in memory: its block, its map of sectors, its list of writes; find, step and the methods that tell or lay a number. -/
namespace Go.Proofs.Ytllkdcnejobinaa
open Go.RowKit

/-- Bytes as cells; a sector as a value. -/
def byC (l : List Int) : List Value := l.map (Value.int .u8)
def secV (l : List Int) : Value := .agg (byC l).toArray
theorem byC_len (l : List Int) : (byC l).length = l.length := by simp [byC]
theorem byC_one (l : List Int) : ∀ v ∈ byC l, v.oneCell' = true := u8_one l

/-- A write's cells. -/
def wrC (p : Nat × List Int) : List Value := .int .i64 p.1 :: byC p.2
theorem wrC_len {p : Nat × List Int} (h : Sec p.2) : (wrC p).length = 257 := by simp [wrC, byC_len, h.1]
def pdC (l : List (Nat × List Int)) : List Value := l.flatMap wrC

theorem info_sec : (Try.prog.info? 55).map (fun i => (i.zero, i.size)) = some (some (secV zeros), 256) := by kernel_rfl
theorem zero_sec (w : World) : (zeroValue 55).run Try.prog w = .ok (secV zeros) w := (zero_of_info info_sec).1 w
theorem size_sec : (Try.prog.info? 55).map (·.size) = some 256 := (zero_of_info info_sec).2
theorem info_wr : (Try.prog.info? 58).map (fun i => (i.zero, i.size, i.bytes)) = some (some (.agg (wrC (0, zeros)).toArray), 257, 264) := by kernel_rfl

/-- The disk at block b. -/
structure DskB (w : World) (F : Nat → Prop) (b mb : Nat) (A : Option Addr) (c : Nat) (s : St) : Prop where
  blk : Bk w b 52 #[.int .i64 s.num, .map (some mb), .slice A s.pend.length c, .int .i64 s.left, .bool s.gone, .int .i64 s.syncs]
  map : MapFn w mb (secV zeros) (fun n => secV (s.syn n))
  row : w.ownsRow 0 58 257 (.slice A s.pend.length c) s.pend.length (pdC s.pend)
  fb : F b
  fm : F mb
  fp : ∀ k, (Value.slice A s.pend.length c).ownBlock = some k → F k
  lt : ∀ k, F k → k < w.heap.size
  ok : s.Ok
  lim : s.pend.length < 1000000 ∧ s.syncs < 1000000

section
variable {w w' : World} {F G : Nat → Prop} {b mb : Nat} {A : Option Addr} {c : Nat} {s : St}
theorem DskB.keep (h : DskB w F b mb A c s) (hs : w.heap.size ≤ w'.heap.size) (hk : ∀ k, F k → w'.heap[k]? = w.heap[k]?) : DskB w' F b mb A c s :=
  ⟨h.blk.eq (hk b h.fb), h.map.eq (hk mb h.fm), owns_keep h.row (fun k hk' => hk k (h.fp k hk')), h.fb, h.fm, h.fp, fun k f => Nat.lt_of_lt_of_le (h.lt k f) hs, h.ok, h.lim⟩
theorem DskB.mono (h : DskB w F b mb A c s) (hF : ∀ k, F k → G k) (hG : ∀ k, G k → k < w.heap.size) : DskB w G b mb A c s :=
  ⟨h.blk, h.map, h.row, hF b h.fb, hF mb h.fm, fun k hk => hF k (h.fp k hk), hG, h.ok, h.lim⟩
theorem DskB.below (h : DskB w F b mb A c s) (hb : Below w.heap.size w w') : DskB w' F b mb A c s := h.keep hb.size (fun k f => hb.block k (h.lt k f))
end

/-- The disk at block b, as a thing. -/
def dsk (b : Nat) (s : St) : Res where
  is w F := ∃ mb A c, DskB w F b mb A c s
  lt _ _ := fun ⟨_, _, _, h⟩ => h.lt
  keep _ _ _ := fun ⟨mb, A, c, h⟩ hs hk => ⟨mb, A, c, h.keep hs hk⟩

section
variable {w w' : World} {F : Nat → Prop} {b mb : Nat} {A : Option Addr} {c : Nat} {s : St}
theorem DskB.turn {s' : St} {mb' : Nat} {A' : Option Addr} {c' : Nat} (h : DskB w' (grow F w w') b mb' A' c' s') (hf : Fr F w w') : Turn (dsk b s') F w w' := ⟨⟨mb', A', c', h⟩, hf⟩

/-- Behind stores into the disk's own block alone. -/
theorem DskB.set {cs : Array Value} {s' : St} (h : DskB w F b mb A c s) (hb : Bk w' b 52 #[.int .i64 s'.num, .map (some mb), .slice A s'.pend.length c, .int .i64 s'.left, .bool s'.gone, .int .i64 s'.syncs])
    (hf : Fr (fun k => k = b) w w') (h1 : s'.syn = s.syn) (h2 : s'.pend = s.pend) (h3 : s'.Ok) (h4 : s'.syncs < 1000000) : DskB w' F b mb A c s' := by
  have hne : mb ≠ b := h.map.not_bk h.blk
  have hpe : ∀ k, (Value.slice A s.pend.length c).ownBlock = some k → k ≠ b := by
    rintro k hk rfl
    rcases h.row.2 with ⟨q, _⟩ | ⟨g, cap, cur, q, _, hg, _⟩
    · rw [q] at hk; simp [Value.ownBlock] at hk
    · rw [q] at hk
      simp [Value.ownBlock] at hk
      subst hk
      have := h.blk
      unfold Bk at this
      rw [this] at hg
      simp at hg
  refine ⟨hb, ?_, ?_, h.fb, h.fm, ?_, fun k f => Nat.lt_of_lt_of_le (h.lt k f) hf.size, h3, by rw [h2]; exact ⟨h.lim.1, h4⟩⟩
  · rw [h1]
    exact h.map.eq (hf.block mb h.map.lt hne)
  · rw [h2]
    exact owns_keep h.row (fun k hk => hf.block k (h.lt k (h.fp k hk)) (hpe k hk))
  · rw [h2]
    exact h.fp
end

/-- The step's answer. -/
def RetStep (F : Nat → Prop) (b mb : Nat) (A : Option Addr) (c : Nat) (s : St) (w : World) (e : Ending) (w' : World) : Prop :=
  e = .returned (.int .i64 (if s.can then 0 else 40)) ∧ DskB w' F b mb A c s.step ∧ Fr (fun k => k = b) w w'

set_option maxHeartbeats 1000000 in
theorem step_any {w : World} {F : Nat → Prop} {b mb : Nat} {A : Option Addr} {c : Nat} {s : St} (h : DskB w F b mb A c s) :
    Calls Try.prog 30 #[.pointer (some ⟨b, 0, none⟩)] w (RetStep F b mb A c s w) := by
  obtain ⟨num, syn, pend, left, gone, syncs⟩ := s
  have hl := h.ok.left
  have hb := h.blk
  have c3 : w.cell? ⟨b, 3, none⟩ = some (.int .i64 left) := hb.cell 3
  have c4 : w.cell? ⟨b, 4, none⟩ = some (.bool gone) := hb.cell 4
  have f3 : w.frozen? ⟨b, 3, none⟩ = false := hb.frz 3
  have f4 : w.frozen? ⟨b, 4, none⟩ = false := hb.frz 4
  simp only at hl
  have E : ∀ w' s', s' = (St.mk num syn pend left gone syncs).step → Bk w' b 52 #[.int .i64 s'.num, .map (some mb), .slice A s'.pend.length c, .int .i64 s'.left, .bool s'.gone, .int .i64 s'.syncs] → Fr (fun k => k = b) w w' →
      DskB w' F b mb A c (St.mk num syn pend left gone syncs).step ∧ Fr (fun k => k = b) w w' := by
    intro w' s' e hb' hf
    subst e
    exact ⟨h.set (cs := #[]) hb' hf (St.step_syn _) (St.step_pend _) h.ok.step (by rw [St.step_syncs]; exact h.lim.2), hf⟩
  have E := Lib.hid E
  have HB := Lib.hid hb
  clear h hb
  cases gone with
  | true =>
    by_cases h0 : left = 0
    · subst h0
      have R : Hid (RetStep F b mb A c ⟨num, syn, pend, 0, true, syncs⟩ w (.returned (.int .i64 40)) (w.setCell ⟨b, 4, none⟩ (.bool true))) :=
        Lib.hid ⟨rfl, E.out _ _ rfl (by have := HB.out.setc 4 (.bool true); simpa [St.step] using this) (Fr.cell1 _ _ _ _)⟩
      clear E HB
      go_enter Try.func30, Try.ntmps30
      go_wp2_with fail
      go_ret
      exact R.out
    · have R : Hid (RetStep F b mb A c ⟨num, syn, pend, left, true, syncs⟩ w (.returned (.int .i64 40)) w) :=
        Lib.hid ⟨rfl, E.out _ _ rfl (by simpa [St.step] using HB.out) (Fr.refl _ _)⟩
      have hd : (left == 0) = false := by simpa using h0
      clear E HB
      go_enter Try.func30, Try.ntmps30
      go_wp2_with fail
      go_ret
      exact R.out
  | false =>
    by_cases h0 : left = 0
    · subst h0
      have R : Hid (RetStep F b mb A c ⟨num, syn, pend, 0, false, syncs⟩ w (.returned (.int .i64 40)) (w.setCell ⟨b, 4, none⟩ (.bool true))) :=
        Lib.hid ⟨rfl, E.out _ _ rfl (by have := HB.out.setc 4 (.bool true); simpa [St.step] using this) (Fr.cell1 _ _ _ _)⟩
      clear E HB
      go_enter Try.func30, Try.ntmps30
      go_wp2_with fail
      go_ret
      exact R.out
    · have hd : (left == 0) = false := by simpa using h0
      by_cases h1 : left = -1
      · subst h1
        have R : Hid (RetStep F b mb A c ⟨num, syn, pend, -1, false, syncs⟩ w (.returned (.int .i64 0)) w) :=
          Lib.hid ⟨rfl, E.out _ _ rfl (by simpa [St.step] using HB.out) (Fr.refl _ _)⟩
        clear E HB
        go_enter Try.func30, Try.ntmps30
        go_wp2_with fail
        go_ret
        exact R.out
      · have hd1 : (left != -1) = true := by simpa using h1
        have hp : 0 < left := by omega
        have R : Hid (RetStep F b mb A c ⟨num, syn, pend, left, false, syncs⟩ w (.returned (.int .i64 0)) (w.setCell ⟨b, 3, none⟩ (.int .i64 (left - 1)))) :=
          Lib.hid ⟨by simp [St.can, hd], E.out _ _ rfl (by have := HB.out.setc 3 (.int .i64 (left - 1)); simpa [St.step, h0, hp] using this) (Fr.cell1 _ _ _ _)⟩
        clear E HB
        go_enter Try.func30, Try.ntmps30
        go_wp2_with fail
        go_ret
        exact R.out
end Go.Proofs.Ytllkdcnejobinaa

/- what Down, Pending, Syncs, Sectors and find answer; what Fuse lays; a nil disk's. -/
namespace Go.Proofs.Ytllkdcnejobinaa
open Go.RowKit

/-- A call answers v and turns nothing. -/
def Same (v : Value) (w : World) (e : Ending) (w' : World) : Prop := e = .returned v ∧ w = w'

section
variable {w : World} {F : Nat → Prop} {b mb : Nat} {A : Option Addr} {c : Nat} {s : St}
theorem down_any (h : DskB w F b mb A c s) : Calls Try.prog 9 #[.pointer (some ⟨b, 0, none⟩)] w (Same (.bool s.gone) w) := by
  have c4 : w.cell? ⟨b, 4, none⟩ = some (.bool s.gone) := h.blk.cell 4
  clear h
  go_enter Try.func9, Try.ntmps9
  go_wp2_with fail
  go_ret
  exact ⟨rfl, rfl⟩

theorem find_bad (h : DskB w F b mb A c s) (n : Int) (hn : n < 0 ∨ (s.num : Int) ≤ n) : Calls Try.prog 32 #[.pointer (some ⟨b, 0, none⟩), .int .i64 n] w (Same (.int .i64 1) w) := by
  have c2 : w.cell? ⟨b, 0, none⟩ = some (.int .i64 s.num) := h.blk.cell 0
  clear h
  by_cases h0 : n < 0
  · go_enter Try.func32, Try.ntmps32
    go_wp2_with fail
    go_ret
    exact ⟨rfl, rfl⟩
  · have h1 : (s.num : Int) ≤ n := by omega
    clear hn
    go_enter Try.func32, Try.ntmps32
    go_wp2_with fail
    go_ret
    exact ⟨rfl, rfl⟩

theorem find_ok (h : DskB w F b mb A c s) (n : Nat) (hn : n < s.num) : Calls Try.prog 32 #[.pointer (some ⟨b, 0, none⟩), .int .i64 n] w (Same (.int .i64 0) w) := by
  have c2 : w.cell? ⟨b, 0, none⟩ = some (.int .i64 s.num) := h.blk.cell 0
  clear h
  go_enter Try.func32, Try.ntmps32
  go_wp2_with fail
  go_ret
  exact ⟨rfl, rfl⟩

/-- What Fuse leaves. -/
def RetFuse (F : Nat → Prop) (b : Nat) (s' : St) (w : World) (e : Ending) (w' : World) : Prop := e = .returned (.tuple #[]) ∧ Turn (dsk b s') F w w'

set_option maxHeartbeats 1000000 in
theorem fuse_any (h : DskB w F b mb A c s) (n : Int) (hn : -9223372036854775808 ≤ n ∧ n ≤ 9223372036854775807) :
    Calls Try.prog 8 #[.pointer (some ⟨b, 0, none⟩), .int .i64 n] w (RetFuse F b (s.fuse n) w) := by
  have c3 : w.cell? ⟨b, 3, none⟩ = some (.int .i64 s.left) := h.blk.cell 3
  have f3 : w.frozen? ⟨b, 3, none⟩ = false := h.blk.frz 3
  have R : Hid (RetFuse F b (s.fuse n) w (.returned (.tuple #[])) (w.setCell ⟨b, 3, none⟩ (.int .i64 (max n (-1))))) := by
    have hb : Bk (w.setCell ⟨b, 3, none⟩ (.int .i64 (max n (-1)))) b 52 #[.int .i64 (s.fuse n).num, .map (some mb), .slice A (s.fuse n).pend.length c, .int .i64 (s.fuse n).left, .bool (s.fuse n).gone, .int .i64 (s.fuse n).syncs] := by
      have := h.blk.setc 3 (.int .i64 (max n (-1)))
      simpa [St.fuse] using this
    have hf := Fr.cell1 w b 3 (.int .i64 (max n (-1)))
    have := h.set (cs := #[]) hb hf rfl rfl (h.ok.fuse hn.2) h.lim.2
    exact Lib.hid ⟨rfl, (this.mono (fun k f => .inl f) (fun k f => by
      rcases f with f | f
      · exact this.lt k f
      · exact f.2)).turn (hf.mono (fun k e => e ▸ h.fb))⟩
  clear h
  by_cases h1 : n < -1
  · rw [show max n (-1) = -1 from by omega] at R
    go_enter Try.func8, Try.ntmps8
    go_wp2_with fail
    all_goals first | omega | skip
    go_end0
    exact R.out
  · rw [show max n (-1) = n from by omega] at R
    go_enter Try.func8, Try.ntmps8
    go_wp2_with fail
    all_goals first | omega | skip
    go_end0
    exact R.out
end

section
variable (w : World)
theorem down_nil : Calls Try.prog 9 #[.pointer none] w (Same (.bool true) w) := by
  go_enter Try.func9, Try.ntmps9
  go_wp2_with fail
  go_ret
  exact ⟨rfl, rfl⟩
theorem sync_nil : Calls Try.prog 17 #[.pointer none] w (Same (.int .i64 2) w) := by
  go_enter Try.func17, Try.ntmps17
  go_wp2_with fail
  go_ret
  exact ⟨rfl, rfl⟩
theorem fuse_nil (n : Int) : Calls Try.prog 8 #[.pointer none, .int .i64 n] w (Same (.tuple #[]) w) := by
  go_enter Try.func8, Try.ntmps8
  go_wp2_with fail
  go_end0
  exact ⟨rfl, rfl⟩
theorem find_nil (n : Int) : Calls Try.prog 32 #[.pointer none, .int .i64 n] w (Same (.int .i64 2) w) := by
  go_enter Try.func32, Try.ntmps32
  go_wp2_with fail
  go_ret
  exact ⟨rfl, rfl⟩
theorem write_nil (n : Int) (v : Value) : Calls Try.prog 25 #[.pointer none, .int .i64 n, v] w (Same (.int .i64 2) w) := by
  go_enter Try.func25, Try.ntmps25
  go_wp2_with fail
  refine (find_nil w n).mono ?_
  rintro e w' ⟨rfl, rfl⟩
  go_wp2_with fail
  go_ret
  exact ⟨rfl, rfl⟩
theorem read_nil (n : Int) : Calls Try.prog 22 #[.pointer none, .int .i64 n] w (Same (.tuple #[.slice none 0 0, .int .i64 2]) w) := by
  go_enter Try.func22, Try.ntmps22
  go_wp2_with fail
  refine (find_nil w n).mono ?_
  rintro e w' ⟨rfl, rfl⟩
  go_wp2_with fail
  go_ret2
  exact ⟨rfl, rfl⟩
theorem crash_nil (cs : Array Value) : Calls Try.prog 10 #[.pointer none, .agg cs] w (Ret (.pointer none) w) := by
  go_enter Try.func10, Try.ntmps10
  go_wp2_with fail
  go_ret
  exact ⟨rfl, (Below.refl _ _).alloc (Nat.le_refl _) _⟩
end
end Go.Proofs.Ytllkdcnejobinaa

/- stamp.free, Next and isStamp answer what the plain mathematics says, and turn nothing. -/
namespace Go.Proofs.Ytllkdcnejobinaa
open Go.RowKit

section
variable {w : World} {A : Option Addr} {c : Nat} {l : List Int}
theorem Byt.ends (h : Byt w A 256 c l) : ∃ g off, A = some ⟨g, off, none⟩ ∧ w.cell? ⟨g, off, none⟩ = some (.int .u8 (l.getD 0 0)) ∧ w.cell? ⟨g, off + 255, none⟩ = some (.int .u8 (l.getD 255 0)) := by
  obtain ⟨g, off, e, hc⟩ := h.at_ (by omega)
  exact ⟨g, off, e, hc 0 (by omega), hc 255 (by omega)⟩
end

set_option maxHeartbeats 2000000 in
theorem free_any (A : Option Addr) (c : Nat) (l : List Int) (w : World) (h : Byt w A 256 c l) :
    Calls Try.prog 27 #[.slice A 256 c] w (Same (.int .u8 (nextOf l)) w) := by
  obtain ⟨g, off, rfl, h0, h1⟩ := h.ends
  have ra := h.lt_ 0 (by omega)
  have rb := h.lt_ 255 (by omega)
  have hcap := h.cap
  have hmax := h.max
  unfold maxLen at hmax
  obtain ⟨a, ha⟩ : ∃ a, l.getD 0 0 = a := ⟨_, rfl⟩
  obtain ⟨b, hb⟩ : ∃ b, l.getD 255 0 = b := ⟨_, rfl⟩
  have HE : Hid (nextOf l = nextB a b) := Lib.hid (by unfold nextOf; rw [ha, hb])
  rw [HE.out]
  rw [ha] at h0 ra
  rw [hb] at h1 rb
  clear ha hb h HE
  go_enter Try.func27, Try.ntmps27
  go_wp2
  go_step3
  go_wp2
  go_step3
  go_wp2
  go_loopw [3, 5] (fun m q wr => ∃ j : Nat, j ≤ 3 ∧ m = .int .u8 j ∧ q = .int .u8 j ∧ (1 ≤ j → a = 1 ∨ b = 1) ∧ (2 ≤ j → a = 2 ∨ b = 2) ∧ wr = w) (fun _ q _ => 3 - (intOf q).toNat)
  case atStart => exact ⟨0, by omega, rfl, rfl, by omega, by omega, rfl⟩
  case round =>
    obtain ⟨j, hj, rfl, rfl, t1, t2, rfl⟩ := hrel
    by_cases hlt : j < 3
    · by_cases e1 : ((j : Int) + 1) = a
      · have d1 : (((j : Int) + 1) != a) = false := by simpa using e1
        have R : Hid ((1 ≤ j + 1 → a = 1 ∨ b = 1) ∧ (2 ≤ j + 1 → a = 2 ∨ b = 2)) := Lib.hid ⟨fun _ => by
          by_cases q : 1 ≤ j
          · exact t1 q
          · omega, fun q => by
          by_cases q2 : 2 ≤ j
          · exact t2 q2
          · omega⟩
        clear t1 t2 e1
        go_wp2_with fail
        go_roundw
        case rel => exact ⟨j + 1, by omega, by go_num, by go_num, R.out.1, R.out.2, trivial⟩
        case measure => simp [intOf]; omega
      · have d1 : (((j : Int) + 1) != a) = true := by simpa using e1
        by_cases e2 : ((j : Int) + 1) = b
        · have d2 : (((j : Int) + 1) != b) = false := by simpa using e2
          have R : Hid ((1 ≤ j + 1 → a = 1 ∨ b = 1) ∧ (2 ≤ j + 1 → a = 2 ∨ b = 2)) := Lib.hid ⟨fun _ => by
            by_cases q : 1 ≤ j
            · exact t1 q
            · omega, fun q => by
            by_cases q2 : 2 ≤ j
            · exact t2 q2
            · omega⟩
          clear t1 t2 e1 e2
          go_wp2_with fail
          go_roundw
          case rel => exact ⟨j + 1, by omega, by go_num, by go_num, R.out.1, R.out.2, trivial⟩
          case measure => simp [intOf]; omega
        · have d2 : (((j : Int) + 1) != b) = true := by simpa using e2
          have R : Hid ((j : Int) + 1 = nextB a b) := Lib.hid (by
            have : j = 0 ∨ j = 1 ∨ j = 2 := by omega
            rcases this with q | q | q
            · rw [nextB_one ⟨by omega, by omega⟩]; omega
            · rw [nextB_two (t1 (by omega)) ⟨by omega, by omega⟩]; omega
            · rw [nextB_three (t1 (by omega)) (t2 (by omega))]; omega)
          clear t1 t2 e1 e2
          go_wp2_with fail
          (try rw [Exit.noGoto_ret])
          go_ret
          exact ⟨by rw [← R.out]; rfl, rfl⟩
    · obtain rfl : j = 3 := by omega
      have R : Hid (3 = nextB a b) := Lib.hid (nextB_three (t1 (by omega)) (t2 (by omega))).symm
      clear t1 t2
      go_wp2_with fail
      (try rw [Exit.noGoto_ret])
      go_ret
      exact ⟨by rw [← R.out]; rfl, rfl⟩

theorem isStamp_any (m : Int) (hm : 0 ≤ m ∧ m < 256) (w : World) : Calls Try.prog 39 #[.int .u8 m] w (Same (.bool (decide (1 ≤ m ∧ m ≤ 3))) w) := by
  by_cases h1 : 1 ≤ m
  · by_cases h3 : m ≤ 3
    · have e : decide (1 ≤ m ∧ m ≤ 3) = true := by simp; omega
      rw [e]
      go_enter Try.func39, Try.ntmps39
      go_wp2_with fail
      go_ret
      exact ⟨rfl, rfl⟩
    · have e : decide (1 ≤ m ∧ m ≤ 3) = false := by simp; omega
      rw [e]
      go_enter Try.func39, Try.ntmps39
      go_wp2_with fail
      go_ret
      exact ⟨rfl, rfl⟩
  · have e : decide (1 ≤ m ∧ m ≤ 3) = false := by simp; omega
    rw [e]
    go_enter Try.func39, Try.ntmps39
    go_wp2_with fail
    go_ret
    exact ⟨rfl, rfl⟩
end Go.Proofs.Ytllkdcnejobinaa

/- a write as a value: built of its number and its sector; a new block of one write; a slice of 256 bytes as a sector. -/
namespace Go.Proofs.Ytllkdcnejobinaa
open Go.RowKit

theorem one_set (z : Array Value) (x : Value) (hx : x.oneCell' = true) (hz : 0 < z.size) : (x.cells.zipIdx.foldl (fun cs (y : Value × Nat) => cs.setIfInBounds (0 + y.2) y.1) z) = z.setIfInBounds 0 x := by
  have : x.cells = #[x] := by
    cases x <;> simp_all [Value.cells, Value.oneCell']
  rw [this]
  rfl

theorem arr_eq {a : Array Value} {l : List Value} (hs : a.size = l.length) (h : ∀ k, k < l.length → a[k]? = l[k]?) : a = l.toArray := by
  apply Array.ext_getElem?
  intro k
  by_cases hk : k < l.length
  · rw [h k hk]; simp
  · rw [Array.getElem?_eq_none (by omega), Array.getElem?_eq_none (by simp; omega)]

theorem wr_fill (z : Array Value) (hz : z.size = 257) (n : Nat) (l : List Int) (hl : Sec l) :
    (byC l).toArray.zipIdx.foldl (fun cs (x : Value × Nat) => cs.setIfInBounds (1 + x.2) x.1) (z.setIfInBounds 0 (.int .i64 n)) = (wrC (n, l)).toArray := by
  have hlen : (byC l).length = 256 := by rw [byC_len, hl.1]
  have he : (byC l).toArray.zipIdx.foldl (fun cs (x : Value × Nat) => cs.setIfInBounds (1 + x.2) x.1) (z.setIfInBounds 0 (.int .i64 n)) = ((byC l).zipIdx 0).foldl (fun cs (x : Value × Nat) => cs.setIfInBounds (1 + x.2) x.1) (z.setIfInBounds 0 (.int .i64 n)) := by
    simp
  rw [he]
  obtain ⟨h1, h2⟩ := Great.foldl_set 1 (byC l) 0 (z.setIfInBounds 0 (.int .i64 n))
  apply arr_eq
  · rw [h1, wrC_len (p := (n, l)) hl]
    simp [hz]
  · intro k hk
    rw [wrC_len (p := (n, l)) hl] at hk
    rw [h2 k]
    by_cases h0 : k = 0
    · subst h0
      rw [if_neg (by omega)]
      simp [wrC, hz]
    · rw [if_pos ⟨by omega, by omega, by simp; omega⟩]
      obtain ⟨j, rfl⟩ : ∃ j, k = j + 1 := ⟨k - 1, by omega⟩
      simp [wrC]

theorem secV_size {l : List Int} (hl : Sec l) : (byC l).toArray.size = 256 := by simp [byC_len, hl.1]

theorem fill_cons {place : Nat → Option (Nat × Nat)} {cells : Array Value} {i off size : Nat} {v : Value} {rest : List (Nat × Value)} (hp : place i = some (off, size)) (hs : v.cells.size = size) (ho : off + size ≤ cells.size) :
    Instr.fill place cells ((i, v) :: rest) = Instr.fill place (v.cells.zipIdx.foldl (fun cs (x : Value × Nat) => cs.setIfInBounds (off + x.2) x.1) cells) rest := by
  rw [Instr.fill, hp]
  simp only
  rw [if_neg (by simp; omega)]

theorem built_wr (n : Nat) (l : List Int) (hl : Sec l) : Try.prog.built 58 [(0, .int .i64 n), (1, secV l)] = some (wrC (n, l)).toArray := by
  have hp : Try.prog.built 58 [(0, .int .i64 n), (1, secV l)] = Instr.fill (fun i => ([(0, 1), (1, 256)] : List (Nat × Nat)).toArray[i]?) (wrC (0, zeros)).toArray [(0, .int .i64 n), (1, secV l)] := by
    generalize secV l = v
    generalize (n : Int) = m
    kernel_rfl
  rw [hp]
  have hw : (wrC (0, zeros)).toArray.size = 257 := by simp [wrC_len (p := (0, zeros)) zeros_sec]
  generalize (wrC (0, zeros)).toArray = Z at hw
  rw [fill_cons (off := 0) (size := 1) rfl rfl (by omega), one_set Z _ rfl (by omega), fill_cons (off := 1) (size := 256) rfl (show (secV l).cells.size = 256 from secV_size hl) (by rw [Array.size_setIfInBounds]; omega)]
  exact congrArg some (wr_fill Z hw n l hl)

theorem build_wr (n : Nat) (l : List Int) (hl : Sec l) (w : World) : (Instr.build 58 #[(0, .int .i64 n), (1, secV l)]).run Try.prog w = .ok (.agg (wrC (n, l)).toArray) w :=
  run_build w _ _ _ (built_wr n l hl)

theorem bslice_wr (p : Nat × List Int) (hp : Sec p.2) (w : World) : (Instr.buildSlice 50 1 #[(0, .agg (wrC p).toArray)]).run Try.prog w =
    .ok (.slice (some ⟨w.heap.size, 0, none⟩) 1 1) (w.alloc (.cells (wrC p).toArray 58)) := by
  obtain ⟨i0, hi, hz0, hz1, hz2⟩ := info_parts info_wr
  have hl := wrC_len hp
  refine Go.run_buildSlice w 50 58 1 _ _ i0 (.agg (wrC (0, zeros)).toArray) Try.underlying50 hi hz0 (by rw [hz1]; omega) (by rw [hz1]; omega) ?_
  have hz : ((Array.range (1 * i0.size)).map ((Value.agg (wrC (0, zeros)).toArray).cells[· % (Value.agg (wrC (0, zeros)).toArray).cells.size]!)).size = 257 := by simp [hz1]
  rw [hz1] at hz ⊢
  rw [fill_cons (off := 0) (size := 257) rfl (by show (wrC p).toArray.size = 257; simp [hl]) (by omega)]
  refine congrArg some ?_
  generalize hZ : (Array.range (1 * 257)).map ((Value.agg (wrC (0, zeros)).toArray).cells[· % (Value.agg (wrC (0, zeros)).toArray).cells.size]!) = Z at hz
  have he : (Value.agg (wrC p).toArray).cells.zipIdx.foldl (fun cs (x : Value × Nat) => cs.setIfInBounds (0 + x.2) x.1) Z = ((wrC p).zipIdx 0).foldl (fun cs (x : Value × Nat) => cs.setIfInBounds (0 + x.2) x.1) Z := by
    simp [Value.cells]
  rw [he]
  obtain ⟨h1, h2⟩ := Great.foldl_set 0 (wrC p) 0 Z
  apply arr_eq
  · rw [h1, hz, hl]
  · intro k hk
    rw [h2 k, if_pos ⟨by omega, by omega, by omega⟩]
    simp

/-- A write's zero value, and what comes of laying a number and a sector into it: as the walk asks it. -/
theorem zero_wr (n : Nat) (l : List Int) (hl : Sec l) : ∃ Z : Array Value, (∀ w, (zeroValue 58).run Try.prog w = .ok (.agg Z) w) ∧ Z.size = 257 ∧ Z ≠ #[] ∧ ¬ Z.size < 257 ∧
    (byC l).zipIdx.foldl (fun cs (x : Value × Nat) => cs.setIfInBounds (1 + x.2) x.1) (Z.setIfInBounds 0 (.int .i64 n)) = (wrC (n, l)).toArray := by
  obtain ⟨i0, hi, hz0, hz1, hz2⟩ := info_parts info_wr
  have hw : (wrC (0, zeros)).toArray.size = 257 := by simp [wrC_len (p := (0, zeros)) zeros_sec]
  refine ⟨(wrC (0, zeros)).toArray, fun w => by simp [zeroValue, typeInfo, hi, hz0], hw, fun e => ?_, by omega, ?_⟩
  · rw [e] at hw
    simp at hw
  · generalize (wrC (0, zeros)).toArray = Z at hw
    have := wr_fill Z hw n l hl
    rw [← this]
    simp

theorem foldl_whole (Y : Array Value) (l : List Value) (h : Y.size = l.length) : l.zipIdx.foldl (fun cs (x : Value × Nat) => cs.setIfInBounds x.2 x.1) Y = l.toArray := by
  obtain ⟨h1, h2⟩ := Great.foldl_set 0 l 0 Y
  simp only [Nat.zero_add] at h1 h2
  apply arr_eq
  · rw [h1, h]
  · intro k hk
    rw [h2 k, if_pos ⟨by omega, by omega, by omega⟩]
    simp

/-- The same, and a new block of it, as the walk asks them. -/
theorem zero_wr2 (n : Nat) (l : List Int) (hl : Sec l) : ∃ (Z : Array Value) (R : Array Nat), (∀ w, (zeroValue 58).run Try.prog w = .ok (.agg Z) w) ∧ Z.size = 257 ∧ Z ≠ #[] ∧ ¬ Z.size < 257 ∧ Array.range 257 = R ∧ R.size = 257 ∧
    (byC l).zipIdx.foldl (fun cs (x : Value × Nat) => cs.setIfInBounds (1 + x.2) x.1) (Z.setIfInBounds 0 (.int .i64 n)) = (wrC (n, l)).toArray ∧
    (wrC (n, l)).zipIdx.foldl (fun cs (x : Value × Nat) => cs.setIfInBounds x.2 x.1) (Array.map (fun x => Z[x % 257]!) R) = (wrC (n, l)).toArray := by
  obtain ⟨Z, h0, h1, h2, h3, h4⟩ := zero_wr n l hl
  refine ⟨Z, Array.range 257, h0, h1, h2, h3, rfl, by simp, h4, foldl_whole _ _ ?_⟩
  rw [Array.size_map, Array.size_range, wrC_len (p := (n, l)) hl]

theorem arrayAt_sec (A : Option Addr) (c : Nat) (w : World) : (Instr.arrayAt 55 (.slice A 256 c)).run Try.prog w = .ok (.pointer A) w := by
  simp [Instr.arrayAt, run_underlying (P := Try.prog) Try.underlying55, Result.andThen]
end Go.Proofs.Ytllkdcnejobinaa

/- steps of a region by an equation of the operation's run: a whole array loaded, a struct built, a slice of one struct, a new variable. No program is named; no condition. -/
namespace Go.Proofs.Ytllkdcnejobinaa
open Go.RowKit

section
variable {P : Program} {w w' : World} {ops : Array Oper} {rest : List Oper} {o : Oper} {a : Act}

theorem wanted_plain (hgd : o.guard = none) : Region.wanted o (yielded ops a.tmps) = true := by simp [Region.wanted, hgd]

theorem wpStill_run {Q : Act → Prop} (hgd : o.guard = none) {v : Value} (hrun : (execOp a.eval o).run P w = .ok (.value v) w) (h : wpStill P ops w Q rest (a.put o.dst v)) : wpStill P ops w Q (o :: rest) a := by
  refine wpStill_step fun K hK => ?_
  rw [if_pos (wanted_plain hgd)]
  unfold Oper.still
  rw [hrun]
  exact ⟨rfl, hK _ h⟩

theorem wpList_run {Q : Exit → Act → World → Prop} (hgd : o.guard = none) {v : Value} (hrun : (execOp a.eval o).run P w = .ok (.value v) w') (h : wpList P ops Q rest (a.put o.dst v) w') : wpList P ops Q (o :: rest) a w := by
  refine wpList_plain hgd fun K hK => ?_
  unfold Oper.wp
  rw [hrun]
  exact hK _ _ h

theorem exec_load {ty : TypeId} {x : Operand} (ho : o.op = .load ty x) {b off : Nat} (hx : a.eval x = .pointer (some ⟨b, off, none⟩)) {cs : List Value} {d : TypeDesc} (hc : w.rangeAt b off cs)
    (hu : P.underlying ty = some d) (hd : d.isRow = true) (hi : (P.info? ty).map (·.size) = some cs.length) : (execOp a.eval o).run P w = .ok (.value (.agg cs.toArray)) w := by
  unfold execOp
  simp only [ho, hx, Instr.loadAt, Instr.sureAddr, Sem.run_bind, Sem.run_pure, Result.andThen_ok, run_loadVar_mid w b off ty cs d hc hu hd hi]

theorem exec_build {t : TypeId} {parts : Array (Nat × Operand)} (ho : o.op = .build t parts) (ps : List (Nat × Value)) (he : (parts.toList.map fun x => (x.1, a.eval x.2)) = ps) {cells : Array Value} (hb : P.built t ps = some cells) :
    (execOp a.eval o).run P w = .ok (.value (.agg cells)) w := by
  unfold execOp
  have := run_build (P := P) w t (parts.map fun x => (x.1, a.eval x.2)) cells (by rw [Array.toList_map, he]; exact hb)
  simp only [ho, Sem.run_bind]
  rw [this]
  rfl

theorem exec_buildSlice {t : TypeId} {n : Nat} {parts : Array (Nat × Operand)} (ho : o.op = .buildSlice t n parts) (ps : List (Nat × Value)) (he : (parts.toList.map fun x => (x.1, a.eval x.2)) = ps) {v : Value} (hb : (Instr.buildSlice t n ps.toArray).run P w = .ok v w') :
    (execOp a.eval o).run P w = .ok (.value v) w' := by
  have he' : (parts.map fun x => (x.1, a.eval x.2)) = ps.toArray := by
    apply Array.toList_inj.1
    rw [Array.toList_map, he]
  unfold execOp
  simp only [ho, Sem.run_bind]
  rw [he', hb]
  rfl

theorem exec_alloc {t : TypeId} (ho : o.op = .alloc t) {z : Value} (hz : ∀ w, (zeroValue t).run P w = .ok z w) :
    (execOp a.eval o).run P w = .ok (.value (.pointer (some ⟨w.heap.size, 0, none⟩))) (w.alloc (.cells z.cells t)) := by
  unfold execOp
  simp only [ho, Sem.run_bind, Instr.alloc, hz, Result.andThen_ok]
  rfl

theorem exec_slice {t : TypeId} {x : Operand} {lo hi mx : Option Operand} (ho : o.op = .slice t x lo hi mx) {v : Value} (hb : (Instr.sliceAt t (a.eval x) (lo.map a.eval) (hi.map a.eval) (mx.map a.eval)).run P w = .ok v w') :
    (execOp a.eval o).run P w = .ok (.value v) w' := by
  unfold execOp
  simp only [ho, Sem.run_bind]
  rw [hb]
  rfl

theorem exec_makeSlice {t : TypeId} {x y : Operand} (ho : o.op = .makeSlice t x y) {v : Value} (hb : (Instr.makeSlice t (a.eval x) (a.eval y)).run P w = .ok v w') :
    (execOp a.eval o).run P w = .ok (.value v) w' := by
  unfold execOp
  simp only [ho, Sem.run_bind]
  rw [hb]
  rfl

theorem exec_lookup {t : TypeId} {m x : Operand} {c : Bool} (ho : o.op = .lookup t m x c) {v : Value} (hb : (Instr.lookup t (a.eval m) (a.eval x) c).run P w = .ok v w') :
    (execOp a.eval o).run P w = .ok (.value v) w' := by
  unfold execOp
  simp only [ho, Sem.run_bind]
  rw [hb]
  rfl

theorem exec_allocA {t : TypeId} (ho : o.op = .alloc t) {z : Array Value} (hz : ∀ w, (zeroValue t).run P w = .ok (.agg z) w) :
    (execOp a.eval o).run P w = .ok (.value (.pointer (some ⟨w.heap.size, 0, none⟩))) (w.alloc (.cells z t)) := exec_alloc ho hz

/-- A whole row into the block that was made last. -/
theorem wpList_store_new {Q : Exit → Act → World → Prop} {W : World} (hgd : o.guard = none) {ty : TypeId} {x y : Operand} (ho : o.op = .store ty x y) {c c' : Array Value} (hw : w = W.alloc (.cells c ty)) (hx : a.eval x = .pointer (some ⟨W.heap.size, 0, none⟩)) (hy : a.eval y = .agg c')
    (hi : (P.info? ty).map (·.size) = some c'.size) (hs : c.size = c'.size) (h1 : c'.all (·.oneCell') = true) (h : wpList P ops Q rest (a.put o.dst undef) (W.alloc (.cells c' ty))) : wpList P ops Q (o :: rest) a w := by
  subst hw
  refine wpList_store_row hgd ty x y ho W.heap.size c' hx hy ty c (heap_alloc_last W _) hi hs h1 ?_
  rw [World.setRow_alloc_new]
  exact h

/-- 'clear(x)' of a row of one's own; the row, cut to nothing. -/
theorem run_clear_own {base : Nat} {t e : TypeId} {i : TypeInfo} {z : Value} {size : Nat} (ty : TypeId) (ht : P.underlying t = some (.slice e)) (hi : P.info? e = some i) (hz : i.zero = some z) (hzs : z.cells.size = size) (hz1 : ∀ v ∈ z.cells.toList, v.oneCell' = true)
    {A : Option Addr} {n c : Nat} {xs : List Value} (hown : w.ownsRow base e size (.slice A n c) n xs) :
    ∃ w', (Builtin.clear_ #[t] ty #[.slice A n c]).run P w = .ok (.tuple #[]) w' ∧ w'.ownsRow base e size (.slice A 0 c) 0 [] ∧ w.grownBy w' (Value.slice A n c).ownBlock := by
  rcases hown.2 with ⟨hv, hn⟩ | ⟨g, cap, cur, hv, hb, hg, hnc, hm, hcs, htk⟩
  · injection hv with e1 e2 e3
    subst e1 e2 e3
    exact ⟨w, by simp [Builtin.clear_, run_underlying ht], World.ownsRow_nil _ _ _ _, World.grownBy.refl w _⟩
  · injection hv with e1 e2 e3
    subst e1 e3
    by_cases h0 : n = 0
    · subst h0
      exact ⟨w, by simp [Builtin.clear_, run_underlying ht], ⟨by simp, .inr ⟨g, c, cur, rfl, hb, hg, Nat.zero_le _, hm, hcs, by simp⟩⟩, World.grownBy.refl w _⟩
    · have hzl : (Builtin.zeroCells z.cells n).toList.length = n * size := by simp [size_zeroCells, hzs]
      have hz1' : ∀ v ∈ (Builtin.zeroCells z.cells n).toList, v.oneCell' = true := by
        intro v hv
        have hv' : v ∈ Builtin.zeroCells z.cells n := by simpa using hv
        unfold Builtin.zeroCells at hv'
        obtain ⟨j, hj, rfl⟩ := Array.mem_map.1 hv'
        by_cases hzz : z.cells.size = 0
        · rw [hzz] at hj
          simp at hj
        · have hlt : j % z.cells.size < z.cells.size := Nat.mod_lt _ (by omega)
          refine hz1 _ ?_
          rw [getElem!_pos z.cells (j % z.cells.size) hlt]
          simp
      have hle : n * size ≤ cur.size := by rw [hcs]; exact Nat.mul_le_mul_right _ hnc
      have hst := run_storeCells_at P g 0 e (Builtin.zeroCells z.cells n).toList 0 cur w hg (by rw [hzl]; omega) hz1'
      have hNs : (List.take (0 + 0) cur.toList ++ (Builtin.zeroCells z.cells n).toList ++ List.drop (0 + 0 + (Builtin.zeroCells z.cells n).toList.length) cur.toList).toArray.size = c * size := by
        simp only [List.size_toArray, List.length_append, List.length_take, List.length_drop, hzl, Array.length_toList]
        omega
      generalize (List.take (0 + 0) cur.toList ++ (Builtin.zeroCells z.cells n).toList ++ List.drop (0 + 0 + (Builtin.zeroCells z.cells n).toList.length) cur.toList).toArray = N at hst hNs
      refine ⟨w.setRow g N, ?_, ⟨by simp, .inr ⟨g, c, N, rfl, hb, setRow_heap w g cur N e _ hg, Nat.zero_le _, hm, hNs, by simp⟩⟩, ⟨rfl, rfl, rfl, by simp, fun k _ hk => setRow_other w g k N (fun q => hk (by simp [Value.ownBlock, q]))⟩⟩
      have hzv : (zeroValue e).run P w = .ok z w := by simp [zeroValue, typeInfo, hi, hz]
      have : ∃ m, n = m + 1 := ⟨n - 1, by omega⟩
      obtain ⟨m, rfl⟩ := this
      simp [Builtin.clear_, run_underlying ht, hzv, hst, Result.andThen]

theorem wpList_clear {Q : Exit → Act → World → Prop} (hgd : o.guard = none) {base : Nat} {t e : TypeId} {i : TypeInfo} {z : Value} {size : Nat} {x : Operand} (ho : o.op = .call { callee := .builtin .clear, args := #[x], argTypes := #[t] })
    (ht : P.underlying t = some (.slice e)) (hi : P.info? e = some i) (hz : i.zero = some z) (hzs : z.cells.size = size) (hz1 : ∀ v ∈ z.cells.toList, v.oneCell' = true)
    {A : Option Addr} {n c : Nat} {xs : List Value} (hx : a.eval x = .slice A n c) (hown : w.ownsRow base e size (.slice A n c) n xs)
    (h : ∀ w', w'.ownsRow base e size (.slice A 0 c) 0 [] → w.grownBy w' (Value.slice A n c).ownBlock → wpList P ops Q rest (a.put o.dst (.tuple #[])) w') : wpList P ops Q (o :: rest) a w := by
  obtain ⟨w', hr, h1, h2⟩ := run_clear_own (P := P) o.type ht hi hz hzs hz1 hown
  refine wpList_plain hgd fun K hK => ?_
  unfold Oper.wp execOp
  simp only [ho, resolve, invoke, builtin, Sem.run_bind, Sem.run_pure, Result.andThen_ok, List.map_toArray, List.map_cons, List.map_nil, hx, hr]
  exact hK _ _ (h w' h1 h2)

theorem exec_box {t : TypeId} {x : Operand} (ho : o.op = .box t x) :
    (execOp a.eval o).run P w = .ok (.value (.pointer (some ⟨w.heap.size, 0, none⟩))) (w.alloc (.cells (a.eval x).cells t)) := by
  unfold execOp
  simp only [ho, Sem.run_bind, Instr.box]
  rfl

/-- A struct that comes in is laid into a block of its own: the world behind it under a name. -/
theorem wpList_box {Q : Exit → Act → World → Prop} {W : World} (hgd : o.guard = none) {t : TypeId} {x : Operand} (ho : o.op = .box t x) {cs : Array Value} (hx : a.eval x = .agg cs) (hW : W = w.alloc (.cells cs t))
    (h : wpList P ops Q rest (a.put o.dst (.pointer (some ⟨w.heap.size, 0, none⟩))) W) : wpList P ops Q (o :: rest) a w := by
  subst hW
  refine wpList_run hgd (exec_box ho) ?_
  rw [hx]
  exact h

theorem exec_arrayAt {t : TypeId} {x : Operand} (ho : o.op = .sliceToArrayPointer t x) {v : Value} (hb : (Instr.arrayAt t (a.eval x)).run P w = .ok v w) :
    (execOp a.eval o).run P w = .ok (.value v) w := by
  unfold execOp
  simp only [ho, Sem.run_bind]
  rw [hb]
  rfl
end
end Go.Proofs.Ytllkdcnejobinaa

/- a region that draws its order, whose last operations go one behind the other: those ahead of them may be taken in an order of one's own, where what they read holds till the last ones begin. No program is named; no condition. -/
namespace Go.Proofs.Ytllkdcnejobinaa
open Go.RowKit

section
variable {P : Program} {ops : Array Oper} {Q : Exit → Act → World → Prop} {S : World → Prop} {n : Nat}

/-- Whatever comes up next; S holds behind each operation ahead of number n. -/
def Upto (P : Program) (ops : Array Oper) (Q : Exit → Act → World → Prop) (S : World → Prop) (n : Nat) : Nat → Array Bool → Act → World → Prop
  | 0, listed, a, w => Region.ready .any ops listed = [] ∧ Q .normal a w
  | fuel + 1, listed, a, w => (Region.ready .any ops listed = [] → Q .normal a w) ∧
    ∀ i ∈ Region.ready .any ops listed, wpOp P ops Q i (fun a' w' => (i < n → S w') ∧ Upto P ops Q S n fuel (listed.setIfInBounds i true) a' w') a w

theorem any_of_upto : ∀ (fuel : Nat) (listed : Array Bool) (a : Act) (w : World), Upto P ops Q S n fuel listed a w → wpAny P .any ops Q fuel listed a w
  | 0, _, _, _, h => h
  | fuel + 1, _, _, _, h => ⟨h.1, fun i hi => wpOp_mono (fun a' w' h' => any_of_upto fuel _ a' w' h'.2) (h.2 i hi)⟩

/-- The head's state, asked by the kernel. -/
def headB (ops : Array Oper) (n : Nat) (listed : Array Bool) : Bool :=
  listed.size == ops.size && (List.range ops.size).all (fun j => match ops[j]? with
    | none => true
    | some o => !listed.getD j false || o.after.toList.all fun e => !Region.binds .any e || listed.getD e.on false) &&
  (List.range ops.size).all fun t => decide (t < n) || !listed.getD t true

theorem headB_spec {listed : Array Bool} (h : headB ops n listed = true) : HeadInv .any ops n listed := by
  simp only [headB, Bool.and_eq_true, List.all_eq_true, List.mem_range, beq_iff_eq] at h
  obtain ⟨⟨h1, h2⟩, h3⟩ := h
  refine ⟨h1, fun j oj hj hl e he hb => ?_, fun t ht htl => ?_⟩
  · have := h2 j (Array.getElem?_eq_some_iff.1 hj).1
    simp only [hj, hl] at this
    rw [Bool.not_true, Bool.false_or] at this
    have he' := List.all_eq_true.1 this e (by simpa using he)
    simpa [hb] using he'
  · have := h3 t htl
    simpa [Nat.not_lt.2 ht] using this

/-- The region's own facts, asked by the kernel. -/
def tailB (ops : Array Oper) (n : Nat) : Bool := Region.noSelect ops && decide (n < ops.size) && Region.sinkB .any ops n && Region.chainB .any ops n

theorem upto_first (hB : tailB ops n = true) {i : Nat} {oi : Oper} {v : Value} (hin : i < n) (hi : ops[i]? = some oi)
    (hQ : ∀ c a w, Q (.panic c) (a.put oi.dst v) w → Q (.panic c) a w) :
    ∀ (fuel : Nat) (listed : Array Bool) (a : Act) (w : World), HeadInv .any ops n listed →
      (∀ j oj, ops[j]? = some oj → j ≠ i → listed.getD j true = false → (∀ e ∈ oj.after, Region.binds .any e = true → e.on ≠ i) → oi.apart ops oj = true) →
      i ∈ Region.ready .any ops listed → YieldsIf P ops S oi v a → S w →
      Upto P ops Q S n fuel (listed.setIfInBounds i true) (a.put oi.dst v) w → Upto P ops Q S n (fuel + 1) listed a w := by
  simp only [tailB, Bool.and_eq_true, decide_eq_true_eq] at hB
  obtain ⟨⟨⟨hsel0, hns⟩, hsk⟩, hch⟩ := hB
  have hsel := Region.noSelect_spec hsel0
  intro fuel
  induction fuel with
  | zero =>
    intro listed a w _ _ hr hy hS H
    refine ⟨fun h => (by rw [h] at hr; cases hr), fun j hj => ?_⟩
    by_cases hji : j = i
    · subst hji
      exact hy.wpOp hi hS ⟨fun _ => hS, H⟩
    · have := ready_mono hj hji
      rw [H.1] at this
      cases this
  | succ fuel ih =>
    intro listed a w inv hfree hr hy hS H
    refine ⟨fun h => (by rw [h] at hr; cases hr), fun j hj => ?_⟩
    by_cases hji : j = i
    · subst hji
      exact hy.wpOp hi hS ⟨fun _ => hS, H⟩
    · have h1 := H.2 j (ready_mono hj hji)
      have hun := (mem_ready.1 hr).1
      have hjn : j < n := by
        rcases Nat.lt_or_ge j n with h | h
        · exact h
        · exact absurd hj (tail_waits hsk hch hns inv _ i rfl hin hun j h)
      obtain ⟨hjun, oj, hoj, hall⟩ := mem_ready.1 hj
      have hnot : ∀ e ∈ oj.after, Region.binds .any e = true → e.on ≠ i := fun e he hb heq => by
        have h1 := hall e he hb
        rw [heq, getD_both hun] at h1
        cases h1
      have h2 := wpOp_putIf hoj (hfree j oj hoj hji hjun hnot) (fun cs b => hsel i oi cs b hi) (fun cs b => hsel j oj cs b hoj) hQ hy h1
      have hfree' : ∀ k ok, ops[k]? = some ok → k ≠ i → (listed.setIfInBounds j true).getD k true = false →
          (∀ e ∈ ok.after, Region.binds .any e = true → e.on ≠ i) → oi.apart ops ok = true := fun k ok hk hki hunk hno => by
        refine hfree k ok hk hki ?_ hno
        by_cases hjk : j = k
        · subst hjk; exact hjun
        · rw [getD_set_ne true hjk] at hunk; exact hunk
      refine wpOp_mono (fun a' w' h3 => ⟨h3.2.1, ih (listed.setIfInBounds j true) a' w' (inv.set hj hjn) hfree' (ready_mono hr (Ne.symm hji)) h3.1 (h3.2.1 hjn) ?_⟩) h2
      rw [Array.setIfInBounds_comm _ _ hji]
      exact h3.2.2

theorem drop_at {l rest : List Oper} {i : Nat} {o : Oper} (h : l.drop i = o :: rest) : l.toArray[i]? = some o := by
  have h0 : (l.drop i)[0]? = some o := by rw [h]; rfl
  rw [List.getElem?_drop] at h0
  simpa using h0

/-- An operation of the head is taken now. -/
theorem Upto.take {i : Nat} {oi : Oper} {v : Value} {fuel : Nat} {listed : Array Bool} {a : Act} {w : World} {l rest : List Oper} (hi : l.drop i = oi :: rest) (hc : (tailB l.toArray n && decide (i < n) && headB l.toArray n listed && Region.free .any l.toArray listed i && (Region.ready .any l.toArray listed).contains i) = true)
    (hQ : ∀ c a w, Q (.panic c) (a.put oi.dst v) w → Q (.panic c) a w) (hg : oi.guard = none) (hy : ∀ w, S w → (execOp a.eval oi).run P w = .ok (.value v) w) (hS : S w)
    (h : Upto P l.toArray Q S n fuel (listed.setIfInBounds i true) (a.put oi.dst v) w) : Upto P l.toArray Q S n (fuel + 1) listed a w := by
  have hi := drop_at hi
  simp only [Bool.and_eq_true, decide_eq_true_eq] at hc
  obtain ⟨⟨⟨⟨h1, h2⟩, h3⟩, h4⟩, h5⟩ := hc
  exact upto_first h1 h2 hi hQ fuel listed a w (headB_spec h3) (Region.free_spec hi h4) (by simpa using h5) (.inl ⟨wanted_plain hg, hy⟩) hS h

/-- The one operation that may come up now, whatever it does to the world. -/
theorem Upto.only {i : Nat} {oi : Oper} {v : Value} {fuel : Nat} {listed : Array Bool} {a : Act} {w w' : World} {l rest : List Oper} (hi : l.drop i = oi :: rest) (hc : Region.ready .any l.toArray listed = [i])
    (hg : oi.guard = none) (hy : (execOp a.eval oi).run P w = .ok (.value v) w') (hS : S w')
    (h : Upto P l.toArray Q S n fuel (listed.setIfInBounds i true) (a.put oi.dst v) w') : Upto P l.toArray Q S n (fuel + 1) listed a w := by
  have hi := drop_at hi
  refine ⟨fun h0 => (by rw [h0] at hc; cases hc), fun j hj => ?_⟩
  rw [hc] at hj
  have hji : j = i := by simpa using hj
  subst hji
  unfold wpOp
  simp only [hi, wanted_plain hg, if_true]
  refine .inl ?_
  unfold Oper.wp
  rw [hy]
  exact ⟨fun _ => hS, h⟩

/-- The same, by a law of its own. -/
theorem Upto.law {i : Nat} {oi : Oper} {fuel : Nat} {listed : Array Bool} {a : Act} {w : World} {l rest : List Oper} (hi : l.drop i = oi :: rest) (hc : Region.ready .any l.toArray listed = [i]) (hg : oi.guard = none)
    (h : ∀ K : Act → World → Prop, (∀ a' w', S w' → Upto P l.toArray Q S n fuel (listed.setIfInBounds i true) a' w' → K a' w') → oi.wp P a w K Q) : Upto P l.toArray Q S n (fuel + 1) listed a w := by
  have hi := drop_at hi
  refine ⟨fun h0 => (by rw [h0] at hc; cases hc), fun j hj => ?_⟩
  rw [hc] at hj
  have hji : j = i := by simpa using hj
  subst hji
  unfold wpOp
  simp only [hi, wanted_plain hg, if_true]
  exact .inl (h _ fun a' w' hS hU => ⟨fun _ => hS, hU⟩)

/-- A call of a Go function, by its contract. -/
theorem wp_enter {o : Oper} {a : Act} {w : World} {K : Act → World → Prop} {f : FuncId} {args : Array Value} {R : Ending → World → Prop} (hrun : (execOp a.eval o).run P w = .ok (.enter f args) w) (C : Calls P f args w R)
    (hR : ∀ e w', R e w' → ∃ v, e = .returned v ∧ K (a.put o.dst v) w') : o.wp P a w K Q := by
  unfold Oper.wp
  rw [hrun]
  refine C.mono fun e w' h => ?_
  obtain ⟨v, rfl, hK⟩ := hR e w' h
  exact hK

theorem upto_seq : ∀ (l : List Oper) (k : Nat) (listed : Array Bool) (a : Act) (w : World), n ≤ k → (∀ j, l[j]? = ops[k + j]?) →
    Region.seqB .any ops l.length k listed = true → wpList P ops Q l a w → Upto P ops Q S n l.length listed a w
  | [], k, listed, a, w, _, _, hB, h => ⟨by simpa [Region.seqB] using hB, h⟩
  | o :: l, k, listed, a, w, hk, hl, hB, h => by
    have h0 : ops[k]? = some o := by simpa using (hl 0).symm
    simp only [List.length_cons, Region.seqB, Bool.and_eq_true, decide_eq_true_eq] at hB
    refine ⟨fun h1 => (by rw [hB.1] at h1; cases h1), fun i hi => ?_⟩
    rw [hB.1] at hi
    have hik : i = k := by simpa using hi
    subst hik
    have hw : wpOp P ops Q i (wpList P ops Q l) a w := by unfold wpOp; simp only [h0]; exact h
    exact wpOp_mono (fun a' w' h' => ⟨fun hlt => absurd hlt (by omega), upto_seq l (i + 1) _ a' w' (by omega) (fun j => by have := hl (j + 1); simpa [Nat.add_assoc, Nat.add_comm 1 j] using this) hB.2 h'⟩) hw

/-- The last operations, one behind the other. -/
theorem Upto.tail {l : List Oper} {fuel : Nat} {listed : Array Bool} {a : Act} {w : World} (hf : (l.drop n).length = fuel) (hB : Region.seqB .any l.toArray fuel n listed = true) (h : wpList P l.toArray Q (l.drop n) a w) : Upto P l.toArray Q S n fuel listed a w := by
  subst hf
  exact upto_seq (l.drop n) n listed a w (Nat.le_refl _) (fun j => by simp [List.getElem?_drop]) hB h

/-- The beginning. -/
theorem upto_start {id : Nat} {a : Act} {w : World} (S : World → Prop) (n : Nat) (hm : P.follows .mixedOrders = true) (h : Upto P ops Q S n ops.size (Array.replicate ops.size false) a w.drew) : (Code.region id ops true).wp P Q a w :=
  wp_region_any hm (any_of_upto _ _ _ _ h)
end
end Go.Proofs.Ytllkdcnejobinaa
