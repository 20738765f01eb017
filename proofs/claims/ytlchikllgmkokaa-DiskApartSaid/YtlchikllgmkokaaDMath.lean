/- What it says: the simulated disk in plain mathematics: what is synchronized, the writes since, the fuse; what each call makes of it. No program is named. -/
import Derived.Laws.World
namespace Go.Proofs.Ytlchikllgmkokaa

/-- A sector's bytes. -/
def Sec (l : List Int) : Prop := l.length = 256 ∧ ∀ x ∈ l, 0 ≤ x ∧ x < 256
def zeros : List Int := List.replicate 256 0
theorem zeros_sec : Sec zeros := ⟨List.length_replicate, fun x hx => by
  obtain ⟨_, rfl⟩ := List.mem_replicate.1 hx
  omega⟩

structure St where
  num : Nat
  syn : Nat → List Int
  pend : List (Nat × List Int)
  left : Int
  gone : Bool
  syncs : Nat

/-- Write number i. -/
def St.at_ (s : St) (i : Nat) : Nat × List Int := s.pend.getD i (0, zeros)

structure St.Ok (s : St) : Prop where
  num : 1 ≤ s.num ∧ s.num ≤ 4096
  syn : ∀ n, Sec (s.syn n)
  pend : ∀ p ∈ s.pend, p.1 < s.num ∧ Sec p.2
  left : -1 ≤ s.left ∧ s.left ≤ 9223372036854775807

theorem St.Ok.at_ {s : St} (h : s.Ok) (i : Nat) (hi : i < s.pend.length) : (s.at_ i).1 < s.num ∧ Sec (s.at_ i).2 := by
  have e : s.at_ i = s.pend[i] := by simp [St.at_, List.getD, List.getElem?_eq_getElem hi]
  rw [e]
  exact h.pend _ (List.getElem_mem hi)

/-- A new disk. -/
def St.new (n : Nat) : St := ⟨n, fun _ => zeros, [], -1, false, 0⟩
theorem St.new_ok {n : Nat} (h : 1 ≤ n ∧ n ≤ 4096) : (St.new n).Ok := ⟨h, fun _ => zeros_sec, fun p hp => by simp [St.new] at hp, by simp [St.new]⟩

/-- May a step be made? -/
def St.can (s : St) : Bool := !s.gone && !(s.left == 0)
/-- Behind the attempt of one. -/
def St.step (s : St) : St := if s.gone then s else if s.left = 0 then { s with gone := true } else if 0 < s.left then { s with left := s.left - 1 } else s

theorem St.step_num (s : St) : s.step.num = s.num := by unfold St.step; split <;> (try rfl); split <;> (try rfl); split <;> rfl
theorem St.step_syn (s : St) : s.step.syn = s.syn := by unfold St.step; split <;> (try rfl); split <;> (try rfl); split <;> rfl
theorem St.step_pend (s : St) : s.step.pend = s.pend := by unfold St.step; split <;> (try rfl); split <;> (try rfl); split <;> rfl
theorem St.step_syncs (s : St) : s.step.syncs = s.syncs := by unfold St.step; split <;> (try rfl); split <;> (try rfl); split <;> rfl
theorem St.Ok.step {s : St} (h : s.Ok) : s.step.Ok := by
  refine ⟨by rw [St.step_num]; exact h.num, by rw [St.step_syn]; exact h.syn, by rw [St.step_pend, St.step_num]; exact h.pend, ?_⟩
  have hl := h.left
  unfold St.step
  split
  · exact hl
  · split
    · exact hl
    · split
      · show -1 ≤ s.left - 1 ∧ s.left - 1 ≤ _
        omega
      · exact hl

/-- n holds l now. -/
def upd (f : Nat → List Int) (n : Nat) (l : List Int) : Nat → List Int := fun m => if m = n then l else f m
theorem upd_sec {f : Nat → List Int} (h : ∀ n, Sec (f n)) {l : List Int} (hl : Sec l) (n : Nat) : ∀ m, Sec (upd f n l m) := fun m => by
  unfold upd
  split
  · exact hl
  · exact h m

/-- What is there behind the first k writes. -/
def St.upTo (s : St) : Nat → Nat → List Int
  | 0 => s.syn
  | k + 1 => upd (s.upTo k) (s.at_ k).1 (s.at_ k).2

theorem St.Ok.upTo {s : St} (h : s.Ok) : ∀ k, k ≤ s.pend.length → ∀ n, Sec (s.upTo k n)
  | 0, _ => h.syn
  | k + 1, hk => upd_sec (h.upTo k (by omega)) (h.at_ k (by omega)).2 _

/-- What is there of a sector. -/
def St.now (s : St) (n : Nat) : List Int := s.upTo s.pend.length n
theorem St.Ok.now {s : St} (h : s.Ok) (n : Nat) : Sec (s.now n) := h.upTo _ (Nat.le_refl _) n

theorem St.upTo_same (s : St) (n i : Nat) : ∀ k, i ≤ k → (∀ j, i ≤ j → j < k → (s.at_ j).1 ≠ n) → s.upTo k n = s.upTo i n
  | 0, h, _ => by obtain rfl : i = 0 := by omega
                  rfl
  | k + 1, h, hn => by
    by_cases he : i = k + 1
    · subst he; rfl
    · have := hn k (by omega) (by omega)
      show upd (s.upTo k) (s.at_ k).1 (s.at_ k).2 n = _
      unfold upd
      rw [if_neg (fun e => this e.symm)]
      exact St.upTo_same s n i k (by omega) (fun j h1 h2 => hn j h1 (by omega))

theorem St.now_last (s : St) (n i : Nat) (hi : i < s.pend.length) (h : (s.at_ i).1 = n) (hn : ∀ j, i < j → j < s.pend.length → (s.at_ j).1 ≠ n) : s.now n = (s.at_ i).2 := by
  have := St.upTo_same s n (i + 1) s.pend.length (by omega) (fun j h1 h2 => hn j (by omega) h2)
  unfold St.now
  rw [this]
  show upd (s.upTo i) (s.at_ i).1 (s.at_ i).2 n = _
  unfold upd
  rw [if_pos h.symm]

theorem St.now_none (s : St) (n : Nat) (hn : ∀ j, j < s.pend.length → (s.at_ j).1 ≠ n) : s.now n = s.syn n :=
  St.upTo_same s n 0 s.pend.length (Nat.zero_le _) (fun j _ h2 => hn j h2)

/-- Behind a write that is made. -/
def St.wrote (s : St) (n : Nat) (l : List Int) : St := { s.step with pend := s.pend ++ [(n, l)] }
theorem St.Ok.wrote {s : St} (h : s.Ok) {n : Nat} {l : List Int} (hn : n < s.num) (hl : Sec l) : (s.wrote n l).Ok := by
  have h' := h.step
  refine ⟨h'.num, h'.syn, fun p hp => ?_, h'.left⟩
  show p.1 < s.step.num ∧ _
  rw [St.step_num]
  rcases List.mem_append.1 hp with hp | hp
  · exact h.pend p hp
  · simp at hp
    subst hp
    exact ⟨hn, hl⟩

/-- What a write answers. -/
def St.wErr (s : St) (n : Int) (l : List Int) : Int := if n < 0 ∨ (s.num : Int) ≤ n then 1 else if l.length ≠ 256 then 12 else if s.can then 0 else 40
/-- What a write leaves. -/
def St.write (s : St) (n : Int) (l : List Int) : St := if n < 0 ∨ (s.num : Int) ≤ n then s else if l.length ≠ 256 then s else if s.can then s.wrote n.toNat l else s.step

theorem St.Ok.write {s : St} (h : s.Ok) {n : Int} {l : List Int} (hl : ∀ x ∈ l, 0 ≤ x ∧ x < 256) : (s.write n l).Ok := by
  unfold St.write
  split
  · exact h
  · split
    · exact h
    · split
      · exact h.wrote (by omega) ⟨by omega, hl⟩
      · exact h.step

/-- Behind a synchronization that is made. -/
def St.synced (s : St) : St := { s.step with syn := s.now, pend := [], syncs := s.syncs + 1 }
def St.sErr (s : St) : Int := if s.can then 0 else 40
def St.sync (s : St) : St := if s.can then s.synced else s.step
theorem St.Ok.sync {s : St} (h : s.Ok) : s.sync.Ok := by
  unfold St.sync
  split
  · exact ⟨h.step.num, h.now, fun p hp => by simp [St.synced] at hp, h.step.left⟩
  · exact h.step

/-- Behind a fuse. -/
def St.fuse (s : St) (n : Int) : St := { s with left := max n (-1) }
theorem St.Ok.fuse {s : St} (h : s.Ok) {n : Int} (hn : n ≤ 9223372036854775807) : (s.fuse n).Ok := ⟨h.num, h.syn, h.pend, by show -1 ≤ max n (-1) ∧ max n (-1) ≤ _; omega⟩

/-- What a read answers. -/
def St.rErr (s : St) (n : Int) : Int := if n < 0 ∨ (s.num : Int) ≤ n then 1 else if s.gone then 40 else 0

/-- A crash: the writes that are kept, torn or not, and how much of the last one. -/
structure Crs where
  keep : List Int
  torn : Bool
  cut : Int
def clamp (c : Int) : Nat := (min (max c 0) 256).toNat
theorem clamp_le (c : Int) : clamp c ≤ 256 := by unfold clamp; omega
/-- How much is left of write number i, of len. -/
def Crs.of (c : Crs) (len i : Nat) : Nat := if c.torn = true ∧ i + 1 = len then clamp c.cut else if (i : Int) ∈ c.keep then 256 else 0
theorem Crs.of_le (c : Crs) (len i : Nat) : c.of len i ≤ 256 := by
  unfold Crs.of
  split
  · exact clamp_le _
  · split <;> omega

/-- k bytes of l over m. -/
def over (l m : List Int) (k : Nat) : List Int := l.take k ++ m.drop k
theorem over_sec {l m : List Int} (hl : Sec l) (hm : Sec m) (k : Nat) (hk : k ≤ 256) : Sec (over l m k) := by
  refine ⟨by simp [over, hl.1, hm.1]; omega, fun x hx => ?_⟩
  rcases List.mem_append.1 hx with h | h
  · exact hl.2 x (List.mem_of_mem_take h)
  · exact hm.2 x (List.mem_of_mem_drop h)

/-- What a crash has left behind the first k writes. -/
def St.left_ (s : St) (cut : Nat → Nat) : Nat → Nat → List Int
  | 0 => s.syn
  | k + 1 => upd (s.left_ cut k) (s.at_ k).1 (over (s.at_ k).2 (s.left_ cut k (s.at_ k).1) (cut k))

theorem St.Ok.left_ {s : St} (h : s.Ok) {cut : Nat → Nat} (hc : ∀ i, cut i ≤ 256) : ∀ k, k ≤ s.pend.length → ∀ n, Sec (s.left_ cut k n)
  | 0, _ => h.syn
  | k + 1, hk => upd_sec (h.left_ hc k (by omega)) (over_sec (h.at_ k (by omega)).2 (h.left_ hc k (by omega) _) _ (hc k)) _

def St.crash (s : St) (c : Crs) : St := ⟨s.num, s.left_ (c.of s.pend.length) s.pend.length, [], -1, false, 0⟩
theorem St.Ok.crash {s : St} (h : s.Ok) (c : Crs) : (s.crash c).Ok := ⟨h.num, h.left_ (c.of_le _) _ (Nat.le_refl _), fun p hp => by simp [St.crash] at hp, by simp [St.crash]⟩

/-- Blocks of one size, one behind the other. -/
theorem flatMap_at {α β : Type} (f : α → List β) (k : Nat) : ∀ (l : List α) (i j : Nat) (x : α), (∀ y ∈ l, (f y).length = k) → l[i]? = some x → j < k → (l.flatMap f)[i * k + j]? = (f x)[j]?
  | [], i, j, x, _, h, _ => by simp at h
  | y :: r, 0, j, x, hl, h, hj => by
    simp at h
    subst h
    have := hl y (.head _)
    rw [List.flatMap_cons, List.getElem?_append_left (by omega)]
    simp
  | y :: r, i + 1, j, x, hl, h, hj => by
    have hy := hl y (.head _)
    rw [List.flatMap_cons, List.getElem?_append_right (by rw [hy, Nat.add_mul]; omega)]
    rw [show (i + 1) * k + j - (f y).length = i * k + j from by rw [hy, Nat.add_mul]; omega]
    exact flatMap_at f k r i j x (fun z hz => hl z (.tail _ hz)) (by simpa using h) hj

theorem flatMap_len {α β : Type} (f : α → List β) (k : Nat) : ∀ (l : List α), (∀ y ∈ l, (f y).length = k) → (l.flatMap f).length = l.length * k
  | [], _ => by simp
  | y :: r, hl => by
    rw [List.flatMap_cons, List.length_append, hl y (.head _), flatMap_len f k r (fun z hz => hl z (.tail _ hz))]
    simp [Nat.add_mul, Nat.add_comm]
end Go.Proofs.Ytlchikllgmkokaa
