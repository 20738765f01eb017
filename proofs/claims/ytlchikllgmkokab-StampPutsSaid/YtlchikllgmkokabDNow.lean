/- What it says: what the plain disk has behind a write that is made, a synchronization, a crash. No program is named. -/
import Derived.Test.YtlchikllgmkokabDMath
namespace Go.Proofs.Ytlchikllgmkokab

theorem upd_at (f : Nat → List Int) (n : Nat) (l : List Int) : upd f n l n = l := by unfold upd; rw [if_pos rfl]
theorem upd_ne (f : Nat → List Int) {n m : Nat} (l : List Int) (h : m ≠ n) : upd f n l m = f m := by unfold upd; rw [if_neg h]

section
variable {s : St} {n : Nat} {l : List Int}
theorem wrote_len : (s.wrote n l).pend.length = s.pend.length + 1 := by show (s.pend ++ [_]).length = _; simp
theorem wrote_at (i : Nat) (h : i < s.pend.length) : (s.wrote n l).at_ i = s.at_ i := by
  show (s.pend ++ [_]).getD i _ = s.pend.getD i _
  simp [List.getD, List.getElem?_append_left h]
theorem wrote_last : (s.wrote n l).at_ s.pend.length = (n, l) := by
  show (s.pend ++ [_]).getD s.pend.length _ = _
  simp
theorem wrote_syn : (s.wrote n l).syn = s.syn := St.step_syn s
theorem wrote_upTo : ∀ k, k ≤ s.pend.length → (s.wrote n l).upTo k = s.upTo k
  | 0, _ => wrote_syn
  | k + 1, hk => by
    show upd ((s.wrote n l).upTo k) ((s.wrote n l).at_ k).1 ((s.wrote n l).at_ k).2 = upd (s.upTo k) (s.at_ k).1 (s.at_ k).2
    rw [wrote_upTo k (by omega), wrote_at k (by omega)]
theorem wrote_now : (s.wrote n l).now = upd s.now n l := by
  funext m
  show (s.wrote n l).upTo (s.wrote n l).pend.length m = _
  rw [wrote_len]
  show upd ((s.wrote n l).upTo s.pend.length) ((s.wrote n l).at_ s.pend.length).1 ((s.wrote n l).at_ s.pend.length).2 m = _
  rw [wrote_upTo _ (Nat.le_refl _), wrote_last]
  rfl
theorem synced_now : s.synced.now = s.now := rfl
theorem now_nothing (h : s.pend = []) : s.now = s.syn := by
  funext m
  unfold St.now
  rw [h]
  rfl

/-- A crash behind one write. -/
theorem crash_one (h : s.pend = []) (c : Crs) : ((s.wrote n l).crash c).syn = upd s.syn n (over l (s.syn n) (c.of 1 0)) := by
  have hl : (s.wrote n l).pend.length = 1 := by rw [wrote_len, h]; rfl
  show (s.wrote n l).left_ (c.of (s.wrote n l).pend.length) (s.wrote n l).pend.length = _
  rw [hl]
  have hat : (s.wrote n l).at_ 0 = (n, l) := by
    have := wrote_last (s := s) (n := n) (l := l)
    rwa [h] at this
  show upd ((s.wrote n l).left_ (c.of 1) 0) ((s.wrote n l).at_ 0).1 (over ((s.wrote n l).at_ 0).2 ((s.wrote n l).left_ (c.of 1) 0 ((s.wrote n l).at_ 0).1) (c.of 1 0)) = _
  rw [hat]
  show upd (s.wrote n l).syn n (over l ((s.wrote n l).syn n) (c.of 1 0)) = _
  rw [wrote_syn]
end
end Go.Proofs.Ytlchikllgmkokab
