/- What it says: what a crash leaves of a sector, in the plain disk: what was synchronized, or one of its writes, or a beginning of the last write over one of these. No program is named. -/
import Derived.Test.YtlchikllgmkokabDMath
namespace Go.Proofs.Ytlchikllgmkokab

theorem over_none (l m : List Int) : over l m 0 = m := by simp [over]
theorem over_full {l m : List Int} (hl : Sec l) (hm : Sec m) : over l m 256 = l := by
  unfold over
  rw [List.take_of_length_le (by rw [hl.1]; omega), List.drop_of_length_le (by rw [hm.1]; omega), List.append_nil]
theorem over_take {l m : List Int} (hl : Sec l) (k : Nat) (hk : k ≤ 256) : (over l m k).take k = l.take k := by
  unfold over
  have h : (l.take k).length = k := by rw [List.length_take, hl.1]; omega
  rw [List.take_append_of_le_length (by omega), List.take_of_length_le (by omega)]
theorem over_drop {l m : List Int} (hl : Sec l) (k : Nat) (hk : k ≤ 256) : (over l m k).drop k = m.drop k := by
  unfold over
  have h : (l.take k).length = k := by rw [List.length_take, hl.1]; omega
  rw [List.drop_append_of_le_length (by omega), List.drop_of_length_le (by omega), List.nil_append]

theorem left_kept {s : St} (ok : s.Ok) {cut : Nat → Nat} : ∀ k, k ≤ s.pend.length → (∀ i, i < k → cut i = 0 ∨ cut i = 256) → ∀ n, s.left_ cut k n = s.syn n ∨ ∃ i, i < k ∧ (s.at_ i).1 = n ∧ s.left_ cut k n = (s.at_ i).2
  | 0, _, _, _ => .inl rfl
  | k + 1, hk, hc, n => by
    have ih := left_kept ok (cut := cut) k (by omega) (fun i hi => hc i (by omega)) n
    have e : s.left_ cut (k + 1) n = if n = (s.at_ k).1 then over (s.at_ k).2 (s.left_ cut k (s.at_ k).1) (cut k) else s.left_ cut k n := rfl
    rw [e]
    by_cases hn : n = (s.at_ k).1
    · rw [if_pos hn]
      rcases hc k (by omega) with h0 | h0
      · rw [h0, over_none, ← hn]
        rcases ih with q | ⟨i, q1, q2, q3⟩
        · exact .inl q
        · exact .inr ⟨i, by omega, q2, q3⟩
      · rw [h0]
        have h1 := ok.at_ k (by omega)
        have hs : Sec (s.left_ cut k (s.at_ k).1) := by
          rcases left_kept ok (cut := cut) k (by omega) (fun i hi => hc i (by omega)) (s.at_ k).1 with q | ⟨i, q1, _, q3⟩
          · rw [q]; exact ok.syn _
          · rw [q3]; exact (ok.at_ i (by omega)).2
        rw [over_full h1.2 hs]
        exact .inr ⟨k, by omega, hn.symm, rfl⟩
    · rw [if_neg hn]
      rcases ih with q | ⟨i, q1, q2, q3⟩
      · exact .inl q
      · exact .inr ⟨i, by omega, q2, q3⟩

theorem of_whole (c : Crs) (len i : Nat) (h : ¬ (c.torn = true ∧ i + 1 = len)) : c.of len i = 0 ∨ c.of len i = 256 := by
  unfold Crs.of
  rw [if_neg h]
  split
  · exact .inr rfl
  · exact .inl rfl

/-- Where nothing was torn, or not there. -/
theorem leaves_whole {s : St} (ok : s.Ok) (c : Crs) (n : Nat) (h : ∀ j, s.pend.length = j + 1 → (s.at_ j).1 = n → c.torn = false) :
    (s.crash c).now n = s.syn n ∨ ∃ i, i < s.pend.length ∧ (s.at_ i).1 = n ∧ (s.crash c).now n = (s.at_ i).2 := by
  show s.left_ (c.of s.pend.length) s.pend.length n = _ ∨ ∃ i, _ ∧ _ ∧ s.left_ (c.of s.pend.length) s.pend.length n = _
  by_cases h0 : s.pend.length = 0
  · rw [h0]
    exact .inl rfl
  · obtain ⟨j, hj⟩ : ∃ j, s.pend.length = j + 1 := ⟨s.pend.length - 1, by omega⟩
    by_cases ht : c.torn = true
    · have hn : (s.at_ j).1 ≠ n := fun e => by have := h j hj e; rw [this] at ht; cases ht
      rw [hj]
      have e : s.left_ (c.of (j + 1)) (j + 1) n = s.left_ (c.of (j + 1)) j n := by
        show upd _ _ _ n = _
        unfold upd
        rw [if_neg (fun q => hn q.symm)]
      rw [e]
      rcases left_kept ok (cut := c.of (j + 1)) j (by omega) (fun i hi => of_whole c _ i (by omega)) n with q | ⟨i, q1, q2, q3⟩
      · exact .inl q
      · exact .inr ⟨i, by omega, q2, q3⟩
    · exact left_kept ok s.pend.length (Nat.le_refl _) (fun i _ => of_whole c _ i (fun q => ht q.1)) n

/-- Where the last write is torn. -/
theorem leaves_torn {s : St} (ok : s.Ok) (c : Crs) (n j : Nat) (hj : s.pend.length = j + 1) (hn : (s.at_ j).1 = n) (ht : c.torn = true) :
    ((s.crash c).now n).take (clamp c.cut) = (s.at_ j).2.take (clamp c.cut) ∧ (((s.crash c).now n).drop (clamp c.cut) = (s.syn n).drop (clamp c.cut) ∨ ∃ i, i < j ∧ (s.at_ i).1 = n ∧ ((s.crash c).now n).drop (clamp c.cut) = (s.at_ i).2.drop (clamp c.cut)) := by
  have hk := clamp_le c.cut
  have e : (s.crash c).now n = over (s.at_ j).2 (s.left_ (c.of (j + 1)) j n) (clamp c.cut) := by
    show s.left_ (c.of s.pend.length) s.pend.length n = _
    rw [hj]
    show upd _ _ _ n = _
    unfold upd
    rw [if_pos hn.symm, hn]
    congr 1
    unfold Crs.of
    rw [if_pos ⟨ht, rfl⟩]
  have hs := (ok.at_ j (by omega)).2
  rw [e, over_take hs _ hk, over_drop hs _ hk]
  refine ⟨rfl, ?_⟩
  rcases left_kept ok (cut := c.of (j + 1)) j (by omega) (fun i hi => of_whole c _ i (by omega)) n with q | ⟨i, q1, q2, q3⟩
  · exact .inl (by rw [q])
  · exact .inr ⟨i, q1, q2, by rw [q3]⟩
end Go.Proofs.Ytlchikllgmkokab
