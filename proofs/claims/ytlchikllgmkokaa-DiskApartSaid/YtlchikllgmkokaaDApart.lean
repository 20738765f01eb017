/- What it says: a write from a block that is held beside the disk; things in memory in another order; a store into a block that is held. -/
import Derived.Test.YtlchikllgmkokaaPlayed
namespace Go.Proofs.Ytlchikllgmkokaa
open Go.RowKit

theorem Res.star_assoc1 {R S T : Res} {w : World} {F : Nat → Prop} (h : ((R.star S).star T).is w F) : (R.star (S.star T)).is w F := by
  obtain ⟨F1, F2, ⟨F3, F4, a1, a2, a3, a4, a5, a6⟩, h2, h3, h4, h5, h6⟩ := h
  refine ⟨F3, fun k => F4 k ∨ F2 k, a1, ⟨F4, F2, a2, h2, fun k f => h3 k (a5 k f), fun _ f => .inl f, fun _ f => .inr f, ?_⟩, ?_, fun k f => h4 k (a4 k f), ?_, h6⟩
  · intro k f
    rcases f with f | f
    · exact a6 k (a5 k f)
    · exact h6 k (h5 k f)
  · intro k f g
    rcases g with g | g
    · exact a3 k f g
    · exact h3 k (a4 k f) g
  · intro k f
    rcases f with f | f
    · exact h4 k (a5 k f)
    · exact h5 k f
theorem Res.map2 {R S S' : Res} {w : World} {F : Nat → Prop} (h : (R.star S).is w F) (hm : ∀ F, S.is w F → S'.is w F) : (R.star S').is w F := by
  obtain ⟨F1, F2, h1, h2, h3⟩ := h
  exact ⟨F1, F2, h1, hm F2 h2, h3⟩
theorem Res.swap {R S T : Res} {w : World} {F : Nat → Prop} (h : (R.star (S.star T)).is w F) : (S.star (R.star T)).is w F := Res.map2 (Res.star_assoc1 (Res.star_comm h)) fun _ => Res.star_comm

section
variable {B : Nat} {K A X C D Y Z : Res} {w : World}
theorem foc3 (h : Has B (K.star (A.star (C.star Y))) w) : Has B (C.star (K.star (A.star Y))) w := (h.map2 fun _ => Res.swap).swap
theorem foc4 (h : Has B (K.star (A.star (X.star (C.star Y)))) w) : Has B (C.star (K.star (A.star (X.star Y)))) w := foc3 (h.map2 fun _ q => Res.map2 q fun _ => Res.swap)
theorem foc5 (h : Has B (K.star (A.star (X.star (C.star (D.star Y))))) w) : Has B (D.star (K.star (A.star (X.star (C.star Y))))) w :=
  foc4 (h.map2 fun _ q => Res.map2 q fun _ q => Res.map2 q fun _ => Res.swap)
/-- The other two first again. -/
theorem perm4 {F : Nat → Prop} (h : (D.star (C.star (A.star (X.star Z)))).is w F) : (A.star (X.star (C.star (D.star Z)))).is w F := by
  have h1 : (C.star (A.star (X.star (D.star Z)))).is w F := Res.map2 (Res.swap h) fun _ q => Res.map2 (Res.swap q) fun _ => Res.swap
  exact Res.map2 (Res.swap h1) fun _ q => Res.swap q
end

section
variable {B : Nat} {R : Res} {w : World} {b gg : Nat} {s : St} {t : TypeId} {cs : Array Value}

/-- What is written lies in a block that is held beside the disk. -/
theorem hasD_writeK (h : Has B ((dsk b s).star ((blkR gg t cs).star R)) w) (hB : B ≤ w.heap.size) {m c : Nat} {l : List Int} (hl : Byt w (some ⟨gg, 0, none⟩) m c l)
    (n : Int) (hn : -9223372036854775808 ≤ n ∧ n ≤ 9223372036854775807) (hlim : s.pend.length < 999999) :
    Calls Try.prog 13 #[.pointer (some ⟨b, 0, none⟩), .int .i64 n, .slice (some ⟨gg, 0, none⟩) m c] w (RetHas (.int .i64 (s.wErr n l)) B ((dsk b (s.write n l)).star ((blkR gg t cs).star R)) w) := by
  have hlen := hl.len
  obtain ⟨F0, hF0, hF0B⟩ := h
  have hkeep := hF0
  obtain ⟨F1, F2, a1, a2, a3, a4, a5, a6⟩ := hkeep
  have hgF : F2 gg := by
    obtain ⟨G1, G2, g1, _, _, g4, _⟩ := a2
    exact g4 gg g1.2.1
  have hnot : ∀ k, (Value.slice (some ⟨gg, 0, none⟩) m c).ownBlock = some k → ¬ F1 k := fun k hk f => by
    have e : gg = k := by simpa [Value.ownBlock] using hk
    subst e
    exact a3 gg f hgF
  have done : ∀ s' w', Turn (dsk b s') F1 w w' → Has B ((dsk b s').star ((blkR gg t cs).star R)) w' ∧ Below B w w' := by
    intro s' w' t'
    have key : Turn ((dsk b s').star ((blkR gg t cs).star R)) F0 w w' := by
      obtain ⟨t1, t2⟩ := t'
      refine ⟨⟨grow F1 w w', F2, t1, Res.keep _ w w' F2 a2 t2.size (fun k f => t2.block k (Res.lt _ w F2 a2 k f) (fun g => a3 k g f)), ?_, ?_, fun k f => .inl (a5 k f), ?_⟩, t2.mono a4⟩
      · intro k f g
        rcases f with f | f
        · exact a3 k f g
        · have := Res.lt _ w F2 a2 k g; omega
      · intro k f
        rcases f with f | f
        · exact .inl (a4 k f)
        · exact .inr f
      · intro k f
        rcases f with f | f
        · exact Nat.lt_of_lt_of_le (a6 k f) t2.size
        · exact f.2
    refine ⟨⟨_, key.1, fun k f => ?_⟩, key.2.below hB hF0B⟩
    rcases f with f | f
    · exact hF0B k f
    · omega
  obtain ⟨mb, A1, c1, hd⟩ := a1
  by_cases h1 : n < 0 ∨ (s.num : Int) ≤ n
  · have e1 : s.wErr n l = 1 := by unfold St.wErr; rw [if_pos h1]
    have e2 : s.write n l = s := by unfold St.write; rw [if_pos h1]
    rw [e1, e2]
    exact (write_bad w F1 b mb A1 c1 s hd n h1 _).mono fun e w' ⟨he, ht⟩ => ⟨he, done s w' ht⟩
  · obtain ⟨j, rfl⟩ := Int.eq_ofNat_of_zero_le (show 0 ≤ n by omega)
    have hj : j < s.num := by omega
    by_cases h2 : m = 256
    · subst h2
      by_cases h3 : s.can = true
      · have e1 : s.wErr j l = 0 := by unfold St.wErr; rw [if_neg h1, if_neg (by omega), if_pos h3]
        have e2 : s.write j l = s.wrote j l := by unfold St.write; rw [if_neg h1, if_neg (by omega), if_pos h3]; rfl
        rw [e1, e2]
        exact (write_made w F1 b mb A1 c1 s hd j hj (some ⟨gg, 0, none⟩) c l hl hnot h3 hlim).mono fun e w' ⟨he, ht⟩ => ⟨he, done _ w' ht⟩
      · have h3' : s.can = false := by simpa using h3
        have e1 : s.wErr j l = 40 := by unfold St.wErr; rw [if_neg h1, if_neg (by omega), if_neg h3]
        have e2 : s.write j l = s.step := by unfold St.write; rw [if_neg h1, if_neg (by omega), if_neg h3]
        rw [e1, e2]
        exact (write_down w F1 b mb A1 c1 s hd j hj (some ⟨gg, 0, none⟩) c h3').mono fun e w' ⟨he, ht⟩ => ⟨he, done _ w' ht⟩
    · have e1 : s.wErr j l = 12 := by unfold St.wErr; rw [if_neg h1, if_pos (by omega)]
      have e2 : s.write j l = s := by unfold St.write; rw [if_neg h1, if_pos (by omega)]
      rw [e1, e2]
      exact (write_len w F1 b mb A1 c1 s hd j hj (some ⟨gg, 0, none⟩) m c h2).mono fun e w' ⟨he, ht⟩ => ⟨he, done s w' ht⟩

theorem blk_set (h : Has B ((blkR gg t cs).star R) w) (hB : B ≤ w.heap.size) (i : Nat) (u : Value) :
    Has B ((blkR gg t (cs.setIfInBounds i u)).star R) (w.setCell ⟨gg, i, none⟩ u) ∧ Below B w (w.setCell ⟨gg, i, none⟩ u) := by
  obtain ⟨F, h1, hturn⟩ := h.turn1 hB
  have hsz : (w.setCell ⟨gg, i, none⟩ u).heap.size = w.heap.size := by simp [World.setCell]
  refine hturn _ _ ⟨⟨h1.1.setc i u, .inl h1.2.1, fun k f => ?_⟩, Fr.setCell (a := ⟨gg, i, none⟩) (Fr.refl _ _) h1.2.1 u⟩
  rcases f with f | f
  · rw [hsz]; exact h1.2.2 k f
  · exact f.2

theorem blk_at (h : Has B ((blkR gg t cs).star R) w) : Bk w gg t cs := by
  obtain ⟨F, hF⟩ := h.fst.ex
  exact hF.1

/-- The bytes that Full made, held. -/
theorem full_beside {S : Res} {w' : World} (h : Has B S w) (hB : B ≤ w.heap.size) (hg : w.heap.size ≤ gg) (hb : Below w.heap.size w w') (hk : Bk w' gg t cs) : Has B ((blkR gg t cs).star S) w' :=
  h.new hB hb ⟨hk, ⟨hg, hk.lt⟩, fun _ f => f.2⟩
end
end Go.Proofs.Ytlchikllgmkokaa
