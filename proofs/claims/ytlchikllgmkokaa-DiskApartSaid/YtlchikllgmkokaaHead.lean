/- What it says: a region that draws its order, whose last operations go one behind the other: those ahead of them may be taken in an order of one's own, where what they read holds till the last ones begin. No program is named; no condition. -/
import Derived.Test.YtlchikllgmkokaaStill
import Derived.Deep.RegionHeld
namespace Go.Proofs.Ytlchikllgmkokaa
open Go.RowKit

section
variable {P : Program} {ops : Array Oper} {Q : Exit → Act → World → Prop} {S : World → Prop} {n : Nat}

/-- Whatever comes up next; S holds behind each operation ahead of number n. -/
def Upto (P : Program) (ops : Array Oper) (Q : Exit → Act → World → Prop) (S : World → Prop) (n : Nat) : Nat → Array Bool → Act → World → Prop
  | 0, listed, a, w => Region.ready .any ops listed = [] ∧ Q .normal a w
  | fuel + 1, listed, a, w => (Region.ready .any ops listed = [] → Q .normal a w) ∧
    ∀ i ∈ Region.ready .any ops listed, wpOp P ops Q i (fun a' w' => (i < n → S w') ∧ Upto P ops Q S n fuel (listed.setIfInBounds i true) a' w') a w

theorem any_of_upto : ∀ (fuel : Nat) (listed : Array Bool) (a : Act) (w : World), Upto P ops Q S n fuel listed a w → wpAny P .any ops Q fuel listed a w
  | 0, _, _, _, h => h
  | fuel + 1, _, _, _, h => ⟨h.1, fun i hi => wpOp_mono (fun a' w' h' => any_of_upto fuel _ a' w' h'.2) (h.2 i hi)⟩

/-- The head's state, asked by the kernel. -/
def headB (ops : Array Oper) (n : Nat) (listed : Array Bool) : Bool :=
  listed.size == ops.size && (List.range ops.size).all (fun j => match ops[j]? with
    | none => true
    | some o => !listed.getD j false || o.after.toList.all fun e => !Region.binds .any e || listed.getD e.on false) &&
  (List.range ops.size).all fun t => decide (t < n) || !listed.getD t true

theorem headB_spec {listed : Array Bool} (h : headB ops n listed = true) : HeadInv .any ops n listed := by
  simp only [headB, Bool.and_eq_true, List.all_eq_true, List.mem_range, beq_iff_eq] at h
  obtain ⟨⟨h1, h2⟩, h3⟩ := h
  refine ⟨h1, fun j oj hj hl e he hb => ?_, fun t ht htl => ?_⟩
  · have := h2 j (Array.getElem?_eq_some_iff.1 hj).1
    simp only [hj, hl] at this
    rw [Bool.not_true, Bool.false_or] at this
    have he' := List.all_eq_true.1 this e (by simpa using he)
    simpa [hb] using he'
  · have := h3 t htl
    simpa [Nat.not_lt.2 ht] using this

/-- The region's own facts, asked by the kernel. -/
def tailB (ops : Array Oper) (n : Nat) : Bool := Region.noSelect ops && decide (n < ops.size) && Region.sinkB .any ops n && Region.chainB .any ops n

theorem upto_first (hB : tailB ops n = true) {i : Nat} {oi : Oper} {v : Value} (hin : i < n) (hi : ops[i]? = some oi)
    (hQ : ∀ c a w, Q (.panic c) (a.put oi.dst v) w → Q (.panic c) a w) :
    ∀ (fuel : Nat) (listed : Array Bool) (a : Act) (w : World), HeadInv .any ops n listed →
      (∀ j oj, ops[j]? = some oj → j ≠ i → listed.getD j true = false → (∀ e ∈ oj.after, Region.binds .any e = true → e.on ≠ i) → oi.apart ops oj = true) →
      i ∈ Region.ready .any ops listed → YieldsIf P ops S oi v a → S w →
      Upto P ops Q S n fuel (listed.setIfInBounds i true) (a.put oi.dst v) w → Upto P ops Q S n (fuel + 1) listed a w := by
  simp only [tailB, Bool.and_eq_true, decide_eq_true_eq] at hB
  obtain ⟨⟨⟨hsel0, hns⟩, hsk⟩, hch⟩ := hB
  have hsel := Region.noSelect_spec hsel0
  intro fuel
  induction fuel with
  | zero =>
    intro listed a w _ _ hr hy hS H
    refine ⟨fun h => (by rw [h] at hr; cases hr), fun j hj => ?_⟩
    by_cases hji : j = i
    · subst hji
      exact hy.wpOp hi hS ⟨fun _ => hS, H⟩
    · have := ready_mono hj hji
      rw [H.1] at this
      cases this
  | succ fuel ih =>
    intro listed a w inv hfree hr hy hS H
    refine ⟨fun h => (by rw [h] at hr; cases hr), fun j hj => ?_⟩
    by_cases hji : j = i
    · subst hji
      exact hy.wpOp hi hS ⟨fun _ => hS, H⟩
    · have h1 := H.2 j (ready_mono hj hji)
      have hun := (mem_ready.1 hr).1
      have hjn : j < n := by
        rcases Nat.lt_or_ge j n with h | h
        · exact h
        · exact absurd hj (tail_waits hsk hch hns inv _ i rfl hin hun j h)
      obtain ⟨hjun, oj, hoj, hall⟩ := mem_ready.1 hj
      have hnot : ∀ e ∈ oj.after, Region.binds .any e = true → e.on ≠ i := fun e he hb heq => by
        have h1 := hall e he hb
        rw [heq, getD_both hun] at h1
        cases h1
      have h2 := wpOp_putIf hoj (hfree j oj hoj hji hjun hnot) (fun cs b => hsel i oi cs b hi) (fun cs b => hsel j oj cs b hoj) hQ hy h1
      have hfree' : ∀ k ok, ops[k]? = some ok → k ≠ i → (listed.setIfInBounds j true).getD k true = false →
          (∀ e ∈ ok.after, Region.binds .any e = true → e.on ≠ i) → oi.apart ops ok = true := fun k ok hk hki hunk hno => by
        refine hfree k ok hk hki ?_ hno
        by_cases hjk : j = k
        · subst hjk; exact hjun
        · rw [getD_set_ne true hjk] at hunk; exact hunk
      refine wpOp_mono (fun a' w' h3 => ⟨h3.2.1, ih (listed.setIfInBounds j true) a' w' (inv.set hj hjn) hfree' (ready_mono hr (Ne.symm hji)) h3.1 (h3.2.1 hjn) ?_⟩) h2
      rw [Array.setIfInBounds_comm _ _ hji]
      exact h3.2.2

theorem drop_at {l rest : List Oper} {i : Nat} {o : Oper} (h : l.drop i = o :: rest) : l.toArray[i]? = some o := by
  have h0 : (l.drop i)[0]? = some o := by rw [h]; rfl
  rw [List.getElem?_drop] at h0
  simpa using h0

/-- An operation of the head is taken now. -/
theorem Upto.take {i : Nat} {oi : Oper} {v : Value} {fuel : Nat} {listed : Array Bool} {a : Act} {w : World} {l rest : List Oper} (hi : l.drop i = oi :: rest) (hc : (tailB l.toArray n && decide (i < n) && headB l.toArray n listed && Region.free .any l.toArray listed i && (Region.ready .any l.toArray listed).contains i) = true)
    (hQ : ∀ c a w, Q (.panic c) (a.put oi.dst v) w → Q (.panic c) a w) (hg : oi.guard = none) (hy : ∀ w, S w → (execOp a.eval oi).run P w = .ok (.value v) w) (hS : S w)
    (h : Upto P l.toArray Q S n fuel (listed.setIfInBounds i true) (a.put oi.dst v) w) : Upto P l.toArray Q S n (fuel + 1) listed a w := by
  have hi := drop_at hi
  simp only [Bool.and_eq_true, decide_eq_true_eq] at hc
  obtain ⟨⟨⟨⟨h1, h2⟩, h3⟩, h4⟩, h5⟩ := hc
  exact upto_first h1 h2 hi hQ fuel listed a w (headB_spec h3) (Region.free_spec hi h4) (by simpa using h5) (.inl ⟨wanted_plain hg, hy⟩) hS h

/-- The one operation that may come up now, whatever it does to the world. -/
theorem Upto.only {i : Nat} {oi : Oper} {v : Value} {fuel : Nat} {listed : Array Bool} {a : Act} {w w' : World} {l rest : List Oper} (hi : l.drop i = oi :: rest) (hc : Region.ready .any l.toArray listed = [i])
    (hg : oi.guard = none) (hy : (execOp a.eval oi).run P w = .ok (.value v) w') (hS : S w')
    (h : Upto P l.toArray Q S n fuel (listed.setIfInBounds i true) (a.put oi.dst v) w') : Upto P l.toArray Q S n (fuel + 1) listed a w := by
  have hi := drop_at hi
  refine ⟨fun h0 => (by rw [h0] at hc; cases hc), fun j hj => ?_⟩
  rw [hc] at hj
  have hji : j = i := by simpa using hj
  subst hji
  unfold wpOp
  simp only [hi, wanted_plain hg, if_true]
  refine .inl ?_
  unfold Oper.wp
  rw [hy]
  exact ⟨fun _ => hS, h⟩

/-- The same, by a law of its own. -/
theorem Upto.law {i : Nat} {oi : Oper} {fuel : Nat} {listed : Array Bool} {a : Act} {w : World} {l rest : List Oper} (hi : l.drop i = oi :: rest) (hc : Region.ready .any l.toArray listed = [i]) (hg : oi.guard = none)
    (h : ∀ K : Act → World → Prop, (∀ a' w', S w' → Upto P l.toArray Q S n fuel (listed.setIfInBounds i true) a' w' → K a' w') → oi.wp P a w K Q) : Upto P l.toArray Q S n (fuel + 1) listed a w := by
  have hi := drop_at hi
  refine ⟨fun h0 => (by rw [h0] at hc; cases hc), fun j hj => ?_⟩
  rw [hc] at hj
  have hji : j = i := by simpa using hj
  subst hji
  unfold wpOp
  simp only [hi, wanted_plain hg, if_true]
  exact .inl (h _ fun a' w' hS hU => ⟨fun _ => hS, hU⟩)

/-- A call of a Go function, by its contract. -/
theorem wp_enter {o : Oper} {a : Act} {w : World} {K : Act → World → Prop} {f : FuncId} {args : Array Value} {R : Ending → World → Prop} (hrun : (execOp a.eval o).run P w = .ok (.enter f args) w) (C : Calls P f args w R)
    (hR : ∀ e w', R e w' → ∃ v, e = .returned v ∧ K (a.put o.dst v) w') : o.wp P a w K Q := by
  unfold Oper.wp
  rw [hrun]
  refine C.mono fun e w' h => ?_
  obtain ⟨v, rfl, hK⟩ := hR e w' h
  exact hK

theorem upto_seq : ∀ (l : List Oper) (k : Nat) (listed : Array Bool) (a : Act) (w : World), n ≤ k → (∀ j, l[j]? = ops[k + j]?) →
    Region.seqB .any ops l.length k listed = true → wpList P ops Q l a w → Upto P ops Q S n l.length listed a w
  | [], k, listed, a, w, _, _, hB, h => ⟨by simpa [Region.seqB] using hB, h⟩
  | o :: l, k, listed, a, w, hk, hl, hB, h => by
    have h0 : ops[k]? = some o := by simpa using (hl 0).symm
    simp only [List.length_cons, Region.seqB, Bool.and_eq_true, decide_eq_true_eq] at hB
    refine ⟨fun h1 => (by rw [hB.1] at h1; cases h1), fun i hi => ?_⟩
    rw [hB.1] at hi
    have hik : i = k := by simpa using hi
    subst hik
    have hw : wpOp P ops Q i (wpList P ops Q l) a w := by unfold wpOp; simp only [h0]; exact h
    exact wpOp_mono (fun a' w' h' => ⟨fun hlt => absurd hlt (by omega), upto_seq l (i + 1) _ a' w' (by omega) (fun j => by have := hl (j + 1); simpa [Nat.add_assoc, Nat.add_comm 1 j] using this) hB.2 h'⟩) hw

/-- The last operations, one behind the other. -/
theorem Upto.tail {l : List Oper} {fuel : Nat} {listed : Array Bool} {a : Act} {w : World} (hf : (l.drop n).length = fuel) (hB : Region.seqB .any l.toArray fuel n listed = true) (h : wpList P l.toArray Q (l.drop n) a w) : Upto P l.toArray Q S n fuel listed a w := by
  subst hf
  exact upto_seq (l.drop n) n listed a w (Nat.le_refl _) (fun j => by simp [List.getElem?_drop]) hB h

/-- The beginning. -/
theorem upto_start {id : Nat} {a : Act} {w : World} (S : World → Prop) (n : Nat) (hm : P.follows .mixedOrders = true) (h : Upto P ops Q S n ops.size (Array.replicate ops.size false) a w.drew) : (Code.region id ops true).wp P Q a w :=
  wp_region_any hm (any_of_upto _ _ _ _ h)
end
end Go.Proofs.Ytlchikllgmkokaa
