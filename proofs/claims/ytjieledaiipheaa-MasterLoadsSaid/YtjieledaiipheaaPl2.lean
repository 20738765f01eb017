/- What it says: contracts and plain mathematics that the laws' walks use, 2 of 3: each part's own remark says what; no condition. -/
import Derived.Test.YtjieledaiipheaaPl1
import Derived.Deep.RegionHeld
import Derived.Deep.RegionHeld3
import Derived.Deep.MidRow
import Derived.Deep.AppendLies
import Derived.Deep.DrawnRows
import Derived.Laws.CopyOwn
import Derived.BigQuiet
import Derived.Deep.QuietTactic
import Derived.Test.YtjieledaiipheaaRows
import Derived.Deep.Slices
import Derived.ProofKit
import Derived.OpenShut
import Derived.SizedLaws
import Derived.Shelf.SlMaps.Clone

/- a region that draws its order, whose last operations go one behind the other: those ahead of them may be taken in an order of one's own, where what they read holds till the last ones begin. No program is named; no condition. -/
namespace Go.Proofs.Ytjieledaiipheaa
open Go.RowKit

section
variable {P : Program} {ops : Array Oper} {Q : Exit → Act → World → Prop} {S : World → Prop} {n : Nat}

/-- Whatever comes up next; S holds behind each operation ahead of number n. -/
def Upto (P : Program) (ops : Array Oper) (Q : Exit → Act → World → Prop) (S : World → Prop) (n : Nat) : Nat → Array Bool → Act → World → Prop
  | 0, listed, a, w => Region.ready .any ops listed = [] ∧ Q .normal a w
  | fuel + 1, listed, a, w => (Region.ready .any ops listed = [] → Q .normal a w) ∧
    ∀ i ∈ Region.ready .any ops listed, wpOp P ops Q i (fun a' w' => (i < n → S w') ∧ Upto P ops Q S n fuel (listed.setIfInBounds i true) a' w') a w

theorem any_of_upto : ∀ (fuel : Nat) (listed : Array Bool) (a : Act) (w : World), Upto P ops Q S n fuel listed a w → wpAny P .any ops Q fuel listed a w
  | 0, _, _, _, h => h
  | fuel + 1, _, _, _, h => ⟨h.1, fun i hi => wpOp_mono (fun a' w' h' => any_of_upto fuel _ a' w' h'.2) (h.2 i hi)⟩

/-- The head's state, asked by the kernel. -/
def headB (ops : Array Oper) (n : Nat) (listed : Array Bool) : Bool :=
  listed.size == ops.size && (List.range ops.size).all (fun j => match ops[j]? with
    | none => true
    | some o => !listed.getD j false || o.after.toList.all fun e => !Region.binds .any e || listed.getD e.on false) &&
  (List.range ops.size).all fun t => decide (t < n) || !listed.getD t true

theorem headB_spec {listed : Array Bool} (h : headB ops n listed = true) : HeadInv .any ops n listed := by
  simp only [headB, Bool.and_eq_true, List.all_eq_true, List.mem_range, beq_iff_eq] at h
  obtain ⟨⟨h1, h2⟩, h3⟩ := h
  refine ⟨h1, fun j oj hj hl e he hb => ?_, fun t ht htl => ?_⟩
  · have := h2 j (Array.getElem?_eq_some_iff.1 hj).1
    simp only [hj, hl] at this
    rw [Bool.not_true, Bool.false_or] at this
    have he' := List.all_eq_true.1 this e (by simpa using he)
    simpa [hb] using he'
  · have := h3 t htl
    simpa [Nat.not_lt.2 ht] using this

/-- The region's own facts, asked by the kernel. -/
def tailB (ops : Array Oper) (n : Nat) : Bool := Region.noSelect ops && decide (n < ops.size) && Region.sinkB .any ops n && Region.chainB .any ops n

theorem upto_first (hB : tailB ops n = true) {i : Nat} {oi : Oper} {v : Value} (hin : i < n) (hi : ops[i]? = some oi)
    (hQ : ∀ c a w, Q (.panic c) (a.put oi.dst v) w → Q (.panic c) a w) :
    ∀ (fuel : Nat) (listed : Array Bool) (a : Act) (w : World), HeadInv .any ops n listed →
      (∀ j oj, ops[j]? = some oj → j ≠ i → listed.getD j true = false → (∀ e ∈ oj.after, Region.binds .any e = true → e.on ≠ i) → oi.apart ops oj = true) →
      i ∈ Region.ready .any ops listed → YieldsIf P ops S oi v a → S w →
      Upto P ops Q S n fuel (listed.setIfInBounds i true) (a.put oi.dst v) w → Upto P ops Q S n (fuel + 1) listed a w := by
  simp only [tailB, Bool.and_eq_true, decide_eq_true_eq] at hB
  obtain ⟨⟨⟨hsel0, hns⟩, hsk⟩, hch⟩ := hB
  have hsel := Region.noSelect_spec hsel0
  intro fuel
  induction fuel with
  | zero =>
    intro listed a w _ _ hr hy hS H
    refine ⟨fun h => (by rw [h] at hr; cases hr), fun j hj => ?_⟩
    by_cases hji : j = i
    · subst hji
      exact hy.wpOp hi hS ⟨fun _ => hS, H⟩
    · have := ready_mono hj hji
      rw [H.1] at this
      cases this
  | succ fuel ih =>
    intro listed a w inv hfree hr hy hS H
    refine ⟨fun h => (by rw [h] at hr; cases hr), fun j hj => ?_⟩
    by_cases hji : j = i
    · subst hji
      exact hy.wpOp hi hS ⟨fun _ => hS, H⟩
    · have h1 := H.2 j (ready_mono hj hji)
      have hun := (mem_ready.1 hr).1
      have hjn : j < n := by
        rcases Nat.lt_or_ge j n with h | h
        · exact h
        · exact absurd hj (tail_waits hsk hch hns inv _ i rfl hin hun j h)
      obtain ⟨hjun, oj, hoj, hall⟩ := mem_ready.1 hj
      have hnot : ∀ e ∈ oj.after, Region.binds .any e = true → e.on ≠ i := fun e he hb heq => by
        have h1 := hall e he hb
        rw [heq, getD_both hun] at h1
        cases h1
      have h2 := wpOp_putIf hoj (hfree j oj hoj hji hjun hnot) (fun cs b => hsel i oi cs b hi) (fun cs b => hsel j oj cs b hoj) hQ hy h1
      have hfree' : ∀ k ok, ops[k]? = some ok → k ≠ i → (listed.setIfInBounds j true).getD k true = false →
          (∀ e ∈ ok.after, Region.binds .any e = true → e.on ≠ i) → oi.apart ops ok = true := fun k ok hk hki hunk hno => by
        refine hfree k ok hk hki ?_ hno
        by_cases hjk : j = k
        · subst hjk; exact hjun
        · rw [getD_set_ne true hjk] at hunk; exact hunk
      refine wpOp_mono (fun a' w' h3 => ⟨h3.2.1, ih (listed.setIfInBounds j true) a' w' (inv.set hj hjn) hfree' (ready_mono hr (Ne.symm hji)) h3.1 (h3.2.1 hjn) ?_⟩) h2
      rw [Array.setIfInBounds_comm _ _ hji]
      exact h3.2.2

theorem drop_at {l rest : List Oper} {i : Nat} {o : Oper} (h : l.drop i = o :: rest) : l.toArray[i]? = some o := by
  have h0 : (l.drop i)[0]? = some o := by rw [h]; rfl
  rw [List.getElem?_drop] at h0
  simpa using h0

/-- An operation of the head is taken now. -/
theorem Upto.take {i : Nat} {oi : Oper} {v : Value} {fuel : Nat} {listed : Array Bool} {a : Act} {w : World} {l rest : List Oper} (hi : l.drop i = oi :: rest) (hc : (tailB l.toArray n && decide (i < n) && headB l.toArray n listed && Region.free .any l.toArray listed i && (Region.ready .any l.toArray listed).contains i) = true)
    (hQ : ∀ c a w, Q (.panic c) (a.put oi.dst v) w → Q (.panic c) a w) (hg : oi.guard = none) (hy : ∀ w, S w → (execOp a.eval oi).run P w = .ok (.value v) w) (hS : S w)
    (h : Upto P l.toArray Q S n fuel (listed.setIfInBounds i true) (a.put oi.dst v) w) : Upto P l.toArray Q S n (fuel + 1) listed a w := by
  have hi := drop_at hi
  simp only [Bool.and_eq_true, decide_eq_true_eq] at hc
  obtain ⟨⟨⟨⟨h1, h2⟩, h3⟩, h4⟩, h5⟩ := hc
  exact upto_first h1 h2 hi hQ fuel listed a w (headB_spec h3) (Region.free_spec hi h4) (by simpa using h5) (.inl ⟨wanted_plain hg, hy⟩) hS h

/-- The one operation that may come up now, whatever it does to the world. -/
theorem Upto.only {i : Nat} {oi : Oper} {v : Value} {fuel : Nat} {listed : Array Bool} {a : Act} {w w' : World} {l rest : List Oper} (hi : l.drop i = oi :: rest) (hc : Region.ready .any l.toArray listed = [i])
    (hg : oi.guard = none) (hy : (execOp a.eval oi).run P w = .ok (.value v) w') (hS : S w')
    (h : Upto P l.toArray Q S n fuel (listed.setIfInBounds i true) (a.put oi.dst v) w') : Upto P l.toArray Q S n (fuel + 1) listed a w := by
  have hi := drop_at hi
  refine ⟨fun h0 => (by rw [h0] at hc; cases hc), fun j hj => ?_⟩
  rw [hc] at hj
  have hji : j = i := by simpa using hj
  subst hji
  unfold wpOp
  simp only [hi, wanted_plain hg, if_true]
  refine .inl ?_
  unfold Oper.wp
  rw [hy]
  exact ⟨fun _ => hS, h⟩

/-- The same, by a law of its own. -/
theorem Upto.law {i : Nat} {oi : Oper} {fuel : Nat} {listed : Array Bool} {a : Act} {w : World} {l rest : List Oper} (hi : l.drop i = oi :: rest) (hc : Region.ready .any l.toArray listed = [i]) (hg : oi.guard = none)
    (h : ∀ K : Act → World → Prop, (∀ a' w', S w' → Upto P l.toArray Q S n fuel (listed.setIfInBounds i true) a' w' → K a' w') → oi.wp P a w K Q) : Upto P l.toArray Q S n (fuel + 1) listed a w := by
  have hi := drop_at hi
  refine ⟨fun h0 => (by rw [h0] at hc; cases hc), fun j hj => ?_⟩
  rw [hc] at hj
  have hji : j = i := by simpa using hj
  subst hji
  unfold wpOp
  simp only [hi, wanted_plain hg, if_true]
  exact .inl (h _ fun a' w' hS hU => ⟨fun _ => hS, hU⟩)

/-- A call of a Go function, by its contract. -/
theorem wp_enter {o : Oper} {a : Act} {w : World} {K : Act → World → Prop} {f : FuncId} {args : Array Value} {R : Ending → World → Prop} (hrun : (execOp a.eval o).run P w = .ok (.enter f args) w) (C : Calls P f args w R)
    (hR : ∀ e w', R e w' → ∃ v, e = .returned v ∧ K (a.put o.dst v) w') : o.wp P a w K Q := by
  unfold Oper.wp
  rw [hrun]
  refine C.mono fun e w' h => ?_
  obtain ⟨v, rfl, hK⟩ := hR e w' h
  exact hK

theorem upto_seq : ∀ (l : List Oper) (k : Nat) (listed : Array Bool) (a : Act) (w : World), n ≤ k → (∀ j, l[j]? = ops[k + j]?) →
    Region.seqB .any ops l.length k listed = true → wpList P ops Q l a w → Upto P ops Q S n l.length listed a w
  | [], k, listed, a, w, _, _, hB, h => ⟨by simpa [Region.seqB] using hB, h⟩
  | o :: l, k, listed, a, w, hk, hl, hB, h => by
    have h0 : ops[k]? = some o := by simpa using (hl 0).symm
    simp only [List.length_cons, Region.seqB, Bool.and_eq_true, decide_eq_true_eq] at hB
    refine ⟨fun h1 => (by rw [hB.1] at h1; cases h1), fun i hi => ?_⟩
    rw [hB.1] at hi
    have hik : i = k := by simpa using hi
    subst hik
    have hw : wpOp P ops Q i (wpList P ops Q l) a w := by unfold wpOp; simp only [h0]; exact h
    exact wpOp_mono (fun a' w' h' => ⟨fun hlt => absurd hlt (by omega), upto_seq l (i + 1) _ a' w' (by omega) (fun j => by have := hl (j + 1); simpa [Nat.add_assoc, Nat.add_comm 1 j] using this) hB.2 h'⟩) hw

/-- The last operations, one behind the other. -/
theorem Upto.tail {l : List Oper} {fuel : Nat} {listed : Array Bool} {a : Act} {w : World} (hf : (l.drop n).length = fuel) (hB : Region.seqB .any l.toArray fuel n listed = true) (h : wpList P l.toArray Q (l.drop n) a w) : Upto P l.toArray Q S n fuel listed a w := by
  subst hf
  exact upto_seq (l.drop n) n listed a w (Nat.le_refl _) (fun j => by simp [List.getElem?_drop]) hB h

/-- The beginning. -/
theorem upto_start {id : Nat} {a : Act} {w : World} (S : World → Prop) (n : Nat) (hm : P.follows .mixedOrders = true) (h : Upto P ops Q S n ops.size (Array.replicate ops.size false) a w.drew) : (Code.region id ops true).wp P Q a w :=
  wp_region_any hm (any_of_upto _ _ _ _ h)
end
end Go.Proofs.Ytjieledaiipheaa

/- disk.Write answers and leaves what the plain disk does. -/
namespace Go.Proofs.Ytjieledaiipheaa
open Go.RowKit

theorem Byt.not_bk {w : World} {A : Option Addr} {n c : Nat} {l : List Int} {b : Nat} {t : TypeId} {cs : Array Value} (h : Byt w A n c l) (hb : Bk w b t cs) (hs : cs.size < n) : ∀ g off, A = some ⟨g, off, none⟩ → g ≠ b := by
  rintro g off rfl rfl
  obtain ⟨g', off', e, hc⟩ := h.at_ (by omega)
  injection e with e
  injection e with e1 e2
  subst e1 e2
  have := hc (n - 1) (by omega)
  rw [hb.cell, Array.getElem?_eq_none (by omega)] at this
  cases this

theorem Byt.keep_block {w w' : World} {A : Option Addr} {n c : Nat} {l : List Int} (h : Byt w A n c l) (hk : ∀ g off, A = some ⟨g, off, none⟩ → w'.heap[g]? = w.heap[g]?) : Byt w' A n c l :=
  ⟨h.len, h.cap, h.max, h.rng, h.nil_, fun hn => by
    obtain ⟨g, off, e, hc⟩ := h.at_ hn
    exact ⟨g, off, e, fun i hi => (World.cell?_of_block (hk g off e)).trans (hc i hi)⟩⟩

theorem Byt.block_lt {w : World} {A : Option Addr} {n c : Nat} {l : List Int} (h : Byt w A n c l) (hn : 0 < n) : ∀ g off, A = some ⟨g, off, none⟩ → g < w.heap.size := by
  rintro g off rfl
  obtain ⟨g', off', e, hc⟩ := h.at_ hn
  injection e with e
  injection e with e1 e2
  subst e1 e2
  exact World.block_lt_of_cell? w _ (hc 0 hn)

theorem Byt.range {w : World} {g off c : Nat} {l : List Int} (h : Byt w (some ⟨g, off, none⟩) 256 c l) : w.rangeAt g off (byC l) := by
  obtain ⟨g', off', e, hc⟩ := h.at_ (by omega)
  injection e with e
  injection e with e1 e2
  subst e1 e2
  intro j v hv
  have hj : j < l.length := by
    have := (List.getElem?_eq_some_iff.1 hv).1
    rwa [byC_len] at this
  rw [hc j (by rw [← h.len]; exact hj), ← hv]
  simp [byC, List.getElem?_eq_getElem hj, List.getD]

/-- What Write leaves. -/
def RetWrite (F : Nat → Prop) (b : Nat) (e0 : Int) (s' : St) (w : World) (e : Ending) (w' : World) : Prop := e = .returned (.int .i64 e0) ∧ Turn (dsk b s') F w w'

theorem DskB.same {w : World} {F : Nat → Prop} {b mb : Nat} {A : Option Addr} {c : Nat} {s : St} (h : DskB w F b mb A c s) : Turn (dsk b s) F w w :=
  (h.mono (fun _ f => .inl f) (fun k f => by
    rcases f with f | f
    · exact h.lt k f
    · exact f.2)).turn (Fr.refl _ _)

theorem DskB.turned {w w' : World} {F : Nat → Prop} {b mb : Nat} {A : Option Addr} {c : Nat} {s s' : St} (h : DskB w F b mb A c s) (h' : DskB w' F b mb A c s') (hf : Fr (fun k => k = b) w w') : Turn (dsk b s') F w w' :=
  (h'.mono (fun _ f => .inl f) (fun k f => by
    rcases f with f | f
    · exact h'.lt k f
    · exact f.2)).turn (hf.mono fun k e => e ▸ h.fb)

theorem pdC_len {s : St} (h : s.Ok) : (pdC s.pend).length = s.pend.length * 257 := flatMap_len wrC 257 _ (fun p hp => wrC_len (h.pend p hp).2)

/-- What is left when the write has been appended. -/
theorem DskB.appended {w w1 w2 w3 : World} {F : Nat → Prop} {b mb : Nat} {A A' : Option Addr} {c c' : Nat} {s : St} {n : Nat} {l : List Int} (h : DskB w F b mb A c s) (h1 : DskB w1 F b mb A c s.step) (hf : Fr (fun k => k = b) w w1) (hn : n < s.num) (hl : Sec l) (hlim : s.pend.length < 999999)
    (hb : Below w1.heap.size w1 w2) (ho : w3.ownsRow 0 70 257 (.slice A' (s.pend.length + 1) c') (s.pend.length + 1) (pdC s.pend ++ wrC (n, l))) (hg : w2.grownBy w3 (Value.slice A s.pend.length c).ownBlock)
    (hw : (Value.slice A s.pend.length c).ownBlock = (Value.slice A' (s.pend.length + 1) c').ownBlock ∨ ∀ k, (Value.slice A' (s.pend.length + 1) c').ownBlock = some k → w1.heap.size ≤ k) :
    w3.cell? ⟨b, 2, none⟩ = some (.slice A s.pend.length c) ∧ w3.frozen? ⟨b, 2, none⟩ = false ∧
    RetWrite F b 0 (s.wrote n l) w (.returned (.int .i64 0)) (w3.setCell ⟨b, 2, none⟩ (.slice A' (s.pend.length + 1) c')) := by
  have e : s.step.pend = s.pend := St.step_pend s
  have hblk := h1.blk
  have hrow := h1.row
  have hfp := h1.fp
  rw [e] at hblk hrow hfp
  have hpb : ∀ k, (Value.slice A s.pend.length c).ownBlock = some k → k ≠ b ∧ k ≠ mb := by
    intro k hk
    constructor
    · rintro rfl
      rcases hrow.2 with ⟨q, _⟩ | ⟨g, cap, cur, q, _, hg, _⟩
      · rw [q] at hk; simp [Value.ownBlock] at hk
      · rw [q] at hk
        simp [Value.ownBlock] at hk
        subst hk
        unfold Bk at hblk
        rw [hblk] at hg
        simp at hg
    · rintro rfl
      exact h1.map.not_row hrow hk
  have hblk2 : Bk w2 b 64 #[.int .i64 s.step.num, .map (some mb), .slice A s.pend.length c, .int .i64 s.step.left, .bool s.step.gone, .int .i64 s.step.syncs] := hblk.bel hb h1.blk.lt
  have hblk3 : Bk w3 b 64 #[.int .i64 s.step.num, .map (some mb), .slice A s.pend.length c, .int .i64 s.step.left, .bool s.step.gone, .int .i64 s.step.syncs] :=
    hblk2.eq (hg.block b hblk2.lt (fun q => (hpb b q.symm).1 rfl))
  refine ⟨hblk3.cell 2, hblk3.frz 2, rfl, ?_⟩
  have hmb1 := h1.map.lt
  have hsz : w1.heap.size ≤ w3.heap.size := Nat.le_trans hb.size hg.size
  have hfr : Fr F w (w3.setCell ⟨b, 2, none⟩ (.slice A' (s.pend.length + 1) c')) := by
    have f1 : Fr F w w2 := (hf.mono (fun k q => (q ▸ h.fb : F k))).trans (Fr.of_below hb)
    exact (f1.grown hg (fun k hk => .inl (hfp k hk))).setCell h.fb _
  have hkeep : ∀ k, k < w1.heap.size → k ≠ b → (∀ q, (Value.slice A s.pend.length c).ownBlock = some q → k ≠ q) → (w3.setCell ⟨b, 2, none⟩ (.slice A' (s.pend.length + 1) c')).heap[k]? = w1.heap[k]? := by
    intro k hk hkb hkq
    rw [Below.heap_setCell _ _ _ _ hkb]
    exact (hg.block k (Nat.lt_of_lt_of_le hk hb.size) (fun q => hkq k q.symm rfl)).trans (hb.block k hk)
  have hbne : ∀ k, (Value.slice A' (s.pend.length + 1) c').ownBlock = some k → k ≠ b := by
    rintro k hk rfl
    rcases ho.2 with ⟨q, _⟩ | ⟨g, cap, cur, q, _, hg', _⟩
    · rw [q] at hk; simp [Value.ownBlock] at hk
    · rw [q] at hk
      simp [Value.ownBlock] at hk
      subst hk
      unfold Bk at hblk3
      rw [hblk3] at hg'
      simp at hg'
  have D : DskB (w3.setCell ⟨b, 2, none⟩ (.slice A' (s.pend.length + 1) c')) (grow F w (w3.setCell ⟨b, 2, none⟩ (.slice A' (s.pend.length + 1) c'))) b mb A' c' (s.wrote n l) := by
    have hlen : (s.wrote n l).pend.length = s.pend.length + 1 := by simp [St.wrote]
    refine ⟨?_, ?_, ?_, .inl h.fb, .inl h.fm, ?_, ?_, h.ok.wrote hn hl, ?_⟩
    · have := hblk3.setc 2 (.slice A' (s.pend.length + 1) c')
      rw [hlen]
      simpa [St.wrote] using this
    · have := h1.map.eq (hkeep mb hmb1 (h1.map.not_bk h1.blk) (fun q hq => fun e => (hpb q hq).2 e.symm))
      exact this
    · rw [hlen]
      have hp : pdC (s.wrote n l).pend = pdC s.pend ++ wrC (n, l) := by simp [pdC, St.wrote, List.flatMap_append]
      rw [hp]
      exact owns_keep ho (fun k hk => Below.heap_setCell _ _ _ _ (hbne k hk))
    · rw [hlen]
      intro k hk
      rcases hw with hw | hw
      · exact .inl (hfp k (hw.trans hk))
      · refine .inr ⟨Nat.le_trans hf.size (hw k hk), ?_⟩
        have := (ho.lt k hk).2
        simpa [World.setCell] using this
    · intro k f
      rcases f with f | f
      · exact Nat.lt_of_lt_of_le (h.lt k f) hfr.size
      · exact f.2
    · rw [hlen]
      have e2 : (s.wrote n l).syncs = s.syncs := St.step_syncs s
      rw [e2]
      exact ⟨by omega, h.lim.2⟩
  exact D.turn hfr

set_option maxHeartbeats 1000000 in
theorem write_bad (w : World) (F : Nat → Prop) (b mb : Nat) (A : Option Addr) (c : Nat) (s : St) (h : DskB w F b mb A c s) (n : Int) (hn : n < 0 ∨ (s.num : Int) ≤ n) (v : Value) :
    Calls Try.prog 17 #[.pointer (some ⟨b, 0, none⟩), .int .i64 n, v] w (RetWrite F b 1 s w) := by
  have C := Lib.hid (find_bad h n hn)
  have R : Hid (RetWrite F b 1 s w (.returned (.int .i64 1)) w) := Lib.hid ⟨rfl, h.same⟩
  clear h hn
  go_enter Try.func17, Try.ntmps17
  go_wp2_with fail
  refine C.out.mono ?_
  rintro e w' ⟨rfl, rfl⟩
  go_wp2_with fail
  go_ret
  exact R.out

set_option maxHeartbeats 1000000 in
theorem write_len (w : World) (F : Nat → Prop) (b mb : Nat) (A : Option Addr) (c : Nat) (s : St) (h : DskB w F b mb A c s) (n : Nat) (hn : n < s.num) (A' : Option Addr) (m c' : Nat) (hm : m ≠ 256) :
    Calls Try.prog 17 #[.pointer (some ⟨b, 0, none⟩), .int .i64 n, .slice A' m c'] w (RetWrite F b 12 s w) := by
  have C := Lib.hid (find_ok h n hn)
  have R : Hid (RetWrite F b 12 s w (.returned (.int .i64 12)) w) := Lib.hid ⟨rfl, h.same⟩
  have hne : ((m : Int) != 256) = true := by simp; omega
  clear h hn hm
  go_enter Try.func17, Try.ntmps17
  go_wp2_with fail
  refine C.out.mono ?_
  rintro e w' ⟨rfl, rfl⟩
  go_wp2_with fail
  go_ret
  exact R.out

set_option maxHeartbeats 1000000 in
theorem write_down (w : World) (F : Nat → Prop) (b mb : Nat) (A : Option Addr) (c : Nat) (s : St) (h : DskB w F b mb A c s) (n : Nat) (hn : n < s.num) (A' : Option Addr) (c' : Nat) (hc : s.can = false) :
    Calls Try.prog 17 #[.pointer (some ⟨b, 0, none⟩), .int .i64 n, .slice A' 256 c'] w (RetWrite F b 40 s.step w) := by
  have C := Lib.hid (find_ok h n hn)
  have C2 := Lib.hid (step_any h)
  have T := Lib.hid (fun w' (h' : DskB w' F b mb A c s.step) hf => h.turned h' hf)
  have HC := Lib.hid hc
  clear h hn hc
  go_enter Try.func17, Try.ntmps17
  go_wp2_with fail
  refine C.out.mono ?_
  rintro e w' ⟨rfl, rfl⟩
  go_wp2_with fail
  refine C2.out.mono ?_
  rintro e w' ⟨rfl, h1, h2⟩
  rw [HC.out]
  have R : Hid (RetWrite F b 40 s.step w (.returned (.int .i64 40)) w') := Lib.hid ⟨rfl, T.out w' h1 h2⟩
  clear h1 h2
  go_wp2_with fail
  go_ret
  exact R.out

set_option maxRecDepth 100000 in
set_option maxHeartbeats 4000000 in
theorem write_made (w : World) (F : Nat → Prop) (b mb : Nat) (A : Option Addr) (c : Nat) (s : St) (h : DskB w F b mb A c s) (n : Nat) (hn : n < s.num) (A' : Option Addr) (c' : Nat) (l : List Int) (hl : Byt w A' 256 c' l) (hA : ∀ k, (Value.slice A' 256 c').ownBlock = some k → ¬ F k) (hc : s.can = true) (hlim : s.pend.length < 999999) :
    Calls Try.prog 17 #[.pointer (some ⟨b, 0, none⟩), .int .i64 n, .slice A' 256 c'] w (RetWrite F b 0 (s.wrote n l) w) := by
  have hsec : Sec l := ⟨hl.len, hl.rng⟩
  obtain ⟨g, off, rfl, _⟩ := hl.at_ (by omega)
  have C := Lib.hid (find_ok h n hn)
  have C2 := Lib.hid (step_any h)
  obtain ⟨i0, hi, hz0, hz1, hz2⟩ := info_parts info_wr
  have X : Hid (∀ w1, DskB w1 F b mb A c s.step → Fr (fun k => k = b) w w1 → w1.rangeAt g off (byC l) ∧ g < w1.heap.size ∧ g ≠ b) := Lib.hid (fun w1 h1 hf => by
    have hgb : g ≠ b := hl.not_bk h.blk (by simp) g off rfl
    have hgl := hl.block_lt (by omega) g off rfl
    exact ⟨(hl.keep_block (fun g' off' e => by injection e with e; injection e with e1 e2; subst e1; exact hf.block _ hgl hgb)).range, Nat.lt_of_lt_of_le hgl hf.size, hgb⟩)
  have Y := Lib.hid (fun w1 w2 w3 A' c' (h1 : DskB w1 F b mb A c s.step) (hf : Fr (fun k => k = b) w w1) => @DskB.appended w w1 w2 w3 F b mb A A' c c' s n l h h1 hf hn hsec hlim)
  have KB : Hid (∀ w1 w2 w3, DskB w1 F b mb A c s.step → Fr (fun k => k = b) w w1 → Below w1.heap.size w1 w2 → w2.grownBy w3 (Value.slice A s.pend.length c).ownBlock →
      w3.cell? ⟨b, 2, none⟩ = some (.slice A s.pend.length c) ∧ w3.frozen? ⟨b, 2, none⟩ = false ∧ w3.rangeAt g off (byC l)) := Lib.hid (fun w1 w2 w3 h1 hf hb hg => by
    obtain ⟨hrg, hg1, hg2⟩ := X.out w1 h1 hf
    have hrow : w1.ownsRow 0 70 257 (.slice A s.pend.length c) s.pend.length (pdC s.pend) := by have := h1.row; rwa [St.step_pend] at this
    have hfp : ∀ k, (Value.slice A s.pend.length c).ownBlock = some k → F k := by have := h1.fp; rwa [St.step_pend] at this
    have hblk := h1.blk
    rw [St.step_pend] at hblk
    have hpb : (Value.slice A s.pend.length c).ownBlock ≠ some b := by
      intro hk
      rcases hrow.2 with ⟨q, _⟩ | ⟨g', cap, cur, q, _, hg', _⟩
      · rw [q] at hk; simp [Value.ownBlock] at hk
      · rw [q] at hk
        simp [Value.ownBlock] at hk
        subst hk
        unfold Bk at hblk
        rw [hblk] at hg'
        simp at hg'
    have e1 : w3.heap[b]? = w1.heap[b]? := (hg.block b (Nat.lt_of_lt_of_le hblk.lt hb.size) (fun q => hpb q.symm)).trans (hb.block b hblk.lt)
    have e2 : w3.heap[g]? = w1.heap[g]? := (hg.block g (Nat.lt_of_lt_of_le hg1 hb.size) (fun q => hA g rfl (hfp g q.symm))).trans (hb.block g hg1)
    have hblk3 := hblk.eq e1
    exact ⟨hblk3.cell 2, hblk3.frz 2, fun j v hv => (World.cell?_of_block e2).trans (hrg j v hv)⟩)
  have hone1 : Hid (∀ u ∈ wrC (n, l), u.oneCell' = true) := Lib.hid (fun u hu => by
    rcases List.mem_cons.1 hu with rfl | hu
    · rfl
    · exact byC_one l u hu)
  have HC := Lib.hid hc
  have harr := fun w => arrayAt_sec (some ⟨g, off, none⟩) c' w
  have hu := Try.underlying66
  have hlen : (byC l).length = 256 := by rw [byC_len, hl.len]
  have hsz : (Try.prog.info? 66).map (·.size) = some (byC l).length := by rw [hlen]; exact size_sec
  have hone := byC_one l
  have hwl : (wrC (n, l)).length = 257 := wrC_len (p := (n, l)) hsec
  have hcp : c' ≤ 9223372036854775807 := by have := hl.max; unfold maxLen at this; omega
  clear h hn hl hc hA
  go_enter Try.func17, Try.ntmps17
  go_wp2_with fail
  refine C.out.mono ?_
  rintro e w' ⟨rfl, rfl⟩
  go_wp2_with fail
  refine C2.out.mono ?_
  rintro e w1 ⟨rfl, h1, h2⟩
  rw [HC.out]
  obtain ⟨hrg, hg1, hg2⟩ := X.out w1 h1 h2
  have hc2 : w1.cell? ⟨b, 2, none⟩ = some (.slice A s.pend.length c) := by have := h1.blk.cell 2; rw [St.step_pend] at this; exact this
  have hf2 : w1.frozen? ⟨b, 2, none⟩ = false := h1.blk.frz 2
  have hrow : w1.ownsRow 0 70 257 (.slice A s.pend.length c) s.pend.length (pdC s.pend) := by have := h1.row; rwa [St.step_pend] at this
  have H1 := Lib.hid h1
  have H2 := Lib.hid h2
  have HR := Lib.hid hrow
  clear h1 h2 hrow
  go_wp2_with fail
  have hbs := bslice_wr (n, l) hsec
  have hbl := built_wr n l hsec
  have HK := Lib.hid (fun w2 w3 hb hg => KB.out w1 w2 w3 H1.out H2.out hb hg)
  have hS0 : w1.drew.cell? ⟨b, 2, none⟩ = some (.slice A s.pend.length c) ∧ w1.drew.rangeAt g off (byC l) := ⟨hc2, hrg⟩
  refine wp_region_noPanic ?_
  refine upto_start (fun w' => w'.cell? ⟨b, 2, none⟩ = some (.slice A s.pend.length c) ∧ w'.rangeAt g off (byC l)) 12 (by kernel_rfl) ?_
  change Upto _ _ _ _ _ 15 _ _ _
  refine Upto.take (i := 0) (v := ?_) rfl (by kernel_rfl) (fun _ _ _ h => h) rfl (fun w' hS => ?_) hS0 ?_
  rotate_left
  · (try dsimp only at hS); go_split_ands; go_simp; (try with_reducible rfl)
  simp only [Act.put, List.setIfInBounds_toArray, List.set_cons_zero, List.set_cons_succ]
  refine Upto.take (i := 1) (v := ?_) rfl (by kernel_rfl) (fun _ _ _ h => h) rfl (fun w' hS => ?_) hS0 ?_
  rotate_left
  · (try dsimp only at hS); go_split_ands; go_simp; (try with_reducible rfl)
  simp only [Act.put, List.setIfInBounds_toArray, List.set_cons_zero, List.set_cons_succ]
  refine Upto.take (i := 2) (v := ?_) rfl (by kernel_rfl) (fun _ _ _ h => h) rfl (fun w' hS => ?_) hS0 ?_
  rotate_left
  · (try dsimp only at hS); go_split_ands; go_simp; (try with_reducible rfl)
  simp only [Act.put, List.setIfInBounds_toArray, List.set_cons_zero, List.set_cons_succ]
  refine Upto.take (i := 3) (v := ?_) rfl (by kernel_rfl) (fun _ _ _ h => h) rfl (fun w' hS => ?_) hS0 ?_
  rotate_left
  · (try dsimp only at hS); go_split_ands; go_simp; (try with_reducible rfl)
  simp only [Act.put, List.setIfInBounds_toArray, List.set_cons_zero, List.set_cons_succ]
  refine Upto.take (i := 4) (v := ?_) rfl (by kernel_rfl) (fun _ _ _ h => h) rfl (fun w' hS => ?_) hS0 ?_
  rotate_left
  · (try dsimp only at hS); go_split_ands; go_simp; (try with_reducible rfl)
  simp only [Act.put, List.setIfInBounds_toArray, List.set_cons_zero, List.set_cons_succ]
  refine Upto.take (i := 5) (v := ?_) rfl (by kernel_rfl) (fun _ _ _ h => h) rfl (fun w' hS => ?_) hS0 ?_
  rotate_left
  · (try dsimp only at hS); go_split_ands; go_simp; (try with_reducible rfl)
  simp only [Act.put, List.setIfInBounds_toArray, List.set_cons_zero, List.set_cons_succ]
  refine Upto.take (i := 6) (v := ?_) rfl (by kernel_rfl) (fun _ _ _ h => h) rfl (fun w' hS => ?_) hS0 ?_
  rotate_left
  · (try dsimp only at hS); go_split_ands; go_simp; (try with_reducible rfl)
  simp only [Act.put, List.setIfInBounds_toArray, List.set_cons_zero, List.set_cons_succ]
  refine Upto.take (i := 7) rfl (by kernel_rfl) (fun _ _ _ h => h) rfl (fun w' hS => exec_arrayAt rfl (by exact harr _)) hS0 ?_
  simp only [Act.put, List.setIfInBounds_toArray, List.set_cons_zero, List.set_cons_succ]
  refine Upto.take (i := 8) rfl (by kernel_rfl) (fun _ _ _ h => h) rfl (fun w' hS => exec_load rfl (by rfl) (by exact hS.2) hu rfl hsz) hS0 ?_
  simp only [Act.put, List.setIfInBounds_toArray, List.set_cons_zero, List.set_cons_succ]
  refine Upto.take (i := 9) rfl (by kernel_rfl) (fun _ _ _ h => h) rfl (fun w' hS => exec_build rfl [(0, .int .i64 n), (1, secV l)] (by rfl) hbl) hS0 ?_
  simp only [Act.put, List.setIfInBounds_toArray, List.set_cons_zero, List.set_cons_succ]
  refine Upto.only (i := 10) rfl (by kernel_rfl) rfl (exec_buildSlice rfl [(0, .agg (wrC (n, l)).toArray)] (by rfl) (hbs _)) ?_ ?_
  · have := HK.out (w1.drew.alloc (.cells (wrC (n, l)).toArray 70)) _ ((Below.refl _ w1).drew.alloc (Nat.le_refl _) _) ⟨rfl, rfl, rfl, Nat.le_refl _, fun _ _ _ => rfl⟩
    exact ⟨this.1, this.2.2⟩
  simp only [Act.put, List.setIfInBounds_toArray, List.set_cons_zero, List.set_cons_succ]
  refine Upto.law (i := 11) rfl (by kernel_rfl) rfl (fun K hK => ?_)
  have hz257 : (Value.agg (wrC (0, zeros)).toArray).cells.size = 257 := by simp [Value.cells, wrC_len (p := (0, zeros)) zeros_sec]
  refine wp_append_lies _ _ _ 62 (by rfl) 0 70 i0 _ 257 264 Try.underlying62 hi hz0 hz1 hz2 hz257 (by omega) (.slice A s.pend.length c) s.pend.length (pdC s.pend) (by rfl) (HR.out.alloc _)
    ⟨w1.heap.size, 0, none⟩ 1 1 (wrC (n, l)) (by rfl) (by rw [hwl]) (World.news_of_block (cs := (wrC (n, l)).toArray) (t := 70) (fr := (0, 0)) (heap_alloc_new w1.drew _)) hone1.out
    (by omega) (by unfold maxLen; omega) (by omega) (Nat.zero_le _) (w1.heap.size + 1) (by simp) ?_
  intro gg cap w3 hown3 hgrow hat hltt
  have hb1 : Below w1.heap.size w1 (w1.drew.alloc (.cells (wrC (n, l)).toArray 70)) := (Below.refl _ w1).drew.alloc (Nat.le_refl _) _
  have hS3 := HK.out _ w3 hb1 hgrow
  obtain ⟨hc3, hf3, R⟩ := Y.out w1 _ w3 (some ⟨gg, 0, none⟩) cap H1.out H2.out hb1 hown3 hgrow (by
    rcases hat with h | h
    · exact .inl h
    · refine .inr (fun k hk => ?_)
      have : gg = k := by simpa [Value.ownBlock] using hk
      omega)
  have R := Lib.hid R
  refine hK _ _ ⟨hS3.1, hS3.2.2⟩ ?_
  clear hS3 hown3 hgrow hat hK HK H1 H2 HR Y KB hbl hbs harr
  simp only [Act.put, List.setIfInBounds_toArray, List.set_cons_zero, List.set_cons_succ]
  refine Upto.tail rfl (by kernel_rfl) ?_
  simp only [List.drop_succ_cons, List.drop_zero]
  go_wp2_with fail
  refine NoPanic.normal ?_
  go_wp2_with fail
  go_ret
  exact R.out
end Go.Proofs.Ytjieledaiipheaa

/- disk.Sync answers and leaves what the plain disk does. -/
namespace Go.Proofs.Ytjieledaiipheaa
open Go.RowKit

theorem wrC_one (p : Nat × List Int) : ∀ u ∈ wrC p, u.oneCell' = true := fun u hu => by
  rcases List.mem_cons.1 hu with rfl | hu
  · rfl
  · exact byC_one p.2 u hu

theorem range_cells {w : World} {b o : Nat} {cs : List Value} (h : w.rangeAt b o cs) {j : Nat} {v : Value} (hv : cs[j]? = some v) : w.cell? ⟨b, o + j, none⟩ = some v := h j v hv

/-- The pending writes in memory, one by one. -/
theorem pend_at {w : World} {A : Option Addr} {c : Nat} {s : St} (ok : s.Ok) (h : w.ownsRow 0 70 257 (.slice A s.pend.length c) s.pend.length (pdC s.pend)) (hp : 0 < s.pend.length) :
    ∃ pb, A = some ⟨pb, 0, none⟩ ∧ s.pend.length ≤ c ∧ c ≤ maxLen ∧ ∀ i, i < s.pend.length → w.rangeAt pb (i * 257) (wrC (s.at_ i)) := by
  rcases h.2 with ⟨_, hn⟩ | ⟨g, cap, cur, hv, _, hg, hnc, hm, hcs, htk⟩
  · omega
  · injection hv with e1 e2 e3
    subst e3
    refine ⟨g, e1, hnc, hm, fun i hi j v hv => ?_⟩
    have hl : ∀ y ∈ s.pend, (wrC y).length = 257 := fun p hp => wrC_len (ok.pend p hp).2
    have hx : s.pend[i]? = some (s.at_ i) := by simp [St.at_, List.getD, List.getElem?_eq_getElem hi]
    have hj : j < 257 := by
      have := (List.getElem?_eq_some_iff.1 hv).1
      rwa [wrC_len (ok.at_ i hi).2] at this
    have := flatMap_at wrC 257 s.pend i j _ hl hx hj
    have hc := h.cells (g := g) (by rw [e1]; rfl) (i * 257 + j) v (by unfold pdC; rw [this, hv])
    have hadd : (⟨g, 0, none⟩ : Addr).add (i * 257 + j) = ⟨g, i * 257 + j, none⟩ := by unfold Addr.add; split <;> simp_all
    rwa [hadd] at hc

/-- What Sync leaves. -/
def RetSync (F : Nat → Prop) (b : Nat) (e0 : Int) (s' : St) (w : World) (e : Ending) (w' : World) : Prop := e = .returned (.int .i64 e0) ∧ Turn (dsk b s') F w w'

set_option maxHeartbeats 1000000 in
theorem sync_down (w : World) (F : Nat → Prop) (b mb : Nat) (A : Option Addr) (c : Nat) (s : St) (h : DskB w F b mb A c s) (hc : s.can = false) :
    Calls Try.prog 22 #[.pointer (some ⟨b, 0, none⟩)] w (RetSync F b 40 s.step w) := by
  have C2 := Lib.hid (step_any h)
  have T := Lib.hid (fun w' (h' : DskB w' F b mb A c s.step) hf => h.turned h' hf)
  have HC := Lib.hid hc
  clear h hc
  go_enter Try.func22, Try.ntmps22
  go_wp2_with fail
  refine C2.out.mono ?_
  rintro e w' ⟨rfl, h1, h2⟩
  rw [HC.out]
  have R : Hid (RetSync F b 40 s.step w (.returned (.int .i64 40)) w') := Lib.hid ⟨rfl, T.out w' h1 h2⟩
  clear h1 h2
  go_wp2_with fail
  go_ret
  exact R.out

/-- While the writes are synchronized. -/
structure SyncRel (b mb : Nat) (cs : Array Value) (A : Option Addr) (c : Nat) (s : St) (w1 : World) (k : Nat) (wr : World) : Prop where
  blk : Bk wr b 64 cs
  map : MapFn wr mb (secV zeros) (fun n => secV (s.upTo k n))
  row : wr.ownsRow 0 70 257 (.slice A s.pend.length c) s.pend.length (pdC s.pend)
  fr : Fr (fun k => k = mb) w1 wr

theorem row_not_bk {w : World} {base e size n : Nat} {v : Value} {xs : List Value} {b : Nat} {t : TypeId} {cs : Array Value} (h : w.ownsRow base e size v n xs) (hb : Bk w b t cs) (hne : t ≠ e) : v.ownBlock ≠ some b := by
  rcases h.2 with ⟨rfl, _⟩ | ⟨g, cap, cur, rfl, _, hg, _⟩
  · simp [Value.ownBlock]
  · intro q
    simp [Value.ownBlock] at q
    subst q
    unfold Bk at hb
    rw [hb] at hg
    simp at hg
    exact hne hg.2

theorem SyncRel.step {b mb : Nat} {cs : Array Value} {A : Option Addr} {c : Nat} {s : St} {w1 wr w2 w3 : World} {k : Nat} (h : SyncRel b mb cs A c s w1 k wr) (hb : Below wr.heap.size wr w2)
    (hm : MapFn w3 mb (secV zeros) (fun m => if m = (s.at_ k).1 then secV (s.at_ k).2 else secV (s.upTo k m))) (hf : Fr (fun k => k = mb) w2 w3) : SyncRel b mb cs A c s w1 (k + 1) w3 := by
  have hne : mb ≠ b := h.map.not_bk h.blk
  have hpb : (Value.slice A s.pend.length c).ownBlock ≠ some mb := h.map.not_row h.row
  refine ⟨?_, ?_, ?_, ?_⟩
  · have h2 := h.blk.bel hb h.blk.lt
    exact h2.eq (hf.block b h2.lt (fun e => hne e.symm))
  · have e : (fun n => secV (s.upTo (k + 1) n)) = fun m => if m = (s.at_ k).1 then secV (s.at_ k).2 else secV (s.upTo k m) := by
      funext m
      show secV (upd (s.upTo k) (s.at_ k).1 (s.at_ k).2 m) = _
      unfold upd
      split <;> rfl
    rw [e]
    exact hm
  · refine owns_keep h.row (fun q hq => ?_)
    have hlt := (h.row.lt q hq).2
    exact (hf.block q (Nat.lt_of_lt_of_le hlt hb.size) (fun e => hpb (by rw [hq, e]))).trans (hb.block q hlt)
  · exact (h.fr.then (Fr.of_below hb)).then hf

theorem slice_none (A : Option Addr) (n c : Nat) (w : World) : (Instr.sliceAt 62 (.slice A n c) none (some (.int .i64 0)) none).run Try.prog w = .ok (.slice A 0 c) w := by
  obtain ⟨i0, hi, hz0, hz1, hz2⟩ := info_parts info_wr
  cases A with
  | none => by_cases h : c = 0 <;> simp [Instr.sliceAt, Instr.slice, Instr.sliceBounds, Instr.sliceBound, asIntOf, run_underlying (P := Try.prog) Try.underlying62, Result.andThen, sizeOf, typeInfo, hi, hz1, h]
  | some a => by_cases h : c = 0 <;> simp [Instr.sliceAt, Instr.slice, Instr.sliceBounds, Instr.sliceBound, asIntOf, run_underlying (P := Try.prog) Try.underlying62, Result.andThen, sizeOf, typeInfo, hi, hz1, h, Addr.add]

/-- Behind the loop: the list cleared, the two cells laid. -/
theorem SyncRel.done {w w1 wr w3 : World} {F : Nat → Prop} {b mb : Nat} {A : Option Addr} {c : Nat} {s : St} (h : DskB w F b mb A c s) (h1 : DskB w1 F b mb A c s.step) (hf1 : Fr (fun k => k = b) w w1) (hlim : s.syncs < 999999)
    (hr : SyncRel b mb #[.int .i64 s.step.num, .map (some mb), .slice A s.pend.length c, .int .i64 s.step.left, .bool s.step.gone, .int .i64 s.syncs] A c s w1 s.pend.length wr)
    (ho : w3.ownsRow 0 70 257 (.slice A 0 c) 0 []) (hg : wr.grownBy w3 (Value.slice A s.pend.length c).ownBlock) :
    (w3.cell? ⟨b, 2, none⟩ = some (.slice A s.pend.length c) ∧ w3.frozen? ⟨b, 2, none⟩ = false ∧ w3.cell? ⟨b, 5, none⟩ = some (.int .i64 s.syncs) ∧ w3.frozen? ⟨b, 5, none⟩ = false) ∧
    RetSync F b 0 s.synced w (.returned (.int .i64 0)) ((w3.setCell ⟨b, 2, none⟩ (.slice A 0 c)).setCell ⟨b, 5, none⟩ (.int .i64 (s.syncs + 1))) := by
  have hpb : (Value.slice A s.pend.length c).ownBlock ≠ some b := row_not_bk hr.row hr.blk (by decide)
  have hpm : (Value.slice A s.pend.length c).ownBlock ≠ some mb := hr.map.not_row hr.row
  have hob : (Value.slice A 0 c).ownBlock = (Value.slice A s.pend.length c).ownBlock := by cases A <;> rfl
  have e : s.step.pend = s.pend := St.step_pend s
  have hfp := h1.fp
  rw [e] at hfp
  have hblk3 := hr.blk.eq (hg.block b hr.blk.lt (fun q => hpb q.symm))
  have hne : mb ≠ b := hr.map.not_bk hr.blk
  refine ⟨⟨hblk3.cell 2, hblk3.frz 2, hblk3.cell 5, hblk3.frz 5⟩, rfl, ?_⟩
  have hfr3 : Fr F w w3 := ((hf1.mono (fun k q => (q ▸ h.fb : F k))).then (hr.fr.mono (fun k q => (q ▸ h.fm : F k)))).grown hg (fun k hk => .inl (hfp k hk))
  have hfr : Fr F w ((w3.setCell ⟨b, 2, none⟩ (.slice A 0 c)).setCell ⟨b, 5, none⟩ (.int .i64 (s.syncs + 1))) := (hfr3.setCell (a := ⟨b, 2, none⟩) h.fb _).setCell (a := ⟨b, 5, none⟩) h.fb _
  have hkeep : ∀ k, k ≠ b → ((w3.setCell ⟨b, 2, none⟩ (.slice A 0 c)).setCell ⟨b, 5, none⟩ (.int .i64 (s.syncs + 1))).heap[k]? = w3.heap[k]? := fun k hk => by
    rw [Below.heap_setCell _ _ _ _ hk, Below.heap_setCell _ _ _ _ hk]
  have D : DskB ((w3.setCell ⟨b, 2, none⟩ (.slice A 0 c)).setCell ⟨b, 5, none⟩ (.int .i64 (s.syncs + 1))) F b mb A c s.synced := by
    refine ⟨?_, ?_, ?_, h.fb, h.fm, ?_, ?_, ?_, ?_⟩
    · have := (hblk3.setc 2 (.slice A 0 c)).setc 5 (.int .i64 (s.syncs + 1))
      simpa [St.synced] using this
    · exact (hr.map.eq (hg.block mb hr.map.lt (fun q => hpm q.symm))).eq (hkeep mb hne)
    · refine owns_keep ho (fun k hk => hkeep k (fun q => ?_))
      have hk' : (Value.slice A 0 c).ownBlock = some k := hk
      rw [hob, q] at hk'
      exact hpb hk'
    · intro k hk
      have hk' : (Value.slice A 0 c).ownBlock = some k := hk
      rw [hob] at hk'
      exact hfp k hk'
    · exact fun k f => Nat.lt_of_lt_of_le (h.lt k f) hfr.size
    · have := h.ok.sync
      exact ⟨h.ok.step.num, h.ok.now, fun p hp => by simp [St.synced] at hp, h.ok.step.left⟩
    · exact ⟨by simp [St.synced], by show s.syncs + 1 < _; omega⟩
  exact (D.mono (fun _ f => .inl f) (fun k f => by
    rcases f with f | f
    · exact D.lt k f
    · exact f.2)).turn hfr

set_option maxRecDepth 100000 in
set_option maxHeartbeats 4000000 in
theorem sync_made (w : World) (F : Nat → Prop) (b mb : Nat) (A : Option Addr) (c : Nat) (s : St) (h : DskB w F b mb A c s) (hc : s.can = true) (hlim : s.syncs < 999999) :
    Calls Try.prog 22 #[.pointer (some ⟨b, 0, none⟩)] w (RetSync F b 0 s.synced w) := by
  obtain ⟨i0, hi, hz0, hz1, hz2⟩ := info_parts info_wr
  have C2 := Lib.hid (step_any h)
  have HC := Lib.hid hc
  have HD := Lib.hid (fun w1 wr w3 (h1 : DskB w1 F b mb A c s.step) hf1 hr ho hg => SyncRel.done (w3 := w3) (wr := wr) h h1 hf1 hlim hr ho hg)
  have hpl := h.lim
  have HOK := Lib.hid h.ok
  have hcmax : c ≤ 9223372036854775807 := by
    rcases h.row.2 with ⟨hv, _⟩ | ⟨g, cap, cur, hv, _, _, _, hm, _⟩
    · injection hv with _ _ e3; omega
    · injection hv with _ _ e3; unfold maxLen at hm; omega
  have HZ := Lib.hid (show ∀ w, (zeroValue 70).run Try.prog w = .ok (.agg (wrC (0, zeros)).toArray) w from fun w => by simp [zeroValue, typeInfo, hi, hz0])
  have hz257 : (Value.agg (wrC (0, zeros)).toArray).cells.size = 257 := by simp [Value.cells, wrC_len (p := (0, zeros)) zeros_sec]
  have HZ1 : Hid (∀ v ∈ (Value.agg (wrC (0, zeros)).toArray).cells.toList, v.oneCell' = true) := Lib.hid (fun v hv => wrC_one (0, zeros) v (by simpa [Value.cells] using hv))
  have HI : Hid ((Try.prog.info? 70).map (·.size) = some 257) := Lib.hid (by rw [hi]; simp [hz1])
  have hu := Try.underlying70
  have hus := Try.underlying66
  have huw := Try.underlying55
  have hui := Try.underlying3
  have hpl1 := hpl.1
  have hpl2 := hpl.2
  clear h hc hpl
  go_enter Try.func22, Try.ntmps22
  go_wp2_with fail
  refine C2.out.mono ?_
  rintro e w1 ⟨rfl, h1, h2⟩
  rw [HC.out]
  have hblk1 := h1.blk
  rw [St.step_pend, St.step_syncs] at hblk1
  have hrow1 := h1.row
  rw [St.step_pend] at hrow1
  have hmap1 := h1.map
  rw [St.step_syn] at hmap1
  have hc2 : w1.cell? ⟨b, 2, none⟩ = some (.slice A s.pend.length c) := hblk1.cell 2
  obtain ⟨cs, hcs⟩ : ∃ cs : Array Value, cs = #[.int .i64 s.step.num, .map (some mb), .slice A s.pend.length c, .int .i64 s.step.left, .bool s.step.gone, .int .i64 s.syncs] := ⟨_, rfl⟩
  have HD2 : Hid (∀ wr w3, SyncRel b mb cs A c s w1 s.pend.length wr → w3.ownsRow 0 70 257 (.slice A 0 c) 0 [] → wr.grownBy w3 (Value.slice A s.pend.length c).ownBlock → _) := Lib.hid (fun wr w3 hr ho hg => HD.out w1 wr w3 h1 h2 (by rw [hcs] at hr; exact hr) ho hg)
  have HCS := Lib.hid hcs
  have R0 : Hid (SyncRel b mb cs A c s w1 0 w1) := Lib.hid ⟨by rw [hcs]; exact hblk1, hmap1, hrow1, Fr.refl _ _⟩
  clear h1 h2 hblk1 hrow1 hmap1 hcs HD C2 HC
  go_wp2_with fail
  go_loopw [18] (fun q wr => ∃ k : Nat, k ≤ s.pend.length ∧ q = .int .i64 k ∧ SyncRel b mb cs A c s w1 k wr) (fun q _ => s.pend.length - (intOf q).toNat)
  case atStart => exact ⟨0, Nat.zero_le _, rfl, R0.out⟩
  case round =>
    obtain ⟨k, hk, rfl, hr⟩ := hrel
    have hblk := hr.blk
    rw [HCS.out] at hblk
    have hc1 : wr.cell? ⟨b, 1, none⟩ = some (.map (some mb)) := hblk.cell 1
    have hc2 : wr.cell? ⟨b, 2, none⟩ = some (.slice A s.pend.length c) := hblk.cell 2
    by_cases hlt : k < s.pend.length
    · obtain ⟨pb, rfl, hpc, hpm, hat⟩ := pend_at HOK.out hr.row (by omega)
      have hrg := hat k hlt
      have hrg0 : wr.rangeAt pb (0 + k * 257) (wrC (s.at_ k)) := by rw [Nat.zero_add]; exact hrg
      obtain ⟨n, l, hnl⟩ : ∃ n l, s.at_ k = (n, l) := ⟨_, _, rfl⟩
      have hsec : Sec l := by have := (HOK.out.at_ k hlt).2; rw [hnl] at this; exact this
      rw [hnl] at hrg hrg0
      have hwl : (wrC (n, l)).length = 257 := wrC_len (p := (n, l)) hsec
      have hbl : (byC l).length = 256 := by rw [byC_len, hsec.1]
      have hiw : (Try.prog.info? 70).map (·.size) = some (wrC (n, l)).length := by rw [hwl]; exact HI.out
      have his : (Try.prog.info? 66).map (·.size) = some (byC l).length := by rw [hbl]; exact size_sec
      have h1w : (wrC (n, l)).toArray.all (·.oneCell') = true := all_oneCell_toArray (wrC_one _)
      have HST := Lib.hid (fun w2 w3 hb hm hf => hr.step (w2 := w2) (w3 := w3) hb (by rw [hnl]; exact hm) hf)
      have HR := Lib.hid hr
      clear hr hat
      have hk0 : (0 : Int) ≤ (k : Int) := Int.natCast_nonneg _
      have hk1 : (k : Int) < (s.pend.length : Int) := by omega
      go_wp2_with (first
        | (refine wpList_run rfl (exec_load rfl (by rfl) (by first | exact hrg | exact hrg0) hu rfl hiw) ?_)
        | (refine wpList_run rfl (exec_alloc rfl HZ.out) ?_)
        | (refine wpList_store_new rfl rfl (W := wr) rfl (by rfl) (by rfl) (by rw [List.size_toArray]; exact hiw) (by rw [hz257, List.size_toArray, hwl]) h1w ?_))
      have hnb : (wr.alloc (.cells (wrC (n, l)).toArray 70)).heap[wr.heap.size]? = some (.cells (wrC (n, l)).toArray 70 (0, 0)) := heap_alloc_new wr _
      have hcb : (wr.alloc (.cells (wrC (n, l)).toArray 70)).cell? ⟨b, 1, none⟩ = some (.map (some mb)) := ((Below.refl _ wr).alloc (Nat.le_refl _) _).cell (p := ⟨b, 1, none⟩) hblk.lt |>.trans hc1
      have hS0 : (wr.alloc (.cells (wrC (n, l)).toArray 70)).drew.cell? ⟨b, 1, none⟩ = some (.map (some mb)) ∧ (wr.alloc (.cells (wrC (n, l)).toArray 70)).drew.cell? ⟨wr.heap.size, 0, none⟩ = some (.int .i64 n) ∧ (wr.alloc (.cells (wrC (n, l)).toArray 70)).drew.rangeAt wr.heap.size 1 (byC l) := by
        refine ⟨hcb, ?_, ?_⟩
        · exact (cell_of_row _ _ _ _ _ _ hnb).trans rfl
        · have := World.rangeAt_of_block hnb 1 256
          have e : ((wrC (n, l)).toArray.extract 1 (1 + 256)).toList = byC l := by
            simp [wrC, hbl]
            exact List.take_of_length_le (by omega)
          rw [e] at this
          exact this
      have HB2 := Lib.hid ((Below.refl _ wr).alloc (Nat.le_refl _) (.cells (wrC (n, l)).toArray 70)).drew
      have HM := Lib.hid (HR.out.map.eq (w' := (wr.alloc (.cells (wrC (n, l)).toArray 70)).drew) ((HB2.out).block mb HR.out.map.lt))
      obtain ⟨W2, hW2⟩ : ∃ W2, W2 = wr.alloc (.cells (wrC (n, l)).toArray 70) := ⟨_, rfl⟩
      rw [← hW2] at hS0 HB2 HM ⊢
      clear hnb hcb hW2
      refine wp_region_noPanic ?_
      refine upto_start (fun w' => w'.cell? ⟨b, 1, none⟩ = some (.map (some mb)) ∧ w'.cell? ⟨wr.heap.size, 0, none⟩ = some (.int .i64 n) ∧ w'.rangeAt wr.heap.size 1 (byC l)) 8 (by kernel_rfl) ?_
      change Upto _ _ _ _ _ 9 _ _ _
      refine Upto.take (i := 0) (v := ?_) rfl (by kernel_rfl) (fun _ _ _ h => h) rfl (fun w' hS => ?_) hS0 ?_
      rotate_left
      · (try dsimp only at hS); go_split_ands; go_simp; (try with_reducible rfl)
      simp only [Act.put, List.setIfInBounds_toArray, List.set_cons_zero, List.set_cons_succ]
      refine Upto.take (i := 1) (v := ?_) rfl (by kernel_rfl) (fun _ _ _ h => h) rfl (fun w' hS => ?_) hS0 ?_
      rotate_left
      · (try dsimp only at hS); go_split_ands; go_simp; (try with_reducible rfl)
      simp only [Act.put, List.setIfInBounds_toArray, List.set_cons_zero, List.set_cons_succ]
      refine Upto.take (i := 2) (v := ?_) rfl (by kernel_rfl) (fun _ _ _ h => h) rfl (fun w' hS => ?_) hS0 ?_
      rotate_left
      · (try dsimp only at hS); go_split_ands; go_simp; (try with_reducible rfl)
      simp only [Act.put, List.setIfInBounds_toArray, List.set_cons_zero, List.set_cons_succ]
      refine Upto.take (i := 3) (v := ?_) rfl (by kernel_rfl) (fun _ _ _ h => h) rfl (fun w' hS => ?_) hS0 ?_
      rotate_left
      · (try dsimp only at hS); go_split_ands; go_simp; (try with_reducible rfl)
      simp only [Act.put, List.setIfInBounds_toArray, List.set_cons_zero, List.set_cons_succ]
      refine Upto.take (i := 4) (v := ?_) rfl (by kernel_rfl) (fun _ _ _ h => h) rfl (fun w' hS => ?_) hS0 ?_
      rotate_left
      · (try dsimp only at hS); go_split_ands; go_simp; (try with_reducible rfl)
      simp only [Act.put, List.setIfInBounds_toArray, List.set_cons_zero, List.set_cons_succ]
      refine Upto.take (i := 5) (v := ?_) rfl (by kernel_rfl) (fun _ _ _ h => h) rfl (fun w' hS => ?_) hS0 ?_
      rotate_left
      · (try dsimp only at hS); go_split_ands; go_simp; (try with_reducible rfl)
      simp only [Act.put, List.setIfInBounds_toArray, List.set_cons_zero, List.set_cons_succ]
      refine Upto.take (i := 6) (v := ?_) rfl (by kernel_rfl) (fun _ _ _ h => h) rfl (fun w' hS => ?_) hS0 ?_
      rotate_left
      · (try dsimp only at hS); go_split_ands; go_simp; (try with_reducible rfl)
      simp only [Act.put, List.setIfInBounds_toArray, List.set_cons_zero, List.set_cons_succ]
      refine Upto.take (i := 7) rfl (by kernel_rfl) (fun _ _ _ h => h) rfl (fun w' hS => exec_load rfl (by rfl) (by exact hS.2.2) hus rfl his) hS0 ?_
      simp only [Act.put, List.setIfInBounds_toArray, List.set_cons_zero, List.set_cons_succ]
      refine Upto.tail rfl (by kernel_rfl) ?_
      simp only [List.drop_succ_cons, List.drop_zero]
      refine wpList_update_fn rfl _ _ _ rfl huw hui mb _ _ HM.out (by rfl) n (by rfl) (secV l) (by rfl) ?_
      intro w3 hm3 hf3
      have R := Lib.hid (HST.out _ w3 HB2.out hm3 hf3)
      clear hm3 hf3 HST HM HB2 hS0 HR hrg hrg0
      simp only [Act.put]
      go_wp2_with fail
      refine NoPanic.normal ?_
      go_wp2_with fail
      go_roundw
      case rel => exact ⟨k + 1, by omega, by go_num, R.out⟩
      case measure => simp [intOf]; omega
    · obtain rfl : k = s.pend.length := by omega
      have HR := Lib.hid hr
      have hsn := fun w => slice_none A s.pend.length c w
      have HSN := Lib.hid hsn
      clear hr hsn
      go_wp2_with (first
        | (refine wpList_clear rfl rfl Try.underlying62 hi hz0 hz257 HZ1.out (by rfl) HR.out.row ?_; intro w3 ho3 hg3; clear hc1 hc2 hblk; have hD := Lib.hid (HD2.out _ w3 HR.out ho3 hg3); clear ho3 hg3; obtain ⟨⟨hc2, hf2, hc5, hf5⟩, hRR⟩ := hD.out; have RR := Lib.hid hRR; clear hRR)
        | (refine wpList_run rfl (exec_slice rfl (HSN.out _)) ?_))
      go_ret
      exact RR.out
end Go.Proofs.Ytjieledaiipheaa

/- disk.content and disk.Read answer what is there of a sector, in new memory. -/
namespace Go.Proofs.Ytjieledaiipheaa
open Go.RowKit

/-- A call hands back a sector by value; what was there reads as before. -/
def RetSec (l : List Int) (w : World) (e : Ending) (w' : World) : Prop := e = .returned (secV l) ∧ Below w.heap.size w w'

theorem sec_end (l : List Int) (w : World) : (w.alloc (.cells (byC l).toArray 66)).heap[w.heap.size]? = some (.cells (byC l).toArray 66 (0, 0)) ∧ RetSec l w (.returned (secV l)) (w.alloc (.cells (byC l).toArray 66)) :=
  ⟨heap_alloc_new _ _, rfl, (Below.refl _ _).alloc (Nat.le_refl _) _⟩

theorem zeros_size : (byC zeros).toArray.size = 256 := secV_size zeros_sec
theorem zero_secA (w : World) : (zeroValue 66).run Try.prog w = .ok (.agg (byC zeros).toArray) w := zero_sec w

theorem range_tail {w : World} {b o : Nat} {v : Value} {cs : List Value} (h : w.rangeAt b o (v :: cs)) : w.rangeAt b (o + 1) cs := fun j u hu => by
  have := h (j + 1) u (by simpa using hu)
  rwa [show o + 1 + j = o + (j + 1) from by omega]

set_option maxRecDepth 100000 in
set_option maxHeartbeats 2000000 in
theorem content_any (w : World) (F : Nat → Prop) (b mb : Nat) (A : Option Addr) (c : Nat) (s : St) (h : DskB w F b mb A c s) (n : Nat) (hn : n < s.num) :
    Calls Try.prog 32 #[.pointer (some ⟨b, 0, none⟩), .int .i64 n] w (RetSec (s.now n) w) := by
  have hus := Try.underlying66
  have huw := Try.underlying55
  have hui := Try.underlying3
  have hpl1 := h.lim.1
  have hcmax : c ≤ 9223372036854775807 := by
    rcases h.row.2 with ⟨hv, _⟩ | ⟨g, cap, cur, hv, _, _, _, hm, _⟩
    · injection hv with _ _ e3; omega
    · injection hv with _ _ e3; unfold maxLen at hm; omega
  have hsyn := h.ok.syn n
  have hZ := Lib.hid (fun w => zero_secA w)
  have hbl : ∀ l, Sec l → (Try.prog.info? 66).map (·.size) = some (byC l).toArray.size := fun l hl => by rw [secV_size hl]; exact size_sec
  have hbl2 : ∀ l, Sec l → (byC zeros).toArray.size = (byC l).toArray.size := fun l hl => by rw [secV_size hl, zeros_size]
  have h1l : ∀ l, (byC l).toArray.all (·.oneCell') = true := fun l => all_oneCell_toArray (byC_one l)
  have HBL := Lib.hid hbl
  have HBL2 := Lib.hid hbl2
  have H1L := Lib.hid h1l
  have HOK := Lib.hid h.ok
  have hb1 : Below w.heap.size w (w.alloc (.cells (byC zeros).toArray 66)) := (Below.refl _ _).alloc (Nat.le_refl _) _
  have HM := Lib.hid (h.map.eq (hb1.block mb h.map.lt))
  have HROW := Lib.hid (owns_keep h.row (fun k hk => hb1.block k (h.row.lt k hk).2))
  have hblt := h.blk.lt
  have hcell1 : (w.alloc (.cells (byC zeros).toArray 66)).cell? ⟨b, 1, none⟩ = some (.map (some mb)) := (hb1.cell (p := ⟨b, 1, none⟩) hblt).trans (h.blk.cell 1)
  have hcell2 : (w.alloc (.cells (byC zeros).toArray 66)).cell? ⟨b, 2, none⟩ = some (.slice A s.pend.length c) := (hb1.cell (p := ⟨b, 2, none⟩) hblt).trans (h.blk.cell 2)
  clear h hbl hbl2 h1l hb1
  go_enter Try.func32, Try.ntmps32
  go_wp2_with (refine wpList_run rfl (exec_allocA rfl hZ.out) ?_)
  obtain ⟨W1, hW1⟩ : ∃ W1, W1 = w.alloc (.cells (byC zeros).toArray 66) := ⟨_, rfl⟩
  rw [← hW1] at hcell1 hcell2 HM HROW ⊢
  have HW1 := Lib.hid hW1
  clear hW1
  go_wp2_with fail
  go_loop [5] (fun q => ∃ i : Int, -1 ≤ i ∧ i < s.pend.length ∧ q = .int .i64 i ∧ ∀ j : Nat, i < j → j < s.pend.length → (s.at_ j).1 ≠ n) (fun q => (intOf q + 1).toNat)
  case atStart => exact ⟨(s.pend.length : Int) - 1, by omega, by omega, by go_num, fun j h1 h2 => by omega⟩
  case round =>
    obtain ⟨i, hi1, hi2, rfl, hall⟩ := hrel
    by_cases hi0 : i < 0
    · have hnow : s.now n = s.syn n := St.now_none s n (fun j hj => hall j (by omega) hj)
      have E := Lib.hid (sec_end (s.syn n) w)
      have HN := Lib.hid hnow
      clear hall hnow
      go_wp2_with (first
        | (refine wpList_lookup_fn rfl _ _ rfl huw hui mb _ _ (hZ.out _) HM.out (by rfl) n (by rfl) ?_)
        | (refine wpList_store_new rfl rfl (W := w) HW1.out (by rfl) (by rfl) (HBL.out _ hsyn) (HBL2.out _ hsyn) (H1L.out _) ?_))
      exact bodyPost_ret (v := secV (s.syn n)) (results_cell_row (p := 4) (ty := 66) Try.results32 _ _ w.heap.size 66 (byC (s.syn n)).toArray (0, 0) _ rfl E.out.1 hus rfl (HBL.out _ hsyn)) rfl (by rw [HN.out]; exact E.out.2)
    · obtain ⟨j, rfl⟩ := Int.eq_ofNat_of_zero_le (Int.not_lt.1 hi0)
      have hjl : j < s.pend.length := by omega
      obtain ⟨pb, rfl, hpc, hpm, hat⟩ := pend_at HOK.out HROW.out (by omega)
      have hrg := hat j hjl
      have hx0 : W1.cell? ⟨pb, j * 257, none⟩ = some (.int .i64 (s.at_ j).1) := by have := hrg 0 _ (show (wrC (s.at_ j))[0]? = some (.int .i64 (s.at_ j).1) from rfl); simpa using this
      have hrg1 := range_tail hrg
      have hsj := (HOK.out.at_ j hjl).2
      clear hat hrg
      have hk0 : (0 : Int) ≤ (j : Int) := Int.natCast_nonneg _
      by_cases he : (s.at_ j).1 = n
      · have hnow : s.now n = (s.at_ j).2 := St.now_last s n j hjl he (fun q h1 h2 => hall q (by omega) h2)
        have E := Lib.hid (sec_end (s.at_ j).2 w)
        have HN := Lib.hid hnow
        rw [he] at hx0
        clear hall hnow he
        obtain ⟨l, hl⟩ : ∃ l, (s.at_ j).2 = l := ⟨_, rfl⟩
        rw [hl] at E HN hrg1 hsj
        have hbl : (byC l).length = 256 := by rw [byC_len, hsj.1]
        clear hl
        go_wp2_with (first
          | (refine wpList_run rfl (exec_load rfl (by rfl) (by exact hrg1) hus rfl (by rw [hbl]; exact size_sec)) ?_)
          | (refine wpList_store_new rfl rfl (W := w) HW1.out (by rfl) (by rfl) (HBL.out _ hsj) (HBL2.out _ hsj) (H1L.out _) ?_))
        exact bodyPost_ret (v := secV l) (results_cell_row (p := 4) (ty := 66) Try.results32 _ _ w.heap.size 66 (byC l).toArray (0, 0) _ rfl E.out.1 hus rfl (HBL.out _ hsj)) rfl (by rw [HN.out]; exact E.out.2)
      · have HA : Hid (∀ q : Nat, (j : Int) - 1 < q → q < s.pend.length → (s.at_ q).1 ≠ n) := Lib.hid (fun q h1 h2 => by
          by_cases e : q = j
          · subst e; exact he
          · exact hall q (by omega) h2)
        obtain ⟨m, hm⟩ : ∃ m, (s.at_ j).1 = m := ⟨_, rfl⟩
        rw [hm] at hx0 he
        have hd : ((m : Int) == (n : Int)) = false := by simp; omega
        clear hall hrg1 hm he
        go_wp2_with fail
        go_round
        case rel => exact ⟨(j : Int) - 1, by omega, by omega, by go_num, HA.out⟩
        case measure => simp [intOf]

/-- What Read hands back: bytes in new memory. -/
def RetRead (l : List Int) (w : World) (e : Ending) (w' : World) : Prop :=
  ∃ g, w.heap.size ≤ g ∧ e = .returned (.tuple #[.slice (some ⟨g, 0, none⟩) 256 256, .int .i64 0]) ∧ Bk w' g 66 (byC l).toArray ∧ Below w.heap.size w w'
/-- Read's errors. -/
def RetErr (e0 : Int) (w : World) (e : Ending) (w' : World) : Prop := e = .returned (.tuple #[.slice none 0 0, .int .i64 e0]) ∧ w = w'

theorem Byt.sec {w : World} {g : Nat} {t : TypeId} {l : List Int} (h : Bk w g t (byC l).toArray) (hl : Sec l) : Byt w (some ⟨g, 0, none⟩) 256 256 l :=
  Byt.of_bk h 0 256 256 l hl.1 (Nat.le_refl _) (by unfold maxLen; omega) hl.2 (fun i hi => by
    have : i < l.length := by rw [hl.1]; exact hi
    simp [byC, List.getElem?_eq_getElem this])

set_option maxHeartbeats 1000000 in
theorem read_bad (w : World) (F : Nat → Prop) (b mb : Nat) (A : Option Addr) (c : Nat) (s : St) (h : DskB w F b mb A c s) (n : Int) (hn : n < 0 ∨ (s.num : Int) ≤ n) :
    Calls Try.prog 13 #[.pointer (some ⟨b, 0, none⟩), .int .i64 n] w (RetErr 1 w) := by
  have C := Lib.hid (find_bad h n hn)
  clear h hn
  go_enter Try.func13, Try.ntmps13
  go_wp2_with fail
  refine C.out.mono ?_
  rintro e w' ⟨rfl, rfl⟩
  go_wp2_with fail
  go_ret2
  exact ⟨rfl, rfl⟩

set_option maxHeartbeats 1000000 in
theorem read_down (w : World) (F : Nat → Prop) (b mb : Nat) (A : Option Addr) (c : Nat) (s : St) (h : DskB w F b mb A c s) (n : Nat) (hn : n < s.num) (hg : s.gone = true) :
    Calls Try.prog 13 #[.pointer (some ⟨b, 0, none⟩), .int .i64 n] w (RetErr 40 w) := by
  have C := Lib.hid (find_ok h n hn)
  have c4 : w.cell? ⟨b, 4, none⟩ = some (.bool true) := by rw [← hg]; exact h.blk.cell 4
  clear h hn hg
  go_enter Try.func13, Try.ntmps13
  go_wp2_with fail
  refine C.out.mono ?_
  rintro e w' ⟨rfl, rfl⟩
  go_wp2_with fail
  go_ret2
  exact ⟨rfl, rfl⟩

set_option maxRecDepth 100000 in
set_option maxHeartbeats 1000000 in
theorem read_ok (w : World) (F : Nat → Prop) (b mb : Nat) (A : Option Addr) (c : Nat) (s : St) (h : DskB w F b mb A c s) (n : Nat) (hn : n < s.num) (hg : s.gone = false) :
    Calls Try.prog 13 #[.pointer (some ⟨b, 0, none⟩), .int .i64 n] w (RetRead (s.now n) w) := by
  have C := Lib.hid (find_ok h n hn)
  have C2 := Lib.hid (content_any w F b mb A c s h n hn)
  have c4 : w.cell? ⟨b, 4, none⟩ = some (.bool false) := by rw [← hg]; exact h.blk.cell 4
  have hsec := h.ok.now n
  have hZ := Lib.hid (fun w => zero_secA w)
  obtain ⟨l, hl⟩ : ∃ l, s.now n = l := ⟨_, rfl⟩
  rw [hl] at C2 hsec ⊢
  have HI : Hid ((Try.prog.info? 66).map (·.size) = some (byC l).toArray.size) := Lib.hid (by rw [secV_size hsec]; exact size_sec)
  have HS : Hid ((byC zeros).toArray.size = (byC l).toArray.size) := Lib.hid (by rw [secV_size hsec, zeros_size])
  have H1 : Hid ((byC l).toArray.all (·.oneCell') = true) := Lib.hid (all_oneCell_toArray (byC_one l))
  clear h hn hg hl
  go_enter Try.func13, Try.ntmps13
  go_wp2_with fail
  refine C.out.mono ?_
  rintro e w' ⟨rfl, rfl⟩
  go_wp2_with fail
  refine C2.out.mono ?_
  rintro e w1 ⟨rfl, hb⟩
  have R : Hid (RetRead l w (.returned (.tuple #[.slice (some ⟨w1.heap.size, 0, none⟩) 256 256, .int .i64 0])) (w1.alloc (.cells (byC l).toArray 66))) :=
    Lib.hid ⟨w1.heap.size, hb.size, rfl, heap_alloc_new _ _, hb.alloc hb.size _⟩
  clear hb
  go_wp2_with (first
    | (refine wpList_run rfl (exec_allocA rfl hZ.out) ?_)
    | (refine wpList_store_new rfl rfl (W := w1) rfl (by rfl) (by rfl) HI.out HS.out H1.out ?_))
  go_ret2
  exact R.out
end Go.Proofs.Ytjieledaiipheaa

/- the statements' Full hands back a sector of one byte, in new memory. -/
namespace Go.Proofs.Ytjieledaiipheaa
open Go.RowKit

/-- The bytes f 0 .. f 255, as cells. -/
def u8C (f : Nat → Int) : Array Value := ((List.range 256).map fun i => Value.int .u8 (f i)).toArray
theorem u8C_size (f : Nat → Int) : (u8C f).size = 256 := by unfold u8C; rw [List.size_toArray, List.length_map, List.length_range]
theorem u8C_at (f : Nat → Int) (i : Nat) (h : i < 256) : (u8C f)[i]? = some (.int .u8 (f i)) := by
  unfold u8C
  rw [List.getElem?_toArray, List.getElem?_map, List.getElem?_range h]
  rfl
theorem u8C_set (f : Nat → Int) (j : Nat) (v : Int) : (u8C f).setIfInBounds j (.int .u8 v) = u8C (fun i => if i = j then v else f i) := by
  apply Array.ext_getElem?
  intro i
  rw [Array.getElem?_setIfInBounds]
  by_cases hi : i < 256
  · rw [u8C_at _ i hi, u8C_at _ i hi, u8C_size]
    by_cases e : j = i
    · subst e; rw [if_pos rfl, if_pos hi, if_pos rfl]
    · rw [if_neg e, if_neg (fun q => e q.symm)]
  · have h1 : (u8C f)[i]? = none := Array.getElem?_eq_none (by rw [u8C_size]; omega)
    have h2 : (u8C (fun i => if i = j then v else f i))[i]? = none := Array.getElem?_eq_none (by rw [u8C_size]; omega)
    rw [h1, h2]
    split <;> (try rfl)
    rw [if_neg (by rw [u8C_size]; omega)]
theorem u8C_congr {f g : Nat → Int} (h : ∀ i, i < 256 → f i = g i) : u8C f = u8C g := by
  unfold u8C
  congr 1
  refine List.map_congr_left fun i hi => ?_
  rw [h i (by simpa using hi)]

/-- A sector of one byte. -/
def fullL (x : Int) : List Int := List.replicate 256 x
theorem fullL_sec {x : Int} (h : 0 ≤ x ∧ x < 256) : Sec (fullL x) := ⟨List.length_replicate, fun y hy => by
  obtain ⟨_, rfl⟩ := List.mem_replicate.1 hy
  exact h⟩
theorem u8C_full (x : Int) : u8C (fun _ => x) = (byC (fullL x)).toArray := by
  unfold u8C byC fullL
  rw [List.map_const', List.length_range, List.map_replicate]
theorem info_u8f : (Try.prog.info? 5).map (fun i => (i.zero, i.size, i.bytes)) = some (some (.int .u8 0), 1, 1) := by kernel_rfl
theorem make_256 (W : World) : (Instr.makeSlice 34 (.int .i64 256) (.int .i64 256)).run Try.prog W =
    .ok (.slice (some ⟨W.heap.size, 0, none⟩) 256 256) (W.alloc (.cells (u8C (fun _ => 0)) 5)) := by
  obtain ⟨i0, hi, hz0, hz1, hz2⟩ := info_parts info_u8f
  have := run_make (P := Try.prog) W 34 5 i0 (.int .u8 0) Try.underlying34 hi hz0 .i64 .i64 256 256 (by omega) (by omega) (by rw [hz2]; omega) (by omega)
  rw [this, hz1]
  show Result.ok _ (W.alloc (.cells (madeCells #[.int .u8 0] 256) _)) = _
  have e : madeCells #[.int .u8 0] 256 = u8C (fun _ => 0) := by
    apply Array.toList_inj.1
    rw [toList_madeCells_one]
    unfold u8C
    show _ = (List.range 256).map fun _ => Value.int .u8 0
    rw [List.map_const', List.length_range]
  rw [e]
  rfl

/-- What Full hands back: bytes in a new block. -/
def RetFull (l : List Int) (w : World) (e : Ending) (w' : World) : Prop :=
  ∃ g, w.heap.size ≤ g ∧ e = .returned (.slice (some ⟨g, 0, none⟩) 256 256) ∧ Bk w' g 5 (byC l).toArray ∧ Below w.heap.size w w'

theorem RetFull.byt {l : List Int} {w w' : World} {g : Nat} (hb : Bk w' g 5 (byC l).toArray) (hl : Sec l) : Byt w' (some ⟨g, 0, none⟩) 256 256 l := Byt.sec hb hl

end Go.Proofs.Ytjieledaiipheaa

/- stamp.stamped, Wrap and Open answer what the plain mathematics says, in new memory. -/
namespace Go.Proofs.Ytjieledaiipheaa
open Go.RowKit

theorem wrap_none (m : Int) : u8C (fun i => if i = 255 then m else if i = 0 then m else 0) = (byC (wrapL m [])).toArray := by
  apply Array.ext_getElem?
  intro i
  have hs : (wrapL m []).length = 256 := by
    unfold wrapL
    rw [List.length_cons, List.length_append, padL_len (by simp)]
    rfl
  by_cases hi : i < 256
  · rw [u8C_at _ i hi, List.getElem?_toArray]
    unfold byC
    rw [List.getElem?_map]
    have : (wrapL m [])[i]? = some (if i = 255 then m else if i = 0 then m else 0) := by
      unfold wrapL padL
      by_cases h0 : i = 0
      · subst h0; rfl
      · obtain ⟨j, rfl⟩ : ∃ j, i = j + 1 := ⟨i - 1, by omega⟩
        rw [List.getElem?_cons_succ]
        by_cases h1 : j + 1 = 255
        · obtain rfl : j = 254 := by omega
          rfl
        · rw [if_neg h1, if_neg h0, List.nil_append, List.getElem?_append_left (by rw [List.length_replicate]; show j < 254; omega), List.getElem?_replicate]
          rw [if_pos (by show j < 254; omega)]
    rw [this]
    rfl
  · have h1 : (u8C (fun i => if i = 255 then m else if i = 0 then m else 0))[i]? = none := Array.getElem?_eq_none (by rw [u8C_size]; omega)
    have h2 : ((byC (wrapL m [])).toArray)[i]? = none := Array.getElem?_eq_none (by rw [List.size_toArray, byC_len, hs]; omega)
    rw [h1, h2]

theorem splice_wrap (m : Int) (p : List Int) (h : p.length ≤ 254) : splice (byC (wrapL m [])) 1 (byC p) = byC (wrapL m p) := by
  unfold splice byC wrapL
  rw [List.length_map]
  simp only [List.map_cons, List.take_succ_cons, List.take_zero]
  rw [show 1 + p.length = p.length + 1 from by omega, List.drop_succ_cons]
  simp only [List.cons_append, List.nil_append]
  congr 1
  unfold padL
  simp only [List.nil_append, List.map_append, List.map_replicate, List.map_cons, List.map_nil, List.length_nil, Nat.sub_zero, List.append_assoc]
  rw [List.drop_append_of_le_length (by rw [List.length_replicate]; omega), List.drop_replicate]

set_option maxRecDepth 100000 in
set_option maxHeartbeats 2000000 in
theorem stamped_any (m : Int) (hm : 0 ≤ m ∧ m < 256) (A : Option Addr) (n c : Nat) (p : List Int) (w : World) (h : Byt w A n c p) (hn : n ≤ 254) :
    Calls Try.prog 39 #[.int .u8 m, .slice A n c] w (RetFull (wrapL m p) w) := by
  have HM := Lib.hid make_256
  have hcap := h.cap
  have hmax := h.max
  unfold maxLen at hmax
  have hpl := h.len
  obtain ⟨W1, hW1⟩ : ∃ W1, W1 = w.alloc (.cells (u8C (fun _ => 0)) 5) := ⟨_, rfl⟩
  have hB1 : Bk W1 w.heap.size 5 (u8C (fun _ => 0)) := by rw [hW1]; exact heap_alloc_new _ _
  have hb1 : Below w.heap.size w W1 := by rw [hW1]; exact (Below.refl _ _).alloc (Nat.le_refl _) _
  have hB2 := hB1.setc 0 (.int .u8 m)
  rw [u8C_set] at hB2
  have hb2 : Below w.heap.size w (W1.setCell ⟨w.heap.size, 0, none⟩ (.int .u8 m)) := hb1.setCell (Nat.le_refl _) _
  have hB3 := hB2.setc 255 (.int .u8 m)
  rw [u8C_set, wrap_none] at hB3
  have hb3 : Below w.heap.size w ((W1.setCell ⟨w.heap.size, 0, none⟩ (.int .u8 m)).setCell ⟨w.heap.size, 255, none⟩ (.int .u8 m)) := hb2.setCell (Nat.le_refl _) _
  have hc0 : W1.cell? ⟨w.heap.size, 0, none⟩ = some (.int .u8 0) := by rw [hB1.cell]; exact u8C_at _ 0 (by omega)
  have hf0 : W1.frozen? ⟨w.heap.size, 0, none⟩ = false := hB1.frz 0
  have hc1 : W1.cell? ⟨w.heap.size, 255, none⟩ = some (.int .u8 0) := by rw [hB1.cell]; exact u8C_at _ 255 (by omega)
  have hf1 : W1.frozen? ⟨w.heap.size, 255, none⟩ = false := hB1.frz 255
  have hc2 : (W1.setCell ⟨w.heap.size, 0, none⟩ (.int .u8 m)).cell? ⟨w.heap.size, 255, none⟩ = some (.int .u8 0) := by rw [hB2.cell]; exact (u8C_at _ 255 (by omega)).trans (by simp)
  have hf2 : (W1.setCell ⟨w.heap.size, 0, none⟩ (.int .u8 m)).frozen? ⟨w.heap.size, 255, none⟩ = false := hB2.frz 255
  have HP := Lib.hid h
  have HS : Hid ((wrapL m []).length = 256) := Lib.hid (wrapL_sec hm (by simp) (by simp)).1
  have HB3 := Lib.hid hB3
  have Hb3 := Lib.hid hb3
  have HW := Lib.hid hW1
  have HMK : Hid ((Instr.makeSlice 34 (.int .i64 256) (.int .i64 256)).run Try.prog w = .ok (.slice (some ⟨w.heap.size, 0, none⟩) 256 256) W1) := by
    rw [hW1]; exact Lib.hid (HM.out w)
  clear h hB1 hB2 hB3 hb1 hb2 hb3 HM hW1
  go_enter Try.func39, Try.ntmps39
  go_wp2_with (first
    | (refine wpList_run rfl (exec_makeSlice rfl HMK.out) ?_)
    | (refine wpList_copy_splice rfl _ _ 34 34 rfl 5 Try.underlying34 (by kernel_rfl) (some ⟨w.heap.size, 1, none⟩) A 254 255 n c (by rfl) (by rfl) w.heap.size 1 (byC (wrapL m [])) 5 HB3.out (byC p) (by rw [byC_len, hpl]; show n = min n 254; omega)
        (fun hq => ⟨rfl, by
          obtain ⟨g, off, e, hc⟩ := HP.out.at_ (by rw [byC_len, hpl] at hq; exact hq)
          exact ⟨_, e, (HP.out.below Hb3.out).cells _ e⟩⟩)
        (by rw [byC_len, byC_len, hpl, HS.out]; omega) (byC_one p) w.heap.size w Hb3.out (Nat.le_refl _) ?_))
  intro W2 hg hb
  have hg' := hg.out
  rw [splice_wrap m p (by omega)] at hg'
  have R : Hid (RetFull (wrapL m p) w (.returned (.slice (some ⟨w.heap.size, 0, none⟩) 256 256)) W2) := Lib.hid ⟨_, Nat.le_refl _, rfl, hg', hb⟩
  clear hg hg' hb HP HB3 Hb3 HMK HW
  go_wp2_with fail
  go_ret
  exact R.out

/-- A row of the call's own that reads as l, and a number beside it. -/
def RetOwnE (l : List Int) (x : Int) (w : World) (e : Ending) (w' : World) : Prop :=
  ∃ A n c, e = .returned (.tuple #[.slice A n c, .int .i64 x]) ∧ w'.ownsRow w.heap.size 5 1 (.slice A n c) n (l.map (Value.int .u8)) ∧ (∀ x ∈ l, 0 ≤ x ∧ x < 256) ∧ Below w.heap.size w w'
theorem RetOwnE.byt {l : List Int} {x : Int} {w : World} {e : Ending} {w' : World} (h : RetOwnE l x w e w') : RetByt2 l .i64 x w e w' := by
  obtain ⟨A, n, c, he, ho, hr, hb⟩ := h
  exact ⟨A, n, c, he, Byt.of_own ho hr, hb⟩
theorem RetOwnE.no (x : Int) {w w' : World} (h : Below w.heap.size w w') : RetOwnE [] x w (.returned (.tuple #[.slice none 0 0, .int .i64 x])) w' :=
  ⟨none, 0, 0, rfl, World.ownsRow_nil _ _ _ _, by simp, h⟩

theorem Byt.body {w : World} {g off c : Nat} {l : List Int} (h : Byt w (some ⟨g, off, none⟩) 256 c l) : Byt w (some ⟨g, off + 1, none⟩) 254 (c - 1) (bodyL l) := by
  have hcap := h.cap
  have hmax := h.max
  refine ⟨bodyL_len h.len, by omega, by omega, bodyL_rng h.rng, (fun q => nomatch q), fun _ => ⟨g, off + 1, rfl, fun i hi => ?_⟩⟩
  obtain ⟨g1, o1, e, hc⟩ := h.at_ (by omega)
  injection e with e
  injection e with e1 e2
  subst e1 e2
  have := hc (i + 1) (by omega)
  rw [show off + 1 + i = off + (i + 1) from by omega, this]
  congr 2
  unfold bodyL
  simp only [List.getD_eq_getElem?_getD, List.getElem?_take, hi, if_true, List.getElem?_drop]
  rw [show 1 + i = i + 1 from by omega]

set_option maxHeartbeats 4000000 in
theorem stOpen_own (A : Option Addr) (n c : Nat) (l : List Int) (w : World) (h : Byt w A n c l) :
    Calls Try.prog 43 #[.slice A n c] w (RetOwnE (openB l) (openE l) w) := by
  have hl := h.len
  have hcap := h.cap
  have hmax := h.max
  unfold maxLen at hmax
  by_cases hn : n = 256
  · subst hn
    obtain ⟨g, off, rfl, h0, h1⟩ := h.ends
    have ra := h.lt_ 0 (by omega)
    have rb := h.lt_ 255 (by omega)
    have HB := Lib.hid h
    have HR : Hid (rightL l ↔ l.getD 0 0 = l.getD 255 0 ∧ 1 ≤ l.getD 0 0 ∧ l.getD 0 0 ≤ 3) := Lib.hid Iff.rfl
    have HL := Lib.hid hl
    obtain ⟨a, ha⟩ : ∃ a, l.getD 0 0 = a := ⟨_, rfl⟩
    obtain ⟨b, hb⟩ : ∃ b, l.getD 255 0 = b := ⟨_, rfl⟩
    rw [ha, hb] at HR
    rw [ha] at h0 ra
    rw [hb] at h1 rb
    clear ha hb h hl
    have CI : Hid (∀ W, Calls Try.prog 52 #[.int .u8 a] W (Same (.bool (decide (1 ≤ a ∧ a ≤ 3))) W)) := Lib.hid (isStamp_any a ra)
    by_cases hab : a = b
    · subst hab
      have d1 : (a != a) = false := by simp
      by_cases hs : 1 ≤ a ∧ a ≤ 3
      · have E : Hid (openE l = 0 ∧ openB l = bodyL l) := Lib.hid ⟨openE_right HL.out (HR.out.2 ⟨rfl, hs⟩), openB_right HL.out (HR.out.2 ⟨rfl, hs⟩)⟩
        rw [E.out.1, E.out.2]
        rw [show decide (1 ≤ a ∧ a ≤ 3) = true from by simp; omega] at CI
        have CC : Hid (∀ k, Calls Try.prog 51 #[.slice (some ⟨g, off + 1, none⟩) 254 (c - 1)] (w.drewN k) (RetOwn (bodyL l) (w.drewN k))) := Lib.hid (fun k => clone_own _ 254 (c - 1) (bodyL l) (w.drewN k) (HB.out.body.drewN k) (by omega))
        clear hs E HR HL
        go_enter Try.func43, Try.ntmps43
        go_wp2_with fail
        go_quiet (first | (go_at_call 52; exact Calls.quiet_of_same ((CI.out _).mono fun _ _ h => ⟨h.1, h.2.symm⟩)))
        go_wp2_with fail
        refine (CC.out _).mono ?_
        rintro e w2 ⟨A2, n2, c2, rfl, hb2, hr2, hbel2⟩
        have R : Hid (w2.ownsRow w.heap.size 5 1 (.slice A2 n2 c2) n2 ((bodyL l).map (Value.int .u8)) ∧ (∀ x ∈ bodyL l, 0 ≤ x ∧ x < 256) ∧ Below w.heap.size w w2) := Lib.hid ⟨hb2, hr2, (below_drewN (Below.refl _ _) _).trans hbel2⟩
        clear hb2 hr2 hbel2 CC CI
        go_wp2_with fail
        go_ret2
        exact ⟨_, _, _, rfl, R.out.1, R.out.2.1, R.out.2.2⟩
      · have E : Hid (openE l = 50 ∧ openB l = []) := Lib.hid ⟨openE_torn HL.out (fun q => hs (HR.out.1 q).2), openB_bad (by rw [openE_torn HL.out (fun q => hs (HR.out.1 q).2)]; omega)⟩
        rw [E.out.1, E.out.2]
        rw [show decide (1 ≤ a ∧ a ≤ 3) = false from by simp; omega] at CI
        clear hs E HR HL
        go_enter Try.func43, Try.ntmps43
        go_wp2_with fail
        go_quiet (first | (go_at_call 52; exact Calls.quiet_of_same ((CI.out _).mono fun _ _ h => ⟨h.1, h.2.symm⟩)))
        go_wp2_with fail
        go_ret2
        exact RetOwnE.no _ (below_drewN (Below.refl _ _) _)
    · have d1 : (a != b) = true := by simpa using hab
      have E : Hid (openE l = 50 ∧ openB l = []) := Lib.hid ⟨openE_torn HL.out (fun q => hab (HR.out.1 q).1), openB_bad (by rw [openE_torn HL.out (fun q => hab (HR.out.1 q).1)]; omega)⟩
      rw [E.out.1, E.out.2]
      clear E HR HL CI
      go_enter Try.func43, Try.ntmps43
      go_wp2_with fail
      go_quiet (fail)
      go_wp2_with fail
      go_ret2
      exact RetOwnE.no _ (below_drewN (Below.refl _ _) _)
  · have E : Hid (openE l = 12 ∧ openB l = []) := Lib.hid ⟨openE_len (by omega), openB_bad (by rw [openE_len (by omega)]; omega)⟩
    have hd : ((n : Int) != 256) = true := by simp; omega
    rw [E.out.1, E.out.2]
    clear h hl E
    go_enter Try.func43, Try.ntmps43
    go_wp2_with fail
    go_ret2
    exact RetOwnE.no _ (Below.refl _ _)

theorem stOpen_any (A : Option Addr) (n c : Nat) (l : List Int) (w : World) (h : Byt w A n c l) :
    Calls Try.prog 43 #[.slice A n c] w (RetByt2 (openB l) .i64 (openE l) w) := (stOpen_own A n c l w h).mono fun _ _ h => h.byt
end Go.Proofs.Ytjieledaiipheaa

/- disk.New hands back a new disk of noughts, or the error. -/
namespace Go.Proofs.Ytjieledaiipheaa
open Go.RowKit

/-- A new disk's cells. -/
def newC (n : Int) (mb : Nat) : Array Value := #[.int .i64 n, .map (some mb), .slice none 0 0, .int .i64 (-1), .bool false, .int .i64 0]

theorem newDisk_any (n : Int) (mb : Nat) (w : World) :
    Calls Try.prog 23 #[.int .i64 n, .map (some mb)] w (fun e w' => e = .returned (.pointer (some ⟨w.heap.size, 0, none⟩)) ∧ w' = w.alloc (.cells (newC n mb) 64)) := by
  unfold newC
  go_enter Try.func23, Try.ntmps23
  go_wp2_with fail
  go_ret
  exact ⟨rfl, rfl⟩

/-- A disk on which everything is synchronized. -/
def St.still (s : St) : Prop := s.pend = [] ∧ s.left = -1 ∧ s.gone = false ∧ s.syncs = 0

theorem new_dsk {w w1 : World} {mb : Nat} {s : St} (hs : s.still) (ok : s.Ok) (hm : MapFn w1 mb (secV zeros) (fun n => secV (s.syn n))) (hlow : w.heap.size ≤ mb) (hb : Below w.heap.size w w1) :
    (dsk w1.heap.size s).is (w1.alloc (.cells (newC s.num mb) 64)) (fresh w (w1.alloc (.cells (newC s.num mb) 64))) ∧ Below w.heap.size w (w1.alloc (.cells (newC s.num mb) 64)) := by
  obtain ⟨h1, h2, h3, h4⟩ := hs
  have hsz : (w1.alloc (.cells (newC s.num mb) 64)).heap.size = w1.heap.size + 1 := by simp
  refine ⟨⟨mb, none, 0, ?_, ?_, ?_, ⟨hb.size, by omega⟩, ⟨hlow, by have := hm.lt; omega⟩, ?_, fun k f => f.2, ok, ?_⟩, hb.alloc hb.size _⟩
  · rw [h1, h2, h3, h4]
    exact heap_alloc_new _ _
  · exact hm.eq (Below.heap_alloc _ _ _ hm.lt)
  · rw [h1]
    exact World.ownsRow_nil _ _ _ _
  · intro k hk
    simp [Value.ownBlock] at hk
  · rw [h1, h4]
    simp

/-- A new disk, all of it new memory. -/
def RetNew (s : St) (w : World) (e : Ending) (w' : World) : Prop := ∃ b, e = .returned (.tuple #[.pointer (some ⟨b, 0, none⟩), .int .i64 0]) ∧ (dsk b s).is w' (fresh w w') ∧ Below w.heap.size w w'

set_option maxHeartbeats 1000000 in
theorem new_any (n : Nat) (hn : 1 ≤ n ∧ n ≤ 4096) (w : World) : Calls Try.prog 7 #[.int .i64 n] w (RetNew (St.new n) w) := by
  have hR := (new_dsk (w := w) (w1 := w.alloc (.map #[] 0)) (mb := w.heap.size) (s := St.new n) ⟨rfl, rfl, rfl, rfl⟩ (St.new_ok hn) (MapFn.new w _) (Nat.le_refl _) ((Below.refl _ _).alloc (Nat.le_refl _) _))
  rw [show (w.alloc (.map #[] 0)).heap.size = w.heap.size + 1 from by simp] at hR
  have R := Lib.hid hR
  obtain ⟨h1, h2⟩ := hn
  have hmm := @run_makeMap Try.prog
  clear hR
  go_enter Try.func7, Try.ntmps7
  go_wp2_with fail
  refine (newDisk_any n _ _).mono ?_
  rintro e w' ⟨rfl, rfl⟩
  go_wp2_with fail
  go_ret2
  exact ⟨_, rfl, R.out⟩

theorem new_bad (n : Int) (hn : n < 1 ∨ 4096 < n) (w : World) : Calls Try.prog 7 #[.int .i64 n] w (Same (.tuple #[.pointer none, .int .i64 1]) w) := by
  by_cases h1 : n < 1
  · go_enter Try.func7, Try.ntmps7
    go_wp2_with fail
    go_ret2
    exact ⟨rfl, rfl⟩
  · have h2 : 4096 < n := by omega
    clear hn
    go_enter Try.func7, Try.ntmps7
    go_wp2_with fail
    go_ret2
    exact ⟨rfl, rfl⟩
end Go.Proofs.Ytjieledaiipheaa

/- a slice of ints that came in: what it reads as. -/
namespace Go.Proofs.Ytjieledaiipheaa
open Go.ChangeShapes Go.WideShapes Go.ChangeAt Go.RowKit

/-- The slice reads as these ints. -/
structure Nts (w : World) (A : Option Addr) (n c : Nat) (l : List Int) : Prop where
  len : l.length = n
  cap : n ≤ c
  max : c ≤ maxLen
  rng : ∀ i, i < n → -9223372036854775808 ≤ l.getD i 0 ∧ l.getD i 0 ≤ 9223372036854775807
  at_ : 0 < n → ∃ g off, A = some ⟨g, off, none⟩ ∧ ∀ i, i < n → w.cell? ⟨g, off + i, none⟩ = some (.int .i64 (l.getD i 0))

theorem Nts.below {w w' : World} {A : Option Addr} {n c : Nat} {l : List Int} (h : Nts w A n c l) (hb : Below w.heap.size w w') : Nts w' A n c l :=
  ⟨h.len, h.cap, h.max, h.rng, fun hn => by
    obtain ⟨g, off, e, hc⟩ := h.at_ hn
    exact ⟨g, off, e, fun i hi => (hb.cell (World.block_lt_of_cell? w _ (hc i hi))).trans (hc i hi)⟩⟩

theorem cells_int : Try.prog.cellsOf 3 = 1 := by kernel_rfl

theorem wf_i64 {x : Int} (h : (Lit.int .i64 x).wf = true) : -9223372036854775808 ≤ x ∧ x ≤ 9223372036854775807 := by
  simp [Lit.wf, IntKind.min, IntKind.max, IntKind.signed, IntKind.bits] at h
  exact ⟨by omega, by omega⟩

theorem open_i64s {H : Type} {enc : TypeId × Value → H} {W : World} {a : Option Addr} {n c : Nat} {d : DataW H} {p : List MemPlace} (h : DataW.Trod enc Try.prog W 0 (fun _ => true) true 45 (.slice a n c) d p) :
    ∃ l, Nts W a n c l := by
  obtain ⟨fuel, hf⟩ := h
  rcases open_ints Try.underlying45 Try.underlying3 cells_int hf with ⟨hcs, _⟩ | ⟨x, len, cap, zs, hcs, _, hl, hm, hz, hx, hcell, hwz⟩
  · simp [Value.cells] at hcs
    obtain ⟨rfl, rfl, rfl⟩ := hcs
    exact ⟨[], rfl, Nat.le_refl _, Nat.zero_le _, fun i hi => absurd hi (by omega), fun h => absurd h (by omega)⟩
  · simp [Value.cells] at hcs
    obtain ⟨rfl, rfl, rfl⟩ := hcs
    have hzl : zs.length = c := by simpa using hz
    have hget : ∀ i, i < n → (zs.take n).getD i 0 = zs.getD i 0 := fun i hi => by simp [List.getD, hi]
    refine ⟨zs.take n, by simp; omega, hl, hm, fun i hi => ?_, fun hn => ?_⟩
    · rw [hget i hi]
      have hi' : i < zs.length := by omega
      have e : zs.getD i 0 = zs[i] := by simp [List.getD, List.getElem?_eq_getElem hi']
      rw [e]
      exact wf_i64 (hwz _ (List.getElem_mem hi'))
    obtain ⟨g, off, spot⟩ := x
    have hspot : spot = none := by simpa [Addr.add] using World.cell?_spot (hcell 0 (by omega))
    subst hspot
    refine ⟨g, off, rfl, fun i hi => ?_⟩
    have h1 := hcell i (by omega)
    have hadd : (⟨g, off, none⟩ : Addr).add i = ⟨g, off + i, none⟩ := by unfold Addr.add; split <;> simp_all
    rw [hadd] at h1
    rw [h1, hget i hi]
end Go.Proofs.Ytjieledaiipheaa

/- disk.lastingBytes tells how much a crash leaves of each pending write. -/
namespace Go.Proofs.Ytjieledaiipheaa
open Go.RowKit

/-- The ints f 0 .. f (m - 1), as cells. -/
def natC (f : Nat → Int) (m : Nat) : Array Value := ((List.range m).map fun i => Value.int .i64 (f i)).toArray
theorem natC_size (f : Nat → Int) (m : Nat) : (natC f m).size = m := by simp [natC]
theorem natC_at (f : Nat → Int) (m i : Nat) (h : i < m) : (natC f m)[i]? = some (.int .i64 (f i)) := by simp [natC, h]
theorem natC_set (f : Nat → Int) (m j : Nat) (v : Int) : (natC f m).setIfInBounds j (.int .i64 v) = natC (fun i => if i = j then v else f i) m := by
  apply Array.ext_getElem?
  intro i
  rw [Array.getElem?_setIfInBounds]
  by_cases hi : i < m
  · rw [natC_at _ m i hi, natC_at _ m i hi, natC_size]
    by_cases e : j = i
    · subst e; simp [hi]
    · rw [if_neg e]
      have : ¬ i = j := fun q => e q.symm
      simp [this]
  · have h1 : (natC f m)[i]? = none := Array.getElem?_eq_none (by rw [natC_size]; omega)
    have h2 : (natC (fun i => if i = j then v else f i) m)[i]? = none := Array.getElem?_eq_none (by rw [natC_size]; omega)
    rw [h1, h2]
    split <;> (try rfl)
    rw [if_neg (by rw [natC_size]; omega)]
theorem natC_zero (m : Nat) : madeCells #[.int .i64 0] m = natC (fun _ => 0) m := by
  apply Array.toList_inj.1
  rw [toList_madeCells_one]
  show List.replicate m (Value.int .i64 0) = (List.range m).map fun _ => Value.int .i64 0
  rw [List.map_const']
  simp

theorem info_int : (Try.prog.info? 3).map (fun i => (i.zero, i.size, i.bytes)) = some (some (.int .i64 0), 1, 8) := by kernel_rfl

theorem make_ints (n : Nat) (hn : n ≤ 1000000) (W : World) : (Instr.makeSlice 45 (.int .i64 (n : Int)) (.int .i64 (n : Int))).run Try.prog W =
    .ok (.slice (some ⟨W.heap.size, 0, none⟩) n n) (W.alloc (.cells (natC (fun _ => 0) n) 3)) := by
  obtain ⟨i0, hi, hz0, hz1, hz2⟩ := info_parts info_int
  have := run_make (P := Try.prog) W 45 3 i0 (.int .i64 0) Try.underlying45 hi hz0 .i64 .i64 n n (by omega) (by omega) (by rw [hz2]; omega) (by omega)
  rw [this, hz1, Int.toNat_natCast, Nat.mul_one]
  show Result.ok _ (W.alloc (.cells (madeCells #[.int .i64 0] n) _)) = _
  rw [natC_zero]

/-- A crash as a value. -/
def crsV (KA : Option Addr) (kn kc : Nat) (c : Crs) : Array Value := #[.slice KA kn kc, .bool c.torn, .int .i64 c.cut]

/-- What lastingBytes hands back. -/
def RetLast (f : Nat → Int) (m : Nat) (w : World) (e : Ending) (w' : World) : Prop :=
  ∃ g, w.heap.size ≤ g ∧ e = .returned (.slice (some ⟨g, 0, none⟩) m m) ∧ Bk w' g 3 (natC f m) ∧ Below w.heap.size w w'

/-- Kept by the first k. -/
def keptBy (l : List Int) (k i : Nat) : Int := if (i : Int) ∈ l.take k then 256 else 0

theorem natC_congr {f g : Nat → Int} {m : Nat} (h : ∀ i, i < m → f i = g i) : natC f m = natC g m := by
  unfold natC
  congr 1
  refine List.map_congr_left fun i hi => ?_
  rw [h i (by simpa using hi)]

theorem keptBy_next (l : List Int) (k : Nat) (hk : k < l.length) (i : Nat) : keptBy l (k + 1) i = if (i : Int) = l.getD k 0 then 256 else keptBy l k i := by
  have e : l.getD k 0 = l[k] := by simp [List.getD, List.getElem?_eq_getElem hk]
  unfold keptBy
  rw [e, List.take_succ_eq_append_getElem hk]
  simp only [List.mem_append, List.mem_singleton]
  by_cases h : (i : Int) = l[k]
  · rw [if_pos (.inr h), if_pos h]
  · rw [if_neg h]
    by_cases h2 : (i : Int) ∈ l.take k
    · rw [if_pos (.inl h2), if_pos h2]
    · rw [if_neg (fun q => q.elim h2 h), if_neg h2]

theorem of_kept (c : Crs) (m i : Nat) (h : ¬ (c.torn = true ∧ i + 1 = m)) : ((c.of m i : Nat) : Int) = keptBy c.keep c.keep.length i := by
  unfold Crs.of keptBy
  rw [if_neg h, List.take_length]
  split <;> rfl

theorem of_torn (c : Crs) (m : Nat) (h : c.torn = true) (hm : 0 < m) : c.of m (m - 1) = clamp c.cut := by
  unfold Crs.of
  rw [if_pos ⟨h, by omega⟩]

/-- In the first loop. -/
structure LastRel (w : World) (cv : Array Value) (g m : Nat) (l : List Int) (k : Nat) (wr : World) : Prop where
  blk : Bk wr g 3 (natC (keptBy l k) m)
  box : Bk wr w.heap.size 47 cv
  low : w.heap.size < g
  bel : Below w.heap.size w wr

theorem LastRel.skip {w wr : World} {cv : Array Value} {g m k : Nat} {l : List Int} (h : LastRel w cv g m l k wr) (hk : k < l.length) (hx : l.getD k 0 < 0 ∨ (m : Int) ≤ l.getD k 0) : LastRel w cv g m l (k + 1) wr := by
  refine ⟨?_, h.box, h.low, h.bel⟩
  rw [natC_congr (g := keptBy l k) (fun i hi => by rw [keptBy_next l k hk, if_neg (by omega)])]
  exact h.blk

theorem LastRel.set {w wr : World} {cv : Array Value} {g m k j : Nat} {l : List Int} (h : LastRel w cv g m l k wr) (hk : k < l.length) (hx : l.getD k 0 = (j : Int)) : LastRel w cv g m l (k + 1) (wr.setCell ⟨g, j, none⟩ (.int .i64 256)) := by
  refine ⟨?_, h.box.eq (Below.heap_setCell _ _ _ _ (by have := h.low; show w.heap.size ≠ g; omega)), h.low, h.bel.setCell (Nat.le_of_lt h.low) _⟩
  have := h.blk.setc j (.int .i64 256)
  rw [natC_set] at this
  rw [natC_congr (g := fun i => if i = j then (256 : Int) else keptBy l k i) (fun i hi => by
    rw [keptBy_next l k hk, hx]
    by_cases q : i = j
    · subst q; simp
    · rw [if_neg q, if_neg (by omega)])]
  exact this

theorem LastRel.done {w wr : World} {cv : Array Value} {g m : Nat} {c : Crs} (h : LastRel w cv g m c.keep c.keep.length wr) (ht : c.torn = false ∨ m = 0) : RetLast (fun i => (c.of m i : Int)) m w (.returned (.slice (some ⟨g, 0, none⟩) m m)) wr := by
  refine ⟨g, Nat.le_of_lt h.low, rfl, ?_, h.bel⟩
  rw [natC_congr (g := keptBy c.keep c.keep.length) (fun i hi => of_kept c m i (by
    rintro ⟨q1, q2⟩
    rcases ht with ht | ht
    · rw [ht] at q1; cases q1
    · omega))]
  exact h.blk

theorem LastRel.torn {w wr : World} {cv : Array Value} {g m : Nat} {c : Crs} (h : LastRel w cv g m c.keep c.keep.length wr) (ht : c.torn = true) (hm : 0 < m) (v : Int) (hv : v = (clamp c.cut : Nat)) : RetLast (fun i => (c.of m i : Int)) m w (.returned (.slice (some ⟨g, 0, none⟩) m m)) (wr.setCell ⟨g, m - 1, none⟩ (.int .i64 v)) := by
  subst hv
  refine ⟨g, Nat.le_of_lt h.low, rfl, ?_, h.bel.setCell (Nat.le_of_lt h.low) _⟩
  have := h.blk.setc (m - 1) (.int .i64 (clamp c.cut : Nat))
  rw [natC_set] at this
  rw [natC_congr (g := fun i => if i = m - 1 then ((clamp c.cut : Nat) : Int) else keptBy c.keep c.keep.length i) (fun i hi => by
    by_cases q : i = m - 1
    · subst q
      rw [if_pos rfl, of_torn c m ht hm]
    · rw [if_neg q]
      exact of_kept c m i (by rintro ⟨_, q2⟩; omega))]
  exact this

theorem clamp_eq (c : Int) : ((clamp c : Nat) : Int) = min (max c 0) 256 := by unfold clamp; omega

set_option maxRecDepth 100000 in
set_option maxHeartbeats 2000000 in
theorem last_any (m : Nat) (KA : Option Addr) (kn kc : Nat) (c : Crs) (w : World) (hm : m < 1000000) (hk : Nts w KA kn kc c.keep) (hcut : -9223372036854775808 ≤ c.cut ∧ c.cut ≤ 9223372036854775807) :
    Calls Try.prog 37 #[.int .i64 m, .agg (crsV KA kn kc c)] w (RetLast (fun i => (c.of m i : Int)) m w) := by
  obtain ⟨keep, torn, cut⟩ := c
  unfold crsV
  have hmk := fun W => make_ints m (by omega) W
  have hkmax := hk.max
  have hkcap := hk.cap
  unfold maxLen at hkmax
  have hb1 : Below w.heap.size w ((w.alloc (.cells #[.slice KA kn kc, .bool torn, .int .i64 cut] 47)).alloc (.cells (natC (fun _ => 0) m) 3)) := ((Below.refl _ _).alloc (Nat.le_refl _) _).alloc (by simp) _
  have HB := Lib.hid hb1
  have R0 : Hid (LastRel w #[.slice KA kn kc, .bool torn, .int .i64 cut] (w.heap.size + 1) m keep 0 ((w.alloc (.cells #[.slice KA kn kc, .bool torn, .int .i64 cut] 47)).alloc (.cells (natC (fun _ => 0) m) 3))) :=
    Lib.hid ⟨by
      have h := heap_alloc_new (w.alloc (.cells #[.slice KA kn kc, .bool torn, .int .i64 cut] 47)) (.cells (natC (fun _ => 0) m) 3)
      have e : natC (keptBy keep 0) m = natC (fun _ => 0) m := by
        unfold natC keptBy
        simp
      unfold Bk
      rw [e]
      simpa using h, heap_alloc2_old _ _ _, by omega, hb1⟩
  have HK := Lib.hid hk
  obtain ⟨mx, hmx⟩ : ∃ mx, max cut 0 = mx := ⟨_, rfl⟩
  clear hb1 hk
  go_enter Try.func37, Try.ntmps37
  go_wp2_with fail
  go_loopw [13] (fun q wr => ∃ k : Nat, k ≤ kn ∧ q = .int .i64 k ∧ LastRel w #[.slice KA kn kc, .bool torn, .int .i64 cut] (w.heap.size + 1) m keep k wr) (fun q _ => kn - (intOf q).toNat)
  case atStart => exact ⟨0, Nat.zero_le _, rfl, R0.out⟩
  case round =>
    obtain ⟨k, hkn, rfl, hr⟩ := hrel
    have HR := Lib.hid hr
    clear hr
    by_cases hlt : k < kn
    · obtain ⟨kg, koff, rfl, hc⟩ := HK.out.at_ (by omega)
      have hl : k < keep.length := by have : keep.length = kn := HK.out.len; omega
      have hx : wr.cell? ⟨kg, koff + k, none⟩ = some (.int .i64 (keep.getD k 0)) := (HR.out.bel.cell (World.block_lt_of_cell? w _ (hc k hlt))).trans (hc k hlt)
      have hrng : -9223372036854775808 ≤ keep.getD k 0 ∧ keep.getD k 0 ≤ 9223372036854775807 := HK.out.rng k hlt
      obtain ⟨x, ex⟩ : ∃ x, keep.getD k 0 = x := ⟨_, rfl⟩
      rw [ex] at hx hrng
      clear hc
      by_cases hx0 : x < 0
      · have R := Lib.hid (HR.out.skip hl (by rw [ex]; exact .inl hx0))
        clear ex hl
        go_wp2_with fail
        go_roundw
        case rel => exact ⟨k + 1, by omega, by go_num, R.out⟩
        case measure => simp [intOf]; omega
      · by_cases hxm : (m : Int) ≤ x
        · have R := Lib.hid (HR.out.skip hl (by rw [ex]; exact .inr hxm))
          clear ex hl
          go_wp2_with fail
          go_roundw
          case rel => exact ⟨k + 1, by omega, by go_num, R.out⟩
          case measure => simp [intOf]; omega
        · obtain ⟨j, rfl⟩ := Int.eq_ofNat_of_zero_le (Int.not_lt.1 hx0)
          have R := Lib.hid (HR.out.set hl ex)
          have hjc : wr.cell? ⟨w.heap.size + 1, j, none⟩ = some (.int .i64 (keptBy keep k j)) := by rw [HR.out.blk.cell]; exact natC_at _ _ _ (by omega)
          have hjf : wr.frozen? ⟨w.heap.size + 1, j, none⟩ = false := HR.out.blk.frz j
          have hj0 : (0 : Int) ≤ (j : Int) := Int.natCast_nonneg _
          have hjm : (j : Int) < (m : Int) := by omega
          clear ex hl hxm hx0
          go_wp2_with fail
          go_roundw
          case rel => exact ⟨k + 1, by omega, by go_num, R.out⟩
          case measure => simp [intOf]; omega
    · have hlen : keep.length = k := by have : keep.length = kn := HK.out.len; omega
      have hb1 : wr.cell? ⟨w.heap.size, 1, none⟩ = some (.bool torn) := HR.out.box.cell 1
      have hb2 : wr.cell? ⟨w.heap.size, 2, none⟩ = some (.int .i64 cut) := HR.out.box.cell 2
      have HD : Hid (torn = false ∨ m = 0 → RetLast (fun i => (Crs.of ⟨keep, torn, cut⟩ m i : Int)) m w (.returned (.slice (some ⟨w.heap.size + 1, 0, none⟩) m m)) wr) := Lib.hid (fun ht => LastRel.done (c := ⟨keep, torn, cut⟩) (by show LastRel _ _ _ _ keep keep.length _; rw [hlen]; exact HR.out) ht)
      have HT : Hid (torn = true → 0 < m → ∀ v : Int, v = (clamp cut : Nat) → RetLast (fun i => (Crs.of ⟨keep, torn, cut⟩ m i : Int)) m w (.returned (.slice (some ⟨w.heap.size + 1, 0, none⟩) m m)) (wr.setCell ⟨w.heap.size + 1, m - 1, none⟩ (.int .i64 v))) := Lib.hid (fun ht hm0 v hv => LastRel.torn (c := ⟨keep, torn, cut⟩) (by show LastRel _ _ _ _ keep keep.length _; rw [hlen]; exact HR.out) ht hm0 v hv)
      cases torn with
      | false =>
        have R := Lib.hid (HD.out (.inl rfl))
        clear HD HT hlen
        go_wp2_with fail
        go_ret
        exact R.out
      | true =>
        by_cases hm0 : m = 0
        · subst hm0
          have R := Lib.hid (HD.out (.inr rfl))
          clear HD HT hlen
          go_wp2_with fail
          go_ret
          exact R.out
        · obtain ⟨m', rfl⟩ : ∃ m', m = m' + 1 := ⟨m - 1, by omega⟩
          have hjc : wr.cell? ⟨w.heap.size + 1, m', none⟩ = some (.int .i64 (keptBy keep k m')) := by rw [HR.out.blk.cell]; exact natC_at _ _ _ (by omega)
          have hjf : wr.frozen? ⟨w.heap.size + 1, m', none⟩ = false := HR.out.blk.frz m'
          clear hlen hm0
          by_cases h1 : cut < 0
          · have R := Lib.hid (HT.out rfl (by omega) 0 (by unfold clamp; omega))
            clear HD HT
            go_wp2_with fail
            all_goals first | omega | skip
            go_ret
            exact R.out
          · by_cases h2 : 256 < cut
            · have R := Lib.hid (HT.out rfl (by omega) 256 (by unfold clamp; omega))
              clear HD HT
              go_wp2_with fail
              all_goals first | omega | skip
              go_ret
              exact R.out
            · have R := Lib.hid (HT.out rfl (by omega) cut (by unfold clamp; omega))
              clear HD HT
              go_wp2_with fail
              all_goals first | omega | skip
              go_ret
              exact R.out
end Go.Proofs.Ytjieledaiipheaa

/- maps.Clone of a map of sectors: a new map with the same entries. -/
namespace Go.Proofs.Ytjieledaiipheaa
open Go.RowKit

set_option maxRecDepth 100000 in
set_option maxHeartbeats 2000000 in
theorem clone_any (b : Nat) (es : Array MapEntry) (clock : Nat) (w : World) (hb : w.heap[b]? = some (.map es clock)) :
    Calls Try.prog 36 #[.map (some b)] w (fun e w' => e = .returned (.map (some w.heap.size)) ∧ w' = w.alloc (.map es clock)) := by
  have hq := fun w => run_eql_map_nil_sl (P := Try.prog) w 55 _ _ (some b) Try.underlying55
  go_enter Try.func36, Try.ntmps36
  go_wp2
  rw [run_callFunc_extern (fn := Try.f48) (by rfl) (by kernel_rfl) (by kernel_rfl) (by kernel_rfl) (e := Extern.MapsClone.clone) (by kernel_rfl), run_maps_clone_sl w 55 hb]
  simp only [Result.andThen]
  rw [Oper.upon_value]
  go_wp2
  rw [run_typeAssert_map_sl _ 55 20 _ _ _ Try.underlying55]
  simp only [Result.andThen]
  rw [Oper.upon_value]
  go_wp2
  go_ret
  exact ⟨rfl, rfl⟩
end Go.Proofs.Ytjieledaiipheaa

/- disk.Crash hands back the disk that the plain one's crash leaves, all of it new memory. -/
namespace Go.Proofs.Ytjieledaiipheaa
open Go.RowKit

/-- In the loop over the pending writes. -/
structure CrashRel (w w3 : World) (nm : Nat) (s : St) (cut : Nat → Nat) (k : Nat) (wr : World) : Prop where
  map : MapFn wr nm (secV zeros) (fun n => secV (s.left_ cut k n))
  fr : Fr (fun q => q = nm) w3 wr
  low : w.heap.size ≤ nm
  bel : Below w.heap.size w w3

theorem CrashRel.below {w w3 wr : World} {nm : Nat} {s : St} {cut : Nat → Nat} {k : Nat} (h : CrashRel w w3 nm s cut k wr) : Below w.heap.size w wr := h.bel.trans (h.fr.below h.bel.size (fun q e => e ▸ h.low))

theorem CrashRel.step {w w3 wr w2 w4 : World} {nm : Nat} {s : St} {cut : Nat → Nat} {k : Nat} (h : CrashRel w w3 nm s cut k wr) (hb : Below wr.heap.size wr w2)
    (hm : MapFn w4 nm (secV zeros) (fun m => if m = (s.at_ k).1 then secV (over (s.at_ k).2 (s.left_ cut k (s.at_ k).1) (cut k)) else secV (s.left_ cut k m))) (hf : Fr (fun q => q = nm) w2 w4) : CrashRel w w3 nm s cut (k + 1) w4 := by
  refine ⟨?_, (h.fr.then (Fr.of_below hb)).then hf, h.low, h.bel⟩
  have e : (fun n => secV (s.left_ cut (k + 1) n)) = fun m => if m = (s.at_ k).1 then secV (over (s.at_ k).2 (s.left_ cut k (s.at_ k).1) (cut k)) else secV (s.left_ cut k m) := by
    funext m
    show secV (upd (s.left_ cut k) (s.at_ k).1 _ m) = _
    unfold upd
    split <;> rfl
  rw [e]
  exact hm

/-- What Crash hands back. -/
def RetCrash (s : St) (w : World) (e : Ending) (w' : World) : Prop := ∃ b, e = .returned (.pointer (some ⟨b, 0, none⟩)) ∧ (dsk b s).is w' (fresh w w') ∧ Below w.heap.size w w'

theorem CrashRel.done {w w3 wr : World} {nm : Nat} {s : St} {c : Crs} (h : CrashRel w w3 nm s (c.of s.pend.length) s.pend.length wr) (ok : s.Ok) :
    RetCrash (s.crash c) w (.returned (.pointer (some ⟨wr.heap.size, 0, none⟩))) (wr.alloc (.cells (newC s.num nm) 64)) :=
  ⟨_, rfl, new_dsk (s := s.crash c) ⟨rfl, rfl, rfl, rfl⟩ (ok.crash c) h.map h.low h.below⟩

theorem splice_over (l m : List Int) (k : Nat) (hl : Sec l) (hm : Sec m) (hk : k ≤ 256) : splice (byC m) 0 ((byC l).take k) = byC (over l m k) := by
  have h1 : ((byC l).take k).length = k := by simp [byC_len, hl.1]; omega
  unfold splice over byC
  simp only [List.take_zero, List.nil_append, Nat.zero_add, List.map_append, List.map_take, List.map_drop]
  have h2 : ((l.map (Value.int .u8)).take k).length = k := h1
  rw [h2]

theorem info_byte : (Try.prog.info? 5).map (fun i => (i.zero, i.size, i.bytes)) = some (some (.int .u8 0), 1, 1) := by kernel_rfl
theorem slice_head (g o k : Nat) (hk : k ≤ 256) (w : World) : (Instr.sliceAt 66 (.pointer (some ⟨g, o, none⟩)) none (some (.int .i64 (k : Int))) none).run Try.prog w = .ok (.slice (some ⟨g, o, none⟩) k 256) w := by
  obtain ⟨i0, hi, hz0, hz1, hz2⟩ := info_parts info_byte
  have h1 : (0 ≤ (k : Int) ∧ (k : Int) ≤ ((256 : Nat) : Int)) := by omega
  simp [Instr.sliceAt, Instr.sureAddr, Instr.sliceBounds, Instr.sliceBound, asIntOf, run_underlying (P := Try.prog) Try.underlying66, Result.andThen, sizeOf, typeInfo, hi, hz1, Addr.add]
  rw [if_pos hk]
theorem slice_whole (g o : Nat) (w : World) : (Instr.sliceAt 66 (.pointer (some ⟨g, o, none⟩)) none none none).run Try.prog w = .ok (.slice (some ⟨g, o, none⟩) 256 256) w := by
  obtain ⟨i0, hi, hz0, hz1, hz2⟩ := info_parts info_byte
  simp [Instr.sliceAt, Instr.sureAddr, Instr.sliceBounds, run_underlying (P := Try.prog) Try.underlying66, Result.andThen, sizeOf, typeInfo, hi, hz1, Addr.add]

set_option maxRecDepth 100000 in
set_option maxHeartbeats 4000000 in
theorem crash_any (w : World) (F : Nat → Prop) (b mb : Nat) (A : Option Addr) (ca : Nat) (s : St) (h : DskB w F b mb A ca s) (KA : Option Addr) (kn kc : Nat) (c : Crs) (hk : Nts w KA kn kc c.keep) (hcut : -9223372036854775808 ≤ c.cut ∧ c.cut ≤ 9223372036854775807) :
    Calls Try.prog 21 #[.pointer (some ⟨b, 0, none⟩), .agg (crsV KA kn kc c)] w (RetCrash (s.crash c) w) := by
  obtain ⟨i0, hi, hz0, hz1, hz2⟩ := info_parts info_wr
  have hpl1 := h.lim.1
  have HOK := Lib.hid h.ok
  have hcmax : ca ≤ 9223372036854775807 := by
    rcases h.row.2 with ⟨hv, _⟩ | ⟨g, cap, cur, hv, _, _, _, hm, _⟩
    · injection hv with _ _ e3; omega
    · injection hv with _ _ e3; unfold maxLen at hm; omega
  have hu := Try.underlying70
  have hus := Try.underlying66
  have huw := Try.underlying55
  have hui := Try.underlying3
  have HZ := Lib.hid (show ∀ w, (zeroValue 70).run Try.prog w = .ok (.agg (wrC (0, zeros)).toArray) w from fun w => by simp [zeroValue, typeInfo, hi, hz0])
  have HZS := Lib.hid (fun w => zero_secA w)
  have HZM := Lib.hid (fun w => zero_sec w)
  have hz257 : (wrC (0, zeros)).toArray.size = 257 := by simp [wrC_len (p := (0, zeros)) zeros_sec]
  have HI : Hid ((Try.prog.info? 70).map (·.size) = some 257) := Lib.hid (by rw [hi]; simp [hz1])
  obtain ⟨es, clock, hes, hkeys, hgets⟩ := h.map
  -- behind the box
  have hB1 : Below w.heap.size w (w.alloc (.cells (crsV KA kn kc c) 47)) := (Below.refl _ _).alloc (Nat.le_refl _) _
  have h1 := h.below hB1
  obtain ⟨W1, hW1⟩ : ∃ W1, W1 = w.alloc (.cells (crsV KA kn kc c) 47) := ⟨_, rfl⟩
  have hbox : W1.heap[w.heap.size]? = some (.cells (crsV KA kn kc c) 47 (0, 0)) := by rw [hW1]; exact heap_alloc_new _ _
  have hsz1 : W1.heap.size = w.heap.size + 1 := by rw [hW1]; simp
  rw [← hW1] at h1 hB1
  have hes1 : W1.heap[mb]? = some (.map es clock) := (hB1.block mb h.map.lt).trans hes
  -- behind the clone
  have hB2 : Below w.heap.size w (W1.alloc (.map es clock)) := hB1.alloc (by omega) _
  have h2 := h1.below ((Below.refl W1.heap.size W1).alloc (Nat.le_refl _) (.map es clock))
  have hm2 : MapFn (W1.alloc (.map es clock)) W1.heap.size (secV zeros) (fun n => secV (s.syn n)) := ⟨es, clock, heap_alloc_new _ _, hkeys, hgets⟩
  have hbox2 : (W1.alloc (.map es clock)).heap[w.heap.size]? = some (.cells (crsV KA kn kc c) 47 (0, 0)) := (Below.heap_alloc W1 _ w.heap.size (by omega)).trans hbox
  obtain ⟨W2, hW2⟩ : ∃ W2, W2 = W1.alloc (.map es clock) := ⟨_, rfl⟩
  rw [← hW2] at hB2 h2 hm2 hbox2
  have C1 := Lib.hid (clone_any mb es clock W1 hes1)
  have hk2 : Nts W2.drew KA kn kc c.keep := hk.below hB2.drew
  have C2 := Lib.hid (last_any s.pend.length KA kn kc c W2.drew h.lim.1 hk2 hcut)
  have hW1c1 : W1.cell? ⟨b, 1, none⟩ = some (.map (some mb)) := h1.blk.cell 1
  have hW2c2 : W2.cell? ⟨b, 2, none⟩ = some (.slice A s.pend.length ca) := h2.blk.cell 2
  have hW2b0 : W2.cell? ⟨w.heap.size, 0, none⟩ = some (.slice KA kn kc) := (cell_of_row _ _ _ _ _ _ hbox2).trans rfl
  have hW2b1 : W2.cell? ⟨w.heap.size, 1, none⟩ = some (.bool c.torn) := (cell_of_row _ _ _ _ _ _ hbox2).trans rfl
  have hW2b2 : W2.cell? ⟨w.heap.size, 2, none⟩ = some (.int .i64 c.cut) := (cell_of_row _ _ _ _ _ _ hbox2).trans rfl
  have H2 := Lib.hid h2
  have HNM : Hid (w.heap.size < W1.heap.size) := Lib.hid (by omega)
  obtain ⟨nm, hnm⟩ : ∃ nm, W1.heap.size = nm := ⟨_, rfl⟩
  rw [hnm] at hm2 C1 HNM
  have HM2 := Lib.hid hm2
  have HB2 := Lib.hid hB2
  clear h h1 hes hkeys hgets hes1 hk hk2 h2 hm2 hB1 hB2 hbox hbox2
  have HW1 := Lib.hid hW1
  have HW2 := Lib.hid hW2
  clear hW1 hW2
  have HCV : Hid (∃ cv, cv = crsV KA kn kc c) := Lib.hid ⟨_, rfl⟩
  obtain ⟨cv, hcv⟩ := HCV.out
  have HCVE := Lib.hid hcv
  rw [← hcv] at C2 HW1 ⊢
  clear hcv HCV
  go_enter Try.func21, Try.ntmps21
  go_wp2_with (refine wpList_box rfl rfl (by rfl) HW1.out ?_)
  refine C1.out.mono ?_
  rintro e w' ⟨rfl, hw'⟩
  rw [← HW2.out] at hw'
  have hw2 := hw'.symm
  subst hw2
  clear C1 hW1c1 hsz1 HW1 HW2 hnm
  go_wp2_with fail
  have hS0 : W2.drew.cell? ⟨b, 2, none⟩ = some (.slice A s.pend.length ca) ∧ W2.drew.cell? ⟨w.heap.size, 0, none⟩ = some (.slice KA kn kc) ∧ W2.drew.cell? ⟨w.heap.size, 1, none⟩ = some (.bool c.torn) ∧ W2.drew.cell? ⟨w.heap.size, 2, none⟩ = some (.int .i64 c.cut) := ⟨hW2c2, hW2b0, hW2b1, hW2b2⟩
  clear hW2b0 hW2b1 hW2b2
  refine wp_region_noPanic ?_
  refine upto_start (fun w' => w'.cell? ⟨b, 2, none⟩ = some (.slice A s.pend.length ca) ∧ w'.cell? ⟨w.heap.size, 0, none⟩ = some (.slice KA kn kc) ∧ w'.cell? ⟨w.heap.size, 1, none⟩ = some (.bool c.torn) ∧ w'.cell? ⟨w.heap.size, 2, none⟩ = some (.int .i64 c.cut)) 7 (by kernel_rfl) ?_
  change Upto _ _ _ _ _ 8 _ _ _
  refine Upto.take (i := 0) (v := ?_) rfl (by kernel_rfl) (fun _ _ _ h => h) rfl (fun w' hS => ?_) hS0 ?_
  rotate_left
  · (try dsimp only at hS); go_split_ands; go_simp; (try with_reducible rfl)
  simp only [Act.put, List.setIfInBounds_toArray, List.set_cons_zero, List.set_cons_succ]
  refine Upto.take (i := 1) (v := ?_) rfl (by kernel_rfl) (fun _ _ _ h => h) rfl (fun w' hS => ?_) hS0 ?_
  rotate_left
  · (try dsimp only at hS); go_split_ands; go_simp; (try with_reducible rfl)
  simp only [Act.put, List.setIfInBounds_toArray, List.set_cons_zero, List.set_cons_succ]
  refine Upto.take (i := 2) (v := ?_) rfl (by kernel_rfl) (fun _ _ _ h => h) rfl (fun w' hS => ?_) hS0 ?_
  rotate_left
  · (try dsimp only at hS); go_split_ands; go_simp; (try with_reducible rfl)
  simp only [Act.put, List.setIfInBounds_toArray, List.set_cons_zero, List.set_cons_succ]
  refine Upto.take (i := 3) (v := ?_) rfl (by kernel_rfl) (fun _ _ _ h => h) rfl (fun w' hS => ?_) hS0 ?_
  rotate_left
  · (try dsimp only at hS); go_split_ands; go_simp; (try with_reducible rfl)
  simp only [Act.put, List.setIfInBounds_toArray, List.set_cons_zero, List.set_cons_succ]
  refine Upto.take (i := 4) (v := ?_) rfl (by kernel_rfl) (fun _ _ _ h => h) rfl (fun w' hS => ?_) hS0 ?_
  rotate_left
  · (try dsimp only at hS); go_split_ands; go_simp; (try with_reducible rfl)
  simp only [Act.put, List.setIfInBounds_toArray, List.set_cons_zero, List.set_cons_succ]
  refine Upto.take (i := 5) (v := ?_) rfl (by kernel_rfl) (fun _ _ _ h => h) rfl (fun w' hS => ?_) hS0 ?_
  rotate_left
  · (try dsimp only at hS); go_split_ands; go_simp; (try with_reducible rfl)
  simp only [Act.put, List.setIfInBounds_toArray, List.set_cons_zero, List.set_cons_succ]
  refine Upto.law (i := 6) rfl (by kernel_rfl) rfl (fun K hK => ?_)
  refine wp_enter (f := 37) (args := #[.int .i64 s.pend.length, .agg (crsV KA kn kc c)]) (by unfold crsV; go_simp) (by rw [← HCVE.out]; exact C2.out) ?_
  rintro e W3 ⟨lg, hlg, rfl, hblk, hb3⟩
  have hb23 : Below W2.heap.size W2 W3 := ⟨hb3.os, hb3.tape, hb3.output, hb3.size, hb3.block⟩
  have h3 := H2.out.below hb23
  have hm3 := HM2.out.eq (hb23.block _ HM2.out.lt)
  have hS3 : W3.cell? ⟨b, 2, none⟩ = some (.slice A s.pend.length ca) ∧ W3.cell? ⟨w.heap.size, 0, none⟩ = some (.slice KA kn kc) ∧ W3.cell? ⟨w.heap.size, 1, none⟩ = some (.bool c.torn) ∧ W3.cell? ⟨w.heap.size, 2, none⟩ = some (.int .i64 c.cut) := by
    have hlt : w.heap.size < W2.heap.size := by have := HM2.out.lt; have := HNM.out; omega
    exact ⟨h3.blk.cell 2, (hb23.cell (p := ⟨w.heap.size, 0, none⟩) hlt).trans hS0.2.1, (hb23.cell (p := ⟨w.heap.size, 1, none⟩) hlt).trans hS0.2.2.1, (hb23.cell (p := ⟨w.heap.size, 2, none⟩) hlt).trans hS0.2.2.2⟩
  refine ⟨_, rfl, hK _ _ hS3 ?_⟩
  have hc2 := hS3.1
  have hBW : Below w.heap.size w W3 := HB2.out.trans (hb23.mono HB2.out.size)
  have H3 := Lib.hid h3
  have HL := Lib.hid hblk
  have R0 : Hid (CrashRel w W3 nm s (c.of s.pend.length) 0 W3) := Lib.hid ⟨hm3, Fr.refl _ _, Nat.le_of_lt HNM.out, hBW⟩
  clear hS3 hS0 hb23 h3 hm3 hb3 hblk C2 HCVE HB2 HM2 H2 hK hW2c2 hBW hlg
  simp only [Act.put, List.setIfInBounds_toArray, List.set_cons_zero, List.set_cons_succ]
  refine Upto.tail rfl (by kernel_rfl) ?_
  simp only [List.drop_succ_cons, List.drop_zero]
  go_wp2_with fail
  refine NoPanic.normal ?_
  go_wp2_with fail
  go_loopw [29] (fun q wr => ∃ k : Nat, k ≤ s.pend.length ∧ q = .int .i64 k ∧ CrashRel w W3 nm s (c.of s.pend.length) k wr) (fun q _ => s.pend.length - (intOf q).toNat)
  case atStart => exact ⟨0, Nat.zero_le _, rfl, R0.out⟩
  case round =>
    obtain ⟨k, hkl, rfl, hr⟩ := hrel
    have hnb : nm ≠ b := R0.out.map.not_bk H3.out.blk
    have hnl : nm ≠ lg := R0.out.map.not_bk HL.out
    have hnp : (Value.slice A s.pend.length ca).ownBlock ≠ some nm := R0.out.map.not_row H3.out.row
    have hblk := H3.out.blk.eq (hr.fr.block b H3.out.blk.lt (fun e => hnb e.symm))
    have hlb := HL.out.eq (hr.fr.block lg HL.out.lt (fun e => hnl e.symm))
    have hrow := owns_keep H3.out.row (fun q hq => hr.fr.block q (H3.out.row.lt q hq).2 (fun e => hnp (by rw [hq, e])))
    by_cases hlt : k < s.pend.length
    · obtain ⟨pb, rfl, hpc, hpm, hat⟩ := pend_at HOK.out hrow (by omega)
      have hrg := hat k hlt
      have hrg0 : wr.rangeAt pb (0 + k * 257) (wrC (s.at_ k)) := by rw [Nat.zero_add]; exact hrg
      obtain ⟨n, l, hnl⟩ : ∃ n l, s.at_ k = (n, l) := ⟨_, _, rfl⟩
      have hsec : Sec l := by have := (HOK.out.at_ k hlt).2; rw [hnl] at this; exact this
      have hsecm : Sec (s.left_ (c.of s.pend.length) k n) := HOK.out.left_ (c.of_le _) k (by omega) n
      rw [hnl] at hrg hrg0
      have hwl : (wrC (n, l)).length = 257 := wrC_len (p := (n, l)) hsec
      have hbl : (byC l).length = 256 := by rw [byC_len, hsec.1]
      have hiw : (Try.prog.info? 70).map (·.size) = some (wrC (n, l)).length := by rw [hwl]; exact HI.out
      have h1w : (wrC (n, l)).toArray.all (·.oneCell') = true := all_oneCell_toArray (wrC_one _)
      have HST := Lib.hid (fun w2 w4 hb hm hf => hr.step (w2 := w2) (w4 := w4) hb (by rw [hnl]; exact hm) hf)
      have hlc : wr.cell? ⟨lg, k, none⟩ = some (.int .i64 (c.of s.pend.length k : Nat)) := by rw [hlb.cell]; exact natC_at _ _ _ hlt
      have hcl := c.of_le s.pend.length k
      have HMW : Hid (MapFn (wr.alloc (.cells (wrC (n, l)).toArray 70)) nm (secV zeros) (fun n => secV (s.left_ (c.of s.pend.length) k n))) := Lib.hid (hr.map.eq (Below.heap_alloc _ _ _ hr.map.lt))
      have hxn : (wr.alloc (.cells (wrC (n, l)).toArray 70)).cell? ⟨wr.heap.size, 0, none⟩ = some (.int .i64 n) := (cell_of_row _ _ _ _ _ _ (heap_alloc_new wr _)).trans rfl
      obtain ⟨m, hmm⟩ : ∃ m, s.left_ (c.of s.pend.length) k n = m := ⟨_, rfl⟩
      obtain ⟨cu, hcu⟩ : ∃ cu, c.of s.pend.length k = cu := ⟨_, rfl⟩
      rw [hmm] at hsecm
      rw [hcu] at hlc hcl
      have HI2 : Hid ((Try.prog.info? 66).map (·.size) = some (byC m).toArray.size) := Lib.hid (by rw [secV_size hsecm]; exact size_sec)
      have HS2 : Hid ((byC zeros).toArray.size = (byC m).toArray.size) := Lib.hid (by rw [secV_size hsecm, zeros_size])
      have H12 : Hid ((byC m).toArray.all (·.oneCell') = true) := Lib.hid (all_oneCell_toArray (byC_one m))
      have HMM := Lib.hid hmm
      have HCU := Lib.hid hcu
      have HR := Lib.hid hr
      have HBLK := Lib.hid hblk
      have HLB := Lib.hid hlb
      clear hr hat hmm hcu hblk hlb hrow hnl
      have hk0 : (0 : Int) ≤ (k : Int) := Int.natCast_nonneg _
      have hk1 : (k : Int) < (s.pend.length : Int) := by omega
      go_wp2_with (first
        | (refine wpList_run rfl (exec_load rfl (by rfl) (by first | exact hrg | exact hrg0) hu rfl hiw) ?_)
        | (refine wpList_run rfl (exec_allocA (t := 70) rfl HZ.out) ?_)
        | (refine wpList_store_new rfl (ty := 70) rfl (W := wr) rfl (by rfl) (by rfl) (by rw [List.size_toArray]; exact hiw) (by rw [hz257, List.size_toArray, hwl]) h1w ?_)
        | (refine wpList_lookup_fn rfl _ _ rfl huw hui nm _ _ (HZM.out _) HMW.out (by rfl) n (by rfl) ?_; rw [HMM.out])
        | (refine wpList_run rfl (exec_allocA (t := 66) rfl HZS.out) ?_)
        | (refine wpList_store_new rfl (ty := 66) rfl (W := wr.alloc (.cells (wrC (n, l)).toArray 70)) rfl (by rfl) (by rfl) HI2.out HS2.out H12.out ?_))
      obtain ⟨Wc, hWc⟩ : ∃ Wc, Wc = (wr.alloc (.cells (wrC (n, l)).toArray 70)).alloc (.cells (byC m).toArray 66) := ⟨_, rfl⟩
      have hbc : Below wr.heap.size wr Wc := by rw [hWc]; exact ((Below.refl _ _).alloc (Nat.le_refl _) _).alloc (by simp) _
      have hg0 : Wc.heap[wr.heap.size]? = some (.cells (wrC (n, l)).toArray 70 (0, 0)) := by rw [hWc]; exact heap_alloc2_old _ _ _
      have hg1 : Wc.heap[wr.heap.size + 1]? = some (.cells (byC m).toArray 66 (0, 0)) := by rw [hWc]; exact heap_alloc2_new _ _ _
      have hzc : Wc.heap.size = wr.heap.size + 2 := by rw [hWc]; simp
      have hS0 : Wc.drew.cell? ⟨lg, k, none⟩ = some (.int .i64 cu) := (hbc.cell (p := ⟨lg, k, none⟩) HLB.out.lt).trans hlc
      have hsrc : Wc.drew.rangeAt wr.heap.size 1 (byC l) := by
        have := World.rangeAt_of_block hg0 1 256
        have e : ((wrC (n, l)).toArray.extract 1 (1 + 256)).toList = byC l := by
          simp [wrC, hbl]
          exact List.take_of_length_le (by omega)
        rw [e] at this
        exact this
      have hx0 : Wc.cell? ⟨wr.heap.size, 0, none⟩ = some (.int .i64 n) := (cell_of_row _ _ _ _ _ _ hg0).trans rfl
      rw [← hWc]
      have HSRC := Lib.hid hsrc
      have HG1 := Lib.hid hg1
      have HBC := Lib.hid hbc
      have HX0 := Lib.hid hx0
      have HZC := Lib.hid hzc
      clear hsrc hg1 hg0 hbc hx0 hWc hzc hxn hrg hrg0
      refine wp_region_noPanic ?_
      refine upto_start (fun w' => w'.cell? ⟨lg, k, none⟩ = some (.int .i64 cu)) 7 (by kernel_rfl) ?_
      change Upto _ _ _ _ _ 8 _ _ _
      refine Upto.take (i := 0) (v := ?_) rfl (by kernel_rfl) (fun _ _ _ h => h) rfl (fun w' hS => ?_) hS0 ?_
      rotate_left
      · (try dsimp only at hS); go_simp; (try with_reducible rfl)
      simp only [Act.put, List.setIfInBounds_toArray, List.set_cons_zero, List.set_cons_succ]
      refine Upto.take (i := 1) (v := ?_) rfl (by kernel_rfl) (fun _ _ _ h => h) rfl (fun w' hS => ?_) hS0 ?_
      rotate_left
      · (try dsimp only at hS); go_simp; (try with_reducible rfl)
      simp only [Act.put, List.setIfInBounds_toArray, List.set_cons_zero, List.set_cons_succ]
      refine Upto.take (i := 2) (v := ?_) rfl (by kernel_rfl) (fun _ _ _ h => h) rfl (fun w' hS => ?_) hS0 ?_
      rotate_left
      · (try dsimp only at hS); go_simp; (try with_reducible rfl)
      simp only [Act.put, List.setIfInBounds_toArray, List.set_cons_zero, List.set_cons_succ]
      refine Upto.take (i := 3) (v := ?_) rfl (by kernel_rfl) (fun _ _ _ h => h) rfl (fun w' hS => ?_) hS0 ?_
      rotate_left
      · (try dsimp only at hS); go_simp; (try with_reducible rfl)
      simp only [Act.put, List.setIfInBounds_toArray, List.set_cons_zero, List.set_cons_succ]
      refine Upto.take (i := 4) rfl (by kernel_rfl) (fun _ _ _ h => h) rfl (fun w' hS => exec_slice rfl (by exact slice_head _ _ cu hcl _)) hS0 ?_
      simp only [Act.put, List.setIfInBounds_toArray, List.set_cons_zero, List.set_cons_succ]
      refine Upto.take (i := 5) (v := ?_) rfl (by kernel_rfl) (fun _ _ _ h => h) rfl (fun w' hS => ?_) hS0 ?_
      rotate_left
      · (try dsimp only at hS); go_simp; (try with_reducible rfl)
      simp only [Act.put, List.setIfInBounds_toArray, List.set_cons_zero, List.set_cons_succ]
      refine Upto.take (i := 6) rfl (by kernel_rfl) (fun _ _ _ h => h) rfl (fun w' hS => exec_slice rfl (by exact slice_whole _ _ _)) hS0 ?_
      simp only [Act.put, List.setIfInBounds_toArray, List.set_cons_zero, List.set_cons_succ]
      refine Upto.tail rfl (by kernel_rfl) ?_
      simp only [List.drop_succ_cons, List.drop_zero]
      have htk : ((byC l).take cu).length = cu := by rw [List.length_take, hbl]; omega
      refine wpList_copy_splice rfl _ _ 34 34 rfl 5 Try.underlying34 (by kernel_rfl) (some ⟨wr.heap.size + 1, 0, none⟩) (some ⟨wr.heap.size, 1, none⟩) cu 256 256 256 (by rfl) (by rfl) (wr.heap.size + 1) 0 (byC m) 66 HG1.out ((byC l).take cu) (by rw [htk]; show cu = min 256 cu; omega)
        (fun _ => ⟨rfl, ⟨wr.heap.size, 1, none⟩, rfl, fun j v hv => by
          rw [Addr.add_mid]
          refine HSRC.out j v ?_
          rw [List.getElem?_take] at hv
          split at hv
          · exact hv
          · cases hv⟩)
        (by rw [htk, byC_len, hsecm.1]; omega) (fun v hv => byC_one l v (List.mem_of_mem_take hv)) (wr.heap.size + 1) Wc (Below.refl _ _).drew (Nat.le_refl _) ?_
      intro W4 hspl hb4
      have hspl' := hspl.out
      rw [splice_over l m cu hsec hsecm hcl] at hspl'
      have hov : Sec (over l m cu) := over_sec hsec hsecm cu hcl
      have hx4 : W4.cell? ⟨wr.heap.size, 0, none⟩ = some (.int .i64 n) := (hb4.cell (p := ⟨wr.heap.size, 0, none⟩) (by show wr.heap.size < _; omega)).trans HX0.out
      have hrg4 : W4.rangeAt (wr.heap.size + 1) 0 (byC (over l m cu)) := by
        have := World.rangeAt_of_block hspl' 0 256
        have e : ((byC (over l m cu)).toArray.extract 0 (0 + 256)).toList = byC (over l m cu) := by
          have : (byC (over l m cu)).length = 256 := by rw [byC_len, hov.1]
          simp
          exact List.take_of_length_le (by omega)
        rw [e] at this
        exact this
      have hb04 : Below wr.heap.size wr W4 := HBC.out.trans (hb4.mono (Nat.le_succ _))
      have hm4 := Lib.hid (HR.out.map.eq (hb04.block nm HR.out.map.lt))
      have HB04 := Lib.hid hb04
      have hio : (Try.prog.info? 66).map (·.size) = some (byC (over l m cu)).length := by rw [byC_len, hov.1]; exact size_sec
      have HSN := Lib.hid (fun w4 hm hf => HST.out W4 w4 HB04.out (by rw [HMM.out, HCU.out]; exact hm) hf)
      clear hspl hspl' hb4 hb04 htk hov HST HBC HG1 HSRC HX0 hS0 HMM HCU
      simp only [Act.put]
      go_wp2_with fail
      refine NoPanic.normal ?_
      go_wp2_with (first
        | (refine wpList_run rfl (exec_load rfl (by rfl) (by exact hrg4) hus rfl hio) ?_)
        | (refine wpList_update_fn rfl _ _ _ rfl huw hui nm _ _ hm4.out (by rfl) n (by rfl) (secV (over l m cu)) (by rfl) ?_; intro w5 hm5 hf5; have R := Lib.hid (HSN.out w5 hm5 hf5); clear hm5 hf5 hx4 hrg4; simp only [Act.put]))
      go_roundw
      case rel => exact ⟨k + 1, by omega, by go_num, R.out⟩
      case measure => simp [intOf]; omega
    · obtain rfl : k = s.pend.length := by omega
      have R := Lib.hid (hr.done HOK.out)
      have hb0 : wr.cell? ⟨b, 0, none⟩ = some (.int .i64 s.num) := hblk.cell 0
      clear hr hblk hlb hrow
      go_wp2_with fail
      refine (newDisk_any s.num nm _).mono ?_
      rintro e w' ⟨rfl, rfl⟩
      go_wp2_with fail
      go_ret
      exact R.out
end Go.Proofs.Ytjieledaiipheaa

/- a disk among other things in memory: what each call answers, what becomes of the disk, and that the other things stay. -/
namespace Go.Proofs.Ytjieledaiipheaa
open Go.RowKit

/-- Nothing. -/
def emp : Res where
  is w F := ∀ k, F k → k < w.heap.size
  lt _ _ h := h
  keep _ _ _ h hs _ := fun k f => Nat.lt_of_lt_of_le (h k f) hs
theorem Has.emp (B : Nat) (w : World) : Has B emp w := ⟨fun _ => False, fun _ f => f.elim, fun _ f => f.elim⟩

theorem Has.sw {B : Nat} {R S T : Res} {w : World} (h : Has B (R.star (S.star T)) w) : Has B (S.star (T.star R)) w := h.comm.assoc
theorem Has.wsBack {B : Nat} {R S T : Res} {w : World} (h : Has B (S.star (T.star R)) w) : Has B (R.star (S.star T)) w := h.assoc'.comm

theorem Has.map2 {B : Nat} {R S S' : Res} {w : World} (h : Has B (R.star S) w) (hm : ∀ F, S.is w F → S'.is w F) : Has B (R.star S') w := by
  obtain ⟨F, ⟨F1, F2, h1, h2, h3, h4, h5, h6⟩, h7⟩ := h
  exact ⟨F, ⟨F1, F2, h1, hm F2 h2, h3, h4, h5, h6⟩, h7⟩
theorem Has.swap {B : Nat} {R S T : Res} {w : World} (h : Has B (R.star (S.star T)) w) : Has B (S.star (R.star T)) w := h.sw.map2 (fun _ => Res.star_comm)

/-- A block known whole. -/
def blkR (g : Nat) (t : TypeId) (cs : Array Value) : Res where
  is w F := Bk w g t cs ∧ F g ∧ ∀ k, F k → k < w.heap.size
  lt _ _ h := h.2.2
  keep w w' F := fun h hs hk => ⟨h.1.eq (hk g h.2.1), h.2.1, fun k f => Nat.lt_of_lt_of_le (h.2.2 k f) hs⟩

theorem blkR_new {B : Nat} {S : Res} {w : World} (t : TypeId) (cs : Array Value) (h : Has B S w) (hB : B ≤ w.heap.size) : Has B ((blkR w.heap.size t cs).star S) (w.alloc (.cells cs t)) :=
  h.new hB ((Below.refl _ _).alloc (Nat.le_refl _) _) ⟨Bk.new w t cs, ⟨Nat.le_refl _, (Bk.new w t cs).lt⟩, fun _ f => f.2⟩

/-- A call answers v; R is there behind it; below B nothing is turned. -/
def RetHas (v : Value) (B : Nat) (R : Res) (w : World) (e : Ending) (w' : World) : Prop := e = .returned v ∧ Has B R w' ∧ Below B w w'

section
variable {B : Nat} {R : Res} {w0 w : World} {b : Nat} {s : St}

/-- The bytes that are written lie in memory that is new, or elder than all of the things. -/
theorem hasD_writeO (h : Has B ((dsk b s).star R) w0) (hb : Below w0.heap.size w0 w) (hB : B ≤ w0.heap.size) {A : Option Addr} {m c : Nat} {l : List Int} (hl : Byt w A m c l) (hA : ∀ k, (Value.slice A m c).ownBlock = some k → w0.heap.size ≤ k ∨ k < B)
    (n : Int) (hn : -9223372036854775808 ≤ n ∧ n ≤ 9223372036854775807) (hlim : s.pend.length < 999999) :
    Calls Try.prog 17 #[.pointer (some ⟨b, 0, none⟩), .int .i64 n, .slice A m c] w (RetHas (.int .i64 (s.wErr n l)) B ((dsk b (s.write n l)).star R) w) := by
  have hBw : B ≤ w.heap.size := Nat.le_trans hB hb.size
  have hlen := hl.len
  have hw := h.below hb
  obtain ⟨F0, hF0, hF0B⟩ := h
  obtain ⟨F, hF, hturn⟩ := Res.star_turn hF0
  have hF' : (dsk b s).is w F := (dsk b s).keep w0 w F hF hb.size (fun k f => hb.block k ((dsk b s).lt w0 F hF k f))
  have hkeep : ((dsk b s).star R).is w F0 := ((dsk b s).star R).keep w0 w F0 hF0 hb.size (fun k f => hb.block k (((dsk b s).star R).lt w0 F0 hF0 k f))
  clear hturn
  obtain ⟨F1, F2, a1, a2, a3, a4, a5, a6⟩ := hkeep
  have hF1 : ∀ k, F1 k → k < w0.heap.size := fun k f => ((dsk b s).star R).lt w0 F0 hF0 k (a4 k f)
  have hnot : ∀ k, (Value.slice A m c).ownBlock = some k → ¬ F1 k := fun k hk f => by have := hA k hk; have := hF1 k f; have := hF0B k (a4 k f); omega
  have done : ∀ s' w', Turn (dsk b s') F1 w w' → Has B ((dsk b s').star R) w' ∧ Below B w w' := by
    intro s' w' t
    have hh : ((dsk b s).star R).is w F0 := ⟨F1, F2, a1, a2, a3, a4, a5, a6⟩
    have key : Turn ((dsk b s').star R) F0 w w' := by
      obtain ⟨t1, t2⟩ := t
      refine ⟨⟨grow F1 w w', F2, t1, R.keep w w' F2 a2 t2.size (fun k f => t2.block k (R.lt w F2 a2 k f) (fun g => a3 k g f)), ?_, ?_, fun k f => .inl (a5 k f), ?_⟩, t2.mono a4⟩
      · intro k f g
        rcases f with f | f
        · exact a3 k f g
        · have := R.lt w F2 a2 k g; omega
      · intro k f
        rcases f with f | f
        · exact .inl (a4 k f)
        · exact .inr f
      · intro k f
        rcases f with f | f
        · exact Nat.lt_of_lt_of_le (a6 k f) t2.size
        · exact f.2
    refine ⟨⟨_, key.1, fun k f => ?_⟩, key.2.below hBw hF0B⟩
    rcases f with f | f
    · exact hF0B k f
    · omega
  obtain ⟨mb, A1, c1, hd⟩ := a1
  by_cases h1 : n < 0 ∨ (s.num : Int) ≤ n
  · have e1 : s.wErr n l = 1 := by unfold St.wErr; rw [if_pos h1]
    have e2 : s.write n l = s := by unfold St.write; rw [if_pos h1]
    rw [e1, e2]
    exact (write_bad w F1 b mb A1 c1 s hd n h1 _).mono fun e w' ⟨he, ht⟩ => ⟨he, done s w' ht⟩
  · obtain ⟨j, rfl⟩ := Int.eq_ofNat_of_zero_le (show 0 ≤ n by omega)
    have hj : j < s.num := by omega
    by_cases h2 : m = 256
    · subst h2
      by_cases h3 : s.can = true
      · have e1 : s.wErr j l = 0 := by unfold St.wErr; rw [if_neg h1, if_neg (by omega), if_pos h3]
        have e2 : s.write j l = s.wrote j l := by unfold St.write; rw [if_neg h1, if_neg (by omega), if_pos h3]; rfl
        rw [e1, e2]
        exact (write_made w F1 b mb A1 c1 s hd j hj A c l hl hnot h3 hlim).mono fun e w' ⟨he, ht⟩ => ⟨he, done _ w' ht⟩
      · have h3' : s.can = false := by simpa using h3
        have e1 : s.wErr j l = 40 := by unfold St.wErr; rw [if_neg h1, if_neg (by omega), if_neg h3]
        have e2 : s.write j l = s.step := by unfold St.write; rw [if_neg h1, if_neg (by omega), if_neg h3]
        rw [e1, e2]
        exact (write_down w F1 b mb A1 c1 s hd j hj A c h3').mono fun e w' ⟨he, ht⟩ => ⟨he, done _ w' ht⟩
    · have e1 : s.wErr j l = 12 := by unfold St.wErr; rw [if_neg h1, if_pos (by omega)]
      have e2 : s.write j l = s := by unfold St.write; rw [if_neg h1, if_pos (by omega)]
      rw [e1, e2]
      exact (write_len w F1 b mb A1 c1 s hd j hj A m c h2).mono fun e w' ⟨he, ht⟩ => ⟨he, done s w' ht⟩

theorem hasD_write (h : Has B ((dsk b s).star R) w0) (hb : Below w0.heap.size w0 w) (hB : B ≤ w0.heap.size) {A : Option Addr} {m c : Nat} {l : List Int} (hl : Byt w A m c l) (hA : ∀ k, (Value.slice A m c).ownBlock = some k → w0.heap.size ≤ k)
    (n : Int) (hn : -9223372036854775808 ≤ n ∧ n ≤ 9223372036854775807) (hlim : s.pend.length < 999999) :
    Calls Try.prog 17 #[.pointer (some ⟨b, 0, none⟩), .int .i64 n, .slice A m c] w (RetHas (.int .i64 (s.wErr n l)) B ((dsk b (s.write n l)).star R) w) :=
  hasD_writeO h hb hB hl (fun k hk => .inl (hA k hk)) n hn hlim

theorem hasD_sync (h : Has B ((dsk b s).star R) w) (hB : B ≤ w.heap.size) (hlim : s.syncs < 999999) :
    Calls Try.prog 22 #[.pointer (some ⟨b, 0, none⟩)] w (RetHas (.int .i64 s.sErr) B ((dsk b s.sync).star R) w) := by
  obtain ⟨F, ⟨mb, A1, c1, hd⟩, hturn⟩ := h.turn1 hB
  by_cases h3 : s.can = true
  · have e1 : s.sErr = 0 := by unfold St.sErr; rw [if_pos h3]
    have e2 : s.sync = s.synced := by unfold St.sync; rw [if_pos h3]
    rw [e1, e2]
    exact (sync_made w F b mb A1 c1 s hd h3 hlim).mono fun e w' ⟨he, ht⟩ => ⟨he, hturn _ w' ht⟩
  · have h3' : s.can = false := by simpa using h3
    have e1 : s.sErr = 40 := by unfold St.sErr; rw [if_neg h3]
    have e2 : s.sync = s.step := by unfold St.sync; rw [if_neg h3]
    rw [e1, e2]
    exact (sync_down w F b mb A1 c1 s hd h3').mono fun e w' ⟨he, ht⟩ => ⟨he, hturn _ w' ht⟩

theorem hasD_fuse (h : Has B ((dsk b s).star R) w) (hB : B ≤ w.heap.size) (n : Int) (hn : -9223372036854775808 ≤ n ∧ n ≤ 9223372036854775807) :
    Calls Try.prog 19 #[.pointer (some ⟨b, 0, none⟩), .int .i64 n] w (RetHas (.tuple #[]) B ((dsk b (s.fuse n)).star R) w) := by
  obtain ⟨F, ⟨mb, A1, c1, hd⟩, hturn⟩ := h.turn1 hB
  exact (fuse_any hd n hn).mono fun e w' ⟨he, ht⟩ => ⟨he, hturn _ w' ht⟩

theorem Has.one (h : Has B ((dsk b s).star R) w) : ∃ F mb A c, DskB w F b mb A c s := by
  obtain ⟨F, mb, A, c, hd⟩ := h.fst.ex
  exact ⟨F, mb, A, c, hd⟩

theorem hasD_down (h : Has B ((dsk b s).star R) w) : Calls Try.prog 20 #[.pointer (some ⟨b, 0, none⟩)] w (Same (.bool s.gone) w) := by
  obtain ⟨F, mb, A, c, hd⟩ := h.one
  exact down_any hd
theorem hasD_syncs (h : Has B ((dsk b s).star R) w) : Calls Try.prog 11 #[.pointer (some ⟨b, 0, none⟩)] w (Same (.int .i64 s.syncs) w) := by
  obtain ⟨F, mb, A, c, hd⟩ := h.one
  exact syncs_any hd
theorem hasD_ok (h : Has B ((dsk b s).star R) w) : s.Ok := by
  obtain ⟨F, mb, A, c, hd⟩ := h.one
  exact hd.ok

/-- What a read answers. -/
def St.rBytes (s : St) (n : Int) : List Int := if s.rErr n = 0 then s.now n.toNat else []

/-- Bytes and a number beside them; the bytes lie in a block that is new. -/
def RetRd (l : List Int) (e0 : Int) (w : World) (e : Ending) (w' : World) : Prop :=
  ∃ A n c, e = .returned (.tuple #[.slice A n c, .int .i64 e0]) ∧ Byt w' A n c l ∧ (∀ g off, A = some ⟨g, off, none⟩ → w.heap.size ≤ g ∧ w'.frozen? ⟨g, off, none⟩ = false) ∧ Below w.heap.size w w'

theorem hasD_read (h : Has B ((dsk b s).star R) w) (n : Int) : Calls Try.prog 13 #[.pointer (some ⟨b, 0, none⟩), .int .i64 n] w (RetRd (s.rBytes n) (s.rErr n) w) := by
  obtain ⟨F, mb, A, c, hd⟩ := h.one
  by_cases h1 : n < 0 ∨ (s.num : Int) ≤ n
  · have e1 : s.rErr n = 1 := by unfold St.rErr; rw [if_pos h1]
    have e2 : s.rBytes n = [] := by unfold St.rBytes; rw [e1]; rfl
    rw [e1, e2]
    exact (read_bad w F b mb A c s hd n h1).mono fun e w' ⟨he, hw⟩ => ⟨none, 0, 0, he, Byt.nil _, (fun _ _ q => nomatch q), by rw [← hw]; exact Below.refl _ _⟩
  · obtain ⟨j, rfl⟩ := Int.eq_ofNat_of_zero_le (show 0 ≤ n by omega)
    have hj : j < s.num := by omega
    by_cases h2 : s.gone = true
    · have e1 : s.rErr j = 40 := by unfold St.rErr; rw [if_neg h1, if_pos h2]
      have e2 : s.rBytes j = [] := by unfold St.rBytes; rw [e1]; rfl
      rw [e1, e2]
      exact (read_down w F b mb A c s hd j hj h2).mono fun e w' ⟨he, hw⟩ => ⟨none, 0, 0, he, Byt.nil _, (fun _ _ q => nomatch q), by rw [← hw]; exact Below.refl _ _⟩
    · have h2' : s.gone = false := by simpa using h2
      have e1 : s.rErr j = 0 := by unfold St.rErr; rw [if_neg h1, if_neg h2]
      have e2 : s.rBytes j = s.now j := by unfold St.rBytes; rw [if_pos e1]; rfl
      rw [e1, e2]
      refine (read_ok w F b mb A c s hd j hj h2').mono fun e w' ⟨g, hg, he, hb, hbel⟩ => ⟨some ⟨g, 0, none⟩, 256, 256, he, Byt.sec hb (hd.ok.now j), fun g' off' q => ?_, hbel⟩
      injection q with q
      injection q with q1 q2
      subst q1 q2
      exact ⟨hg, hb.frz 0⟩

/-- A new disk beside the old things. -/
def RetNewHas (s : St) (B : Nat) (R : Res) (w : World) (e : Ending) (w' : World) : Prop := ∃ b, e = .returned (.pointer (some ⟨b, 0, none⟩)) ∧ Has B ((dsk b s).star R) w' ∧ Below w.heap.size w w'

theorem hasD_crash {S : Res} (h : Has B ((dsk b s).star R) w) (hS : Has B S w) (hB : B ≤ w.heap.size) (KA : Option Addr) (kn kc : Nat) (c : Crs) (hk : Nts w KA kn kc c.keep) (hcut : -9223372036854775808 ≤ c.cut ∧ c.cut ≤ 9223372036854775807) :
    Calls Try.prog 21 #[.pointer (some ⟨b, 0, none⟩), .agg (crsV KA kn kc c)] w (RetNewHas (s.crash c) B S w) := by
  obtain ⟨F, mb, A, ca, hd⟩ := h.one
  exact (crash_any w F b mb A ca s hd KA kn kc c hk hcut).mono fun e w' ⟨b', he, his, hbel⟩ => ⟨b', he, hS.new hB hbel his, hbel⟩

theorem hasD_new (hS : Has B R w) (hB : B ≤ w.heap.size) (n : Nat) (hn : 1 ≤ n ∧ n ≤ 4096) :
    Calls Try.prog 7 #[.int .i64 n] w (fun e w' => ∃ b, e = .returned (.tuple #[.pointer (some ⟨b, 0, none⟩), .int .i64 0]) ∧ Has B ((dsk b (St.new n)).star R) w' ∧ Below w.heap.size w w') :=
  (new_any n hn w).mono fun e w' ⟨b', he, his, hbel⟩ => ⟨b', he, hS.new hB hbel his, hbel⟩
end
end Go.Proofs.Ytjieledaiipheaa

/- stamp.Put and Get at a disk among other things: what they answer, what becomes of the disk. -/
namespace Go.Proofs.Ytjieledaiipheaa
open Go.RowKit

/-- What Put answers, and leaves. -/
def putE (s : St) (n : Int) (p : List Int) : Int := if 254 < p.length then 12 else if s.rErr n ≠ 0 then s.rErr n else s.wErr n (wrapL (nextOf (s.rBytes n)) p)
def putS (s : St) (n : Int) (p : List Int) : St := if 254 < p.length then s else if s.rErr n ≠ 0 then s else s.write n (wrapL (nextOf (s.rBytes n)) p)
/-- What Get answers. -/
def getE (s : St) (n : Int) : Int := if s.rErr n ≠ 0 then s.rErr n else openE (s.rBytes n)
def getB (s : St) (n : Int) : List Int := if s.rErr n ≠ 0 then [] else openB (s.rBytes n)

theorem rErr_cases (s : St) (n : Int) : s.rErr n = 0 ∨ s.rErr n = 1 ∨ s.rErr n = 40 := by unfold St.rErr; split <;> (try split) <;> simp
theorem rBytes_sec {s : St} (ok : s.Ok) {n : Int} (h : s.rErr n = 0) : Sec (s.rBytes n) := by
  unfold St.rBytes
  rw [if_pos h]
  exact ok.now _
theorem rErr_num {s : St} {n : Int} (h : s.rErr n = 0) : 0 ≤ n ∧ n < s.num ∧ s.gone = false := by
  unfold St.rErr at h
  split at h
  · omega
  · split at h
    · omega
    · rename_i h1 h2
      exact ⟨by omega, by omega, by simpa using h2⟩

section
variable {B : Nat} {R : Res} {w : World} {b : Nat} {s : St}

set_option maxHeartbeats 2000000 in
theorem stPut_any (h : Has B ((dsk b s).star R) w) (hB : B ≤ w.heap.size) (A : Option Addr) (m c : Nat) (p : List Int) (hp : Byt w A m c p) (n : Int) (hn : -9223372036854775808 ≤ n ∧ n ≤ 9223372036854775807) (hlim : s.pend.length < 999999) :
    Calls Try.prog 25 #[.pointer (some ⟨b, 0, none⟩), .int .i64 n, .slice A m c] w (RetHas (.int .i64 (putE s n p)) B ((dsk b (putS s n p)).star R) w) := by
  have hcap := hp.cap
  have hmax := hp.max
  unfold maxLen at hmax
  have hpl := hp.len
  by_cases h1 : 254 < m
  · have E : Hid (putE s n p = 12 ∧ putS s n p = s) := Lib.hid ⟨by unfold putE; rw [if_pos (by omega)], by unfold putS; rw [if_pos (by omega)]⟩
    have H := Lib.hid h
    rw [E.out.1, E.out.2]
    clear hp h E hpl
    go_enter Try.func25, Try.ntmps25
    go_wp2_with fail
    go_ret
    exact ⟨rfl, H.out, Below.refl _ _⟩
  · have CR := Lib.hid (hasD_read h n)
    obtain ⟨r, hr⟩ : ∃ r, s.rErr n = r := ⟨_, rfl⟩
    by_cases h2 : r = 0
    · subst h2
      have E : Hid (putE s n p = s.wErr n (wrapL (nextOf (s.rBytes n)) p) ∧ putS s n p = s.write n (wrapL (nextOf (s.rBytes n)) p)) := Lib.hid ⟨by unfold putE; rw [if_neg (by omega), if_neg (by omega)], by unfold putS; rw [if_neg (by omega), if_neg (by omega)]⟩
      rw [E.out.1, E.out.2]
      rw [hr] at CR
      have HS := Lib.hid (rBytes_sec (hasD_ok h) hr)
      have H := Lib.hid h
      have HP := Lib.hid hp
      have HPL := Lib.hid hpl
      obtain ⟨l, hl⟩ : ∃ l, s.rBytes n = l := ⟨_, rfl⟩
      rw [hl] at CR HS ⊢
      clear hp h E hpl hr hl
      go_enter Try.func25, Try.ntmps25
      go_wp2_with fail
      refine CR.out.mono ?_
      rintro e w1 ⟨A1, n1, c1, rfl, hb1, _, hbel1⟩
      obtain rfl : n1 = 256 := by rw [← hb1.len]; exact HS.out.1
      have CF := Lib.hid (free_any A1 c1 l w1 hb1)
      have hrg := nextOf_rng l
      have CS := Lib.hid (stamped_any (nextOf l) (by omega) A m c p w1 (HP.out.below hbel1) (by omega))
      have HB1 := Lib.hid hbel1
      have hc1 := hb1.cap
      have hm1 := hb1.max
      unfold maxLen at hm1
      clear hb1 hbel1 CR hrg
      go_wp2_with fail
      refine CF.out.mono ?_
      rintro e w2 ⟨rfl, rfl⟩
      go_wp2_with fail
      refine CS.out.mono ?_
      rintro e w3 ⟨g, hg, rfl, hb3, hbel3⟩
      have hrg := nextOf_rng l
      have HB3 : Hid (Below w.heap.size w w3) := Lib.hid (HB1.out.trans (hbel3.mono HB1.out.size))
      have CW := Lib.hid (hasD_write H.out HB3.out hB (Byt.sec hb3 (wrapL_sec (by omega) HP.out.rng (by rw [HPL.out]; omega))) (fun k hk => by
        simp [Value.ownBlock] at hk
        subst hk
        exact Nat.le_trans HB1.out.size hg) n hn hlim)
      clear hb3 hbel3 hg hrg CS CF
      go_wp2_with fail
      refine CW.out.mono ?_
      rintro e w4 ⟨rfl, h4, hb4⟩
      have R4 : Hid (Has B ((dsk b (s.write n (wrapL (nextOf l) p))).star R) w4 ∧ Below B w w4) := Lib.hid ⟨h4, (HB3.out.mono hB).trans hb4⟩
      clear h4 hb4 CW
      go_wp2_with fail
      go_ret
      exact ⟨rfl, R4.out.1, R4.out.2⟩
    · have E : Hid (putE s n p = r ∧ putS s n p = s) := Lib.hid ⟨by unfold putE; rw [if_neg (by omega), if_pos (by omega), hr], by unfold putS; rw [if_neg (by omega), if_pos (by omega)]⟩
      rw [E.out.1, E.out.2]
      rw [hr] at CR
      have hd : (r != 0) = true := by simpa using h2
      have H := Lib.hid h
      clear hp h E hpl hr
      go_enter Try.func25, Try.ntmps25
      go_wp2_with fail
      refine CR.out.mono ?_
      rintro e w1 ⟨A1, n1, c1, rfl, hb1, _, hbel1⟩
      have HB1 := Lib.hid hbel1
      clear hb1 hbel1
      go_wp2_with fail
      go_ret
      exact ⟨rfl, H.out.below HB1.out, HB1.out.mono hB⟩

/-- The bytes beside the disk. -/
theorem row_beside {S : Res} {w' : World} {A : Option Addr} {n c : Nat} {l : List Int} (h : Has B S w) (hB : B ≤ w.heap.size) (hb : Below w.heap.size w w')
    (ho : w'.ownsRow w.heap.size 5 1 (.slice A n c) n (l.map (Value.int .u8))) : Has B ((rowOf 5 (.slice A n c) n l).star S) w' :=
  h.new hB hb ⟨owns_low ho (Nat.zero_le _), fun k hk => ho.lt k hk, fun _ f => f.2⟩
theorem row_byt {S : Res} {A : Option Addr} {n c : Nat} {l : List Int} (h : Has B ((rowOf 5 (.slice A n c) n l).star S) w) (hr : ∀ x ∈ l, 0 ≤ x ∧ x < 256) : Byt w A n c l := by
  obtain ⟨F, hF⟩ := h.fst.ex
  exact Byt.of_own hF.1 hr
end

/-- Put at no disk. -/
theorem stPut_nil (w : World) (n : Int) : Calls Try.prog 25 #[.pointer none, .int .i64 n, .slice none 0 0] w (Same (.int .i64 2) w) := by
  have CR := Lib.hid (read_nil w n)
  go_enter Try.func25, Try.ntmps25
  go_wp2_with fail
  refine CR.out.mono ?_
  rintro e w1 ⟨rfl, rfl⟩
  go_wp2_with fail
  go_ret
  exact ⟨rfl, rfl⟩
end Go.Proofs.Ytjieledaiipheaa

/- master.Save at a disk among other things: what it answers, what becomes of the disk; at no disk. -/
namespace Go.Proofs.Ytjieledaiipheaa
open Go.RowKit

/-- What Save answers, and leaves. -/
def saveE (s : St) (m : Ms) : Int := if ¬ m.ok then 1 else if putE s (m.gen % 2) (bodyM m) ≠ 0 then putE s (m.gen % 2) (bodyM m) else (putS s (m.gen % 2) (bodyM m)).sErr
def saveS (s : St) (m : Ms) : St := if ¬ m.ok then s else if putE s (m.gen % 2) (bodyM m) ≠ 0 then putS s (m.gen % 2) (bodyM m) else (putS s (m.gen % 2) (bodyM m)).sync

theorem Bk.rangeC {w : World} {g : Nat} {t : TypeId} {cs : Array Value} (h : Bk w g t cs) : w.rangeAt g 0 cs.toList := fun j v hv => by
  have := h.cell (0 + j)
  rw [this, Nat.zero_add, ← Array.getElem?_toList]
  exact hv

set_option maxRecDepth 100000 in
set_option maxHeartbeats 8000000 in
theorem save_any {B : Nat} {R : Res} {w : World} {b : Nat} {s : St} (h : Has B ((dsk b s).star R) w) (hB : B ≤ w.heap.size) (m : Ms) (hm : m.fits) (hlim : s.pend.length < 999999) (hlim2 : (putS s (m.gen % 2) (bodyM m)).syncs < 999999) :
    Calls Try.prog 8 #[.pointer (some ⟨b, 0, none⟩), msV m] w (RetHas (.int .i64 (saveE s m)) B ((dsk b (saveS s m)).star R) w) := by
  obtain ⟨W0, hW0⟩ : ∃ W0, W0 = w.alloc (.cells #[.int .i64 m.gen, .int .i64 m.inc, .int .i64 m.first, .int .i64 m.lsn, .int .i64 m.chk] 23) := ⟨_, rfl⟩
  have HK0 : Hid (Bk W0 w.heap.size 23 (msC m)) := Lib.hid (by rw [hW0]; exact Bk.new w _ _)
  have HB0 : Hid (Below w.heap.size w W0) := Lib.hid (by rw [hW0]; exact (Below.refl _ _).alloc (Nat.le_refl _) _)
  have HD0 : Hid (Has B ((dsk b s).star R) W0) := Lib.hid (h.below HB0.out)
  have CV : Hid (∀ w, Calls Try.prog 24 #[.agg #[.int .i64 m.gen, .int .i64 m.inc, .int .i64 m.first, .int .i64 m.lsn, .int .i64 m.chk]] w (Ret (.bool (decide m.ok)) w)) := Lib.hid (fun w => isValid_any m w)
  have HW0 := Lib.hid hW0
  have HM := Lib.hid hm
  by_cases hok : m.ok
  · by_cases hp : putE s (m.gen % 2) (bodyM m) = 0
    · have E : Hid (saveE s m = (putS s (m.gen % 2) (bodyM m)).sErr ∧ saveS s m = (putS s (m.gen % 2) (bodyM m)).sync) := Lib.hid ⟨by unfold saveE; rw [if_neg (by simpa using hok), if_neg (by omega)], by unfold saveS; rw [if_neg (by simpa using hok), if_neg (by omega)]⟩
      rw [E.out.1, E.out.2, show msV m = .agg #[.int .i64 m.gen, .int .i64 m.inc, .int .i64 m.first, .int .i64 m.lsn, .int .i64 m.chk] from rfl]
      rw [decide_eq_true hok] at CV
      have HOK := Lib.hid hok
      clear h hm hW0 E hok
      go_enter Try.func8, Try.ntmps8
      go_wp2_with fail
      (try rw [← HW0.out])
      refine (CV.out _).mono ?_
      rintro e W1 ⟨rfl, b1⟩
      have HB1 : Hid (Below W0.heap.size W0 W1) := Lib.hid b1
      have HK1 := Lib.hid (HK0.out.later HB1.out)
      have HD1 := Lib.hid (HD0.out.below HB1.out)
      have HS1 : Hid (w.heap.size < W1.heap.size) := Lib.hid HK1.out.lt
      clear b1 CV
      go_wp2_with fail
      have hu := Try.underlying23
      have hsz : (Try.prog.info? 23).map (·.size) = some (msC m).toList.length := by kernel_rfl
      have KS : Hid (∀ W, Below W1.heap.size W1 W → W.heap[w.heap.size]? = some (.cells (msC m) 23 (0, 0))) := Lib.hid (fun W hb => HK1.out.later hb)
      have hS0 := KS.out W1.drew (Below.refl _ _).drew
      refine wp_region_noPanic ?_
      refine upto_start (fun w' => w'.heap[w.heap.size]? = some (.cells (msC m) 23 (0, 0))) 5 (by kernel_rfl) ?_
      change Upto _ _ _ _ _ 7 _ _ _
      refine Upto.take (i := 0) (v := .pointer (some ⟨b, 0, none⟩)) rfl (by kernel_rfl) (fun _ _ _ h => h) rfl (fun w' hS => by go_simp; (try with_reducible rfl)) hS0 ?_
      simp only [Act.put, List.setIfInBounds_toArray, List.set_cons_zero, List.set_cons_succ]
      refine Upto.take (i := 1) (v := .agg (msC m)) rfl (by kernel_rfl) (fun _ _ _ h => h) rfl (fun w' hS => exec_load rfl (by rfl) (Bk.rangeC hS) hu rfl hsz) hS0 ?_
      simp only [Act.put, List.setIfInBounds_toArray, List.set_cons_zero, List.set_cons_succ]
      refine Upto.take (i := 3) (v := .agg (msC m)) rfl (by kernel_rfl) (fun _ _ _ h => h) rfl (fun w' hS => exec_load rfl (by rfl) (Bk.rangeC hS) hu rfl hsz) hS0 ?_
      simp only [Act.put, List.setIfInBounds_toArray, List.set_cons_zero, List.set_cons_succ]
      have CS : Hid (∀ w, Calls Try.prog 26 #[.agg (msC m)] w (Ret (.int .i64 (m.gen % 2)) w)) := Lib.hid (fun w => sectorOf_any m w (by have := HOK.out.gen; omega))
      have CE : Hid (∀ w, Calls Try.prog 27 #[.agg (msC m)] w (RetOwn (bodyM m) w)) := Lib.hid (fun w => encode_any m HM.out w)
      have CP : Hid (∀ W A n c, Below W1.heap.size W1 W → Byt W A n c (bodyM m) → Calls Try.prog 25 #[.pointer (some ⟨b, 0, none⟩), .int .i64 (m.gen % 2), .slice A n c] W (fun e w' => e = .returned (.int .i64 (putE s (m.gen % 2) (bodyM m))) ∧ Has B ((dsk b (putS s (m.gen % 2) (bodyM m))).star R) w' ∧ Below B w w' ∧ w.heap.size ≤ w'.heap.size)) := Lib.hid (fun W A n c hb hy => by
        have hw : Below w.heap.size w W := HB0.out.trans ((HB1.out.trans (hb.mono HB1.out.size)).mono HB0.out.size)
        exact (stPut_any (HD1.out.below hb) (Nat.le_trans hB hw.size) A n c (bodyM m) hy (m.gen % 2) (by omega) hlim).mono fun e w' ⟨h1, h2, h3⟩ => ⟨h1, h2, (hw.mono hB).trans h3, Nat.le_trans hw.size h3.size⟩)
      have CY : Hid (∀ w', Has B ((dsk b (putS s (m.gen % 2) (bodyM m))).star R) w' → w.heap.size ≤ w'.heap.size → Calls Try.prog 22 #[.pointer (some ⟨b, 0, none⟩)] w' (RetHas (.int .i64 (putS s (m.gen % 2) (bodyM m)).sErr) B ((dsk b (putS s (m.gen % 2) (bodyM m)).sync).star R) w')) := Lib.hid (fun w' h' hs => hasD_sync h' (Nat.le_trans hB hs) hlim2)
      obtain ⟨z, hz⟩ : ∃ z, m.gen % 2 = z := ⟨_, rfl⟩
      rw [hz] at CS CP CY hp ⊢
      obtain ⟨ps, hps⟩ : ∃ ps, putS s z (bodyM m) = ps := ⟨_, rfl⟩
      rw [hp, hps] at CP
      rw [hps] at CY ⊢
      have HZ := Lib.hid hz
      have HPS := Lib.hid hps
      clear hz hp hps hlim hlim2 HD0 HD1 HW0 HOK HM
      refine Upto.law (i := 2) rfl (by kernel_rfl) rfl (fun K hK => ?_)
      refine wp_enter (f := 26) (args := #[.agg (msC m)]) (by go_simp; (try with_reducible rfl)) (CS.out _) ?_
      rintro e W2 ⟨rfl, hbs⟩
      have W2B : Hid (Below W1.heap.size W1 W2) := Lib.hid (by
        have q := (Below.refl W1.heap.size W1).drew
        exact q.trans (hbs.mono q.size))
      clear hbs
      refine ⟨_, rfl, hK _ _ (KS.out _ W2B.out) ?_⟩
      clear hK
      simp only [Act.put, List.setIfInBounds_toArray, List.set_cons_zero, List.set_cons_succ]
      refine Upto.law (i := 4) rfl (by kernel_rfl) rfl (fun K hK => ?_)
      refine wp_enter (f := 27) (args := #[.agg (msC m)]) (by go_simp; (try with_reducible rfl)) (CE.out _) ?_
      rintro e W3 ⟨A, n, c, rfl, ho, hr, hbs⟩
      have W3B : Hid (Below W1.heap.size W1 W3) := Lib.hid (by
        have q := W2B.out
        exact q.trans (hbs.mono q.size))
      have HY := Lib.hid (Byt.of_own ho hr)
      clear ho hr hbs
      refine ⟨_, rfl, hK _ _ (KS.out _ W3B.out) ?_⟩
      clear hK
      simp only [Act.put, List.setIfInBounds_toArray, List.set_cons_zero, List.set_cons_succ]
      have CP1 := Lib.hid (CP.out W3 A n c W3B.out HY.out)
      clear CP HY W2B W3B KS CS CE HB0 HK0 HB1 HK1 HS1 hS0
      refine Upto.tail rfl (by kernel_rfl) ?_
      simp only [List.drop_succ_cons, List.drop_zero]
      go_wp2_with fail
      refine CP1.out.mono ?_
      rintro e W4 ⟨rfl, h4, b4, s4⟩
      have H4 := Lib.hid h4
      have B4 := Lib.hid b4
      have CY1 := Lib.hid (CY.out W4 h4 s4)
      clear h4 b4 s4 CP1 CY
      go_wp2_with fail
      refine NoPanic.normal ?_
      go_wp2_with fail
      refine CY1.out.mono ?_
      rintro e W5 ⟨rfl, h5, b5⟩
      have R5 := Lib.hid (And.intro h5 (B4.out.trans b5))
      clear h5 b5 CY1
      go_wp2_with fail
      go_ret
      rw [HZ.out, HPS.out]
      exact ⟨rfl, R5.out.1, R5.out.2⟩
    · have E : Hid (saveE s m = putE s (m.gen % 2) (bodyM m) ∧ saveS s m = putS s (m.gen % 2) (bodyM m)) := Lib.hid ⟨by unfold saveE; rw [if_neg (by simpa using hok), if_pos hp], by unfold saveS; rw [if_neg (by simpa using hok), if_pos hp]⟩
      rw [E.out.1, E.out.2, show msV m = .agg #[.int .i64 m.gen, .int .i64 m.inc, .int .i64 m.first, .int .i64 m.lsn, .int .i64 m.chk] from rfl]
      rw [decide_eq_true hok] at CV
      have HOK := Lib.hid hok
      clear h hm hW0 E hok
      go_enter Try.func8, Try.ntmps8
      go_wp2_with fail
      (try rw [← HW0.out])
      refine (CV.out _).mono ?_
      rintro e W1 ⟨rfl, b1⟩
      have HB1 : Hid (Below W0.heap.size W0 W1) := Lib.hid b1
      have HK1 := Lib.hid (HK0.out.later HB1.out)
      have HD1 := Lib.hid (HD0.out.below HB1.out)
      have HS1 : Hid (w.heap.size < W1.heap.size) := Lib.hid HK1.out.lt
      clear b1 CV
      go_wp2_with fail
      have hu := Try.underlying23
      have hsz : (Try.prog.info? 23).map (·.size) = some (msC m).toList.length := by kernel_rfl
      have KS : Hid (∀ W, Below W1.heap.size W1 W → W.heap[w.heap.size]? = some (.cells (msC m) 23 (0, 0))) := Lib.hid (fun W hb => HK1.out.later hb)
      have hS0 := KS.out W1.drew (Below.refl _ _).drew
      refine wp_region_noPanic ?_
      refine upto_start (fun w' => w'.heap[w.heap.size]? = some (.cells (msC m) 23 (0, 0))) 5 (by kernel_rfl) ?_
      change Upto _ _ _ _ _ 7 _ _ _
      refine Upto.take (i := 0) (v := .pointer (some ⟨b, 0, none⟩)) rfl (by kernel_rfl) (fun _ _ _ h => h) rfl (fun w' hS => by go_simp; (try with_reducible rfl)) hS0 ?_
      simp only [Act.put, List.setIfInBounds_toArray, List.set_cons_zero, List.set_cons_succ]
      refine Upto.take (i := 1) (v := .agg (msC m)) rfl (by kernel_rfl) (fun _ _ _ h => h) rfl (fun w' hS => exec_load rfl (by rfl) (Bk.rangeC hS) hu rfl hsz) hS0 ?_
      simp only [Act.put, List.setIfInBounds_toArray, List.set_cons_zero, List.set_cons_succ]
      refine Upto.take (i := 3) (v := .agg (msC m)) rfl (by kernel_rfl) (fun _ _ _ h => h) rfl (fun w' hS => exec_load rfl (by rfl) (Bk.rangeC hS) hu rfl hsz) hS0 ?_
      simp only [Act.put, List.setIfInBounds_toArray, List.set_cons_zero, List.set_cons_succ]
      have CS : Hid (∀ w, Calls Try.prog 26 #[.agg (msC m)] w (Ret (.int .i64 (m.gen % 2)) w)) := Lib.hid (fun w => sectorOf_any m w (by have := HOK.out.gen; omega))
      have CE : Hid (∀ w, Calls Try.prog 27 #[.agg (msC m)] w (RetOwn (bodyM m) w)) := Lib.hid (fun w => encode_any m HM.out w)
      have CP : Hid (∀ W A n c, Below W1.heap.size W1 W → Byt W A n c (bodyM m) → Calls Try.prog 25 #[.pointer (some ⟨b, 0, none⟩), .int .i64 (m.gen % 2), .slice A n c] W (fun e w' => e = .returned (.int .i64 (putE s (m.gen % 2) (bodyM m))) ∧ Has B ((dsk b (putS s (m.gen % 2) (bodyM m))).star R) w' ∧ Below B w w' ∧ w.heap.size ≤ w'.heap.size)) := Lib.hid (fun W A n c hb hy => by
        have hw : Below w.heap.size w W := HB0.out.trans ((HB1.out.trans (hb.mono HB1.out.size)).mono HB0.out.size)
        exact (stPut_any (HD1.out.below hb) (Nat.le_trans hB hw.size) A n c (bodyM m) hy (m.gen % 2) (by omega) hlim).mono fun e w' ⟨h1, h2, h3⟩ => ⟨h1, h2, (hw.mono hB).trans h3, Nat.le_trans hw.size h3.size⟩)
      have CY : Hid (∀ w', Has B ((dsk b (putS s (m.gen % 2) (bodyM m))).star R) w' → w.heap.size ≤ w'.heap.size → Calls Try.prog 22 #[.pointer (some ⟨b, 0, none⟩)] w' (RetHas (.int .i64 (putS s (m.gen % 2) (bodyM m)).sErr) B ((dsk b (putS s (m.gen % 2) (bodyM m)).sync).star R) w')) := Lib.hid (fun w' h' hs => hasD_sync h' (Nat.le_trans hB hs) hlim2)
      obtain ⟨z, hz⟩ : ∃ z, m.gen % 2 = z := ⟨_, rfl⟩
      rw [hz] at CS CP CY hp ⊢
      obtain ⟨pe, hpe⟩ : ∃ pe, putE s z (bodyM m) = pe := ⟨_, rfl⟩
      obtain ⟨ps, hps⟩ : ∃ ps, putS s z (bodyM m) = ps := ⟨_, rfl⟩
      rw [hpe, hps] at CP
      rw [hps] at CY
      rw [hpe, hps]
      rw [hpe] at hp
      have hd : (pe != 0) = true := by simpa using hp
      have HZ := Lib.hid hz
      have HPS := Lib.hid hps
      have HPE := Lib.hid hpe
      clear hz hpe hps hlim hlim2 HD0 HD1 HW0 HOK HM hp
      refine Upto.law (i := 2) rfl (by kernel_rfl) rfl (fun K hK => ?_)
      refine wp_enter (f := 26) (args := #[.agg (msC m)]) (by go_simp; (try with_reducible rfl)) (CS.out _) ?_
      rintro e W2 ⟨rfl, hbs⟩
      have W2B : Hid (Below W1.heap.size W1 W2) := Lib.hid (by
        have q := (Below.refl W1.heap.size W1).drew
        exact q.trans (hbs.mono q.size))
      clear hbs
      refine ⟨_, rfl, hK _ _ (KS.out _ W2B.out) ?_⟩
      clear hK
      simp only [Act.put, List.setIfInBounds_toArray, List.set_cons_zero, List.set_cons_succ]
      refine Upto.law (i := 4) rfl (by kernel_rfl) rfl (fun K hK => ?_)
      refine wp_enter (f := 27) (args := #[.agg (msC m)]) (by go_simp; (try with_reducible rfl)) (CE.out _) ?_
      rintro e W3 ⟨A, n, c, rfl, ho, hr, hbs⟩
      have W3B : Hid (Below W1.heap.size W1 W3) := Lib.hid (by
        have q := W2B.out
        exact q.trans (hbs.mono q.size))
      have HY := Lib.hid (Byt.of_own ho hr)
      clear ho hr hbs
      refine ⟨_, rfl, hK _ _ (KS.out _ W3B.out) ?_⟩
      clear hK
      simp only [Act.put, List.setIfInBounds_toArray, List.set_cons_zero, List.set_cons_succ]
      have CP1 := Lib.hid (CP.out W3 A n c W3B.out HY.out)
      clear CP HY W2B W3B KS CS CE HB0 HK0 HB1 HK1 HS1 hS0
      refine Upto.tail rfl (by kernel_rfl) ?_
      simp only [List.drop_succ_cons, List.drop_zero]
      go_wp2_with fail
      refine CP1.out.mono ?_
      rintro e W4 ⟨rfl, h4, b4, s4⟩
      have H4 := Lib.hid h4
      have B4 := Lib.hid b4
      have CY1 := Lib.hid (CY.out W4 h4 s4)
      clear h4 b4 s4 CP1 CY
      go_wp2_with fail
      refine NoPanic.normal ?_
      clear CY1
      go_wp2_with fail
      go_ret
      rw [HZ.out, HPS.out, HPE.out]
      exact ⟨rfl, H4.out, B4.out⟩
  · have E : Hid (saveE s m = 1 ∧ saveS s m = s) := Lib.hid ⟨if_pos hok, if_pos hok⟩
    rw [E.out.1, E.out.2, show msV m = .agg #[.int .i64 m.gen, .int .i64 m.inc, .int .i64 m.first, .int .i64 m.lsn, .int .i64 m.chk] from rfl]
    rw [decide_eq_false hok] at CV
    clear h hm hW0 E hok
    go_enter Try.func8, Try.ntmps8
    go_wp2_with fail
    (try rw [← HW0.out])
    refine (CV.out _).mono ?_
    rintro e W1 ⟨rfl, b1⟩
    have HB1 : Hid (Below w.heap.size w W1) := Lib.hid (HB0.out.trans (b1.mono HB0.out.size))
    have HD1 := Lib.hid (HD0.out.below b1)
    clear b1 CV
    go_wp2_with fail
    go_ret
    exact ⟨rfl, HD1.out, HB1.out.mono hB⟩
end Go.Proofs.Ytjieledaiipheaa

/- master.recordIn answers the record that a sector has, and whether it has one. -/
namespace Go.Proofs.Ytjieledaiipheaa
open Go.RowKit

/-- Does sector n have a record? -/
def isM (n : Int) (l : List Int) : Bool := decide (openE l = 0 ∧ decE (openB l) = 0 ∧ (decR (openB l)).ok ∧ (decR (openB l)).gen % 2 = n)

set_option maxRecDepth 100000 in
set_option maxHeartbeats 4000000 in
theorem recordIn_any (z : Int) (A : Option Addr) (n c : Nat) (l : List Int) (w : World) (h : Byt w A n c l) :
    Calls Try.prog 29 #[.int .i64 z, .slice A n c] w (Ret (.tuple #[msV (recM z l), .bool (isM z l)]) w) := by
  obtain ⟨W0, hW0⟩ : ∃ W0, W0 = w.alloc (.cells #[.int .i64 0, .int .i64 0, .int .i64 0, .int .i64 0, .int .i64 0] 23) := ⟨_, rfl⟩
  have HZ0 : Hid (Bk W0 w.heap.size 23 #[.int .i64 0, .int .i64 0, .int .i64 0, .int .i64 0, .int .i64 0]) := Lib.hid (by rw [hW0]; exact Bk.new w _ _)
  have HB0 : Hid (Below w.heap.size w W0) := Lib.hid (by rw [hW0]; exact (Below.refl _ _).alloc (Nat.le_refl _) _)
  have CO := Lib.hid (stOpen_any A n c l W0 (h.below HB0.out))
  have HW0 := Lib.hid hW0
  have HLB : Hid (openE l = 0 → (openB l).length = 254) := Lib.hid (fun e => by
    by_cases hl : l.length = 256
    · unfold openB; rw [if_pos e]; exact bodyL_len hl
    · rw [openE_len hl] at e; omega)
  obtain ⟨r, hr⟩ : ∃ r, w.heap.size = r := ⟨_, rfl⟩
  rw [hr] at HZ0
  have HR := Lib.hid hr
  clear h hW0 hr
  by_cases h1 : openE l = 0
  · have HOE := Lib.hid h1
    by_cases h2 : decE (openB l) = 0
    · by_cases h3 : (decR (openB l)).ok
      · by_cases h4 : (decR (openB l)).gen % 2 = z
        · have E : Hid (recM z l = decR (openB l) ∧ isM z l = true) := Lib.hid ⟨recM_yes ⟨h1, h2, h3, h4⟩, decide_eq_true ⟨h1, h2, h3, h4⟩⟩
          rw [h1] at CO
          go_enter Try.func29, Try.ntmps29
          go_wp2_with fail
          rw [← HW0.out, HR.out]
          refine CO.out.mono ?_
          rintro e W1 ⟨A1, n1, c1, rfl, hb, hbel⟩
          have HBY := Lib.hid hb
          have HB1 := Lib.hid hbel
          have Z1 : Hid (Bk W1 r 23 #[.int .i64 0, .int .i64 0, .int .i64 0, .int .i64 0, .int .i64 0]) := Lib.hid (HZ0.out.later HB1.out)
          have L1 : Hid (Below r w W1) := Lib.hid (by rw [← HR.out]; exact HB0.out.trans (HB1.out.mono HB0.out.size))
          clear hb hbel CO HW0 HZ0 HB0 HB1
          have CD := Lib.hid (decode_any A1 n1 c1 (openB l) W1 HBY.out (by have := HLB.out HOE.out; omega) (by have := HBY.out.len; have := HLB.out HOE.out; omega))
          obtain ⟨m, hm⟩ : ∃ m, decM (openB l) = m := ⟨_, rfl⟩
          obtain ⟨x, hx⟩ : ∃ x, decE (openB l) = x := ⟨_, rfl⟩
          rw [hm, hx, show msV m = .agg #[.int .i64 m.gen, .int .i64 m.inc, .int .i64 m.first, .int .i64 m.lsn, .int .i64 m.chk] from rfl] at CD
          have HMM := Lib.hid hm
          have HX := Lib.hid hx
          clear hm hx
          go_wp2_with fail
          refine CD.out.mono ?_
          rintro e W2 ⟨rfl, hbel⟩
          obtain ⟨W3, hW3⟩ : ∃ W3, W3 = W2.alloc (.cells #[.int .i64 m.gen, .int .i64 m.inc, .int .i64 m.first, .int .i64 m.lsn, .int .i64 m.chk] 23) := ⟨_, rfl⟩
          have Z3 : Hid (Bk W3 r 23 #[.int .i64 0, .int .i64 0, .int .i64 0, .int .i64 0, .int .i64 0]) := Lib.hid (by rw [hW3]; exact (Z1.out.later hbel).bel ((Below.refl W2.heap.size _).alloc (Nat.le_refl _) _) (Z1.out.later hbel).lt)
          have L3 : Hid (Below r w W3) := Lib.hid (by rw [hW3]; exact (L1.out.trans (hbel.mono (Nat.le_of_lt Z1.out.lt))).alloc (Nat.le_trans (Nat.le_of_lt Z1.out.lt) hbel.size) _)
          have K3 : Hid (Bk W3 W2.heap.size 23 #[.int .i64 m.gen, .int .i64 m.inc, .int .i64 m.first, .int .i64 m.lsn, .int .i64 m.chk]) := Lib.hid (by rw [hW3]; exact Bk.new _ _ _)
          have HW3 := Lib.hid hW3
          obtain ⟨q, hq⟩ : ∃ q, W2.heap.size = q := ⟨_, rfl⟩
          rw [hq] at K3
          have HQ := Lib.hid hq
          have HRQ : Hid (r < q) := Lib.hid (by rw [← hq]; exact Nat.lt_of_lt_of_le Z1.out.lt hbel.size)
          clear hW3 hbel CD Z1 L1 HBY hq
          obtain rfl : x = 0 := by rw [← HX.out]; exact h2
          have HMD : Hid (m = decR (openB l)) := Lib.hid (by rw [← HMM.out]; unfold decM; rw [if_neg (by rw [h2]; simp)])
          have CV := Lib.hid (isValid_any m W3)
          rw [show msV m = .agg #[.int .i64 m.gen, .int .i64 m.inc, .int .i64 m.first, .int .i64 m.lsn, .int .i64 m.chk] from rfl] at CV
          have HOK : Hid m.ok := Lib.hid (by rw [HMD.out]; exact h3)
          rw [decide_eq_true HOK.out] at CV
          go_wp2_with fail
          rw [← HW3.out, HQ.out]
          clear HW3
          go_wp2_with (refine wpList_load_row rfl 23 _ rfl q rfl 23 #[.int .i64 m.gen, .int .i64 m.inc, .int .i64 m.first, .int .i64 m.lsn, .int .i64 m.chk] (0, 0) _ K3.out Try.underlying23 rfl ms_info ?_)
          refine CV.out.mono ?_
          rintro e W4 ⟨rfl, hbel⟩
          have Z4 : Hid (Bk W4 r 23 #[.int .i64 0, .int .i64 0, .int .i64 0, .int .i64 0, .int .i64 0]) := Lib.hid (Z3.out.later hbel)
          have K4 : Hid (Bk W4 q 23 #[.int .i64 m.gen, .int .i64 m.inc, .int .i64 m.first, .int .i64 m.lsn, .int .i64 m.chk]) := Lib.hid (K3.out.later hbel)
          have L4 : Hid (Below r w W4) := Lib.hid (L3.out.trans (hbel.mono (Nat.le_of_lt Z3.out.lt)))
          clear hbel CV Z3 K3 L3
          have CS := Lib.hid (sectorOf_any m W4 (by have := HOK.out.gen; omega))
          rw [show msV m = .agg #[.int .i64 m.gen, .int .i64 m.inc, .int .i64 m.first, .int .i64 m.lsn, .int .i64 m.chk] from rfl] at CS
          rw [show m.gen % 2 = z from by rw [HMD.out]; exact h4] at CS
          clear h1 h2 h3 h4
          have c0 : W4.cell? ⟨q, 0, none⟩ = some (.int .i64 m.gen) := K4.out.cell 0
          have c1 : W4.cell? ⟨q, 1, none⟩ = some (.int .i64 m.inc) := K4.out.cell 1
          have c2 : W4.cell? ⟨q, 2, none⟩ = some (.int .i64 m.first) := K4.out.cell 2
          have c3 : W4.cell? ⟨q, 3, none⟩ = some (.int .i64 m.lsn) := K4.out.cell 3
          have c4 : W4.cell? ⟨q, 4, none⟩ = some (.int .i64 m.chk) := K4.out.cell 4
          go_wp2_with fail
          refine CS.out.mono ?_
          rintro e W5 ⟨rfl, hbel⟩
          have Z5 : Hid (Bk W5 r 23 #[.int .i64 0, .int .i64 0, .int .i64 0, .int .i64 0, .int .i64 0]) := Lib.hid (Z4.out.later hbel)
          have K5 : Hid (Bk W5 q 23 #[.int .i64 m.gen, .int .i64 m.inc, .int .i64 m.first, .int .i64 m.lsn, .int .i64 m.chk]) := Lib.hid (K4.out.later hbel)
          have L5 : Hid (Below r w W5) := Lib.hid (L4.out.trans (hbel.mono (Nat.le_of_lt Z4.out.lt)))
          clear hbel CS Z4 K4 L4 c0 c1 c2 c3 c4
          go_wp2_with (first | (refine wpList_load_row rfl 23 _ rfl q rfl 23 #[.int .i64 m.gen, .int .i64 m.inc, .int .i64 m.first, .int .i64 m.lsn, .int .i64 m.chk] (0, 0) _ K5.out Try.underlying23 rfl ms_info ?_) | (refine wpList_store_row rfl 23 _ _ rfl r #[.int .i64 m.gen, .int .i64 m.inc, .int .i64 m.first, .int .i64 m.lsn, .int .i64 m.chk] rfl rfl 23 _ Z5.out ms_info rfl (ms_one _ _ _ _ _) ?_; simp only [Act.put]))
          (try simp only [Exit.inBlock, Exit.then])
          refine bodyPost_ret (results_cellT rfl _ _ r 23 #[.int .i64 m.gen, .int .i64 m.inc, .int .i64 m.first, .int .i64 m.lsn, .int .i64 m.chk] _ rfl (Z5.out.row _) Try.underlying23 rfl ms_info) rfl ?_
          rw [E.out.1, E.out.2, ← HMD.out]
          refine ⟨rfl, ?_⟩
          rw [HR.out]
          exact below_setRow L5.out (Nat.le_refl r) _
        · have E : Hid (recM z l = ms0 ∧ isM z l = false) := Lib.hid ⟨recM_no (fun q => h4 q.2.2.2), decide_eq_false (fun q => h4 q.2.2.2)⟩
          rw [h1] at CO
          go_enter Try.func29, Try.ntmps29
          go_wp2_with fail
          rw [← HW0.out, HR.out]
          refine CO.out.mono ?_
          rintro e W1 ⟨A1, n1, c1, rfl, hb, hbel⟩
          have HBY := Lib.hid hb
          have HB1 := Lib.hid hbel
          have Z1 : Hid (Bk W1 r 23 #[.int .i64 0, .int .i64 0, .int .i64 0, .int .i64 0, .int .i64 0]) := Lib.hid (HZ0.out.later HB1.out)
          have L1 : Hid (Below r w W1) := Lib.hid (by rw [← HR.out]; exact HB0.out.trans (HB1.out.mono HB0.out.size))
          clear hb hbel CO HW0 HZ0 HB0 HB1
          have CD := Lib.hid (decode_any A1 n1 c1 (openB l) W1 HBY.out (by have := HLB.out HOE.out; omega) (by have := HBY.out.len; have := HLB.out HOE.out; omega))
          obtain ⟨m, hm⟩ : ∃ m, decM (openB l) = m := ⟨_, rfl⟩
          obtain ⟨x, hx⟩ : ∃ x, decE (openB l) = x := ⟨_, rfl⟩
          rw [hm, hx, show msV m = .agg #[.int .i64 m.gen, .int .i64 m.inc, .int .i64 m.first, .int .i64 m.lsn, .int .i64 m.chk] from rfl] at CD
          have HMM := Lib.hid hm
          have HX := Lib.hid hx
          clear hm hx
          go_wp2_with fail
          refine CD.out.mono ?_
          rintro e W2 ⟨rfl, hbel⟩
          obtain ⟨W3, hW3⟩ : ∃ W3, W3 = W2.alloc (.cells #[.int .i64 m.gen, .int .i64 m.inc, .int .i64 m.first, .int .i64 m.lsn, .int .i64 m.chk] 23) := ⟨_, rfl⟩
          have Z3 : Hid (Bk W3 r 23 #[.int .i64 0, .int .i64 0, .int .i64 0, .int .i64 0, .int .i64 0]) := Lib.hid (by rw [hW3]; exact (Z1.out.later hbel).bel ((Below.refl W2.heap.size _).alloc (Nat.le_refl _) _) (Z1.out.later hbel).lt)
          have L3 : Hid (Below r w W3) := Lib.hid (by rw [hW3]; exact (L1.out.trans (hbel.mono (Nat.le_of_lt Z1.out.lt))).alloc (Nat.le_trans (Nat.le_of_lt Z1.out.lt) hbel.size) _)
          have K3 : Hid (Bk W3 W2.heap.size 23 #[.int .i64 m.gen, .int .i64 m.inc, .int .i64 m.first, .int .i64 m.lsn, .int .i64 m.chk]) := Lib.hid (by rw [hW3]; exact Bk.new _ _ _)
          have HW3 := Lib.hid hW3
          obtain ⟨q, hq⟩ : ∃ q, W2.heap.size = q := ⟨_, rfl⟩
          rw [hq] at K3
          have HQ := Lib.hid hq
          have HRQ : Hid (r < q) := Lib.hid (by rw [← hq]; exact Nat.lt_of_lt_of_le Z1.out.lt hbel.size)
          clear hW3 hbel CD Z1 L1 HBY hq
          obtain rfl : x = 0 := by rw [← HX.out]; exact h2
          have HMD : Hid (m = decR (openB l)) := Lib.hid (by rw [← HMM.out]; unfold decM; rw [if_neg (by rw [h2]; simp)])
          have CV := Lib.hid (isValid_any m W3)
          rw [show msV m = .agg #[.int .i64 m.gen, .int .i64 m.inc, .int .i64 m.first, .int .i64 m.lsn, .int .i64 m.chk] from rfl] at CV
          have HOK : Hid m.ok := Lib.hid (by rw [HMD.out]; exact h3)
          rw [decide_eq_true HOK.out] at CV
          go_wp2_with fail
          rw [← HW3.out, HQ.out]
          clear HW3
          go_wp2_with (refine wpList_load_row rfl 23 _ rfl q rfl 23 #[.int .i64 m.gen, .int .i64 m.inc, .int .i64 m.first, .int .i64 m.lsn, .int .i64 m.chk] (0, 0) _ K3.out Try.underlying23 rfl ms_info ?_)
          refine CV.out.mono ?_
          rintro e W4 ⟨rfl, hbel⟩
          have Z4 : Hid (Bk W4 r 23 #[.int .i64 0, .int .i64 0, .int .i64 0, .int .i64 0, .int .i64 0]) := Lib.hid (Z3.out.later hbel)
          have K4 : Hid (Bk W4 q 23 #[.int .i64 m.gen, .int .i64 m.inc, .int .i64 m.first, .int .i64 m.lsn, .int .i64 m.chk]) := Lib.hid (K3.out.later hbel)
          have L4 : Hid (Below r w W4) := Lib.hid (L3.out.trans (hbel.mono (Nat.le_of_lt Z3.out.lt)))
          clear hbel CV Z3 K3 L3
          have CS := Lib.hid (sectorOf_any m W4 (by have := HOK.out.gen; omega))
          rw [show msV m = .agg #[.int .i64 m.gen, .int .i64 m.inc, .int .i64 m.first, .int .i64 m.lsn, .int .i64 m.chk] from rfl] at CS
          have HNE : Hid (m.gen % 2 ≠ z) := Lib.hid (by rw [HMD.out]; exact h4)
          obtain ⟨y, hy⟩ : ∃ y, m.gen % 2 = y := ⟨_, rfl⟩
          rw [hy] at CS
          have hd : (y != z) = true := by have := HNE.out; rw [hy] at this; simpa using this
          clear h1 h2 h3 h4
          have c0 : W4.cell? ⟨q, 0, none⟩ = some (.int .i64 m.gen) := K4.out.cell 0
          have c1 : W4.cell? ⟨q, 1, none⟩ = some (.int .i64 m.inc) := K4.out.cell 1
          have c2 : W4.cell? ⟨q, 2, none⟩ = some (.int .i64 m.first) := K4.out.cell 2
          have c3 : W4.cell? ⟨q, 3, none⟩ = some (.int .i64 m.lsn) := K4.out.cell 3
          have c4 : W4.cell? ⟨q, 4, none⟩ = some (.int .i64 m.chk) := K4.out.cell 4
          go_wp2_with fail
          refine CS.out.mono ?_
          rintro e W5 ⟨rfl, hbel⟩
          have Z5 : Hid (Bk W5 r 23 #[.int .i64 0, .int .i64 0, .int .i64 0, .int .i64 0, .int .i64 0]) := Lib.hid (Z4.out.later hbel)
          have K5 : Hid (Bk W5 q 23 #[.int .i64 m.gen, .int .i64 m.inc, .int .i64 m.first, .int .i64 m.lsn, .int .i64 m.chk]) := Lib.hid (K4.out.later hbel)
          have L5 : Hid (Below r w W5) := Lib.hid (L4.out.trans (hbel.mono (Nat.le_of_lt Z4.out.lt)))
          clear hbel CS Z4 K4 L4 c0 c1 c2 c3 c4
          go_wp2_with (refine wpList_store_row rfl 23 _ _ rfl r #[.int .i64 0, .int .i64 0, .int .i64 0, .int .i64 0, .int .i64 0] rfl rfl 23 _ Z5.out ms_info rfl (ms_one _ _ _ _ _) ?_; simp only [Act.put])
          (try simp only [Exit.inBlock, Exit.then])
          refine bodyPost_ret (results_cellT rfl _ _ r 23 #[.int .i64 0, .int .i64 0, .int .i64 0, .int .i64 0, .int .i64 0] _ rfl (Z5.out.row _) Try.underlying23 rfl ms_info) rfl ?_
          rw [E.out.1, E.out.2]
          refine ⟨rfl, ?_⟩
          rw [HR.out]
          exact below_setRow L5.out (Nat.le_refl r) _
      · have E : Hid (recM z l = ms0 ∧ isM z l = false) := Lib.hid ⟨recM_no (fun q => h3 q.2.2.1), decide_eq_false (fun q => h3 q.2.2.1)⟩
        rw [h1] at CO
        go_enter Try.func29, Try.ntmps29
        go_wp2_with fail
        rw [← HW0.out, HR.out]
        refine CO.out.mono ?_
        rintro e W1 ⟨A1, n1, c1, rfl, hb, hbel⟩
        have HBY := Lib.hid hb
        have HB1 := Lib.hid hbel
        have Z1 : Hid (Bk W1 r 23 #[.int .i64 0, .int .i64 0, .int .i64 0, .int .i64 0, .int .i64 0]) := Lib.hid (HZ0.out.later HB1.out)
        have L1 : Hid (Below r w W1) := Lib.hid (by rw [← HR.out]; exact HB0.out.trans (HB1.out.mono HB0.out.size))
        clear hb hbel CO HW0 HZ0 HB0 HB1
        have CD := Lib.hid (decode_any A1 n1 c1 (openB l) W1 HBY.out (by have := HLB.out HOE.out; omega) (by have := HBY.out.len; have := HLB.out HOE.out; omega))
        obtain ⟨m, hm⟩ : ∃ m, decM (openB l) = m := ⟨_, rfl⟩
        obtain ⟨x, hx⟩ : ∃ x, decE (openB l) = x := ⟨_, rfl⟩
        rw [hm, hx, show msV m = .agg #[.int .i64 m.gen, .int .i64 m.inc, .int .i64 m.first, .int .i64 m.lsn, .int .i64 m.chk] from rfl] at CD
        have HMM := Lib.hid hm
        have HX := Lib.hid hx
        clear hm hx
        go_wp2_with fail
        refine CD.out.mono ?_
        rintro e W2 ⟨rfl, hbel⟩
        obtain ⟨W3, hW3⟩ : ∃ W3, W3 = W2.alloc (.cells #[.int .i64 m.gen, .int .i64 m.inc, .int .i64 m.first, .int .i64 m.lsn, .int .i64 m.chk] 23) := ⟨_, rfl⟩
        have Z3 : Hid (Bk W3 r 23 #[.int .i64 0, .int .i64 0, .int .i64 0, .int .i64 0, .int .i64 0]) := Lib.hid (by rw [hW3]; exact (Z1.out.later hbel).bel ((Below.refl W2.heap.size _).alloc (Nat.le_refl _) _) (Z1.out.later hbel).lt)
        have L3 : Hid (Below r w W3) := Lib.hid (by rw [hW3]; exact (L1.out.trans (hbel.mono (Nat.le_of_lt Z1.out.lt))).alloc (Nat.le_trans (Nat.le_of_lt Z1.out.lt) hbel.size) _)
        have K3 : Hid (Bk W3 W2.heap.size 23 #[.int .i64 m.gen, .int .i64 m.inc, .int .i64 m.first, .int .i64 m.lsn, .int .i64 m.chk]) := Lib.hid (by rw [hW3]; exact Bk.new _ _ _)
        have HW3 := Lib.hid hW3
        obtain ⟨q, hq⟩ : ∃ q, W2.heap.size = q := ⟨_, rfl⟩
        rw [hq] at K3
        have HQ := Lib.hid hq
        have HRQ : Hid (r < q) := Lib.hid (by rw [← hq]; exact Nat.lt_of_lt_of_le Z1.out.lt hbel.size)
        clear hW3 hbel CD Z1 L1 HBY hq
        obtain rfl : x = 0 := by rw [← HX.out]; exact h2
        have HMD : Hid (m = decR (openB l)) := Lib.hid (by rw [← HMM.out]; unfold decM; rw [if_neg (by rw [h2]; simp)])
        have CV := Lib.hid (isValid_any m W3)
        rw [show msV m = .agg #[.int .i64 m.gen, .int .i64 m.inc, .int .i64 m.first, .int .i64 m.lsn, .int .i64 m.chk] from rfl] at CV
        rw [decide_eq_false (by rw [HMD.out]; exact h3)] at CV
        go_wp2_with fail
        rw [← HW3.out, HQ.out]
        clear HW3
        go_wp2_with (refine wpList_load_row rfl 23 _ rfl q rfl 23 #[.int .i64 m.gen, .int .i64 m.inc, .int .i64 m.first, .int .i64 m.lsn, .int .i64 m.chk] (0, 0) _ K3.out Try.underlying23 rfl ms_info ?_)
        refine CV.out.mono ?_
        rintro e W4 ⟨rfl, hbel⟩
        have Z4 : Hid (Bk W4 r 23 #[.int .i64 0, .int .i64 0, .int .i64 0, .int .i64 0, .int .i64 0]) := Lib.hid (Z3.out.later hbel)
        have K4 : Hid (Bk W4 q 23 #[.int .i64 m.gen, .int .i64 m.inc, .int .i64 m.first, .int .i64 m.lsn, .int .i64 m.chk]) := Lib.hid (K3.out.later hbel)
        have L4 : Hid (Below r w W4) := Lib.hid (L3.out.trans (hbel.mono (Nat.le_of_lt Z3.out.lt)))
        clear hbel CV Z3 K3 L3
        go_wp2_with (refine wpList_store_row rfl 23 _ _ rfl r #[.int .i64 0, .int .i64 0, .int .i64 0, .int .i64 0, .int .i64 0] rfl rfl 23 _ Z4.out ms_info rfl (ms_one _ _ _ _ _) ?_; simp only [Act.put])
        (try simp only [Exit.inBlock, Exit.then])
        refine bodyPost_ret (results_cellT rfl _ _ r 23 #[.int .i64 0, .int .i64 0, .int .i64 0, .int .i64 0, .int .i64 0] _ rfl (Z4.out.row _) Try.underlying23 rfl ms_info) rfl ?_
        rw [E.out.1, E.out.2]
        refine ⟨rfl, ?_⟩
        rw [HR.out]
        exact below_setRow L4.out (Nat.le_refl r) _
    · have E : Hid (recM z l = ms0 ∧ isM z l = false) := Lib.hid ⟨recM_no (fun q => h2 q.2.1), decide_eq_false (fun q => h2 q.2.1)⟩
      rw [h1] at CO
      go_enter Try.func29, Try.ntmps29
      go_wp2_with fail
      rw [← HW0.out, HR.out]
      refine CO.out.mono ?_
      rintro e W1 ⟨A1, n1, c1, rfl, hb, hbel⟩
      have HBY := Lib.hid hb
      have HB1 := Lib.hid hbel
      have Z1 : Hid (Bk W1 r 23 #[.int .i64 0, .int .i64 0, .int .i64 0, .int .i64 0, .int .i64 0]) := Lib.hid (HZ0.out.later HB1.out)
      have L1 : Hid (Below r w W1) := Lib.hid (by rw [← HR.out]; exact HB0.out.trans (HB1.out.mono HB0.out.size))
      clear hb hbel CO HW0 HZ0 HB0 HB1
      have CD := Lib.hid (decode_any A1 n1 c1 (openB l) W1 HBY.out (by have := HLB.out HOE.out; omega) (by have := HBY.out.len; have := HLB.out HOE.out; omega))
      obtain ⟨m, hm⟩ : ∃ m, decM (openB l) = m := ⟨_, rfl⟩
      obtain ⟨x, hx⟩ : ∃ x, decE (openB l) = x := ⟨_, rfl⟩
      rw [hm, hx, show msV m = .agg #[.int .i64 m.gen, .int .i64 m.inc, .int .i64 m.first, .int .i64 m.lsn, .int .i64 m.chk] from rfl] at CD
      have HMM := Lib.hid hm
      have HX := Lib.hid hx
      clear hm hx
      go_wp2_with fail
      refine CD.out.mono ?_
      rintro e W2 ⟨rfl, hbel⟩
      obtain ⟨W3, hW3⟩ : ∃ W3, W3 = W2.alloc (.cells #[.int .i64 m.gen, .int .i64 m.inc, .int .i64 m.first, .int .i64 m.lsn, .int .i64 m.chk] 23) := ⟨_, rfl⟩
      have Z3 : Hid (Bk W3 r 23 #[.int .i64 0, .int .i64 0, .int .i64 0, .int .i64 0, .int .i64 0]) := Lib.hid (by rw [hW3]; exact (Z1.out.later hbel).bel ((Below.refl W2.heap.size _).alloc (Nat.le_refl _) _) (Z1.out.later hbel).lt)
      have L3 : Hid (Below r w W3) := Lib.hid (by rw [hW3]; exact (L1.out.trans (hbel.mono (Nat.le_of_lt Z1.out.lt))).alloc (Nat.le_trans (Nat.le_of_lt Z1.out.lt) hbel.size) _)
      have K3 : Hid (Bk W3 W2.heap.size 23 #[.int .i64 m.gen, .int .i64 m.inc, .int .i64 m.first, .int .i64 m.lsn, .int .i64 m.chk]) := Lib.hid (by rw [hW3]; exact Bk.new _ _ _)
      have HW3 := Lib.hid hW3
      obtain ⟨q, hq⟩ : ∃ q, W2.heap.size = q := ⟨_, rfl⟩
      rw [hq] at K3
      have HQ := Lib.hid hq
      have HRQ : Hid (r < q) := Lib.hid (by rw [← hq]; exact Nat.lt_of_lt_of_le Z1.out.lt hbel.size)
      clear hW3 hbel CD Z1 L1 HBY hq
      have hd : ((x : Int) != 0) = true := by have := HX.out; simp; omega
      clear h2
      have Z3L : Hid (Bk (W2.alloc (.cells #[.int .i64 m.gen, .int .i64 m.inc, .int .i64 m.first, .int .i64 m.lsn, .int .i64 m.chk] 23)) r 23 #[.int .i64 0, .int .i64 0, .int .i64 0, .int .i64 0, .int .i64 0]) := Lib.hid (by rw [← HW3.out]; exact Z3.out)
      go_wp2_with (refine wpList_store_row rfl 23 _ _ rfl r #[.int .i64 0, .int .i64 0, .int .i64 0, .int .i64 0, .int .i64 0] rfl rfl 23 _ Z3L.out ms_info rfl (ms_one _ _ _ _ _) ?_; simp only [Act.put])
      rw [← HW3.out]
      (try simp only [Exit.inBlock, Exit.then])
      refine bodyPost_ret (results_cellT rfl _ _ r 23 #[.int .i64 0, .int .i64 0, .int .i64 0, .int .i64 0, .int .i64 0] _ rfl (Z3.out.row _) Try.underlying23 rfl ms_info) rfl ?_
      rw [E.out.1, E.out.2]
      refine ⟨rfl, ?_⟩
      rw [HR.out]
      exact below_setRow L3.out (Nat.le_refl r) _
  · have E : Hid (recM z l = ms0 ∧ isM z l = false) := Lib.hid ⟨recM_no (fun q => h1 q.1), decide_eq_false (fun q => h1 q.1)⟩
    obtain ⟨oe, hoe⟩ : ∃ oe, openE l = oe := ⟨_, rfl⟩
    rw [hoe] at CO h1
    have hd : (oe != 0) = true := by simpa using h1
    clear hoe h1
    go_enter Try.func29, Try.ntmps29
    go_wp2_with fail
    rw [← HW0.out, HR.out]
    refine CO.out.mono ?_
    rintro e W1 ⟨A1, n1, c1, rfl, hb, hbel⟩
    have HBY := Lib.hid hb
    have HB1 := Lib.hid hbel
    have Z1 : Hid (Bk W1 r 23 #[.int .i64 0, .int .i64 0, .int .i64 0, .int .i64 0, .int .i64 0]) := Lib.hid (HZ0.out.later HB1.out)
    have L1 : Hid (Below r w W1) := Lib.hid (by rw [← HR.out]; exact HB0.out.trans (HB1.out.mono HB0.out.size))
    clear hb hbel CO HW0 HZ0 HB0 HB1
    go_wp2_with (refine wpList_store_row rfl 23 _ _ rfl r #[.int .i64 0, .int .i64 0, .int .i64 0, .int .i64 0, .int .i64 0] rfl rfl 23 _ Z1.out ms_info rfl (ms_one _ _ _ _ _) ?_; simp only [Act.put])
    (try simp only [Exit.inBlock, Exit.then])
    refine bodyPost_ret (results_cellT rfl _ _ r 23 #[.int .i64 0, .int .i64 0, .int .i64 0, .int .i64 0, .int .i64 0] _ rfl (Z1.out.row _) Try.underlying23 rfl ms_info) rfl ?_
    rw [E.out.1, E.out.2]
    refine ⟨rfl, ?_⟩
    rw [HR.out]
    exact below_setRow L1.out (Nat.le_refl r) _
end Go.Proofs.Ytjieledaiipheaa

/- master.Load, where reads answer known bytes or errors: the record that counts, or the error; nothing that was there is turned. -/
namespace Go.Proofs.Ytjieledaiipheaa
open Go.RowKit

/-- The one with the greater Gen. -/
def better (best x : Ms) : Ms := if best.gen < x.gen then x else best
theorem isM_no {z : Int} {l : List Int} (h : isM z l = false) : recM z l = ms0 := recM_no (of_decide_eq_false h)
theorem better_no {best : Ms} {z : Int} {l : List Int} (h : isM z l = false) (hb : 0 ≤ best.gen) : better best (recM z l) = best := by
  unfold better
  rw [if_neg]
  rw [isM_no h]
  show ¬ best.gen < 0
  omega

/-- What the examination of one sector leaves. -/
def RetEx (er : Int) (qb : Nat) (best : Ms) (w : World) (e : Ending) (w' : World) : Prop := e = .returned (.int .i64 er) ∧ Bk w' qb 23 (msC best) ∧ w.grownBy w' (some qb)

set_option maxRecDepth 100000 in
set_option maxHeartbeats 4000000 in
theorem examine_any (d : Option Addr) (qd qb : Nat) (best : Ms) (z : Int) (l : List Int) (er : Int) (w : World) (hd : Bk w qd 24 #[.pointer d]) (hb : Bk w qb 23 (msC best)) (h0 : 0 ≤ best.gen)
    (hR : Calls Try.prog 13 #[.pointer d, .int .i64 z] w (RetRd l er w)) :
    Calls Try.prog 28 #[.int .i64 z, .pointer (some ⟨qd, 0, none⟩), .pointer (some ⟨qb, 0, none⟩)] w (RetEx er qb (if er ≠ 0 then best else better best (recM z l)) w) := by
  have HR := Lib.hid hR
  have HB := Lib.hid hb
  have HP := Lib.hid h0
  have cd : w.cell? ⟨qd, 0, none⟩ = some (.pointer d) := hd.cell 0
  clear hd hb hR h0
  by_cases he : er = 0
  · subst he
    rw [if_neg (by simp)]
    obtain ⟨i, hi⟩ : ∃ i, isM z l = i := ⟨_, rfl⟩
    have HI := Lib.hid hi
    obtain ⟨m, hm⟩ : ∃ m, recM z l = m := ⟨_, rfl⟩
    have HM := Lib.hid hm
    rw [hm]
    clear hi hm
    cases i with
    | false =>
        go_enter Try.func28, Try.ntmps28
        go_wp2_with fail
        refine HR.out.mono ?_
        rintro e W1 ⟨A, n, c, rfl, hy, _, hbel⟩
        have CI := Lib.hid (recordIn_any z A n c l W1 hy)
        rw [HM.out, HI.out, show msV m = .agg #[.int .i64 m.gen, .int .i64 m.inc, .int .i64 m.first, .int .i64 m.lsn, .int .i64 m.chk] from rfl] at CI
        have HB1 := Lib.hid hbel
        clear hy hbel HR
        go_wp2_with fail
        refine CI.out.mono ?_
        rintro e W2 ⟨rfl, hbel⟩
        have K2 : Hid (Bk W2 qb 23 (msC best)) := Lib.hid ((HB.out.later HB1.out).later hbel)
        have G2 : Hid (w.grownBy W2 (some qb)) := Lib.hid (grown_below (HB1.out.trans (hbel.mono HB1.out.size)))
        have K3 : Hid (Bk (W2.alloc (.cells #[.int .i64 m.gen, .int .i64 m.inc, .int .i64 m.first, .int .i64 m.lsn, .int .i64 m.chk] 23)) qb 23 (msC best)) := Lib.hid (K2.out.later ((Below.refl _ _).alloc (Nat.le_refl _) _))
        have G3 : Hid (w.grownBy (W2.alloc (.cells #[.int .i64 m.gen, .int .i64 m.inc, .int .i64 m.first, .int .i64 m.lsn, .int .i64 m.chk] 23)) (some qb)) := Lib.hid (grown_trans G2.out (World.grownBy_alloc W2 _ _))
        clear hbel CI HB HB1
        go_wp2_with fail
        go_ret
        refine ⟨rfl, ?_, G3.out⟩
        have hbt := better_no HI.out HP.out
        rw [HM.out] at hbt
        rw [hbt]
        exact K3.out
    | true =>
        by_cases hlt : best.gen < m.gen
        · go_enter Try.func28, Try.ntmps28
          go_wp2_with fail
          refine HR.out.mono ?_
          rintro e W1 ⟨A, n, c, rfl, hy, _, hbel⟩
          have CI := Lib.hid (recordIn_any z A n c l W1 hy)
          rw [HM.out, HI.out, show msV m = .agg #[.int .i64 m.gen, .int .i64 m.inc, .int .i64 m.first, .int .i64 m.lsn, .int .i64 m.chk] from rfl] at CI
          have HB1 := Lib.hid hbel
          clear hy hbel HR
          go_wp2_with fail
          refine CI.out.mono ?_
          rintro e W2 ⟨rfl, hbel⟩
          have K2 : Hid (Bk W2 qb 23 (msC best)) := Lib.hid ((HB.out.later HB1.out).later hbel)
          have G2 : Hid (w.grownBy W2 (some qb)) := Lib.hid (grown_below (HB1.out.trans (hbel.mono HB1.out.size)))
          have K3 : Hid (Bk (W2.alloc (.cells #[.int .i64 m.gen, .int .i64 m.inc, .int .i64 m.first, .int .i64 m.lsn, .int .i64 m.chk] 23)) qb 23 (msC best)) := Lib.hid (K2.out.later ((Below.refl _ _).alloc (Nat.le_refl _) _))
          have G3 : Hid (w.grownBy (W2.alloc (.cells #[.int .i64 m.gen, .int .i64 m.inc, .int .i64 m.first, .int .i64 m.lsn, .int .i64 m.chk] 23)) (some qb)) := Lib.hid (grown_trans G2.out (World.grownBy_alloc W2 _ _))
          clear hbel CI HB HB1
          have cb : (W2.alloc (.cells #[.int .i64 m.gen, .int .i64 m.inc, .int .i64 m.first, .int .i64 m.lsn, .int .i64 m.chk] 23)).cell? ⟨qb, 0, none⟩ = some (.int .i64 best.gen) := K3.out.cell 0
          have HLT := Lib.hid hlt
          go_wp2_with (refine wpList_store_row rfl 23 _ _ rfl qb #[.int .i64 m.gen, .int .i64 m.inc, .int .i64 m.first, .int .i64 m.lsn, .int .i64 m.chk] rfl rfl 23 _ K3.out ms_info rfl (ms_one _ _ _ _ _) ?_; simp only [Act.put])
          go_ret
          refine ⟨rfl, ?_, grown_trans G3.out ⟨rfl, rfl, rfl, by simp, fun k _ hk => setRow_other _ _ _ _ (by simpa using hk)⟩⟩
          unfold better
          rw [if_pos HLT.out]
          exact K3.out.row _
        · go_enter Try.func28, Try.ntmps28
          go_wp2_with fail
          refine HR.out.mono ?_
          rintro e W1 ⟨A, n, c, rfl, hy, _, hbel⟩
          have CI := Lib.hid (recordIn_any z A n c l W1 hy)
          rw [HM.out, HI.out, show msV m = .agg #[.int .i64 m.gen, .int .i64 m.inc, .int .i64 m.first, .int .i64 m.lsn, .int .i64 m.chk] from rfl] at CI
          have HB1 := Lib.hid hbel
          clear hy hbel HR
          go_wp2_with fail
          refine CI.out.mono ?_
          rintro e W2 ⟨rfl, hbel⟩
          have K2 : Hid (Bk W2 qb 23 (msC best)) := Lib.hid ((HB.out.later HB1.out).later hbel)
          have G2 : Hid (w.grownBy W2 (some qb)) := Lib.hid (grown_below (HB1.out.trans (hbel.mono HB1.out.size)))
          have K3 : Hid (Bk (W2.alloc (.cells #[.int .i64 m.gen, .int .i64 m.inc, .int .i64 m.first, .int .i64 m.lsn, .int .i64 m.chk] 23)) qb 23 (msC best)) := Lib.hid (K2.out.later ((Below.refl _ _).alloc (Nat.le_refl _) _))
          have G3 : Hid (w.grownBy (W2.alloc (.cells #[.int .i64 m.gen, .int .i64 m.inc, .int .i64 m.first, .int .i64 m.lsn, .int .i64 m.chk] 23)) (some qb)) := Lib.hid (grown_trans G2.out (World.grownBy_alloc W2 _ _))
          clear hbel CI HB HB1
          have cb : (W2.alloc (.cells #[.int .i64 m.gen, .int .i64 m.inc, .int .i64 m.first, .int .i64 m.lsn, .int .i64 m.chk] 23)).cell? ⟨qb, 0, none⟩ = some (.int .i64 best.gen) := K3.out.cell 0
          have HLT := Lib.hid hlt
          go_wp2_with fail
          go_ret
          refine ⟨rfl, ?_, G3.out⟩
          unfold better
          rw [if_neg (by have := HLT.out; omega)]
          exact K3.out
  · rw [if_pos he]
    have hq : (er != 0) = true := by simpa using he
    go_enter Try.func28, Try.ntmps28
    go_wp2_with fail
    refine HR.out.mono ?_
    rintro e W1 ⟨A, n, c, rfl, _, _, hbel⟩
    have HB1 := Lib.hid hbel
    clear hbel HR
    go_wp2_with fail
    go_ret
    exact ⟨rfl, HB.out.later HB1.out, grown_below HB1.out⟩

/-- What Load answers, of what the reads answer. -/
def loadE0 (L : Int → List Int) (E : Int → Int) : Int := if E 0 ≠ 0 then E 0 else if E 1 ≠ 0 then E 1 else lostE (loadM (L 0) (L 1))
def loadR0 (L : Int → List Int) (E : Int → Int) : Ms := if E 0 ≠ 0 then ms0 else if E 1 ≠ 0 then ms0 else loadM (L 0) (L 1)
theorem better_load (a b : List Int) : better (better ms0 (recM 0 a)) (recM 1 b) = loadM a b := by
  have h0 := recM_gen 0 a
  have e : better ms0 (recM 0 a) = recM 0 a := by
    unfold better
    split
    · rfl
    · rename_i q
      exact (recM_zero (show (recM 0 a).gen = 0 from by have : ms0.gen = 0 := rfl; omega)).symm
  rw [e]
  rfl
theorem better_gen {a b : Ms} (h : 0 ≤ a.gen) : 0 ≤ (better a b).gen := by
  unfold better
  split
  · omega
  · exact h

set_option maxRecDepth 100000 in
set_option maxHeartbeats 8000000 in
theorem load_gen (d : Option Addr) (L : Int → List Int) (E : Int → Int) (w : World)
    (hR : ∀ z w', Below w.heap.size w w' → Calls Try.prog 13 #[.pointer d, .int .i64 z] w' (RetRd (L z) (E z) w')) :
    Calls Try.prog 9 #[.pointer d] w (Ret (.tuple #[msV (loadR0 L E), .int .i64 (loadE0 L E)]) w) := by
  obtain ⟨r, hr⟩ : ∃ r, w.heap.size = r := ⟨_, rfl⟩
  obtain ⟨W0, hW0⟩ : ∃ W0, W0 = ((w.alloc (.cells #[.pointer d] 24)).alloc (.cells #[.int .i64 0, .int .i64 0, .int .i64 0, .int .i64 0, .int .i64 0] 23)).alloc (.cells #[.int .i64 0, .int .i64 0, .int .i64 0, .int .i64 0, .int .i64 0] 23) := ⟨_, rfl⟩
  have D0 : Hid (Bk W0 r 24 #[.pointer d]) := Lib.hid (by rw [hW0, ← hr]; exact ((Bk.new w _ _).later ((Below.refl _ _).alloc (Nat.le_refl _) _)).later ((Below.refl _ _).alloc (Nat.le_refl _) _))
  have Z0 : Hid (Bk W0 (r + 1) 23 #[.int .i64 0, .int .i64 0, .int .i64 0, .int .i64 0, .int .i64 0]) := Lib.hid (by
    have := Bk.new (w.alloc (.cells #[.pointer d] 24)) 23 #[.int .i64 0, .int .i64 0, .int .i64 0, .int .i64 0, .int .i64 0]
    rw [World.size_alloc, hr] at this
    rw [hW0]
    exact this.later ((Below.refl _ _).alloc (Nat.le_refl _) _))
  have M0 : Hid (Bk W0 (r + 2) 23 (msC ms0)) := Lib.hid (by
    have := Bk.new ((w.alloc (.cells #[.pointer d] 24)).alloc (.cells #[.int .i64 0, .int .i64 0, .int .i64 0, .int .i64 0, .int .i64 0] 23)) 23 #[.int .i64 0, .int .i64 0, .int .i64 0, .int .i64 0, .int .i64 0]
    rw [World.size_alloc, World.size_alloc, hr] at this
    rw [hW0]
    exact this)
  have L0 : Hid (Below r w W0) := Lib.hid (by rw [hW0, ← hr]; exact (((Below.refl _ _).alloc (Nat.le_refl _) _).alloc (by simp) _).alloc (by simp only [World.size_alloc]; omega) _)
  have RD : Hid (∀ z w', Below r w w' → Calls Try.prog 13 #[.pointer d, .int .i64 z] w' (RetRd (L z) (E z) w')) := Lib.hid (by rw [← hr]; exact hR)
  have HW0 := Lib.hid hW0
  have HR := Lib.hid hr
  have C0 := Lib.hid (examine_any d r (r + 2) ms0 0 (L 0) (E 0) W0 D0.out M0.out (Int.le_refl _) (RD.out 0 W0 L0.out))
  clear hR hW0 hr
  by_cases h0 : E 0 = 0
  · by_cases h1 : E 1 = 0
    · obtain ⟨m, hm⟩ : ∃ m, loadM (L 0) (L 1) = m := ⟨_, rfl⟩
      by_cases hg : m.gen = 0
      · have EQ : Hid (loadR0 L E = m ∧ loadE0 L E = 60) := Lib.hid ⟨by unfold loadR0; rw [if_neg (by omega), if_neg (by omega)]; exact hm, by unfold loadE0; rw [if_neg (by omega), if_neg (by omega), hm]; unfold lostE; rw [if_pos hg]⟩
        have HM := Lib.hid hm
        clear hm
        rw [h0, if_neg (by simp)] at C0
        have HMQ : Hid (m = ms0) := Lib.hid (by rw [← HM.out]; exact loadM_zero (by rw [HM.out]; exact hg))
        go_enter Try.func9, Try.ntmps9
        go_wp2_with fail
        rw [← HW0.out, HR.out]
        refine wp_loop_rounds 3 ?_
        rw [rounds_succ]
        go_wp2_with fail
        refine C0.out.mono ?_
        rintro e W1 ⟨rfl, hm, hg⟩
        have Z1 : Hid (Bk W1 (r + 1) 23 #[.int .i64 0, .int .i64 0, .int .i64 0, .int .i64 0, .int .i64 0]) := Lib.hid ((hg.block _ Z0.out.lt (by simp)).trans Z0.out)
        have D1 : Hid (Bk W1 r 24 #[.pointer d]) := Lib.hid ((hg.block _ D0.out.lt (by simp)).trans D0.out)
        have L1 : Hid (Below r w W1) := Lib.hid (L0.out.grown hg (Nat.le_of_lt D0.out.lt) (fun q hq => by injection hq with hq; omega))
        have M1 := Lib.hid hm
        clear hm hg C0 HW0 Z0 D0 L0 M0
        have C1 := examine_any d r (r + 2) (better ms0 (recM 0 (L 0))) 1 (L 1) (E 1) W1 D1.out M1.out (better_gen (Int.le_refl _)) (RD.out 1 W1 L1.out)
        rw [h1, if_neg (by simp), better_load, HM.out] at C1
        have C1 := Lib.hid C1
        go_wp2_with fail
        rw [rounds_succ]
        go_wp2_with fail
        refine C1.out.mono ?_
        rintro e W2 ⟨rfl, hm, hg⟩
        have Z2 : Hid (Bk W2 (r + 1) 23 #[.int .i64 0, .int .i64 0, .int .i64 0, .int .i64 0, .int .i64 0]) := Lib.hid ((hg.block _ Z1.out.lt (by simp)).trans Z1.out)
        have L2 : Hid (Below r w W2) := Lib.hid (L1.out.grown hg (Nat.le_of_lt D1.out.lt) (fun q hq => by injection hq with hq; omega))
        have M2 := Lib.hid hm
        clear hm hg C1 Z1 D1 L1 M1
        go_wp2_with fail
        rw [rounds_succ]
        have c0 : W2.cell? ⟨r + 2, 0, none⟩ = some (.int .i64 m.gen) := M2.out.cell 0
        go_wp2_with (refine wpList_store_row rfl 23 _ _ rfl (r + 1) #[.int .i64 0, .int .i64 0, .int .i64 0, .int .i64 0, .int .i64 0] rfl rfl 23 _ Z2.out ms_info rfl (ms_one _ _ _ _ _) ?_; simp only [Act.put])
        (try simp only [Exit.inBlock, Exit.then])
        refine bodyPost_ret (results_cellT rfl _ _ (r + 1) 23 #[.int .i64 0, .int .i64 0, .int .i64 0, .int .i64 0, .int .i64 0] _ rfl (Z2.out.row _) Try.underlying23 rfl ms_info) rfl ?_
        rw [EQ.out.1, EQ.out.2, HMQ.out]
        refine ⟨rfl, ?_⟩
        rw [HR.out]
        exact below_setRow L2.out (by omega) _
      · have EQ : Hid (loadR0 L E = m ∧ loadE0 L E = 0) := Lib.hid ⟨by unfold loadR0; rw [if_neg (by omega), if_neg (by omega)]; exact hm, by unfold loadE0; rw [if_neg (by omega), if_neg (by omega), hm]; unfold lostE; rw [if_neg hg]⟩
        have HM := Lib.hid hm
        clear hm
        rw [h0, if_neg (by simp)] at C0
        go_enter Try.func9, Try.ntmps9
        go_wp2_with fail
        rw [← HW0.out, HR.out]
        refine wp_loop_rounds 3 ?_
        rw [rounds_succ]
        go_wp2_with fail
        refine C0.out.mono ?_
        rintro e W1 ⟨rfl, hm, hg⟩
        have Z1 : Hid (Bk W1 (r + 1) 23 #[.int .i64 0, .int .i64 0, .int .i64 0, .int .i64 0, .int .i64 0]) := Lib.hid ((hg.block _ Z0.out.lt (by simp)).trans Z0.out)
        have D1 : Hid (Bk W1 r 24 #[.pointer d]) := Lib.hid ((hg.block _ D0.out.lt (by simp)).trans D0.out)
        have L1 : Hid (Below r w W1) := Lib.hid (L0.out.grown hg (Nat.le_of_lt D0.out.lt) (fun q hq => by injection hq with hq; omega))
        have M1 := Lib.hid hm
        clear hm hg C0 HW0 Z0 D0 L0 M0
        have C1 := examine_any d r (r + 2) (better ms0 (recM 0 (L 0))) 1 (L 1) (E 1) W1 D1.out M1.out (better_gen (Int.le_refl _)) (RD.out 1 W1 L1.out)
        rw [h1, if_neg (by simp), better_load, HM.out] at C1
        have C1 := Lib.hid C1
        go_wp2_with fail
        rw [rounds_succ]
        go_wp2_with fail
        refine C1.out.mono ?_
        rintro e W2 ⟨rfl, hm, hg⟩
        have Z2 : Hid (Bk W2 (r + 1) 23 #[.int .i64 0, .int .i64 0, .int .i64 0, .int .i64 0, .int .i64 0]) := Lib.hid ((hg.block _ Z1.out.lt (by simp)).trans Z1.out)
        have L2 : Hid (Below r w W2) := Lib.hid (L1.out.grown hg (Nat.le_of_lt D1.out.lt) (fun q hq => by injection hq with hq; omega))
        have M2 := Lib.hid hm
        clear hm hg C1 Z1 D1 L1 M1
        go_wp2_with fail
        rw [rounds_succ]
        have c0 : W2.cell? ⟨r + 2, 0, none⟩ = some (.int .i64 m.gen) := M2.out.cell 0
        go_wp2_with (first | (refine wpList_load_row rfl 23 _ rfl (r + 2) rfl 23 #[.int .i64 m.gen, .int .i64 m.inc, .int .i64 m.first, .int .i64 m.lsn, .int .i64 m.chk] (0, 0) _ M2.out Try.underlying23 rfl ms_info ?_) | (refine wpList_store_row rfl 23 _ _ rfl (r + 1) #[.int .i64 m.gen, .int .i64 m.inc, .int .i64 m.first, .int .i64 m.lsn, .int .i64 m.chk] rfl rfl 23 _ Z2.out ms_info rfl (ms_one _ _ _ _ _) ?_; simp only [Act.put]))
        (try simp only [Exit.inBlock, Exit.then])
        refine bodyPost_ret (results_cellT rfl _ _ (r + 1) 23 #[.int .i64 m.gen, .int .i64 m.inc, .int .i64 m.first, .int .i64 m.lsn, .int .i64 m.chk] _ rfl (Z2.out.row _) Try.underlying23 rfl ms_info) rfl ?_
        rw [EQ.out.1, EQ.out.2]
        refine ⟨rfl, ?_⟩
        rw [HR.out]
        exact below_setRow L2.out (by omega) _
    · have EQ : Hid (loadR0 L E = ms0 ∧ loadE0 L E = E 1) := Lib.hid ⟨by unfold loadR0; rw [if_neg (by omega), if_pos h1], by unfold loadE0; rw [if_neg (by omega), if_pos h1]⟩
      obtain ⟨x, hx⟩ : ∃ x, E 1 = x := ⟨_, rfl⟩
      rw [hx] at EQ h1
      have hd : (x != 0) = true := by simpa using h1
      have HX := Lib.hid hx
      clear hx h1
      rw [h0, if_neg (by simp)] at C0
      go_enter Try.func9, Try.ntmps9
      go_wp2_with fail
      rw [← HW0.out, HR.out]
      refine wp_loop_rounds 3 ?_
      rw [rounds_succ]
      go_wp2_with fail
      refine C0.out.mono ?_
      rintro e W1 ⟨rfl, hm, hg⟩
      have Z1 : Hid (Bk W1 (r + 1) 23 #[.int .i64 0, .int .i64 0, .int .i64 0, .int .i64 0, .int .i64 0]) := Lib.hid ((hg.block _ Z0.out.lt (by simp)).trans Z0.out)
      have D1 : Hid (Bk W1 r 24 #[.pointer d]) := Lib.hid ((hg.block _ D0.out.lt (by simp)).trans D0.out)
      have L1 : Hid (Below r w W1) := Lib.hid (L0.out.grown hg (Nat.le_of_lt D0.out.lt) (fun q hq => by injection hq with hq; omega))
      have M1 := Lib.hid hm
      clear hm hg C0 HW0 Z0 D0 L0 M0
      have C1 := examine_any d r (r + 2) (better ms0 (recM 0 (L 0))) 1 (L 1) (E 1) W1 D1.out M1.out (better_gen (Int.le_refl _)) (RD.out 1 W1 L1.out)
      rw [HX.out] at C1
      have C1 := Lib.hid C1
      go_wp2_with fail
      rw [rounds_succ]
      go_wp2_with fail
      refine C1.out.mono ?_
      rintro e W2 ⟨rfl, hm, hg⟩
      have Z2 : Hid (Bk W2 (r + 1) 23 #[.int .i64 0, .int .i64 0, .int .i64 0, .int .i64 0, .int .i64 0]) := Lib.hid ((hg.block _ Z1.out.lt (by simp)).trans Z1.out)
      have L2 : Hid (Below r w W2) := Lib.hid (L1.out.grown hg (Nat.le_of_lt D1.out.lt) (fun q hq => by injection hq with hq; omega))
      have M2 := Lib.hid hm
      clear hm hg C1 Z1 D1 L1 M1
      go_wp2_with (refine wpList_store_row rfl 23 _ _ rfl (r + 1) #[.int .i64 0, .int .i64 0, .int .i64 0, .int .i64 0, .int .i64 0] rfl rfl 23 _ Z2.out ms_info rfl (ms_one _ _ _ _ _) ?_; simp only [Act.put])
      (try simp only [Exit.inBlock, Exit.then])
      refine bodyPost_ret (results_cellT rfl _ _ (r + 1) 23 #[.int .i64 0, .int .i64 0, .int .i64 0, .int .i64 0, .int .i64 0] _ rfl (Z2.out.row _) Try.underlying23 rfl ms_info) rfl ?_
      rw [EQ.out.1, EQ.out.2]
      refine ⟨rfl, ?_⟩
      rw [HR.out]
      exact below_setRow L2.out (by omega) _
  · have EQ : Hid (loadR0 L E = ms0 ∧ loadE0 L E = E 0) := Lib.hid ⟨by unfold loadR0; rw [if_pos h0], by unfold loadE0; rw [if_pos h0]⟩
    have HE := Lib.hid h0
    obtain ⟨x, hx⟩ : ∃ x, E 0 = x := ⟨_, rfl⟩
    rw [hx] at C0 EQ h0
    have hd : (x != 0) = true := by simpa using h0
    clear hx h0 HE
    go_enter Try.func9, Try.ntmps9
    go_wp2_with fail
    rw [← HW0.out, HR.out]
    refine wp_loop_rounds 3 ?_
    rw [rounds_succ]
    go_wp2_with fail
    refine C0.out.mono ?_
    rintro e W1 ⟨rfl, hm, hg⟩
    have Z1 : Hid (Bk W1 (r + 1) 23 #[.int .i64 0, .int .i64 0, .int .i64 0, .int .i64 0, .int .i64 0]) := Lib.hid ((hg.block _ Z0.out.lt (by simp)).trans Z0.out)
    have D1 : Hid (Bk W1 r 24 #[.pointer d]) := Lib.hid ((hg.block _ D0.out.lt (by simp)).trans D0.out)
    have L1 : Hid (Below r w W1) := Lib.hid (L0.out.grown hg (Nat.le_of_lt D0.out.lt) (fun q hq => by injection hq with hq; omega))
    have M1 := Lib.hid hm
    clear hm hg C0 HW0 Z0 D0 L0 M0
    go_wp2_with (refine wpList_store_row rfl 23 _ _ rfl (r + 1) #[.int .i64 0, .int .i64 0, .int .i64 0, .int .i64 0, .int .i64 0] rfl rfl 23 _ Z1.out ms_info rfl (ms_one _ _ _ _ _) ?_; simp only [Act.put])
    (try simp only [Exit.inBlock, Exit.then])
    refine bodyPost_ret (results_cellT rfl _ _ (r + 1) 23 #[.int .i64 0, .int .i64 0, .int .i64 0, .int .i64 0, .int .i64 0] _ rfl (Z1.out.row _) Try.underlying23 rfl ms_info) rfl ?_
    rw [EQ.out.1, EQ.out.2]
    refine ⟨rfl, ?_⟩
    rw [HR.out]
    exact below_setRow L1.out (by omega) _
end Go.Proofs.Ytjieledaiipheaa

/- 'append(out, xs...)' of slices of ints onto a row of the call's own. No program's function is named; no condition. -/
namespace Go.Proofs.Ytjieledaiipheaa
open Go.RowKit

theorem bslice_noints (w : World) : (Instr.buildSlice 45 0 #[]).run Try.prog w = .ok (.slice (some ⟨w.heap.size, 0, none⟩) 0 0) (w.alloc (.cells #[] 3)) := by
  obtain ⟨i0, hi, hz0, hz1, hz2⟩ := info_parts info_int
  simp [Instr.buildSlice, run_underlying (P := Try.prog) Try.underlying45, sizeOf, typeInfo, hi, Instr.fill, newRow, Result.andThen, range_none]

theorem run_append_nocap {P : Program} {w : World} (base : Nat) (t ty e : TypeId) (i : TypeInfo) (size : Nat) (ht : P.underlying t = some (.slice e)) (hi : P.info? e = some i)
    (v : Value) (n c : Nat) (xs : List Value) (hown : w.ownsRow base e size v n xs) :
    (Builtin.append_ #[t, t] ty #[v, .slice none 0 c]).run P w = .ok v w := by
  rcases hown.2 with ⟨rfl, rfl⟩ | ⟨g, cap, cur, rfl, _, _, hnc, _⟩
  · simp [Builtin.append_, run_underlying ht, sizeOf, typeInfo, hi, Builtin.lenOf, Builtin.firstCells]
  · simp [Builtin.append_, run_underlying ht, sizeOf, typeInfo, hi, Builtin.lenOf, Builtin.firstCells, hnc, storeCells]

theorem i64_one (l : List Int) : ∀ u ∈ l.map (Value.int .i64), u.oneCell' = true := by
  intro u hu
  obtain ⟨x, _, rfl⟩ := List.mem_map.1 hu
  rfl

/-- 'append(out, xs...)': out a row of the call's own, xs any slice of ints. -/
theorem wp_append_nts {P : Program} {w : World} {o : Oper} {a : Act} {K : Act → World → Prop} {Q : Exit → Act → World → Prop} (s x : Operand) (t : TypeId)
    (ho : o.op = .call { callee := .builtin .append, args := #[s, x], argTypes := #[t, t] })
    (base : Nat) (e : TypeId) (i : TypeInfo) (ht : P.underlying t = some (.slice e)) (hi : P.info? e = some i) (hz : i.zero = some (.int .i64 0)) (hsize : i.size = 1) (hby : i.bytes = 8)
    (v : Value) (k : Nat) (xs : List Int) (hs : a.eval s = v) (hown : w.ownsRow base e 1 v k (xs.map (Value.int .i64)))
    (A : Option Addr) (n c : Nat) (l : List Int) (hx : a.eval x = .slice A n c) (hl : Nts w A n c l)
    (hbytes : k + n ≤ 10000000000) (hbase : base ≤ w.heap.size)
    (h : ∀ A' c' w', w'.ownsRow base e 1 (.slice A' (k + n) c') (k + n) ((xs ++ l).map (Value.int .i64)) → w.grownBy w' v.ownBlock → K (a.put o.dst (.slice A' (k + n) c')) w') : o.wp P a w K Q := by
  have form : ∀ (v' : Value) (w' : World) (m : Nat) (ys : List Value), w'.ownsRow base e 1 v' m ys → ∃ A' c', v' = .slice A' m c' := by
    intro v' w' m ys ho'
    rcases ho'.2 with ⟨h1, h2⟩ | ⟨g, cap, _, h1, _⟩
    · subst h2; exact ⟨none, 0, h1⟩
    · exact ⟨_, _, h1⟩
  cases A with
  | none =>
    obtain rfl : n = 0 := by
      by_cases hn : 0 < n
      · obtain ⟨g, off, e1, _⟩ := hl.at_ hn
        cases e1
      · omega
    have hl0 : l = [] := List.eq_nil_of_length_eq_zero hl.len
    subst hl0
    have hrun := run_append_nocap (P := P) (w := w) base t o.type e i 1 ht hi v k c _ hown
    obtain ⟨A', c', rfl⟩ := form _ _ _ _ hown
    have h' := h A' c' w
    simp only [Nat.add_zero, List.append_nil] at h'
    unfold Oper.wp
    simp [execOp, ho, resolve, invoke, builtin, hs, hx, hrun, Result.andThen]
    exact h' hown (World.grownBy.refl w _)
  | some ad =>
    refine wp_append_own w s x t ho base e i (.int .i64 0) 1 8 ht hi hz hsize hby rfl (by decide) v k _ hs hown ad n c (l.map (Value.int .i64)) hx (by simp [hl.len]) (fun j u hu => ?_) (i64_one l) (by unfold maxLen; omega) (by omega) hbase ?_
    · have hj : j < n := by
        have := (List.getElem?_eq_some_iff.1 hu).1
        simpa [hl.len] using this
      obtain ⟨g, off, e1, hc⟩ := hl.at_ (by omega)
      injection e1 with e1
      subst e1
      have hadd : (⟨g, off, none⟩ : Addr).add j = ⟨g, off + j, none⟩ := by unfold Addr.add; split <;> simp_all
      rw [hadd, hc j hj]
      have hjl : j < l.length := by rw [hl.len]; exact hj
      rw [List.getElem?_map, List.getElem?_eq_getElem hjl] at hu
      simp only [Option.map_some, Option.some.injEq] at hu
      rw [← hu]
      simp [List.getD, List.getElem?_eq_getElem hjl]
    intro v' w' h1 h2 _
    obtain ⟨A', c', rfl⟩ := form _ _ _ _ h1
    exact h A' c' w' (by simpa using h1) h2

theorem Nts.of_row {w : World} {base : Nat} {A : Option Addr} {n c : Nat} {e : TypeId} {l : List Int} (h : w.ownsRow base e 1 (.slice A n c) n (l.map (Value.int .i64))) (hl : l.length = n) (hr : ∀ i, i < n → -9223372036854775808 ≤ l.getD i 0 ∧ l.getD i 0 ≤ 9223372036854775807) : Nts w A n c l := by
  rcases h.2 with ⟨hv, h0⟩ | ⟨g, cap, cur, hv, _, _, h1, h2, _⟩
  · injection hv with e1 e2 e3
    subst e1 e3 h0
    exact ⟨hl, Nat.le_refl _, Nat.zero_le _, hr, fun h => absurd h (by omega)⟩
  · injection hv with e1 e2 e3
    subst e1 e3
    refine ⟨hl, h1, h2, hr, fun _ => ⟨g, 0, rfl, fun i hi => ?_⟩⟩
    have := h.cells (g := g) rfl i (.int .i64 (l.getD i 0)) (by
      have hil : i < l.length := by rw [hl]; exact hi
      rw [List.getElem?_map, List.getElem?_eq_getElem hil]
      simp [List.getD, List.getElem?_eq_getElem hil])
    have hadd : (⟨g, 0, none⟩ : Addr).add i = ⟨g, 0 + i, none⟩ := by unfold Addr.add; split <;> simp_all
    rwa [hadd] at this

end Go.Proofs.Ytjieledaiipheaa

/- what the statements remember of four sectors, and the bytes that are wanted, in memory beside a disk; own2. -/
namespace Go.Proofs.Ytjieledaiipheaa
open Go.RowKit

theorem cell_heap {w w' : World} {g off : Nat} (h : w'.heap[g]? = w.heap[g]?) : w'.cell? ⟨g, off, none⟩ = w.cell? ⟨g, off, none⟩ := by
  simp only [World.cell?, h]

theorem Byt.same {w w' : World} {A : Option Addr} {n c : Nat} {l : List Int} (h : Byt w A n c l) (hk : ∀ a, A = some a → w'.heap[a.block]? = w.heap[a.block]?) : Byt w' A n c l :=
  ⟨h.len, h.cap, h.max, h.rng, h.nil_, fun hn => by
    obtain ⟨g, off, e, hc⟩ := h.at_ hn
    exact ⟨g, off, e, fun i hi => (cell_heap (hk _ e)).trans (hc i hi)⟩⟩

/-- A slice that reads as l, its block one of F. -/
def InF (w : World) (F : Nat → Prop) (v : Value) (l : List Int) : Prop := ∃ A n c, v = .slice A n c ∧ Byt w A n c l ∧ ∀ a, A = some a → F a.block
theorem InF.keep {w w' : World} {F : Nat → Prop} {v : Value} {l : List Int} (h : InF w F v l) (hk : ∀ k, F k → w'.heap[k]? = w.heap[k]?) : InF w' F v l := by
  obtain ⟨A, n, c, e, hb, hf⟩ := h
  exact ⟨A, n, c, e, hb.same (fun a ha => hk _ (hf a ha)), hf⟩
theorem InF.mono {w : World} {F G : Nat → Prop} {v : Value} {l : List Int} (h : InF w F v l) (hk : ∀ k, F k → G k) : InF w G v l := by
  obtain ⟨A, n, c, e, hb, hf⟩ := h
  exact ⟨A, n, c, e, hb, fun a ha => hk _ (hf a ha)⟩

section
variable {w w' : World} {F : Nat → Prop} {q : Nat} {vs : Nat → Value} {L : Nat → List Int} {v : Value} {l : List Int} {B : Nat} {S : Res}

theorem byt_nils (w : World) : InF w F (.slice none 0 0) [] := ⟨none, 0, 0, rfl, Byt.nil w, fun _ h => nomatch h⟩

theorem vs_set (vs : Nat → Value) (j : Nat) (hj : j < 4) (u : Value) : (#[vs 0, vs 1, vs 2, vs 3] : Array Value).setIfInBounds j u = #[(fun m => if m = j then u else vs m) 0, (fun m => if m = j then u else vs m) 1, (fun m => if m = j then u else vs m) 2, (fun m => if m = j then u else vs m) 3] := by
  have : j = 0 ∨ j = 1 ∨ j = 2 ∨ j = 3 := by omega
  rcases this with h | h | h | h <;> subst h <;> rfl

end

/-- A list of ints, in new memory. -/
def RetNts (l : List Int) (n : Nat) (w : World) (e : Ending) (w' : World) : Prop := ∃ A c, e = .returned (.slice A n c) ∧ Nts w' A n c l ∧ Below w.heap.size w w'

end Go.Proofs.Ytjieledaiipheaa

/- what the plain disk has behind a write that is made, a synchronization, a crash. No program is named. -/
namespace Go.Proofs.Ytjieledaiipheaa

theorem upd_here (f : Nat → List Int) (n : Nat) (l : List Int) : upd f n l n = l := by unfold upd; rw [if_pos rfl]
theorem upd_ne (f : Nat → List Int) {n m : Nat} (l : List Int) (h : m ≠ n) : upd f n l m = f m := by unfold upd; rw [if_neg h]

section
variable {s : St} {n : Nat} {l : List Int}
theorem wrote_len : (s.wrote n l).pend.length = s.pend.length + 1 := by show (s.pend ++ [_]).length = _; simp
theorem wrote_at (i : Nat) (h : i < s.pend.length) : (s.wrote n l).at_ i = s.at_ i := by
  show (s.pend ++ [_]).getD i _ = s.pend.getD i _
  simp [List.getD, List.getElem?_append_left h]
theorem wrote_last : (s.wrote n l).at_ s.pend.length = (n, l) := by
  show (s.pend ++ [_]).getD s.pend.length _ = _
  simp
theorem wrote_syn : (s.wrote n l).syn = s.syn := St.step_syn s
theorem wrote_upTo : ∀ k, k ≤ s.pend.length → (s.wrote n l).upTo k = s.upTo k
  | 0, _ => wrote_syn
  | k + 1, hk => by
    show upd ((s.wrote n l).upTo k) ((s.wrote n l).at_ k).1 ((s.wrote n l).at_ k).2 = upd (s.upTo k) (s.at_ k).1 (s.at_ k).2
    rw [wrote_upTo k (by omega), wrote_at k (by omega)]
theorem wrote_now : (s.wrote n l).now = upd s.now n l := by
  funext m
  show (s.wrote n l).upTo (s.wrote n l).pend.length m = _
  rw [wrote_len]
  show upd ((s.wrote n l).upTo s.pend.length) ((s.wrote n l).at_ s.pend.length).1 ((s.wrote n l).at_ s.pend.length).2 m = _
  rw [wrote_upTo _ (Nat.le_refl _), wrote_last]
  rfl
theorem synced_now : s.synced.now = s.now := rfl
theorem now_nothing (h : s.pend = []) : s.now = s.syn := by
  funext m
  unfold St.now
  rw [h]
  rfl

/-- A crash behind one write. -/
theorem crash_one (h : s.pend = []) (c : Crs) : ((s.wrote n l).crash c).syn = upd s.syn n (over l (s.syn n) (c.of 1 0)) := by
  have hl : (s.wrote n l).pend.length = 1 := by rw [wrote_len, h]; rfl
  show (s.wrote n l).left_ (c.of (s.wrote n l).pend.length) (s.wrote n l).pend.length = _
  rw [hl]
  have hat : (s.wrote n l).at_ 0 = (n, l) := by
    have := wrote_last (s := s) (n := n) (l := l)
    rwa [h] at this
  show upd ((s.wrote n l).left_ (c.of 1) 0) ((s.wrote n l).at_ 0).1 (over ((s.wrote n l).at_ 0).2 ((s.wrote n l).left_ (c.of 1) 0 ((s.wrote n l).at_ 0).1) (c.of 1 0)) = _
  rw [hat]
  show upd (s.wrote n l).syn n (over l ((s.wrote n l).syn n) (c.of 1 0)) = _
  rw [wrote_syn]
end
end Go.Proofs.Ytjieledaiipheaa

/- what a crash leaves of a sector, in the plain disk: what was synchronized, or one of its writes, or a beginning of the last write over one of these. No program is named. -/
namespace Go.Proofs.Ytjieledaiipheaa

theorem over_none (l m : List Int) : over l m 0 = m := by simp [over]
theorem over_full {l m : List Int} (hl : Sec l) (hm : Sec m) : over l m 256 = l := by
  unfold over
  rw [List.take_of_length_le (by rw [hl.1]; omega), List.drop_of_length_le (by rw [hm.1]; omega), List.append_nil]
theorem over_take {l m : List Int} (hl : Sec l) (k : Nat) (hk : k ≤ 256) : (over l m k).take k = l.take k := by
  unfold over
  have h : (l.take k).length = k := by rw [List.length_take, hl.1]; omega
  rw [List.take_append_of_le_length (by omega), List.take_of_length_le (by omega)]
theorem over_drop {l m : List Int} (hl : Sec l) (k : Nat) (hk : k ≤ 256) : (over l m k).drop k = m.drop k := by
  unfold over
  have h : (l.take k).length = k := by rw [List.length_take, hl.1]; omega
  rw [List.drop_append_of_le_length (by omega), List.drop_of_length_le (by omega), List.nil_append]

theorem left_kept {s : St} (ok : s.Ok) {cut : Nat → Nat} : ∀ k, k ≤ s.pend.length → (∀ i, i < k → cut i = 0 ∨ cut i = 256) → ∀ n, s.left_ cut k n = s.syn n ∨ ∃ i, i < k ∧ (s.at_ i).1 = n ∧ s.left_ cut k n = (s.at_ i).2
  | 0, _, _, _ => .inl rfl
  | k + 1, hk, hc, n => by
    have ih := left_kept ok (cut := cut) k (by omega) (fun i hi => hc i (by omega)) n
    have e : s.left_ cut (k + 1) n = if n = (s.at_ k).1 then over (s.at_ k).2 (s.left_ cut k (s.at_ k).1) (cut k) else s.left_ cut k n := rfl
    rw [e]
    by_cases hn : n = (s.at_ k).1
    · rw [if_pos hn]
      rcases hc k (by omega) with h0 | h0
      · rw [h0, over_none, ← hn]
        rcases ih with q | ⟨i, q1, q2, q3⟩
        · exact .inl q
        · exact .inr ⟨i, by omega, q2, q3⟩
      · rw [h0]
        have h1 := ok.at_ k (by omega)
        have hs : Sec (s.left_ cut k (s.at_ k).1) := by
          rcases left_kept ok (cut := cut) k (by omega) (fun i hi => hc i (by omega)) (s.at_ k).1 with q | ⟨i, q1, _, q3⟩
          · rw [q]; exact ok.syn _
          · rw [q3]; exact (ok.at_ i (by omega)).2
        rw [over_full h1.2 hs]
        exact .inr ⟨k, by omega, hn.symm, rfl⟩
    · rw [if_neg hn]
      rcases ih with q | ⟨i, q1, q2, q3⟩
      · exact .inl q
      · exact .inr ⟨i, by omega, q2, q3⟩

theorem of_whole (c : Crs) (len i : Nat) (h : ¬ (c.torn = true ∧ i + 1 = len)) : c.of len i = 0 ∨ c.of len i = 256 := by
  unfold Crs.of
  rw [if_neg h]
  split
  · exact .inr rfl
  · exact .inl rfl

/-- Where nothing was torn, or not there. -/
theorem leaves_whole {s : St} (ok : s.Ok) (c : Crs) (n : Nat) (h : ∀ j, s.pend.length = j + 1 → (s.at_ j).1 = n → c.torn = false) :
    (s.crash c).now n = s.syn n ∨ ∃ i, i < s.pend.length ∧ (s.at_ i).1 = n ∧ (s.crash c).now n = (s.at_ i).2 := by
  show s.left_ (c.of s.pend.length) s.pend.length n = _ ∨ ∃ i, _ ∧ _ ∧ s.left_ (c.of s.pend.length) s.pend.length n = _
  by_cases h0 : s.pend.length = 0
  · rw [h0]
    exact .inl rfl
  · obtain ⟨j, hj⟩ : ∃ j, s.pend.length = j + 1 := ⟨s.pend.length - 1, by omega⟩
    by_cases ht : c.torn = true
    · have hn : (s.at_ j).1 ≠ n := fun e => by have := h j hj e; rw [this] at ht; cases ht
      rw [hj]
      have e : s.left_ (c.of (j + 1)) (j + 1) n = s.left_ (c.of (j + 1)) j n := by
        show upd _ _ _ n = _
        unfold upd
        rw [if_neg (fun q => hn q.symm)]
      rw [e]
      rcases left_kept ok (cut := c.of (j + 1)) j (by omega) (fun i hi => of_whole c _ i (by omega)) n with q | ⟨i, q1, q2, q3⟩
      · exact .inl q
      · exact .inr ⟨i, by omega, q2, q3⟩
    · exact left_kept ok s.pend.length (Nat.le_refl _) (fun i _ => of_whole c _ i (fun q => ht q.1)) n

/-- Where the last write is torn. -/
theorem leaves_torn {s : St} (ok : s.Ok) (c : Crs) (n j : Nat) (hj : s.pend.length = j + 1) (hn : (s.at_ j).1 = n) (ht : c.torn = true) :
    ((s.crash c).now n).take (clamp c.cut) = (s.at_ j).2.take (clamp c.cut) ∧ (((s.crash c).now n).drop (clamp c.cut) = (s.syn n).drop (clamp c.cut) ∨ ∃ i, i < j ∧ (s.at_ i).1 = n ∧ ((s.crash c).now n).drop (clamp c.cut) = (s.at_ i).2.drop (clamp c.cut)) := by
  have hk := clamp_le c.cut
  have e : (s.crash c).now n = over (s.at_ j).2 (s.left_ (c.of (j + 1)) j n) (clamp c.cut) := by
    show s.left_ (c.of s.pend.length) s.pend.length n = _
    rw [hj]
    show upd _ _ _ n = _
    unfold upd
    rw [if_pos hn.symm, hn]
    congr 1
    unfold Crs.of
    rw [if_pos ⟨ht, rfl⟩]
  have hs := (ok.at_ j (by omega)).2
  rw [e, over_take hs _ hk, over_drop hs _ hk]
  refine ⟨rfl, ?_⟩
  rcases left_kept ok (cut := c.of (j + 1)) j (by omega) (fun i hi => of_whole c _ i (by omega)) n with q | ⟨i, q1, q2, q3⟩
  · exact .inl (by rw [q])
  · exact .inr ⟨i, q1, q2, by rw [q3]⟩
end Go.Proofs.Ytjieledaiipheaa

/- what Put, a synchronization and a crash behind it, and Get make of the plain disk, where all was synchronized. No program is named. -/
namespace Go.Proofs.Ytjieledaiipheaa
open Go.RowKit

/-- Behind k puts, each synchronized, or crashed. -/
structure Pts (s : St) (k : Nat) : Prop where
  num : s.num = 4
  left : s.left = -1
  gone : s.gone = false
  pend : s.pend = []
  syncs : s.syncs ≤ k

theorem Pts.start : Pts (St.new 4) 0 := ⟨rfl, rfl, rfl, rfl, Nat.le_refl _⟩
section
variable {s : St} {k n : Nat} {p : List Int}
theorem Pts.step (h : Pts s k) : s.step = s := by
  have h1 := h.left
  have h2 := h.gone
  unfold St.step
  rw [if_neg (by rw [h2]; simp), if_neg (by omega), if_neg (by omega)]
theorem Pts.can (h : Pts s k) : s.can = true := by
  have h1 := h.left
  have h2 := h.gone
  unfold St.can
  rw [h1, h2]
  rfl
theorem Pts.next (h : Pts s k) : Pts s (k + 1) := ⟨h.num, h.left, h.gone, h.pend, Nat.le_succ_of_le h.syncs⟩
theorem Pts.rd (h : Pts s k) (hn : n < 4) : s.rErr n = 0 ∧ s.rBytes n = s.syn n := by
  have e : s.rErr n = 0 := by
    unfold St.rErr
    rw [if_neg (by rw [h.num]; omega), if_neg (by rw [h.gone]; simp)]
  refine ⟨e, ?_⟩
  unfold St.rBytes
  rw [if_pos e, now_nothing h.pend]
  rfl
theorem Pts.get (h : Pts s k) (hn : n < 4) : getE s n = openE (s.syn n) ∧ getB s n = openB (s.syn n) := by
  obtain ⟨h1, h2⟩ := h.rd hn
  refine ⟨?_, ?_⟩
  · unfold getE
    rw [if_neg (by rw [h1]; simp), h2]
  · unfold getB
    rw [if_neg (by rw [h1]; simp), h2]
/-- The sector that is put. -/
def putL (s : St) (n : Nat) (p : List Int) : List Int := wrapL (nextOf (s.syn n)) p
theorem putL_sec (hp : p.length ≤ 254) (hr : ∀ x ∈ p, 0 ≤ x ∧ x < 256) : Sec (putL s n p) := by
  have := nextOf_rng (s.syn n)
  exact wrapL_sec (by omega) hr hp
theorem putL_right (hp : p.length ≤ 254) : rightL (putL s n p) := right_wrap (nextOf_rng _) hp
theorem Pts.put (h : Pts s k) (hn : n < 4) (hp : p.length ≤ 254) (hr : ∀ x ∈ p, 0 ≤ x ∧ x < 256) : putE s n p = 0 ∧ putS s n p = s.wrote n (putL s n p) := by
  obtain ⟨h1, h2⟩ := h.rd hn
  have hs := putL_sec (s := s) (n := n) hp hr
  have hl : (wrapL (nextOf (s.syn n)) p).length = 256 := hs.1
  have e : ¬ ((n : Int) < 0 ∨ (s.num : Int) ≤ n) := by rw [h.num]; omega
  refine ⟨?_, ?_⟩
  · unfold putE
    rw [if_neg (by omega), if_neg (by rw [h1]; simp), h2]
    unfold St.wErr
    rw [if_neg e, if_neg (by rw [hl]; simp), if_pos h.can]
  · unfold putS
    rw [if_neg (by omega), if_neg (by rw [h1]; simp), h2]
    unfold St.write
    rw [if_neg e, if_neg (by rw [hl]; simp), if_pos h.can]
    rfl
theorem Pts.wrote_can (h : Pts s k) {l : List Int} : (s.wrote n l).can = true := by
  show (_ : Bool) = true
  unfold St.wrote
  rw [h.step]
  exact h.can
theorem Pts.wrote_step (h : Pts s k) {l : List Int} : (s.wrote n l).step = s.wrote n l := by
  have h1 := h.left
  have h2 := h.gone
  have e1 : (s.wrote n l).left = -1 := by unfold St.wrote; rw [h.step]; exact h1
  have e2 : (s.wrote n l).gone = false := by unfold St.wrote; rw [h.step]; exact h2
  unfold St.step
  rw [if_neg (by rw [e2]; simp), if_neg (by omega), if_neg (by omega)]
theorem Pts.sync (h : Pts s k) {l : List Int} : (s.wrote n l).sErr = 0 ∧ Pts (s.wrote n l).sync (k + 1) ∧ (s.wrote n l).sync.syn = upd s.syn n l := by
  have hc := h.wrote_can (n := n) (l := l)
  have e : (s.wrote n l).sync = (s.wrote n l).synced := by unfold St.sync; rw [if_pos hc]
  refine ⟨by unfold St.sErr; rw [if_pos hc], ?_, ?_⟩
  · rw [e]
    unfold St.synced
    rw [h.wrote_step]
    unfold St.wrote
    rw [h.step]
    exact ⟨h.num, h.left, h.gone, rfl, by show s.syncs + 1 ≤ k + 1; have := h.syncs; omega⟩
  · rw [e]
    show (s.wrote n l).now = _
    rw [wrote_now, now_nothing h.pend]
theorem Pts.crash (h : Pts s k) {l : List Int} (c : Crs) : Pts ((s.wrote n l).crash c) (k + 1) ∧ ((s.wrote n l).crash c).syn = upd s.syn n (over l (s.syn n) (c.of 1 0)) := by
  refine ⟨⟨?_, rfl, rfl, rfl, Nat.zero_le _⟩, crash_one h.pend c⟩
  show (s.wrote n l).num = 4
  unfold St.wrote
  rw [h.step]
  exact h.num
theorem Pts.lim (h : Pts s k) (hk : k ≤ 40) {l : List Int} : (s.wrote n l).syncs < 999999 := by
  unfold St.wrote
  rw [h.step]
  have := h.syncs
  show s.syncs < _
  omega

/-- A sector that was put, and torn over what was there. -/
theorem torn_over (hp : p.length ≤ 254) (hr : ∀ x ∈ p, 0 ≤ x ∧ x < 256) (ho : Sec (s.syn n)) (j : Nat) (hj : j ≤ 256) :
    over (putL s n p) (s.syn n) j = s.syn n ∨ over (putL s n p) (s.syn n) j = putL s n p ∨ openE (over (putL s n p) (s.syn n) j) = 50 := by
  have hs := putL_sec (s := s) (n := n) hp hr
  by_cases h0 : j = 0
  · subst h0; exact .inl (over_none _ _)
  · by_cases h1 : j = 256
    · subst h1; exact .inr (.inl (over_full hs ho))
    · refine .inr (.inr (openE_torn (over_sec hs ho j hj).1 ?_))
      exact torn_mix hp ho.1 (nextB_ne _ _).2 j (by omega) (by omega)
end

/-- What is remembered behind a put, against the disk. -/
structure PutsRel (L : Nat → List Int) (s : St) (n : Nat) (falls : Bool) (p : List Int) : Prop where
  others : ∀ m, m < 4 → m ≠ n → L m = openB (s.syn m)
  it : L n = openB (s.syn n) ∨ (falls = true ∧ (openE (s.syn n) = 50 ∨ (openE (s.syn n) = 0 ∧ openB (s.syn n) = padL p)))

theorem PutsRel.sync {L : Nat → List Int} {s : St} {k n : Nat} {p : List Int} (h : Pts s k) (hp : p.length ≤ 254) (hr : ∀ x ∈ p, 0 ≤ x ∧ x < 256) (hL : ∀ m, m < 4 → L m = openB (s.syn m)) :
    PutsRel (fun m => if m = n then padL p else L m) (s.wrote n (putL s n p)).sync n false p := by
  obtain ⟨_, _, e⟩ := h.sync (n := n) (l := putL s n p)
  refine ⟨fun m hm hne => ?_, .inl ?_⟩
  · rw [e, upd_ne _ _ hne]
    simp only [if_neg hne]
    exact hL m hm
  · rw [e, upd_here]
    simp only [if_pos]
    rw [openB_right (putL_sec hp hr).1 (putL_right hp)]
    exact (bodyL_wrap hp).symm
theorem PutsRel.crash {L : Nat → List Int} {s : St} {k n : Nat} {p : List Int} (ok : s.Ok) (h : Pts s k) (hp : p.length ≤ 254) (hr : ∀ x ∈ p, 0 ≤ x ∧ x < 256) (hL : ∀ m, m < 4 → L m = openB (s.syn m)) (hn : n < 4) (c : Crs) :
    PutsRel L ((s.wrote n (putL s n p)).crash c) n true p := by
  obtain ⟨_, e⟩ := h.crash (n := n) (l := putL s n p) c
  refine ⟨fun m hm hne => ?_, ?_⟩
  · rw [e, upd_ne _ _ hne]
    exact hL m hm
  · rw [e, upd_here]
    rcases torn_over hp hr (ok.syn n) (c.of 1 0) (c.of_le 1 0) with q | q | q
    · rw [q]; exact .inl (hL n hn)
    · rw [q]
      refine .inr ⟨rfl, .inr ⟨openE_right (putL_sec hp hr).1 (putL_right hp), ?_⟩⟩
      rw [openB_right (putL_sec hp hr).1 (putL_right hp)]
      exact bodyL_wrap hp
    · exact .inr ⟨rfl, .inl q⟩

theorem openE_two {l : List Int} (h : Sec l) : openE l = 0 ∨ openE l = 50 := by
  unfold openE
  rw [if_neg (by rw [h.1]; simp)]
  split
  · exact .inl rfl
  · exact .inr rfl
theorem openB_len0 {l : List Int} (h : Sec l) (e : openE l = 0) : (openB l).length = 254 := by
  unfold openB
  rw [if_pos e]
  exact bodyL_len h.1
theorem openB_len50 {l : List Int} (e : openE l = 50) : openB l = [] := openB_bad (by rw [e]; simp)

theorem Res.star_assoc {R S T : Res} {w : World} {F : Nat → Prop} (h : ((R.star S).star T).is w F) : (R.star (S.star T)).is w F := by
  obtain ⟨F1, F2, ⟨F3, F4, a1, a2, a3, a4, a5, a6⟩, h2, h3, h4, h5, h6⟩ := h
  refine ⟨F3, fun k => F4 k ∨ F2 k, a1, ⟨F4, F2, a2, h2, fun k f => h3 k (a5 k f), fun _ f => .inl f, fun _ f => .inr f, ?_⟩, ?_, fun k f => h4 k (a4 k f), ?_, h6⟩
  · intro k f
    rcases f with f | f
    · exact a6 k (a5 k f)
    · exact h6 k (h5 k f)
  · intro k f g
    rcases g with g | g
    · exact a3 k f g
    · exact h3 k (a4 k f) g
  · intro k f
    rcases f with f | f
    · exact h4 k (a5 k f)
    · exact h5 k f

/-- The struct that the loop copies, beside the others. -/
theorem toP {B : Nat} {K D H X : Res} {w : World} (h : Has B (K.star (D.star (H.star X))) w) : Has B (D.star (H.star (X.star K))) w := h.sw.map2 (fun _ => Res.star_assoc)
theorem bk_of {B g : Nat} {t : TypeId} {cs : Array Value} {w : World} (h : Has B (blkR g t cs) w) : Bk w g t cs := by
  obtain ⟨F, hF⟩ := h.ex
  exact hF.1
end Go.Proofs.Ytjieledaiipheaa

/- what Save, a fuse, a crash and Load make of the plain disk of two sectors, where all was synchronized. No program is named. -/
namespace Go.Proofs.Ytjieledaiipheaa
open Go.RowKit

/-- Behind k records at the most, each synchronized, or crashed. -/
structure Mst (s : St) (k : Nat) : Prop where
  num : s.num = 2
  left : s.left = -1
  gone : s.gone = false
  pend : s.pend = []
  syncs : s.syncs ≤ k

theorem Mst.start : Mst (St.new 2) 0 := ⟨rfl, rfl, rfl, rfl, Nat.le_refl _⟩
/-- The sector of a record. -/
def secN (m : Ms) : Nat := (m.gen % 2).toNat
theorem secN_lt (m : Ms) : secN m < 2 := by unfold secN; omega
theorem secN_int {m : Ms} : ((secN m : Nat) : Int) = m.gen % 2 := by unfold secN; omega
/-- What is put there. -/
def msL (s : St) (m : Ms) : List Int := putL s (secN m) (bodyM m)
section
variable {s : St} {k : Nat} {m : Ms}
theorem msL_sec (h : m.ok) : Sec (msL s m) := putL_sec (by have := bodyM_len h.fits; omega) (bodyM_rng m)
theorem msL_rec (h : m.ok) : recM (m.gen % 2) (msL s m) = m := recM_wrap h (nextOf_rng _)
theorem Mst.mono {j : Nat} (h : Mst s k) (hj : k ≤ j) : Mst s j := ⟨h.num, h.left, h.gone, h.pend, Nat.le_trans h.syncs hj⟩
theorem Mst.rd (h : Mst s k) (n : Nat) (hn : n < 2) : s.rErr n = 0 ∧ s.rBytes n = s.syn n := by
  have e : s.rErr n = 0 := by
    unfold St.rErr
    rw [if_neg (by rw [h.num]; omega), if_neg (by rw [h.gone]; simp)]
  refine ⟨e, ?_⟩
  unfold St.rBytes
  rw [if_pos e, now_nothing h.pend]
  rfl
theorem Mst.load (h : Mst s k) : loadR0 s.rBytes s.rErr = loadM (s.syn 0) (s.syn 1) ∧ loadE0 s.rBytes s.rErr = lostE (loadM (s.syn 0) (s.syn 1)) := by
  have h0 : s.rErr 0 = 0 ∧ s.rBytes 0 = s.syn 0 := h.rd 0 (by omega)
  have h1 : s.rErr 1 = 0 ∧ s.rBytes 1 = s.syn 1 := h.rd 1 (by omega)
  refine ⟨?_, ?_⟩
  · unfold loadR0
    rw [if_neg (by rw [h0.1]; simp), if_neg (by rw [h1.1]; simp), h0.2, h1.2]
  · unfold loadE0
    rw [if_neg (by rw [h0.1]; simp), if_neg (by rw [h1.1]; simp), h0.2, h1.2]
theorem Mst.no (h : ¬ m.ok) : saveE s m = 1 ∧ saveS s m = s := ⟨if_pos h, if_pos h⟩

/-- A write behind a fuse. -/
theorem Mst.fuse_neg (h : Mst s k) {f : Int} (hf : f < 0) : s.fuse f = s := by
  have e : max f (-1) = -1 := by omega
  have hl := h.left
  unfold St.fuse
  rw [e, ← hl]
theorem fuse_rd (h : Mst s k) (f : Int) (n : Nat) (hn : n < 2) : (s.fuse f).rErr n = 0 ∧ (s.fuse f).rBytes n = s.syn n := by
  have e : (s.fuse f).rErr n = 0 := by
    unfold St.rErr
    rw [if_neg (by show ¬ ((n : Int) < 0 ∨ (s.num : Int) ≤ n); rw [h.num]; omega), if_neg (by show ¬ s.gone = true; rw [h.gone]; simp)]
  refine ⟨e, ?_⟩
  unfold St.rBytes
  rw [if_pos e]
  have hp : (s.fuse f).pend = [] := h.pend
  rw [now_nothing hp]
  rfl
theorem fuse_left (f : Int) : (s.fuse f).left = max f (-1) := rfl
/-- Put behind a fuse. -/
theorem fuse_put (h : Mst s k) (hm : m.ok) (f : Int) : putE (s.fuse f) (m.gen % 2) (bodyM m) = (if (s.fuse f).can then 0 else 40) ∧ putS (s.fuse f) (m.gen % 2) (bodyM m) = (if (s.fuse f).can then (s.fuse f).wrote (secN m) (msL s m) else (s.fuse f).step) := by
  have hn := secN_lt m
  obtain ⟨h1, h2⟩ := fuse_rd h f (secN m) hn
  have hl : (msL s m).length = 256 := (msL_sec (s := s) hm).1
  have hb : ¬ 254 < (bodyM m).length := by have := bodyM_len hm.fits; omega
  have e : ¬ (((secN m : Nat) : Int) < 0 ∨ ((s.fuse f).num : Int) ≤ (secN m : Nat)) := by show ¬ (_ ∨ (s.num : Int) ≤ _); rw [h.num]; omega
  rw [← secN_int]
  refine ⟨?_, ?_⟩
  · unfold putE
    rw [if_neg hb, if_neg (by rw [h1]; simp), h2]
    show (s.fuse f).wErr _ (msL s m) = _
    unfold St.wErr
    rw [if_neg e, if_neg (by rw [hl]; simp)]
  · unfold putS
    rw [if_neg hb, if_neg (by rw [h1]; simp), h2]
    show (s.fuse f).write _ (msL s m) = _
    unfold St.write
    rw [if_neg e, if_neg (by rw [hl]; simp)]
    rfl
theorem fuse_can (h : Mst s k) (f : Int) : (s.fuse f).can = !(max f (-1) == 0) := by
  unfold St.can
  show (!s.gone && !(max f (-1) == 0)) = _
  rw [h.gone]
  rfl
theorem fuse_step (h : Mst s k) {f : Int} (hf : f ≠ 0) : (s.fuse f).step.left = (if 0 < f then f - 1 else -1) ∧ (s.fuse f).step.gone = false ∧ (s.fuse f).step.syn = s.syn ∧ (s.fuse f).step.num = 2 ∧ (s.fuse f).step.syncs = s.syncs := by
  have hg : ¬ (s.fuse f).gone = true := by show ¬ s.gone = true; rw [h.gone]; simp
  have hg' : (s.fuse f).gone = false := h.gone
  refine ⟨?_, ?_, by rw [St.step_syn]; rfl, by rw [St.step_num]; exact h.num, by rw [St.step_syncs]; rfl⟩
  · unfold St.step
    rw [if_neg hg, if_neg (by rw [fuse_left]; omega)]
    by_cases h0 : 0 < f
    · rw [if_pos (by rw [fuse_left]; omega), if_pos h0]
      show max f (-1) - 1 = _
      omega
    · rw [if_neg (by rw [fuse_left]; omega), if_neg h0]
      show max f (-1) = _
      omega
  · unfold St.step
    rw [if_neg hg, if_neg (by rw [fuse_left]; omega)]
    split
    · exact hg'
    · exact hg'

/-- A fuse of nought: nothing is written, the disk is down. -/
theorem save_zero (h : Mst s k) (hm : m.ok) : saveE (s.fuse 0) m = 40 ∧ (saveS (s.fuse 0) m).gone = true ∧ ∀ c, Mst ((saveS (s.fuse 0) m).crash c) 0 ∧ ((saveS (s.fuse 0) m).crash c).syn = s.syn := by
  obtain ⟨p1, p2⟩ := fuse_put h hm 0
  have hc : (s.fuse 0).can = false := by rw [fuse_can h]; decide
  rw [hc] at p1 p2
  rw [if_neg (by simp)] at p1 p2
  have e : saveS (s.fuse 0) m = (s.fuse 0).step := by unfold saveS; rw [if_neg (by simpa using hm), if_pos (by rw [p1]; simp), p2]
  refine ⟨by unfold saveE; rw [if_neg (by simpa using hm), if_pos (by rw [p1]; simp), p1], ?_, fun c => ?_⟩
  · rw [e]
    unfold St.step
    rw [if_neg (by show ¬ s.gone = true; rw [h.gone]; simp), if_pos (by rw [fuse_left]; omega)]
  · rw [e]
    have hp : (s.fuse 0).step.pend = [] := by rw [St.step_pend]; exact h.pend
    refine ⟨⟨by show (s.fuse 0).step.num = 2; rw [St.step_num]; exact h.num, rfl, rfl, rfl, Nat.le_refl _⟩, ?_⟩
    show (s.fuse 0).step.left_ _ (s.fuse 0).step.pend.length = _
    rw [hp]
    show (s.fuse 0).step.syn = _
    rw [St.step_syn]
    rfl

/-- A fuse of one: the write is made, not synchronized; the disk is down. -/
theorem save_one (h : Mst s k) (hm : m.ok) : saveE (s.fuse 1) m = 40 ∧ (saveS (s.fuse 1) m).gone = true ∧ ∀ c, Mst ((saveS (s.fuse 1) m).crash c) 0 ∧ ((saveS (s.fuse 1) m).crash c).syn = upd s.syn (secN m) (over (msL s m) (s.syn (secN m)) (c.of 1 0)) := by
  obtain ⟨p1, p2⟩ := fuse_put h hm 1
  have hc : (s.fuse 1).can = true := by rw [fuse_can h]; decide
  rw [hc] at p1 p2
  rw [if_pos rfl] at p1 p2
  obtain ⟨q1, q2, q3, q4, q5⟩ := fuse_step h (f := 1) (by omega)
  have g1 : ((s.fuse 1).wrote (secN m) (msL s m)).left = 0 := by
    show (s.fuse 1).step.left = 0
    rw [q1]; rfl
  have g2 : ((s.fuse 1).wrote (secN m) (msL s m)).gone = false := q2
  have hc2 : ((s.fuse 1).wrote (secN m) (msL s m)).can = false := by
    unfold St.can
    rw [g1, g2]; rfl
  have e : saveS (s.fuse 1) m = ((s.fuse 1).wrote (secN m) (msL s m)).step := by
    unfold saveS
    rw [if_neg (by simpa using hm), if_neg (by rw [p1]; simp), p2]
    unfold St.sync
    rw [hc2, if_neg (by simp)]
  refine ⟨?_, ?_, fun c => ?_⟩
  · unfold saveE
    rw [if_neg (by simpa using hm), if_neg (by rw [p1]; simp), p2]
    unfold St.sErr
    rw [hc2, if_neg (by simp)]
  · rw [e]
    unfold St.step
    rw [if_neg (by rw [g2]; simp), if_pos g1]
  · rw [e]
    have hcr : (((s.fuse 1).wrote (secN m) (msL s m)).step).crash c = ((s.fuse 1).wrote (secN m) (msL s m)).crash c := by
      have a1 := St.step_num ((s.fuse 1).wrote (secN m) (msL s m))
      have a2 := St.step_syn ((s.fuse 1).wrote (secN m) (msL s m))
      have a3 := St.step_pend ((s.fuse 1).wrote (secN m) (msL s m))
      have a4 : ∀ j, ((s.fuse 1).wrote (secN m) (msL s m)).step.left_ (c.of ((s.fuse 1).wrote (secN m) (msL s m)).step.pend.length) j = ((s.fuse 1).wrote (secN m) (msL s m)).left_ (c.of ((s.fuse 1).wrote (secN m) (msL s m)).pend.length) j := by
        intro j
        rw [a3]
        induction j with
        | zero => exact a2
        | succ j ih =>
          have a5 : ((s.fuse 1).wrote (secN m) (msL s m)).step.at_ j = ((s.fuse 1).wrote (secN m) (msL s m)).at_ j := by unfold St.at_; rw [a3]
          show upd (((s.fuse 1).wrote (secN m) (msL s m)).step.left_ _ j) _ _ = upd (((s.fuse 1).wrote (secN m) (msL s m)).left_ _ j) _ _
          rw [ih, a5]
      unfold St.crash
      rw [a4, a1, a3]
    rw [hcr]
    have hp : (s.fuse 1).pend = [] := h.pend
    refine ⟨⟨q4, rfl, rfl, rfl, Nat.le_refl _⟩, ?_⟩
    have := crash_one (s := s.fuse 1) (n := secN m) (l := msL s m) hp c
    rw [this]
    rfl

/-- Another fuse: it is saved. -/
theorem save_more (h : Mst s k) (hm : m.ok) {f : Int} (h0 : f ≠ 0) (h1 : f ≠ 1) : saveE (s.fuse f) m = 0 ∧ (saveS (s.fuse f) m).gone = false ∧ (saveS (s.fuse f) m).syn = upd s.syn (secN m) (msL s m) ∧ (f < 0 → Mst (saveS (s.fuse f) m) (k + 1)) ∧ (saveS (s.fuse f) m).syncs = s.syncs + 1 ∧ ∀ c, Mst ((saveS (s.fuse f) m).crash c) 0 ∧ ((saveS (s.fuse f) m).crash c).syn = upd s.syn (secN m) (msL s m) := by
  obtain ⟨p1, p2⟩ := fuse_put h hm f
  have hc : (s.fuse f).can = true := by
    rw [fuse_can h]
    have : (max f (-1) == 0) = false := by rw [beq_eq_false_iff_ne]; omega
    rw [this]; rfl
  rw [hc] at p1 p2
  rw [if_pos rfl] at p1 p2
  obtain ⟨q1, q2, q3, q4, q5⟩ := fuse_step h (f := f) h0
  obtain ⟨t, ht⟩ : ∃ t, (s.fuse f).wrote (secN m) (msL s m) = t := ⟨_, rfl⟩
  have g1 : t.left = (if 0 < f then f - 1 else -1) := by rw [← ht]; exact q1
  have g2 : t.gone = false := by rw [← ht]; exact q2
  have g3 : t.now = upd s.syn (secN m) (msL s m) := by
    rw [← ht, wrote_now, now_nothing (s := s.fuse f) h.pend]; rfl
  have g4 : t.num = 2 := by rw [← ht]; exact q4
  have g5 : t.syncs = s.syncs := by rw [← ht]; exact q5
  have hl : t.left ≠ 0 := by rw [g1]; split <;> omega
  have hc2 : t.can = true := by
    unfold St.can
    rw [g2]
    simp [hl]
  have e : saveS (s.fuse f) m = t.synced := by
    unfold saveS
    rw [if_neg (by simpa using hm), if_neg (by rw [p1]; simp), p2, ht]
    unfold St.sync
    rw [hc2, if_pos rfl]
  have hst : t.step.gone = false ∧ t.step.num = 2 ∧ (f < 0 → t.step.left = -1) := by
    refine ⟨?_, by rw [St.step_num]; exact g4, fun hf => ?_⟩
    · unfold St.step
      rw [if_neg (by rw [g2]; simp), if_neg hl]
      split
      · exact g2
      · exact g2
    · unfold St.step
      rw [if_neg (by rw [g2]; simp), if_neg hl, if_neg (by rw [g1, if_neg (by omega)]; omega), g1, if_neg (by omega)]
  refine ⟨?_, ?_, ?_, ?_, ?_, fun c => ?_⟩
  · unfold saveE
    rw [if_neg (by simpa using hm), if_neg (by rw [p1]; simp), p2, ht]
    unfold St.sErr
    rw [hc2, if_pos rfl]
  · rw [e]; exact hst.1
  · rw [e]; exact g3
  · intro hf
    rw [e]
    exact ⟨hst.2.1, hst.2.2 hf, hst.1, rfl, by show t.syncs + 1 ≤ k + 1; rw [g5]; have := h.syncs; omega⟩
  · rw [e]; show t.syncs + 1 = _; rw [g5]
  · rw [e]
    exact ⟨⟨hst.2.1, rfl, rfl, rfl, Nat.le_refl _⟩, by rw [← g3]; rfl⟩
/-- Without a fuse. -/
theorem Mst.save (h : Mst s k) (hm : m.ok) : saveE s m = 0 ∧ (saveS s m).syn = upd s.syn (secN m) (msL s m) ∧ Mst (saveS s m) (k + 1) ∧ (saveS s m).syncs = s.syncs + 1 := by
  have e := h.fuse_neg (f := -1) (by omega)
  obtain ⟨a, _, b, c, d, _⟩ := save_more h hm (f := -1) (by omega) (by omega)
  rw [e] at a b c d
  exact ⟨a, b, c (by omega), d⟩
theorem putS_syncs (h : Mst s k) (f : Int) : (putS (s.fuse f) (m.gen % 2) (bodyM m)).syncs = s.syncs := by
  unfold putS
  split
  · rfl
  · split
    · rfl
    · unfold St.write
      split
      · rfl
      · split
        · rfl
        · split
          · show (s.fuse f).step.syncs = _; rw [St.step_syncs]; rfl
          · rw [St.step_syncs]; rfl
theorem putS_syncs0 (h : Mst s k) : (putS s (m.gen % 2) (bodyM m)).syncs = s.syncs := by
  have := putS_syncs (m := m) h (-1)
  rwa [h.fuse_neg (by omega)] at this
end

/-- The last record, and that the other sector has an older one, or none. -/
structure Lst (f : Nat → List Int) (last : Ms) : Prop where
  ok : last.ok
  it : recM (last.gen % 2) (f (secN last)) = last
  other : ∀ n : Nat, n < 2 → n ≠ secN last → (recM n (f n)).gen < last.gen
theorem Lst.load {f : Nat → List Int} {last : Ms} (h : Lst f last) : loadM (f 0) (f 1) = last ∧ lostE (loadM (f 0) (f 1)) = 0 := by
  have e : loadM (f 0) (f 1) = last := by
    have hi := h.it
    rw [← secN_int] at hi
    unfold loadM
    by_cases hz : secN last = 0
    · have h1 := h.other 1 (by omega) (by omega)
      rw [hz] at hi
      have hi' : recM 0 (f 0) = last := hi
      have h1' : (recM 1 (f 1)).gen < last.gen := h1
      rw [hi', if_neg (by omega)]
    · have hz : secN last = 1 := by have := secN_lt last; omega
      have h1 := h.other 0 (by omega) (by omega)
      rw [hz] at hi
      have hi' : recM 1 (f 1) = last := hi
      have h1' : (recM 0 (f 0)).gen < last.gen := h1
      rw [hi', if_pos h1']
  refine ⟨e, ?_⟩
  rw [e]
  unfold lostE
  rw [if_neg (by have := h.ok.gen; omega)]
theorem secN_next {a b : Ms} (h : b.gen = a.gen + 1) : secN b ≠ secN a := by unfold secN; omega
/-- The next one is there. -/
theorem Lst.next {f : Nat → List Int} {last m : Ms} (h : Lst f last) (hm : m.ok) (hg : m.gen = last.gen + 1) {X : List Int} (hX : recM (m.gen % 2) X = m) : Lst (upd f (secN m) X) m :=
  ⟨hm, by rw [upd_here]; exact hX, fun n hn hne => by
    rw [upd_ne _ _ hne]
    have e : n = secN last := by have := secN_next hg; have := secN_lt m; have := secN_lt last; omega
    rw [e, secN_int, h.it]
    omega⟩
/-- It isn't. -/
theorem Lst.stay {f : Nat → List Int} {last m : Ms} (h : Lst f last) (hg : m.gen = last.gen + 1) {X : List Int} (hX : (recM (m.gen % 2) X).gen < last.gen) : Lst (upd f (secN m) X) last :=
  ⟨h.ok, by rw [upd_ne _ _ (fun e => secN_next hg e.symm)]; exact h.it, fun n hn hne => by
    have e : n = secN m := by have := secN_next hg; have := secN_lt m; have := secN_lt last; omega
    rw [e, upd_here, secN_int]
    exact hX⟩
/-- Torn. -/
theorem Lst.torn {s : St} {k : Nat} {last m : Ms} (h : Lst s.syn last) (ok : s.Ok) (hm : m.ok) (hg : m.gen = last.gen + 1) (j : Nat) (hj : j ≤ 256) :
    Lst (upd s.syn (secN m) (over (msL s m) (s.syn (secN m)) j)) m ∨ Lst (upd s.syn (secN m) (over (msL s m) (s.syn (secN m)) j)) last := by
  rcases torn_over (s := s) (n := secN m) (p := bodyM m) (by have := bodyM_len hm.fits; omega) (bodyM_rng m) (ok.syn _) j hj with q | q | q
  · have q' : over (msL s m) (s.syn (secN m)) j = s.syn (secN m) := q
    rw [q']
    refine .inr (h.stay hg ?_)
    rw [← secN_int]
    exact h.other _ (secN_lt m) (secN_next hg)
  · have q' : over (msL s m) (s.syn (secN m)) j = msL s m := q
    rw [q']
    exact .inl (h.next hm hg (msL_rec hm))
  · refine .inr (h.stay hg ?_)
    have q' : openE (over (msL s m) (s.syn (secN m)) j) = 50 := q
    rw [recM_torn q']
    have := h.ok.gen
    show (0 : Int) < _
    omega

/-- A new disk. -/
theorem zeros_rec (n : Int) : recM n zeros = ms0 := recM_torn (openE_torn zeros_sec.1 (fun q => by
  have : zeros.getD 0 0 = 0 := rfl
  have := q.2.1
  omega))
theorem new_load (n : Nat) : loadM ((St.new n).syn 0) ((St.new n).syn 1) = ms0 := by
  show loadM zeros zeros = ms0
  unfold loadM
  rw [zeros_rec, zeros_rec]
  rfl
theorem Lst.first {m : Ms} (hm : m.ok) {f : Nat → List Int} (hf : ∀ n, f n = zeros) {X : List Int} (hX : recM (m.gen % 2) X = m) : Lst (upd f (secN m) X) m :=
  ⟨hm, by rw [upd_here]; exact hX, fun n hn hne => by
    rw [upd_ne _ _ hne, hf, zeros_rec]
    have := hm.gen
    show (0 : Int) < _
    omega⟩
theorem nextOf_zeros : nextOf zeros = 1 := rfl
end Go.Proofs.Ytjieledaiipheaa

/- master.Load at a disk among other things and at no disk; master.Save at no disk. -/
namespace Go.Proofs.Ytjieledaiipheaa
open Go.RowKit

theorem load_any {B : Nat} {R : Res} {w : World} {b : Nat} {s : St} (h : Has B ((dsk b s).star R) w) :
    Calls Try.prog 9 #[.pointer (some ⟨b, 0, none⟩)] w (Ret (.tuple #[msV (loadR0 s.rBytes s.rErr), .int .i64 (loadE0 s.rBytes s.rErr)]) w) :=
  load_gen (some ⟨b, 0, none⟩) s.rBytes s.rErr w (fun z _ hb => hasD_read (h.below hb) z)

theorem load_nil (w : World) : Calls Try.prog 9 #[.pointer none] w (Ret (.tuple #[msV ms0, .int .i64 2]) w) :=
  load_gen none (fun _ => []) (fun _ => 2) w (fun z w' _ => (read_nil w' z).mono fun e w'' ⟨he, hw⟩ => ⟨none, 0, 0, he, Byt.nil _, (fun _ _ q => nomatch q), by rw [← hw]; exact Below.refl _ _⟩)

/-- Put at no disk, of a payload that is short enough. -/
theorem stPut_none (w : World) (n : Int) (A : Option Addr) (m c : Nat) (hm : m ≤ 254) : Calls Try.prog 25 #[.pointer none, .int .i64 n, .slice A m c] w (Same (.int .i64 2) w) := by
  have CR := Lib.hid (read_nil w n)
  go_enter Try.func25, Try.ntmps25
  go_wp2_with fail
  refine CR.out.mono ?_
  rintro e w1 ⟨rfl, rfl⟩
  go_wp2_with fail
  go_ret
  exact ⟨rfl, rfl⟩

set_option maxRecDepth 100000 in
set_option maxHeartbeats 8000000 in
theorem save_nil {w : World} (m : Ms) (hm : m.fits) :
    Calls Try.prog 8 #[.pointer none, msV m] w (Ret (.int .i64 (if m.ok then 2 else 1)) w) := by
  obtain ⟨W0, hW0⟩ : ∃ W0, W0 = w.alloc (.cells #[.int .i64 m.gen, .int .i64 m.inc, .int .i64 m.first, .int .i64 m.lsn, .int .i64 m.chk] 23) := ⟨_, rfl⟩
  have HK0 : Hid (Bk W0 w.heap.size 23 (msC m)) := Lib.hid (by rw [hW0]; exact Bk.new w _ _)
  have HB0 : Hid (Below w.heap.size w W0) := Lib.hid (by rw [hW0]; exact (Below.refl _ _).alloc (Nat.le_refl _) _)
  have CV : Hid (∀ w, Calls Try.prog 24 #[.agg #[.int .i64 m.gen, .int .i64 m.inc, .int .i64 m.first, .int .i64 m.lsn, .int .i64 m.chk]] w (Ret (.bool (decide m.ok)) w)) := Lib.hid (fun w => isValid_any m w)
  have HW0 := Lib.hid hW0
  have HM := Lib.hid hm
  by_cases hok : m.ok
  · have E : Hid ((if m.ok then (2 : Int) else 1) = 2) := Lib.hid (if_pos hok)
    rw [E.out, show msV m = .agg #[.int .i64 m.gen, .int .i64 m.inc, .int .i64 m.first, .int .i64 m.lsn, .int .i64 m.chk] from rfl]
    rw [decide_eq_true hok] at CV
    have HOK := Lib.hid hok
    clear hm hW0 E hok
    go_enter Try.func8, Try.ntmps8
    go_wp2_with fail
    (try rw [← HW0.out])
    refine (CV.out _).mono ?_
    rintro e W1 ⟨rfl, b1⟩
    have HB1 : Hid (Below W0.heap.size W0 W1) := Lib.hid b1
    have HK1 := Lib.hid (HK0.out.later HB1.out)
    have HS1 : Hid (w.heap.size < W1.heap.size) := Lib.hid HK1.out.lt
    clear b1 CV
    go_wp2_with fail
    have hu := Try.underlying23
    have hsz : (Try.prog.info? 23).map (·.size) = some (msC m).toList.length := by kernel_rfl
    have KS : Hid (∀ W, Below W1.heap.size W1 W → W.heap[w.heap.size]? = some (.cells (msC m) 23 (0, 0))) := Lib.hid (fun W hb => HK1.out.later hb)
    have hS0 := KS.out W1.drew (Below.refl _ _).drew
    refine wp_region_noPanic ?_
    refine upto_start (fun w' => w'.heap[w.heap.size]? = some (.cells (msC m) 23 (0, 0))) 5 (by kernel_rfl) ?_
    change Upto _ _ _ _ _ 7 _ _ _
    refine Upto.take (i := 0) (v := .pointer none) rfl (by kernel_rfl) (fun _ _ _ h => h) rfl (fun w' hS => by go_simp; (try with_reducible rfl)) hS0 ?_
    simp only [Act.put, List.setIfInBounds_toArray, List.set_cons_zero, List.set_cons_succ]
    refine Upto.take (i := 1) (v := .agg (msC m)) rfl (by kernel_rfl) (fun _ _ _ h => h) rfl (fun w' hS => exec_load rfl (by rfl) (Bk.rangeC hS) hu rfl hsz) hS0 ?_
    simp only [Act.put, List.setIfInBounds_toArray, List.set_cons_zero, List.set_cons_succ]
    refine Upto.take (i := 3) (v := .agg (msC m)) rfl (by kernel_rfl) (fun _ _ _ h => h) rfl (fun w' hS => exec_load rfl (by rfl) (Bk.rangeC hS) hu rfl hsz) hS0 ?_
    simp only [Act.put, List.setIfInBounds_toArray, List.set_cons_zero, List.set_cons_succ]
    have CS : Hid (∀ w, Calls Try.prog 26 #[.agg (msC m)] w (Ret (.int .i64 (m.gen % 2)) w)) := Lib.hid (fun w => sectorOf_any m w (by have := HOK.out.gen; omega))
    have CE : Hid (∀ w, Calls Try.prog 27 #[.agg (msC m)] w (RetOwn (bodyM m) w)) := Lib.hid (fun w => encode_any m HM.out w)
    have CP : Hid (∀ W A n c, Below W1.heap.size W1 W → Byt W A n c (bodyM m) → Calls Try.prog 25 #[.pointer none, .int .i64 (m.gen % 2), .slice A n c] W (fun e w' => e = .returned (.int .i64 2) ∧ Below w.heap.size w w')) := Lib.hid (fun W A n c hb hy => by
      have hw : Below w.heap.size w W := HB0.out.trans ((HB1.out.trans (hb.mono HB1.out.size)).mono HB0.out.size)
      exact (stPut_none W (m.gen % 2) A n c (by have := hy.len; have := bodyM_len HM.out; omega)).mono fun e w' ⟨h1, h2⟩ => ⟨h1, by rw [← h2]; exact hw⟩)
    obtain ⟨z, hz⟩ : ∃ z, m.gen % 2 = z := ⟨_, rfl⟩
    rw [hz] at CS CP
    clear hz HW0 HOK HM
    refine Upto.law (i := 2) rfl (by kernel_rfl) rfl (fun K hK => ?_)
    refine wp_enter (f := 26) (args := #[.agg (msC m)]) (by go_simp; (try with_reducible rfl)) (CS.out _) ?_
    rintro e W2 ⟨rfl, hbs⟩
    have W2B : Hid (Below W1.heap.size W1 W2) := Lib.hid (by
      have q := (Below.refl W1.heap.size W1).drew
      exact q.trans (hbs.mono q.size))
    clear hbs
    refine ⟨_, rfl, hK _ _ (KS.out _ W2B.out) ?_⟩
    clear hK
    simp only [Act.put, List.setIfInBounds_toArray, List.set_cons_zero, List.set_cons_succ]
    refine Upto.law (i := 4) rfl (by kernel_rfl) rfl (fun K hK => ?_)
    refine wp_enter (f := 27) (args := #[.agg (msC m)]) (by go_simp; (try with_reducible rfl)) (CE.out _) ?_
    rintro e W3 ⟨A, n, c, rfl, ho, hr, hbs⟩
    have W3B : Hid (Below W1.heap.size W1 W3) := Lib.hid (by
      have q := W2B.out
      exact q.trans (hbs.mono q.size))
    have HY := Lib.hid (Byt.of_own ho hr)
    clear ho hr hbs
    refine ⟨_, rfl, hK _ _ (KS.out _ W3B.out) ?_⟩
    clear hK
    simp only [Act.put, List.setIfInBounds_toArray, List.set_cons_zero, List.set_cons_succ]
    have CP1 := Lib.hid (CP.out W3 A n c W3B.out HY.out)
    clear CP HY W2B W3B KS CS CE HB0 HK0 HB1 HK1 HS1 hS0
    refine Upto.tail rfl (by kernel_rfl) ?_
    simp only [List.drop_succ_cons, List.drop_zero]
    go_wp2_with fail
    refine CP1.out.mono ?_
    rintro e W4 ⟨rfl, b4⟩
    have B4 := Lib.hid b4
    clear b4 CP1
    go_wp2_with fail
    refine NoPanic.normal ?_
    go_wp2_with fail
    go_ret
    exact ⟨rfl, B4.out⟩
  · have E : Hid ((if m.ok then (2 : Int) else 1) = 1) := Lib.hid (if_neg hok)
    rw [E.out, show msV m = .agg #[.int .i64 m.gen, .int .i64 m.inc, .int .i64 m.first, .int .i64 m.lsn, .int .i64 m.chk] from rfl]
    rw [decide_eq_false hok] at CV
    clear hm hW0 E hok
    go_enter Try.func8, Try.ntmps8
    go_wp2_with fail
    (try rw [← HW0.out])
    refine (CV.out _).mono ?_
    rintro e W1 ⟨rfl, b1⟩
    have HB1 : Hid (Below w.heap.size w W1) := Lib.hid (HB0.out.trans (b1.mono HB0.out.size))
    clear b1 CV
    go_wp2_with fail
    go_ret
    exact ⟨rfl, HB1.out⟩
end Go.Proofs.Ytjieledaiipheaa
