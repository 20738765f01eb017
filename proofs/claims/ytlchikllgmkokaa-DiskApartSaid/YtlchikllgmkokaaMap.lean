/- What it says: a map keyed by ints: what it holds at each key; a look-up, a store, a copy. No program is named; no condition. -/
import Derived.Test.YtlchikllgmkokaaFrame
import Derived.MapKept
import Derived.Maps.OwnOps
namespace Go.Proofs.Ytlchikllgmkokaa
open Go.RowKit Go.MapKept

open Classical in
/-- The first entry at a key. -/
noncomputable def look : List MapEntry → Value → Option Value
  | [], _ => none
  | e :: r, k => if e.key = k then some e.val else look r k

theorem look_none {k : Value} : ∀ {l : List MapEntry}, (∀ x ∈ l, x.key ≠ k) → look l k = none
  | [], _ => rfl
  | e :: r, h => by
    rw [look, if_neg (h e (.head _))]
    exact look_none (fun x hx => h x (.tail _ hx))

open Classical in
theorem look_append {k : Value} {e : MapEntry} : ∀ {l : List MapEntry}, look (l ++ [e]) k = (look l k).or (if e.key = k then some e.val else none)
  | [] => by simp [look]
  | x :: r => by
    rw [List.cons_append, look, look]
    split
    · rfl
    · exact look_append

open Classical in
theorem findNow_look {d : TypeDesc} {k : Value} (hk : IsKey d k) : ∀ (l : List MapEntry) (i : Nat), (∀ x ∈ l, IsKey d x.key) →
    (Instr.findNow d k l i = some none ∧ look l k = none ∧ ∀ x ∈ l, x.key ≠ k) ∨
    ∃ j e, Instr.findNow d k l i = some (some (i + j, e.val)) ∧ l[j]? = some e ∧ e.key = k ∧ look l k = some e.val ∧
      ∀ v k', look (l.modify j fun e => { e with key := k, val := v }) k' = if k' = k then some v else look l k'
  | [], _, _ => .inl ⟨rfl, rfl, by simp⟩
  | e :: es, i, h => by
    obtain ⟨r, hr, hiff⟩ := sameNow_of_keys hk (h e (.head _))
    cases r with
    | true =>
      have he : e.key = k := (hiff.1 rfl).symm
      refine .inr ⟨0, e, by simp [Instr.findNow, hr], rfl, he, by rw [look, if_pos he], fun v k' => ?_⟩
      show look ({ e with key := k, val := v } :: es) k' = _
      rw [look]
      by_cases hq : k' = k
      · subst hq
        rw [if_pos rfl, if_pos rfl]
      · rw [if_neg (fun q => hq q.symm), if_neg hq, look, if_neg (fun q => hq (q.symm.trans he))]
    | false =>
      have hne : e.key ≠ k := fun q => by have := hiff.2 q.symm; cases this
      rcases findNow_look hk es (i + 1) (fun x hx => h x (.tail _ hx)) with ⟨h1, h2, h3⟩ | ⟨j, e', h1, h2, h3, h4, h5⟩
      · refine .inl ⟨by simp [Instr.findNow, hr, h1], by rw [look, if_neg hne, h2], fun x hx => ?_⟩
        cases hx with
        | head => exact hne
        | tail _ hx => exact h3 x hx
      · refine .inr ⟨j + 1, e', by simp [Instr.findNow, hr, h1]; omega, by simpa using h2, h3, by rw [look, if_neg hne, h4], fun v k' => ?_⟩
        rw [List.modify_succ_cons, look, h5, look]
        by_cases hq : k' = k
        · subst hq
          rw [if_pos rfl, if_neg hne, if_pos rfl]
        · rw [if_neg hq, if_neg hq]

/-- Map mb holds g n at key n; z where there is none. -/
def MapFn (w : World) (mb : Nat) (z : Value) (g : Nat → Value) : Prop :=
  ∃ es clock, w.heap[mb]? = some (.map es clock) ∧ (∀ x ∈ es.toList, IsKey (.int .i64) x.key) ∧ ∀ n : Nat, (look es.toList (.int .i64 n)).getD z = g n

section
variable {w w' : World} {mb : Nat} {z : Value} {g : Nat → Value}
theorem MapFn.lt (h : MapFn w mb z g) : mb < w.heap.size := by
  obtain ⟨es, cl, hb, _⟩ := h
  exact (Array.getElem?_eq_some_iff.1 hb).1
theorem MapFn.eq (h : MapFn w mb z g) (hk : w'.heap[mb]? = w.heap[mb]?) : MapFn w' mb z g := by
  obtain ⟨es, cl, hb, r⟩ := h
  exact ⟨es, cl, hk.trans hb, r⟩
theorem MapFn.new (w : World) (z : Value) : MapFn (w.alloc (.map #[] 0)) w.heap.size z (fun _ => z) :=
  ⟨#[], 0, (heap_alloc w _).1, by simp, fun _ => rfl⟩
theorem MapFn.not_bk {t : TypeId} {cs : Array Value} {b : Nat} (h : MapFn w mb z g) (hb : Bk w b t cs) : mb ≠ b := by
  rintro rfl
  obtain ⟨es, cl, h1, _⟩ := h
  unfold Bk at hb
  rw [hb] at h1
  simp at h1
theorem MapFn.not_row {e : TypeId} {base size n : Nat} {v : Value} {xs : List Value} (h : MapFn w mb z g) (ho : w.ownsRow base e size v n xs) : v.ownBlock ≠ some mb := by
  obtain ⟨es, cl, h1, _⟩ := h
  rcases ho.2 with ⟨rfl, _⟩ | ⟨g, cap, cur, rfl, _, hg, _⟩
  · simp [Value.ownBlock]
  · intro q
    simp [Value.ownBlock] at q
    subst q
    rw [hg] at h1
    simp at h1

theorem isKey_nat (n : Nat) : IsKey (.int .i64) (.int .i64 (n : Int)) := rfl

variable {P : Program} {t kt et : TypeId}

theorem MapFn.run_lookup (h : MapFn w mb z g) (ht : P.underlying t = some (.map kt et)) (hk : P.underlying kt = some (.int .i64)) (hz : (zeroValue et).run P w = .ok z w) (n : Nat) :
    (Instr.lookup t (.map (some mb)) (.int .i64 n) false).run P w = .ok (g n) w := by
  obtain ⟨es, cl, hb, hks, hg⟩ := h
  have hgn := hg n
  unfold Instr.lookup
  rcases findNow_look (isKey_nat n) es.toList 0 hks with ⟨h1, h2, _⟩ | ⟨j, e, h1, _, _, h4, _⟩
  · rw [h2] at hgn
    simp [run_underlying ht, MapKept.run_getObj_map hb, run_checkKey hk (isKey_nat n), run_findKey hk h1, hz, Result.andThen]
    exact hgn
  · rw [h4] at hgn
    simp [run_underlying ht, MapKept.run_getObj_map hb, run_checkKey hk (isKey_nat n), run_findKey hk h1, Result.andThen]
    exact hgn

theorem setObj_fr (w : World) (mb : Nat) (o : Obj) : Fr (fun k => k = mb) w { w with heap := w.heap.setIfInBounds mb o } :=
  ⟨rfl, rfl, rfl, by simp, fun k hk hn => by simp [Ne.symm hn]⟩

theorem MapFn.run_update (h : MapFn w mb z g) (ht : P.underlying t = some (.map kt et)) (hk : P.underlying kt = some (.int .i64)) (n : Nat) (v : Value) :
    ∃ w', (Instr.mapUpdate t (.map (some mb)) (.int .i64 n) v).run P w = .ok () w' ∧ MapFn w' mb z (fun m => if m = n then v else g m) ∧ Fr (fun k => k = mb) w w' := by
  obtain ⟨es, cl, hb, hks, hg⟩ := h
  rcases findNow_look (isKey_nat n) es.toList 0 hks with ⟨h1, h2, h3⟩ | ⟨j, e, h1, h2, h3, h4, h5⟩
  · refine ⟨{ w with heap := w.heap.setIfInBounds mb (.map (es.push { key := .int .i64 n, val := v, born := cl }) (cl + 1)) }, ?_, ⟨_, _, (heap_set hb).1, ?_, fun m => ?_⟩, setObj_fr _ _ _⟩
    · simp [Instr.mapUpdate, run_underlying ht, MapKept.run_getObj_map hb, run_checkKey hk (isKey_nat n), run_findKey hk h1, MapKept.run_setObj_map _ hb, Result.andThen]
    · intro x hx
      simp only [Array.toList_push, List.mem_append, List.mem_singleton] at hx
      rcases hx with hx | rfl
      · exact hks x hx
      · exact isKey_nat n
    · rw [Array.toList_push, look_append]
      by_cases hm : m = n
      · subst hm
        rw [h2]
        simp
      · have hne : ¬ ((Value.int .i64 n) = .int .i64 m) := by
          intro q
          injection q with _ q
          omega
        rw [if_neg hne, Option.or_none]
        show _ = if m = n then v else g m
        rw [if_neg hm]
        exact hg m
  · have hj : es[j]? = some e := by simpa using h2
    refine ⟨{ w with heap := w.heap.setIfInBounds mb (.map (es.modify j fun e => { e with key := .int .i64 n, val := v }) cl) }, ?_, ⟨_, _, (heap_set hb).1, ?_, fun m => ?_⟩, setObj_fr _ _ _⟩
    · simp [Instr.mapUpdate, run_underlying ht, MapKept.run_getObj_map hb, run_checkKey hk (isKey_nat n), run_findKey hk h1, hj, h3, run_keyThatStays (isKey_nat n), MapKept.run_setObj_map _ hb, Result.andThen]
    · exact isKey_modify hks _ _ (fun e' he' => by rw [hj] at he'; cases he'; exact h3.symm)
    · rw [Array.toList_modify, h5]
      by_cases hm : m = n
      · subst hm
        simp
      · have hne : ¬ ((Value.int .i64 m) = .int .i64 n) := by
          intro q
          injection q with _ q
          omega
        rw [if_neg hne]
        show _ = if m = n then v else g m
        rw [if_neg hm]
        exact hg m
end

section
variable {P : Program} {w : World} {ops : Array Oper} {rest : List Oper} {o : Oper} {a : Act} {Q : Exit → Act → World → Prop} {t kt et : TypeId}

/-- 'm[k]' at the operation. -/
theorem wpList_lookup_fn (hgd : o.guard = none) (m x : Operand) (hop : o.op = Op.lookup t m x false) (ht : P.underlying t = some (.map kt et)) (hk : P.underlying kt = some (.int .i64))
    (mb : Nat) (z : Value) (g : Nat → Value) (hz : (zeroValue et).run P w = .ok z w) (hM : MapFn w mb z g) (hm : a.eval m = .map (some mb)) (n : Nat) (hx : a.eval x = .int .i64 n)
    (h : wpList P ops Q rest (a.put o.dst (g n)) w) : wpList P ops Q (o :: rest) a w := by
  refine wpList_plain hgd fun K' hK' => ?_
  have hrun := hM.run_lookup ht hk hz n
  unfold Oper.wp
  simp [execOp, hop, hm, hx, hrun, Result.andThen]
  exact hK' _ _ h

/-- 'm[k] = v' at the operation. -/
theorem wpList_update_fn (hgd : o.guard = none) (m x v : Operand) (hop : o.op = Op.mapUpdate t m x v) (ht : P.underlying t = some (.map kt et)) (hk : P.underlying kt = some (.int .i64))
    (mb : Nat) (z : Value) (g : Nat → Value) (hM : MapFn w mb z g) (hm : a.eval m = .map (some mb)) (n : Nat) (hx : a.eval x = .int .i64 n) (val : Value) (hv : a.eval v = val)
    (h : ∀ w', MapFn w' mb z (fun m => if m = n then val else g m) → Fr (fun k => k = mb) w w' → wpList P ops Q rest (a.put o.dst undef) w') : wpList P ops Q (o :: rest) a w := by
  refine wpList_plain hgd fun K' hK' => ?_
  obtain ⟨w', hrun, h1, h2⟩ := hM.run_update ht hk n val
  unfold Oper.wp
  simp [execOp, hop, hm, hx, hv, hrun, Result.andThen]
  exact hK' _ _ (h w' h1 h2)
end
end Go.Proofs.Ytlchikllgmkokaa
