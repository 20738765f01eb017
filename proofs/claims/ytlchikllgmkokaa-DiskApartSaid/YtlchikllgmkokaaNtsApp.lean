/- What it says: 'append(out, xs...)' of slices of ints onto a row of the call's own. No program's function is named; no condition. -/
import Derived.Test.YtlchikllgmkokaaDLast
import Derived.Deep.AppendLies
namespace Go.Proofs.Ytlchikllgmkokaa
open Go.RowKit

theorem bslice_noints (w : World) : (Instr.buildSlice 33 0 #[]).run Try.prog w = .ok (.slice (some ⟨w.heap.size, 0, none⟩) 0 0) (w.alloc (.cells #[] 3)) := by
  obtain ⟨i0, hi, hz0, hz1, hz2⟩ := info_parts info_int
  simp [Instr.buildSlice, run_underlying (P := Try.prog) Try.underlying33, sizeOf, typeInfo, hi, Instr.fill, newRow, Result.andThen, range_none]

theorem run_append_nocap {P : Program} {w : World} (base : Nat) (t ty e : TypeId) (i : TypeInfo) (size : Nat) (ht : P.underlying t = some (.slice e)) (hi : P.info? e = some i)
    (v : Value) (n c : Nat) (xs : List Value) (hown : w.ownsRow base e size v n xs) :
    (Builtin.append_ #[t, t] ty #[v, .slice none 0 c]).run P w = .ok v w := by
  rcases hown.2 with ⟨rfl, rfl⟩ | ⟨g, cap, cur, rfl, _, _, hnc, _⟩
  · simp [Builtin.append_, run_underlying ht, sizeOf, typeInfo, hi, Builtin.lenOf, Builtin.firstCells]
  · simp [Builtin.append_, run_underlying ht, sizeOf, typeInfo, hi, Builtin.lenOf, Builtin.firstCells, hnc, storeCells]

theorem i64_one (l : List Int) : ∀ u ∈ l.map (Value.int .i64), u.oneCell' = true := by
  intro u hu
  obtain ⟨x, _, rfl⟩ := List.mem_map.1 hu
  rfl

/-- 'append(out, xs...)': out a row of the call's own, xs any slice of ints. -/
theorem wp_append_nts {P : Program} {w : World} {o : Oper} {a : Act} {K : Act → World → Prop} {Q : Exit → Act → World → Prop} (s x : Operand) (t : TypeId)
    (ho : o.op = .call { callee := .builtin .append, args := #[s, x], argTypes := #[t, t] })
    (base : Nat) (e : TypeId) (i : TypeInfo) (ht : P.underlying t = some (.slice e)) (hi : P.info? e = some i) (hz : i.zero = some (.int .i64 0)) (hsize : i.size = 1) (hby : i.bytes = 8)
    (v : Value) (k : Nat) (xs : List Int) (hs : a.eval s = v) (hown : w.ownsRow base e 1 v k (xs.map (Value.int .i64)))
    (A : Option Addr) (n c : Nat) (l : List Int) (hx : a.eval x = .slice A n c) (hl : Nts w A n c l)
    (hbytes : k + n ≤ 10000000000) (hbase : base ≤ w.heap.size)
    (h : ∀ A' c' w', w'.ownsRow base e 1 (.slice A' (k + n) c') (k + n) ((xs ++ l).map (Value.int .i64)) → w.grownBy w' v.ownBlock → K (a.put o.dst (.slice A' (k + n) c')) w') : o.wp P a w K Q := by
  have form : ∀ (v' : Value) (w' : World) (m : Nat) (ys : List Value), w'.ownsRow base e 1 v' m ys → ∃ A' c', v' = .slice A' m c' := by
    intro v' w' m ys ho'
    rcases ho'.2 with ⟨h1, h2⟩ | ⟨g, cap, _, h1, _⟩
    · subst h2; exact ⟨none, 0, h1⟩
    · exact ⟨_, _, h1⟩
  cases A with
  | none =>
    obtain rfl : n = 0 := by
      by_cases hn : 0 < n
      · obtain ⟨g, off, e1, _⟩ := hl.at_ hn
        cases e1
      · omega
    have hl0 : l = [] := List.eq_nil_of_length_eq_zero hl.len
    subst hl0
    have hrun := run_append_nocap (P := P) (w := w) base t o.type e i 1 ht hi v k c _ hown
    obtain ⟨A', c', rfl⟩ := form _ _ _ _ hown
    have h' := h A' c' w
    simp only [Nat.add_zero, List.append_nil] at h'
    unfold Oper.wp
    simp [execOp, ho, resolve, invoke, builtin, hs, hx, hrun, Result.andThen]
    exact h' hown (World.grownBy.refl w _)
  | some ad =>
    refine wp_append_own w s x t ho base e i (.int .i64 0) 1 8 ht hi hz hsize hby rfl (by decide) v k _ hs hown ad n c (l.map (Value.int .i64)) hx (by simp [hl.len]) (fun j u hu => ?_) (i64_one l) (by unfold maxLen; omega) (by omega) hbase ?_
    · have hj : j < n := by
        have := (List.getElem?_eq_some_iff.1 hu).1
        simpa [hl.len] using this
      obtain ⟨g, off, e1, hc⟩ := hl.at_ (by omega)
      injection e1 with e1
      subst e1
      have hadd : (⟨g, off, none⟩ : Addr).add j = ⟨g, off + j, none⟩ := by unfold Addr.add; split <;> simp_all
      rw [hadd, hc j hj]
      have hjl : j < l.length := by rw [hl.len]; exact hj
      rw [List.getElem?_map, List.getElem?_eq_getElem hjl] at hu
      simp only [Option.map_some, Option.some.injEq] at hu
      rw [← hu]
      simp [List.getD, List.getElem?_eq_getElem hjl]
    intro v' w' h1 h2 _
    obtain ⟨A', c', rfl⟩ := form _ _ _ _ h1
    exact h A' c' w' (by simpa using h1) h2

theorem Nts.of_row {w : World} {base : Nat} {A : Option Addr} {n c : Nat} {e : TypeId} {l : List Int} (h : w.ownsRow base e 1 (.slice A n c) n (l.map (Value.int .i64))) (hl : l.length = n) (hr : ∀ i, i < n → -9223372036854775808 ≤ l.getD i 0 ∧ l.getD i 0 ≤ 9223372036854775807) : Nts w A n c l := by
  rcases h.2 with ⟨hv, h0⟩ | ⟨g, cap, cur, hv, _, _, h1, h2, _⟩
  · injection hv with e1 e2 e3
    subst e1 e3 h0
    exact ⟨hl, Nat.le_refl _, Nat.zero_le _, hr, fun h => absurd h (by omega)⟩
  · injection hv with e1 e2 e3
    subst e1 e3
    refine ⟨hl, h1, h2, hr, fun _ => ⟨g, 0, rfl, fun i hi => ?_⟩⟩
    have := h.cells (g := g) rfl i (.int .i64 (l.getD i 0)) (by
      have hil : i < l.length := by rw [hl]; exact hi
      rw [List.getElem?_map, List.getElem?_eq_getElem hil]
      simp [List.getD, List.getElem?_eq_getElem hil])
    have hadd : (⟨g, 0, none⟩ : Addr).add i = ⟨g, 0 + i, none⟩ := by unfold Addr.add; split <;> simp_all
    rwa [hadd] at this

end Go.Proofs.Ytlchikllgmkokaa
