/- What it says: contracts and plain mathematics that the laws' walks use, 17 of 32: each part's own remark says what; no condition. -/
import Derived.Test.YtjllpihkjlblaaaGreatDoorPk1
import Derived.Test.YtjllpihkjlblaaaGreatDoorPk4
import Derived.Test.YtjllpihkjlblaaaGreatDoorPk7
import Derived.Test.YtjllpihkjlblaaaGreatDoorPk16
import Derived.MapKept
import Derived.Maps.OwnOps
import Derived.Test.YtjllpihkjlblaaaGreatDoorRows
import Derived.Deep.WholeRow
import Derived.BigQuiet
import Derived.Deep.QuietTactic
import Derived.Great.FillDense
import Derived.Laws.Tables
import Derived.Great.BuildSlice
import Derived.Deep.RegionHeld3
import Derived.Deep.MidRow
import Derived.Deep.AppendLies
import Derived.Deep.DrawnRows

set_option linter.unusedSimpArgs false
set_option linter.unusedVariables false
set_option linter.deprecated false
set_option linter.unusedSectionVars false
set_option linter.all false
namespace Go.Proofs.YtjllpihkjlblaaaGreatDoor

/- bodies in memory; sheet.join, sheet.cut. -/
section
open Go.RowKit
def slV (v : Option Addr × Nat × Nat) : List Value := [.slice v.1 v.2.1 v.2.2]
theorem slV_len (v : Option Addr × Nat × Nat) : (slV v).length = 1 := rfl
def sl0 : Option Addr × Nat × Nat := (none, 0, 0)
structure Bods (w : World) (A : Option Addr) (n c : Nat) (ls : List (List Int)) (vs : List (Option Addr × Nat × Nat)) : Prop where
  flt : Flt w A n c 1 (vs.flatMap slV)
  vl : vs.length = n
  len : ls.length = n
  each : ∀ i, i < n → Byt w (vs.getD i sl0).1 (vs.getD i sl0).2.1 (vs.getD i sl0).2.2 (ls.getD i [])
theorem Bods.below {w w' : World} {A : Option Addr} {n c : Nat} {ls : List (List Int)} {vs : List (Option Addr × Nat × Nat)} (h : Bods w A n c ls vs) (hb : Below w.heap.size w w') : Bods w' A n c ls vs :=
  ⟨h.flt.below hb, h.vl, h.len, fun i hi => (h.each i hi).below hb⟩
theorem Bods.at_ {w : World} {A : Option Addr} {n c : Nat} {ls : List (List Int)} {vs : List (Option Addr × Nat × Nat)} (h : Bods w A n c ls vs) (hn : 0 < n) :
    ∃ g off, A = some ⟨g, off, none⟩ ∧ ∀ i, i < n → w.cell? ⟨g, off + i, none⟩ = some (.slice (vs.getD i sl0).1 (vs.getD i sl0).2.1 (vs.getD i sl0).2.2) ∧ Byt w (vs.getD i sl0).1 (vs.getD i sl0).2.1 (vs.getD i sl0).2.2 (ls.getD i []) := by
  obtain ⟨g, off, e, hc⟩ := h.flt.at_get sl0 slV slV_len h.vl hn
  refine ⟨g, off, e, fun i hi => ⟨?_, h.each i hi⟩⟩
  have := hc i hi 0 _ rfl
  simpa using this
theorem Bods.nil (w : World) : Bods w none 0 0 [] [] := ⟨Flt.nil w 1, rfl, rfl, fun i hi => absurd hi (by omega)⟩
theorem Bods.isB {w : World} {A : Option Addr} {n c : Nat} {ls : List (List Int)} {vs : List (Option Addr × Nat × Nat)} (h : Bods w A n c ls vs) : ∀ b ∈ ls, isB b := by
  intro b hb
  obtain ⟨i, hi, rfl⟩ := List.getElem_of_mem hb
  have := (h.each i (by rw [← h.len]; exact hi)).rng
  have e : ls.getD i [] = ls[i] := by simp [List.getD, List.getElem?_eq_getElem hi]
  rw [e] at this
  exact this
def intV (x : Nat) : List Value := [.int .i64 (x : Int)]
theorem intV_len (x : Nat) : (intV x).length = 1 := rfl
theorem info_intJ : (Tryz.prog.info? 3).map (fun i => (i.zero, i.size, i.bytes)) = some (some (.int .i64 0), 1, 8) := by kernel_rfl
theorem info_slJ : (Tryz.prog.info? 88).map (fun i => (i.zero, i.size, i.bytes)) = some (some (.slice none 0 0), 1, 24) := by kernel_rfl
def RetJoin (ls : List (List Int)) (w : World) (e : Ending) (w' : World) : Prop :=
  (∃ b ∈ ls, 4096 < b.length) ∧ e = .returned (.tuple #[.slice none 0 0, .slice none 0 0, .int .i64 12]) ∧ Below w.heap.size w w' ∨
  (∀ b ∈ ls, b.length ≤ 4096) ∧ ∃ A n c A2 n2 c2, e = .returned (.tuple #[.slice A n c, .slice A2 n2 c2, .int .i64 0]) ∧ w'.ownsRow w.heap.size 5 1 (.slice A n c) n ((allL ls).map (Value.int .u8)) ∧ Flt w' A2 n2 c2 1 ((bgns ls).flatMap intV) ∧ n2 = ls.length ∧ Below w.heap.size w w'
structure JoinRel (w : World) (ls : List (List Int)) (i : Nat) (wr : World) (A : Option Addr) (n c : Nat) (A2 : Option Addr) (c2 : Nat) : Prop where
  all : wr.ownsRow w.heap.size 5 1 (.slice A n c) n ((allL (ls.take i)).map (Value.int .u8))
  bgs : wr.ownsRow w.heap.size 3 1 (.slice A2 i c2) i (((List.range i).map (bgn ls)).flatMap intV)
  bel : Below w.heap.size w wr
  ok : ∀ b ∈ ls.take i, b.length ≤ 4096
theorem sealL_le (b : List Int) (h : b.length ≤ 4096) : (sealL b).length ≤ 4110 := by
  rw [sealL_len]
  have := textL_len b (by omega)
  omega
theorem allL_le : ∀ (ls : List (List Int)), (∀ b ∈ ls, b.length ≤ 4096) → (allL ls).length ≤ 4110 * ls.length
  | [], _ => by simp [allL]
  | b :: r, h => by
    rw [allL_cons, List.length_append, List.length_cons]
    have := sealL_le b (h b (by simp))
    have := allL_le r (fun x hx => h x (by simp [hx]))
    omega
theorem JoinRel.step1 {w wr w2 w3 : World} {ls : List (List Int)} {i n c c2 : Nat} {A A2 A2' : Option Addr} {c2' : Nat} (h : JoinRel w ls i wr A n c A2 c2) (hi : i < ls.length) (hb : Below wr.heap.size wr w2)
    (k1 : w3.ownsRow w.heap.size 3 1 (.slice A2' (i + 1) c2') (i + 1) (((List.range i).map (bgn ls)).flatMap intV ++ (#[Value.int .i64 (n : Int)] : Array Value).toList)) (k2 : w2.grownBy w3 (Value.slice A2 i c2).ownBlock) :
    w3.ownsRow w.heap.size 5 1 (.slice A n c) n ((allL (ls.take i)).map (Value.int .u8)) ∧ w3.ownsRow w.heap.size 3 1 (.slice A2' (i + 1) c2') (i + 1) (((List.range (i + 1)).map (bgn ls)).flatMap intV) ∧ Below w.heap.size w w3 ∧ Below w.heap.size wr w3 := by
  have a2 := own_stay (w' := w2) h.all (fun q hq => hb.block q (h.all.lt q hq).2)
  have b2 := own_stay (w' := w2) h.bgs (fun q hq => hb.block q (h.bgs.lt q hq).2)
  have hn : bgn ls i = n := by unfold bgn; have := h.all.1; simpa using this
  have hbel : Below w.heap.size wr w3 := (hb.mono h.bel.size).grown k2 (Nat.le_trans h.bel.size hb.size) (fun q hq => (b2.lt q hq).1)
  refine ⟨own_apart b2 a2 (by decide) k2, ?_, h.bel.trans hbel, hbel⟩
  rw [List.range_succ, List.map_append, List.flatMap_append]
  simpa [intV, hn] using k1
theorem JoinRel.step2 {w wr w4 : World} {ls : List (List Int)} {i n c n' c' c2 : Nat} {A A' A2 : Option Addr} {b : List Int} (h1 : wr.ownsRow w.heap.size 5 1 (.slice A n c) n ((allL (ls.take i)).map (Value.int .u8)))
    (h2 : wr.ownsRow w.heap.size 3 1 (.slice A2 (i + 1) c2) (i + 1) (((List.range (i + 1)).map (bgn ls)).flatMap intV)) (h3 : Below w.heap.size w wr) (hok : ∀ b ∈ ls.take i, b.length ≤ 4096) (hi : i < ls.length) (hb : ls.getD i [] = b) (hbl : b.length ≤ 4096)
    (k1 : w4.ownsRow w.heap.size 5 1 (.slice A' n' c') n' ((allL (ls.take i) ++ sealL b).map (Value.int .u8))) (k2 : wr.grownBy w4 (Value.slice A n c).ownBlock) : JoinRel w ls (i + 1) w4 A' n' c' A2 c2 := by
  have e : ls.take (i + 1) = ls.take i ++ [b] := by rw [take_succ_getD ls [] i hi, hb]
  refine ⟨?_, own_apart h1 h2 (by decide) k2, h3.grown k2 h3.size (fun q hq => (h1.lt q hq).1), ?_⟩
  · rw [e, allL_app]
    simpa [allL] using k1
  · rw [e]
    intro x hx
    rcases List.mem_append.1 hx with q | q
    · exact hok x q
    · simp at q; subst q; exact hbl
set_option maxRecDepth 100000 in
set_option maxHeartbeats 4000000 in
theorem join_any (A : Option Addr) (n c : Nat) (ls : List (List Int)) (vs : List (Option Addr × Nat × Nat)) (w : World) (h : Bods w A n c ls vs) (hn : n ≤ 1000) (hT : Tab w) : Calls Tryz.prog 99 #[.slice A n c] w (RetJoin ls w) := by
  obtain ⟨i0, hi, hz0, hz1, hz2⟩ := info_parts info_u8
  obtain ⟨j0, hj0, hy0, hy1, hy2⟩ := info_parts info_intJ
  have hcap := h.flt.cap
  have hmax := h.flt.max
  unfold maxLen at hmax
  have R0 : Hid (JoinRel w ls 0 w none 0 0 none 0) := Lib.hid ⟨by simpa [allL] using World.ownsRow_nil w w.heap.size 5 1, by simpa using World.ownsRow_nil w w.heap.size 3 1, Below.refl _ _, by simp⟩
  have HT := Lib.hid hT
  have HB := Lib.hid h
  have hlen := h.len
  clear h hT
  go_enter Tryz.func99, Tryz.ntmps99
  go_wp2_with fail
  go_loopw [5, 6, 13] (fun y z q wr => ∃ (i : Nat) (A1 : Option Addr) (n1 c1 : Nat) (A2 : Option Addr) (c2 : Nat), i ≤ n ∧ y = .slice A1 n1 c1 ∧ z = .slice A2 i c2 ∧ q = .int .i64 i ∧ JoinRel w ls i wr A1 n1 c1 A2 c2) (fun _ _ q _ => n - (intOf q).toNat)
  case atStart => exact ⟨0, none, 0, 0, none, 0, Nat.zero_le _, rfl, rfl, rfl, R0.out⟩
  case round =>
    obtain ⟨i, A1, n1, c1, A2, c2, hin, rfl, rfl, rfl, R⟩ := hrel
    have HR := Lib.hid R
    clear R R0
    by_cases hlt : i < n
    · obtain ⟨g, off, hA, hc⟩ := (HB.out.below HR.out.bel).at_ (by omega)
      subst hA
      obtain ⟨hc0, hby⟩ := hc i hlt
      obtain ⟨B, m, d, hv⟩ : ∃ B m d, vs.getD i sl0 = (B, m, d) := ⟨_, _, _, rfl⟩
      rw [hv] at hc0 hby
      obtain ⟨b, hb⟩ : ∃ b, ls.getD i [] = b := ⟨_, rfl⟩
      rw [hb] at hby
      have CS := Lib.hid (seal_any B m d b wr hby (HT.out.ret HR.out.bel))
      have hil : i < ls.length := by rw [hlen]; exact hlt
      have hbl : b.length = m := hby.len
      have hbmem : b ∈ ls := by rw [← hb]; have e : ls.getD i [] = ls[i] := by simp [List.getD, List.getElem?_eq_getElem hil]
                                rw [e]; exact List.getElem_mem hil
      have hn1 : (allL (ls.take i)).length = n1 := by have := HR.out.all.1; simpa using this
      have hn1' := allL_le _ HR.out.ok
      rw [hn1, List.length_take] at hn1'
      have HBB := Lib.hid hb
      clear hc hv hby hb hn1
      go_wp2_with fail
      refine CS.out.mono ?_
      intro e w2 hp
      unfold SealPost at hp
      by_cases hlong : 4096 < b.length
      · rw [if_pos hlong] at hp
        obtain ⟨A3, n3, c3, rfl, _, _, b2⟩ := hp
        have RR : Hid (RetJoin ls w (.returned (.tuple #[.slice none 0 0, .slice none 0 0, .int .i64 12])) w2) := Lib.hid (.inl ⟨⟨b, hbmem, hlong⟩, rfl, HR.out.bel.trans (b2.mono HR.out.bel.size)⟩)
        clear b2 CS HR HB
        go_wp2_with fail
        go_ret3
        exact RR.out
      · rw [if_neg hlong] at hp
        obtain ⟨A3, n3, c3, rfl, ho3, hr3, b2⟩ := hp
        have hb3 := Bty.of_own ho3 hr3
        have hn3 : n3 ≤ 4110 := by have := hb3.byt.len; have := sealL_le b (by omega); omega
        have H3 := Lib.hid hb3
        have B2 := Lib.hid b2
        have O2 : Hid (∀ o, (w2.alloc o).ownsRow w.heap.size 3 1 (.slice A2 i c2) i (((List.range i).map (bgn ls)).flatMap intV)) := Lib.hid (fun o => own_stay HR.out.bgs (fun q hq => ((Below.then b2 ((Below.refl w2.heap.size w2).alloc (Nat.le_refl _) o))).block q (HR.out.bgs.lt q hq).2))
        have BS : Hid (∀ o, w.heap.size ≤ (w2.alloc o).heap.size) := Lib.hid (fun o => Nat.le_trans (Nat.le_trans HR.out.bel.size b2.size) (by simp))
        have S1 := Lib.hid (fun (A2' : Option Addr) (c2' : Nat) (w3 : World) (o : Obj) k1 k2 => HR.out.step1 (w2 := w2.alloc o) (A2' := A2') (c2' := c2') (w3 := w3) hil (Below.then b2 ((Below.refl w2.heap.size w2).alloc (Nat.le_refl _) o)) k1 k2)
        clear hb3 ho3 hr3 b2 CS
        go_wp2_with (at_builtin; refine wpList_append_1 rfl _ _ 33 rfl w.heap.size 3 j0 _ 1 8 Tryz.underlying33 hj0 hy0 hy1 hy2 (by rfl) (by omega) (by rfl) (O2.out _) (g := w2.heap.size) (cs := #[.int .i64 (n1 : Int)]) (by rfl) (Bk.new _ _ _) (by rfl) (by intro u hu; simp at hu; subst hu; rfl) (by omega) (by omega) (BS.out _) ?_)
        intro A4 c4 w3 k1 k2 _
        obtain ⟨a3, b3, bel3, bel3'⟩ := S1.out A4 c4 w3 _ k1 k2
        have H4 := ((H3.out.below ((Below.refl w2.heap.size w2).alloc (Nat.le_refl _) _)).apart (O2.out _) (by decide) k2).byt
        have S2 := Lib.hid (fun (A' : Option Addr) (n' c' : Nat) (w4 : World) q1 q2 => JoinRel.step2 (w4 := w4) (A' := A') (n' := n') (c' := c') a3 b3 bel3 HR.out.ok hil HBB.out (by omega) q1 q2)
        have HA3 := Lib.hid a3
        have HBS := bel3.size
        clear k1 k2 a3 b3 bel3 bel3' S1 O2 BS B2 H3
        go_wp2_with (at_builtin; refine wpList_append_byt rfl _ _ 88 rfl w.heap.size 5 i0 Tryz.underlying88 hi hz0 hz1 hz2 _ n1 (allL (ls.take i)) rfl (by exact HA3.out) A3 n3 c3 (sealL b) rfl H4 (by omega) HBS ?_)
        intro A5 c5 w5 k1 k2
        have NR := Lib.hid (S2.out A5 (n1 + n3) c5 w5 (by rw [List.map_append]; exact k1) k2)
        clear k1 k2 S2 HA3 H4 HR HB
        go_wp2_with fail
        go_roundw
        case rel => exact ⟨i + 1, A5, n1 + n3, c5, A4, c4, by omega, by go_num, by go_num, by go_num, NR.out⟩
        case measure => simp [intOf]; omega
    · have hie : i = n := by omega
      subst hie
      have e1 : ls.take i = ls := List.take_of_length_le (by omega)
      have RR : Hid (RetJoin ls w (.returned (.tuple #[.slice A1 n1 c1, .slice A2 i c2, .int .i64 0])) wr) := Lib.hid (.inr ⟨by have := HR.out.ok; rwa [e1] at this, A1, n1, c1, A2, i, c2, rfl, by have := HR.out.all; rwa [e1] at this, by have := HR.out.bgs; rw [← hlen] at this ⊢; exact Flt.of_own this, hlen.symm, HR.out.bel⟩)
      clear HR HB
      go_wp2_with fail
      go_ret3
      exact RR.out
end

/- a map keyed by ints: what it holds at each key; a look-up, a store, a copy. No program is named; no condition. -/
section
open Go.RowKit Go.MapKept
open Classical in
/-- The first entry at a key. -/
noncomputable def look : List MapEntry → Value → Option Value
  | [], _ => none
  | e :: r, k => if e.key = k then some e.val else look r k
open Classical in
theorem look_append {k : Value} {e : MapEntry} : ∀ {l : List MapEntry}, look (l ++ [e]) k = (look l k).or (if e.key = k then some e.val else none)
  | [] => by simp [look]
  | x :: r => by
    rw [List.cons_append, look, look]
    split
    · rfl
    · exact look_append
open Classical in
theorem findNow_look {d : TypeDesc} {k : Value} (hk : IsKey d k) : ∀ (l : List MapEntry) (i : Nat), (∀ x ∈ l, IsKey d x.key) →
    (Instr.findNow d k l i = some none ∧ look l k = none ∧ ∀ x ∈ l, x.key ≠ k) ∨
    ∃ j e, Instr.findNow d k l i = some (some (i + j, e.val)) ∧ l[j]? = some e ∧ e.key = k ∧ look l k = some e.val ∧
      ∀ v k', look (l.modify j fun e => { e with key := k, val := v }) k' = if k' = k then some v else look l k'
  | [], _, _ => .inl ⟨rfl, rfl, by simp⟩
  | e :: es, i, h => by
    obtain ⟨r, hr, hiff⟩ := sameNow_of_keys hk (h e (.head _))
    cases r with
    | true =>
      have he : e.key = k := (hiff.1 rfl).symm
      refine .inr ⟨0, e, by simp [Instr.findNow, hr], rfl, he, by rw [look, if_pos he], fun v k' => ?_⟩
      show look ({ e with key := k, val := v } :: es) k' = _
      rw [look]
      by_cases hq : k' = k
      · subst hq
        rw [if_pos rfl, if_pos rfl]
      · rw [if_neg (fun q => hq q.symm), if_neg hq, look, if_neg (fun q => hq (q.symm.trans he))]
    | false =>
      have hne : e.key ≠ k := fun q => by have := hiff.2 q.symm; cases this
      rcases findNow_look hk es (i + 1) (fun x hx => h x (.tail _ hx)) with ⟨h1, h2, h3⟩ | ⟨j, e', h1, h2, h3, h4, h5⟩
      · refine .inl ⟨by simp [Instr.findNow, hr, h1], by rw [look, if_neg hne, h2], fun x hx => ?_⟩
        cases hx with
        | head => exact hne
        | tail _ hx => exact h3 x hx
      · refine .inr ⟨j + 1, e', by simp [Instr.findNow, hr, h1]; omega, by simpa using h2, h3, by rw [look, if_neg hne, h4], fun v k' => ?_⟩
        rw [List.modify_succ_cons, look, h5, look]
        by_cases hq : k' = k
        · subst hq
          rw [if_pos rfl, if_neg hne, if_pos rfl]
        · rw [if_neg hq, if_neg hq]
def MapFn (w : World) (mb : Nat) (z : Value) (g : Nat → Value) : Prop :=
  ∃ es clock, w.heap[mb]? = some (.map es clock) ∧ (∀ x ∈ es.toList, IsKey (.int .i64) x.key) ∧ ∀ n : Nat, (look es.toList (.int .i64 n)).getD z = g n
section
variable {w w' : World} {mb : Nat} {z : Value} {g : Nat → Value}
theorem MapFn.lt (h : MapFn w mb z g) : mb < w.heap.size := by
  obtain ⟨es, cl, hb, _⟩ := h
  exact (Array.getElem?_eq_some_iff.1 hb).1
theorem MapFn.eq (h : MapFn w mb z g) (hk : w'.heap[mb]? = w.heap[mb]?) : MapFn w' mb z g := by
  obtain ⟨es, cl, hb, r⟩ := h
  exact ⟨es, cl, hk.trans hb, r⟩
theorem MapFn.new (w : World) (z : Value) : MapFn (w.alloc (.map #[] 0)) w.heap.size z (fun _ => z) :=
  ⟨#[], 0, (heap_alloc w _).1, by simp, fun _ => rfl⟩
theorem MapFn.not_bk {t : TypeId} {cs : Array Value} {b : Nat} (h : MapFn w mb z g) (hb : Bk w b t cs) : mb ≠ b := by
  rintro rfl
  obtain ⟨es, cl, h1, _⟩ := h
  unfold Bk at hb
  rw [hb] at h1
  simp at h1
theorem MapFn.not_row {e : TypeId} {base size n : Nat} {v : Value} {xs : List Value} (h : MapFn w mb z g) (ho : w.ownsRow base e size v n xs) : v.ownBlock ≠ some mb := by
  obtain ⟨es, cl, h1, _⟩ := h
  rcases ho.2 with ⟨rfl, _⟩ | ⟨g, cap, cur, rfl, _, hg, _⟩
  · simp [Value.ownBlock]
  · intro q
    simp [Value.ownBlock] at q
    subst q
    rw [hg] at h1
    simp at h1
theorem isKey_nat (n : Nat) : IsKey (.int .i64) (.int .i64 (n : Int)) := rfl
variable {P : Program} {t kt et : TypeId}
theorem MapFn.run_lookup (h : MapFn w mb z g) (ht : P.underlying t = some (.map kt et)) (hk : P.underlying kt = some (.int .i64)) (hz : (zeroValue et).run P w = .ok z w) (n : Nat) :
    (Instr.lookup t (.map (some mb)) (.int .i64 n) false).run P w = .ok (g n) w := by
  obtain ⟨es, cl, hb, hks, hg⟩ := h
  have hgn := hg n
  unfold Instr.lookup
  rcases findNow_look (isKey_nat n) es.toList 0 hks with ⟨h1, h2, _⟩ | ⟨j, e, h1, _, _, h4, _⟩
  · rw [h2] at hgn
    simp [run_underlying ht, MapKept.run_getObj_map hb, run_checkKey hk (isKey_nat n), run_findKey hk h1, hz, Result.andThen]
    exact hgn
  · rw [h4] at hgn
    simp [run_underlying ht, MapKept.run_getObj_map hb, run_checkKey hk (isKey_nat n), run_findKey hk h1, Result.andThen]
    exact hgn
theorem setObj_fr (w : World) (mb : Nat) (o : Obj) : Fr (fun k => k = mb) w { w with heap := w.heap.setIfInBounds mb o } :=
  ⟨rfl, rfl, rfl, by simp, fun k hk hn => by simp [Ne.symm hn]⟩
theorem MapFn.run_update (h : MapFn w mb z g) (ht : P.underlying t = some (.map kt et)) (hk : P.underlying kt = some (.int .i64)) (n : Nat) (v : Value) :
    ∃ w', (Instr.mapUpdate t (.map (some mb)) (.int .i64 n) v).run P w = .ok () w' ∧ MapFn w' mb z (fun m => if m = n then v else g m) ∧ Fr (fun k => k = mb) w w' := by
  obtain ⟨es, cl, hb, hks, hg⟩ := h
  rcases findNow_look (isKey_nat n) es.toList 0 hks with ⟨h1, h2, h3⟩ | ⟨j, e, h1, h2, h3, h4, h5⟩
  · refine ⟨{ w with heap := w.heap.setIfInBounds mb (.map (es.push { key := .int .i64 n, val := v, born := cl }) (cl + 1)) }, ?_, ⟨_, _, (heap_set hb).1, ?_, fun m => ?_⟩, setObj_fr _ _ _⟩
    · simp [Instr.mapUpdate, run_underlying ht, MapKept.run_getObj_map hb, run_checkKey hk (isKey_nat n), run_findKey hk h1, MapKept.run_setObj_map _ hb, Result.andThen]
    · intro x hx
      simp only [Array.toList_push, List.mem_append, List.mem_singleton] at hx
      rcases hx with hx | rfl
      · exact hks x hx
      · exact isKey_nat n
    · rw [Array.toList_push, look_append]
      by_cases hm : m = n
      · subst hm
        rw [h2]
        simp
      · have hne : ¬ ((Value.int .i64 n) = .int .i64 m) := by
          intro q
          injection q with _ q
          omega
        rw [if_neg hne, Option.or_none]
        show _ = if m = n then v else g m
        rw [if_neg hm]
        exact hg m
  · have hj : es[j]? = some e := by simpa using h2
    refine ⟨{ w with heap := w.heap.setIfInBounds mb (.map (es.modify j fun e => { e with key := .int .i64 n, val := v }) cl) }, ?_, ⟨_, _, (heap_set hb).1, ?_, fun m => ?_⟩, setObj_fr _ _ _⟩
    · simp [Instr.mapUpdate, run_underlying ht, MapKept.run_getObj_map hb, run_checkKey hk (isKey_nat n), run_findKey hk h1, hj, h3, run_keyThatStays (isKey_nat n), MapKept.run_setObj_map _ hb, Result.andThen]
    · exact isKey_modify hks _ _ (fun e' he' => by rw [hj] at he'; cases he'; exact h3.symm)
    · rw [Array.toList_modify, h5]
      by_cases hm : m = n
      · subst hm
        simp
      · have hne : ¬ ((Value.int .i64 m) = .int .i64 n) := by
          intro q
          injection q with _ q
          omega
        rw [if_neg hne]
        show _ = if m = n then v else g m
        rw [if_neg hm]
        exact hg m
end
section
variable {P : Program} {w : World} {ops : Array Oper} {rest : List Oper} {o : Oper} {a : Act} {Q : Exit → Act → World → Prop} {t kt et : TypeId}
theorem wpList_lookup_fn (hgd : o.guard = none) (m x : Operand) (hop : o.op = Op.lookup t m x false) (ht : P.underlying t = some (.map kt et)) (hk : P.underlying kt = some (.int .i64))
    (mb : Nat) (z : Value) (g : Nat → Value) (hz : (zeroValue et).run P w = .ok z w) (hM : MapFn w mb z g) (hm : a.eval m = .map (some mb)) (n : Nat) (hx : a.eval x = .int .i64 n)
    (h : wpList P ops Q rest (a.put o.dst (g n)) w) : wpList P ops Q (o :: rest) a w := by
  refine wpList_plain hgd fun K' hK' => ?_
  have hrun := hM.run_lookup ht hk hz n
  unfold Oper.wp
  simp [execOp, hop, hm, hx, hrun, Result.andThen]
  exact hK' _ _ h
theorem wpList_update_fn (hgd : o.guard = none) (m x v : Operand) (hop : o.op = Op.mapUpdate t m x v) (ht : P.underlying t = some (.map kt et)) (hk : P.underlying kt = some (.int .i64))
    (mb : Nat) (z : Value) (g : Nat → Value) (hM : MapFn w mb z g) (hm : a.eval m = .map (some mb)) (n : Nat) (hx : a.eval x = .int .i64 n) (val : Value) (hv : a.eval v = val)
    (h : ∀ w', MapFn w' mb z (fun m => if m = n then val else g m) → Fr (fun k => k = mb) w w' → wpList P ops Q rest (a.put o.dst undef) w') : wpList P ops Q (o :: rest) a w := by
  refine wpList_plain hgd fun K' hK' => ?_
  obtain ⟨w', hrun, h1, h2⟩ := hM.run_update ht hk n val
  unfold Oper.wp
  simp [execOp, hop, hm, hx, hv, hrun, Result.andThen]
  exact hK' _ _ (h w' h1 h2)
end
end

/- a disk in memory: its block, its map of sectors, its list of writes; find, step and the methods that tell or lay a number. -/
section
open Go.RowKit
def byC (l : List Int) : List Value := l.map (Value.int .u8)
def secV (l : List Int) : Value := .agg (byC l).toArray
theorem byC_len (l : List Int) : (byC l).length = l.length := by simp [byC]
theorem byC_one (l : List Int) : ∀ v ∈ byC l, v.oneCell' = true := u8_one l
def wrC (p : Nat × List Int) : List Value := .int .i64 p.1 :: byC p.2
theorem wrC_len {p : Nat × List Int} (h : Sec p.2) : (wrC p).length = 257 := by simp [wrC, byC_len, h.1]
def pdC (l : List (Nat × List Int)) : List Value := l.flatMap wrC
theorem info_sec : (Tryz.prog.info? 81).map (fun i => (i.zero, i.size)) = some (some (secV zeros), 256) := by kernel_rfl
theorem zero_sec (w : World) : (zeroValue 81).run Tryz.prog w = .ok (secV zeros) w := (zero_of_info info_sec).1 w
theorem size_sec : (Tryz.prog.info? 81).map (·.size) = some 256 := (zero_of_info info_sec).2
theorem info_wr : (Tryz.prog.info? 87).map (fun i => (i.zero, i.size, i.bytes)) = some (some (.agg (wrC (0, zeros)).toArray), 257, 264) := by kernel_rfl
structure DskB (w : World) (F : Nat → Prop) (b mb : Nat) (A : Option Addr) (c : Nat) (s : St) : Prop where
  blk : Bk w b 84 #[.int .i64 s.num, .map (some mb), .slice A s.pend.length c, .int .i64 s.left, .bool s.gone, .int .i64 s.syncs]
  map : MapFn w mb (secV zeros) (fun n => secV (s.syn n))
  row : w.ownsRow 0 87 257 (.slice A s.pend.length c) s.pend.length (pdC s.pend)
  fb : F b
  fm : F mb
  fp : ∀ k, (Value.slice A s.pend.length c).ownBlock = some k → F k
  lt : ∀ k, F k → k < w.heap.size
  ok : s.Ok
  lim : s.pend.length < 1000000 ∧ s.syncs < 1000000
section
variable {w w' : World} {F G : Nat → Prop} {b mb : Nat} {A : Option Addr} {c : Nat} {s : St}
theorem DskB.keep (h : DskB w F b mb A c s) (hs : w.heap.size ≤ w'.heap.size) (hk : ∀ k, F k → w'.heap[k]? = w.heap[k]?) : DskB w' F b mb A c s :=
  ⟨h.blk.eq (hk b h.fb), h.map.eq (hk mb h.fm), owns_keep h.row (fun k hk' => hk k (h.fp k hk')), h.fb, h.fm, h.fp, fun k f => Nat.lt_of_lt_of_le (h.lt k f) hs, h.ok, h.lim⟩
theorem DskB.mono (h : DskB w F b mb A c s) (hF : ∀ k, F k → G k) (hG : ∀ k, G k → k < w.heap.size) : DskB w G b mb A c s :=
  ⟨h.blk, h.map, h.row, hF b h.fb, hF mb h.fm, fun k hk => hF k (h.fp k hk), hG, h.ok, h.lim⟩
theorem DskB.below (h : DskB w F b mb A c s) (hb : Below w.heap.size w w') : DskB w' F b mb A c s := h.keep hb.size (fun k f => hb.block k (h.lt k f))
end
def dsk (b : Nat) (s : St) : Res where
  is w F := ∃ mb A c, DskB w F b mb A c s
  lt _ _ := fun ⟨_, _, _, h⟩ => h.lt
  keep _ _ _ := fun ⟨mb, A, c, h⟩ hs hk => ⟨mb, A, c, h.keep hs hk⟩
section
variable {w w' : World} {F : Nat → Prop} {b mb : Nat} {A : Option Addr} {c : Nat} {s : St}
theorem DskB.turn {s' : St} {mb' : Nat} {A' : Option Addr} {c' : Nat} (h : DskB w' (grow F w w') b mb' A' c' s') (hf : Fr F w w') : Turn (dsk b s') F w w' := ⟨⟨mb', A', c', h⟩, hf⟩
theorem DskB.set {cs : Array Value} {s' : St} (h : DskB w F b mb A c s) (hb : Bk w' b 84 #[.int .i64 s'.num, .map (some mb), .slice A s'.pend.length c, .int .i64 s'.left, .bool s'.gone, .int .i64 s'.syncs])
    (hf : Fr (fun k => k = b) w w') (h1 : s'.syn = s.syn) (h2 : s'.pend = s.pend) (h3 : s'.Ok) (h4 : s'.syncs < 1000000) : DskB w' F b mb A c s' := by
  have hne : mb ≠ b := h.map.not_bk h.blk
  have hpe : ∀ k, (Value.slice A s.pend.length c).ownBlock = some k → k ≠ b := by
    rintro k hk rfl
    rcases h.row.2 with ⟨q, _⟩ | ⟨g, cap, cur, q, _, hg, _⟩
    · rw [q] at hk; simp [Value.ownBlock] at hk
    · rw [q] at hk
      simp [Value.ownBlock] at hk
      subst hk
      have := h.blk
      unfold Bk at this
      rw [this] at hg
      simp at hg
  refine ⟨hb, ?_, ?_, h.fb, h.fm, ?_, fun k f => Nat.lt_of_lt_of_le (h.lt k f) hf.size, h3, by rw [h2]; exact ⟨h.lim.1, h4⟩⟩
  · rw [h1]
    exact h.map.eq (hf.block mb h.map.lt hne)
  · rw [h2]
    exact owns_keep h.row (fun k hk => hf.block k (h.lt k (h.fp k hk)) (hpe k hk))
  · rw [h2]
    exact h.fp
end
def RetStep (F : Nat → Prop) (b mb : Nat) (A : Option Addr) (c : Nat) (s : St) (w : World) (e : Ending) (w' : World) : Prop :=
  e = .returned (.int .i64 (if s.can then 0 else 40)) ∧ DskB w' F b mb A c s.step ∧ Fr (fun k => k = b) w w'
set_option maxHeartbeats 1000000 in
theorem step_any {w : World} {F : Nat → Prop} {b mb : Nat} {A : Option Addr} {c : Nat} {s : St} (h : DskB w F b mb A c s) :
    Calls Tryz.prog 138 #[.pointer (some ⟨b, 0, none⟩)] w (RetStep F b mb A c s w) := by
  obtain ⟨num, syn, pend, left, gone, syncs⟩ := s
  have hl := h.ok.left
  have hb := h.blk
  have c3 : w.cell? ⟨b, 3, none⟩ = some (.int .i64 left) := hb.cell 3
  have c4 : w.cell? ⟨b, 4, none⟩ = some (.bool gone) := hb.cell 4
  have f3 : w.frozen? ⟨b, 3, none⟩ = false := hb.frz 3
  have f4 : w.frozen? ⟨b, 4, none⟩ = false := hb.frz 4
  simp only at hl
  have E : ∀ w' s', s' = (St.mk num syn pend left gone syncs).step → Bk w' b 84 #[.int .i64 s'.num, .map (some mb), .slice A s'.pend.length c, .int .i64 s'.left, .bool s'.gone, .int .i64 s'.syncs] → Fr (fun k => k = b) w w' →
      DskB w' F b mb A c (St.mk num syn pend left gone syncs).step ∧ Fr (fun k => k = b) w w' := by
    intro w' s' e hb' hf
    subst e
    exact ⟨h.set (cs := #[]) hb' hf (St.step_syn _) (St.step_pend _) h.ok.step (by rw [St.step_syncs]; exact h.lim.2), hf⟩
  have E := Lib.hid E
  have HB := Lib.hid hb
  clear h hb
  cases gone with
  | true =>
    by_cases h0 : left = 0
    · subst h0
      have R : Hid (RetStep F b mb A c ⟨num, syn, pend, 0, true, syncs⟩ w (.returned (.int .i64 40)) (w.setCell ⟨b, 4, none⟩ (.bool true))) :=
        Lib.hid ⟨rfl, E.out _ _ rfl (by have := HB.out.setc 4 (.bool true); simpa [St.step] using this) (Fr.cell1 _ _ _ _)⟩
      clear E HB
      go_enter Tryz.func138, Tryz.ntmps138
      go_wp2_with fail
      go_ret
      exact R.out
    · have R : Hid (RetStep F b mb A c ⟨num, syn, pend, left, true, syncs⟩ w (.returned (.int .i64 40)) w) :=
        Lib.hid ⟨rfl, E.out _ _ rfl (by simpa [St.step] using HB.out) (Fr.refl _ _)⟩
      have hd : (left == 0) = false := by simpa using h0
      clear E HB
      go_enter Tryz.func138, Tryz.ntmps138
      go_wp2_with fail
      go_ret
      exact R.out
  | false =>
    by_cases h0 : left = 0
    · subst h0
      have R : Hid (RetStep F b mb A c ⟨num, syn, pend, 0, false, syncs⟩ w (.returned (.int .i64 40)) (w.setCell ⟨b, 4, none⟩ (.bool true))) :=
        Lib.hid ⟨rfl, E.out _ _ rfl (by have := HB.out.setc 4 (.bool true); simpa [St.step] using this) (Fr.cell1 _ _ _ _)⟩
      clear E HB
      go_enter Tryz.func138, Tryz.ntmps138
      go_wp2_with fail
      go_ret
      exact R.out
    · have hd : (left == 0) = false := by simpa using h0
      by_cases h1 : left = -1
      · subst h1
        have R : Hid (RetStep F b mb A c ⟨num, syn, pend, -1, false, syncs⟩ w (.returned (.int .i64 0)) w) :=
          Lib.hid ⟨rfl, E.out _ _ rfl (by simpa [St.step] using HB.out) (Fr.refl _ _)⟩
        clear E HB
        go_enter Tryz.func138, Tryz.ntmps138
        go_wp2_with fail
        go_ret
        exact R.out
      · have hd1 : (left != -1) = true := by simpa using h1
        have hp : 0 < left := by omega
        have R : Hid (RetStep F b mb A c ⟨num, syn, pend, left, false, syncs⟩ w (.returned (.int .i64 0)) (w.setCell ⟨b, 3, none⟩ (.int .i64 (left - 1)))) :=
          Lib.hid ⟨by simp [St.can, hd], E.out _ _ rfl (by have := HB.out.setc 3 (.int .i64 (left - 1)); simpa [St.step, h0, hp] using this) (Fr.cell1 _ _ _ _)⟩
        clear E HB
        go_enter Tryz.func138, Tryz.ntmps138
        go_wp2_with fail
        go_ret
        exact R.out
end

/- what Down, Pending, Syncs, Sectors and find answer; what Fuse lays; a nil disk's. -/
section
open Go.RowKit
def Same (v : Value) (w : World) (e : Ending) (w' : World) : Prop := e = .returned v ∧ w = w'
section
variable {w : World} {F : Nat → Prop} {b mb : Nat} {A : Option Addr} {c : Nat} {s : St}
theorem sectors_any (h : DskB w F b mb A c s) : Calls Tryz.prog 84 #[.pointer (some ⟨b, 0, none⟩)] w (Same (.int .i64 s.num) w) := by
  have c2 : w.cell? ⟨b, 0, none⟩ = some (.int .i64 s.num) := h.blk.cell 0
  clear h
  go_enter Tryz.func84, Tryz.ntmps84
  go_wp2_with fail
  go_ret
  exact ⟨rfl, rfl⟩
theorem find_bad (h : DskB w F b mb A c s) (n : Int) (hn : n < 0 ∨ (s.num : Int) ≤ n) : Calls Tryz.prog 108 #[.pointer (some ⟨b, 0, none⟩), .int .i64 n] w (Same (.int .i64 1) w) := by
  have c2 : w.cell? ⟨b, 0, none⟩ = some (.int .i64 s.num) := h.blk.cell 0
  clear h
  by_cases h0 : n < 0
  · go_enter Tryz.func108, Tryz.ntmps108
    go_wp2_with fail
    go_ret
    exact ⟨rfl, rfl⟩
  · have h1 : (s.num : Int) ≤ n := by omega
    clear hn
    go_enter Tryz.func108, Tryz.ntmps108
    go_wp2_with fail
    go_ret
    exact ⟨rfl, rfl⟩
theorem find_ok (h : DskB w F b mb A c s) (n : Nat) (hn : n < s.num) : Calls Tryz.prog 108 #[.pointer (some ⟨b, 0, none⟩), .int .i64 n] w (Same (.int .i64 0) w) := by
  have c2 : w.cell? ⟨b, 0, none⟩ = some (.int .i64 s.num) := h.blk.cell 0
  clear h
  go_enter Tryz.func108, Tryz.ntmps108
  go_wp2_with fail
  go_ret
  exact ⟨rfl, rfl⟩
def RetFuse (F : Nat → Prop) (b : Nat) (s' : St) (w : World) (e : Ending) (w' : World) : Prop := e = .returned (.tuple #[]) ∧ Turn (dsk b s') F w w'
set_option maxHeartbeats 1000000 in
theorem fuse_any (h : DskB w F b mb A c s) (n : Int) (hn : -9223372036854775808 ≤ n ∧ n ≤ 9223372036854775807) :
    Calls Tryz.prog 20 #[.pointer (some ⟨b, 0, none⟩), .int .i64 n] w (RetFuse F b (s.fuse n) w) := by
  have c3 : w.cell? ⟨b, 3, none⟩ = some (.int .i64 s.left) := h.blk.cell 3
  have f3 : w.frozen? ⟨b, 3, none⟩ = false := h.blk.frz 3
  have R : Hid (RetFuse F b (s.fuse n) w (.returned (.tuple #[])) (w.setCell ⟨b, 3, none⟩ (.int .i64 (max n (-1))))) := by
    have hb : Bk (w.setCell ⟨b, 3, none⟩ (.int .i64 (max n (-1)))) b 84 #[.int .i64 (s.fuse n).num, .map (some mb), .slice A (s.fuse n).pend.length c, .int .i64 (s.fuse n).left, .bool (s.fuse n).gone, .int .i64 (s.fuse n).syncs] := by
      have := h.blk.setc 3 (.int .i64 (max n (-1)))
      simpa [St.fuse] using this
    have hf := Fr.cell1 w b 3 (.int .i64 (max n (-1)))
    have := h.set (cs := #[]) hb hf rfl rfl (h.ok.fuse hn.2) h.lim.2
    exact Lib.hid ⟨rfl, (this.mono (fun k f => .inl f) (fun k f => by
      rcases f with f | f
      · exact this.lt k f
      · exact f.2)).turn (hf.mono (fun k e => e ▸ h.fb))⟩
  clear h
  by_cases h1 : n < -1
  · rw [show max n (-1) = -1 from by omega] at R
    go_enter Tryz.func20, Tryz.ntmps20
    go_wp2_with fail
    all_goals first | omega | skip
    go_end0
    first
      | exact R.out
      | (rw [show max n (-1) = -1 from by omega]; exact R.out)
  · rw [show max n (-1) = n from by omega] at R
    go_enter Tryz.func20, Tryz.ntmps20
    go_wp2_with fail
    all_goals first | omega | skip
    go_end0
    first
      | exact R.out
      | (rw [show max n (-1) = n from by omega]; exact R.out)
end
section
variable (w : World)
end
end

/- a write as a value: built of its number and its sector; a new block of one write; a slice of 256 bytes as a sector. -/
section
open Go.RowKit
theorem one_set (z : Array Value) (x : Value) (hx : x.oneCell' = true) (hz : 0 < z.size) : (x.cells.zipIdx.foldl (fun cs (y : Value × Nat) => cs.setIfInBounds (0 + y.2) y.1) z) = z.setIfInBounds 0 x := by
  have : x.cells = #[x] := by
    cases x <;> simp_all [Value.cells, Value.oneCell']
  rw [this]
  rfl
theorem arr_eq {a : Array Value} {l : List Value} (hs : a.size = l.length) (h : ∀ k, k < l.length → a[k]? = l[k]?) : a = l.toArray := by
  apply Array.ext_getElem?
  intro k
  by_cases hk : k < l.length
  · rw [h k hk]; simp
  · rw [Array.getElem?_eq_none (by omega), Array.getElem?_eq_none (by simp; omega)]
theorem wr_fill (z : Array Value) (hz : z.size = 257) (n : Nat) (l : List Int) (hl : Sec l) :
    (byC l).toArray.zipIdx.foldl (fun cs (x : Value × Nat) => cs.setIfInBounds (1 + x.2) x.1) (z.setIfInBounds 0 (.int .i64 n)) = (wrC (n, l)).toArray := by
  have hlen : (byC l).length = 256 := by rw [byC_len, hl.1]
  have he : (byC l).toArray.zipIdx.foldl (fun cs (x : Value × Nat) => cs.setIfInBounds (1 + x.2) x.1) (z.setIfInBounds 0 (.int .i64 n)) = ((byC l).zipIdx 0).foldl (fun cs (x : Value × Nat) => cs.setIfInBounds (1 + x.2) x.1) (z.setIfInBounds 0 (.int .i64 n)) := by
    simp
  rw [he]
  obtain ⟨h1, h2⟩ := Great.foldl_set 1 (byC l) 0 (z.setIfInBounds 0 (.int .i64 n))
  apply arr_eq
  · rw [h1, wrC_len (p := (n, l)) hl]
    simp [hz]
  · intro k hk
    rw [wrC_len (p := (n, l)) hl] at hk
    rw [h2 k]
    by_cases h0 : k = 0
    · subst h0
      rw [if_neg (by omega)]
      simp [wrC, hz]
    · rw [if_pos ⟨by omega, by omega, by simp; omega⟩]
      obtain ⟨j, rfl⟩ : ∃ j, k = j + 1 := ⟨k - 1, by omega⟩
      simp [wrC]
theorem secV_size {l : List Int} (hl : Sec l) : (byC l).toArray.size = 256 := by simp [byC_len, hl.1]
theorem fill_cons {place : Nat → Option (Nat × Nat)} {cells : Array Value} {i off size : Nat} {v : Value} {rest : List (Nat × Value)} (hp : place i = some (off, size)) (hs : v.cells.size = size) (ho : off + size ≤ cells.size) :
    Instr.fill place cells ((i, v) :: rest) = Instr.fill place (v.cells.zipIdx.foldl (fun cs (x : Value × Nat) => cs.setIfInBounds (off + x.2) x.1) cells) rest := by
  rw [Instr.fill, hp]
  simp only
  rw [if_neg (by simp; omega)]
theorem built_wr (n : Nat) (l : List Int) (hl : Sec l) : Tryz.prog.built 87 [(0, .int .i64 n), (1, secV l)] = some (wrC (n, l)).toArray := by
  have hp : Tryz.prog.built 87 [(0, .int .i64 n), (1, secV l)] = Instr.fill (fun i => ([(0, 1), (1, 256)] : List (Nat × Nat)).toArray[i]?) (wrC (0, zeros)).toArray [(0, .int .i64 n), (1, secV l)] := by
    generalize secV l = v
    generalize (n : Int) = m
    kernel_rfl
  rw [hp]
  have hw : (wrC (0, zeros)).toArray.size = 257 := by simp [wrC_len (p := (0, zeros)) zeros_sec]
  generalize (wrC (0, zeros)).toArray = Z at hw
  rw [fill_cons (off := 0) (size := 1) rfl rfl (by omega), one_set Z _ rfl (by omega), fill_cons (off := 1) (size := 256) rfl (show (secV l).cells.size = 256 from secV_size hl) (by rw [Array.size_setIfInBounds]; omega)]
  exact congrArg some (wr_fill Z hw n l hl)
theorem bslice_wr (p : Nat × List Int) (hp : Sec p.2) (w : World) : (Instr.buildSlice 82 1 #[(0, .agg (wrC p).toArray)]).run Tryz.prog w =
    .ok (.slice (some ⟨w.heap.size, 0, none⟩) 1 1) (w.alloc (.cells (wrC p).toArray 87)) := by
  obtain ⟨i0, hi, hz0, hz1, hz2⟩ := info_parts info_wr
  have hl := wrC_len hp
  refine Go.run_buildSlice w 82 87 1 _ _ i0 (.agg (wrC (0, zeros)).toArray) Tryz.underlying82 hi hz0 (by rw [hz1]; omega) (by rw [hz1]; omega) ?_
  have hz : ((Array.range (1 * i0.size)).map ((Value.agg (wrC (0, zeros)).toArray).cells[· % (Value.agg (wrC (0, zeros)).toArray).cells.size]!)).size = 257 := by simp [hz1]
  rw [hz1] at hz ⊢
  rw [fill_cons (off := 0) (size := 257) rfl (by show (wrC p).toArray.size = 257; simp [hl]) (by omega)]
  refine congrArg some ?_
  generalize hZ : (Array.range (1 * 257)).map ((Value.agg (wrC (0, zeros)).toArray).cells[· % (Value.agg (wrC (0, zeros)).toArray).cells.size]!) = Z at hz
  have he : (Value.agg (wrC p).toArray).cells.zipIdx.foldl (fun cs (x : Value × Nat) => cs.setIfInBounds (0 + x.2) x.1) Z = ((wrC p).zipIdx 0).foldl (fun cs (x : Value × Nat) => cs.setIfInBounds (0 + x.2) x.1) Z := by
    simp [Value.cells]
  rw [he]
  obtain ⟨h1, h2⟩ := Great.foldl_set 0 (wrC p) 0 Z
  apply arr_eq
  · rw [h1, hz, hl]
  · intro k hk
    rw [h2 k, if_pos ⟨by omega, by omega, by omega⟩]
    simp
theorem arrayAt_sec (A : Option Addr) (c : Nat) (w : World) : (Instr.arrayAt 81 (.slice A 256 c)).run Tryz.prog w = .ok (.pointer A) w := by
  simp [Instr.arrayAt, run_underlying (P := Tryz.prog) Tryz.underlying81, Result.andThen]
end

/- disk.Write answers and leaves what the plain disk does. -/
section
open Go.RowKit
theorem Byt.not_bk {w : World} {A : Option Addr} {n c : Nat} {l : List Int} {b : Nat} {t : TypeId} {cs : Array Value} (h : Byt w A n c l) (hb : Bk w b t cs) (hs : cs.size < n) : ∀ g off, A = some ⟨g, off, none⟩ → g ≠ b := by
  rintro g off rfl rfl
  obtain ⟨g', off', e, hc⟩ := h.at_ (by omega)
  injection e with e
  injection e with e1 e2
  subst e1 e2
  have := hc (n - 1) (by omega)
  rw [hb.cell, Array.getElem?_eq_none (by omega)] at this
  cases this
theorem Byt.keep_block {w w' : World} {A : Option Addr} {n c : Nat} {l : List Int} (h : Byt w A n c l) (hk : ∀ g off, A = some ⟨g, off, none⟩ → w'.heap[g]? = w.heap[g]?) : Byt w' A n c l :=
  ⟨h.len, h.cap, h.max, h.rng, h.nil_, fun hn => by
    obtain ⟨g, off, e, hc⟩ := h.at_ hn
    exact ⟨g, off, e, fun i hi => (World.cell?_of_block (hk g off e)).trans (hc i hi)⟩⟩
theorem Byt.block_lt {w : World} {A : Option Addr} {n c : Nat} {l : List Int} (h : Byt w A n c l) (hn : 0 < n) : ∀ g off, A = some ⟨g, off, none⟩ → g < w.heap.size := by
  rintro g off rfl
  obtain ⟨g', off', e, hc⟩ := h.at_ hn
  injection e with e
  injection e with e1 e2
  subst e1 e2
  exact World.block_lt_of_cell? w _ (hc 0 hn)
theorem Byt.range {w : World} {g off c : Nat} {l : List Int} (h : Byt w (some ⟨g, off, none⟩) 256 c l) : w.rangeAt g off (byC l) := by
  obtain ⟨g', off', e, hc⟩ := h.at_ (by omega)
  injection e with e
  injection e with e1 e2
  subst e1 e2
  intro j v hv
  have hj : j < l.length := by
    have := (List.getElem?_eq_some_iff.1 hv).1
    rwa [byC_len] at this
  rw [hc j (by rw [← h.len]; exact hj), ← hv]
  simp [byC, List.getElem?_eq_getElem hj, List.getD]
def RetWrite (F : Nat → Prop) (b : Nat) (e0 : Int) (s' : St) (w : World) (e : Ending) (w' : World) : Prop := e = .returned (.int .i64 e0) ∧ Turn (dsk b s') F w w'
theorem DskB.same {w : World} {F : Nat → Prop} {b mb : Nat} {A : Option Addr} {c : Nat} {s : St} (h : DskB w F b mb A c s) : Turn (dsk b s) F w w :=
  (h.mono (fun _ f => .inl f) (fun k f => by
    rcases f with f | f
    · exact h.lt k f
    · exact f.2)).turn (Fr.refl _ _)
theorem DskB.turned {w w' : World} {F : Nat → Prop} {b mb : Nat} {A : Option Addr} {c : Nat} {s s' : St} (h : DskB w F b mb A c s) (h' : DskB w' F b mb A c s') (hf : Fr (fun k => k = b) w w') : Turn (dsk b s') F w w' :=
  (h'.mono (fun _ f => .inl f) (fun k f => by
    rcases f with f | f
    · exact h'.lt k f
    · exact f.2)).turn (hf.mono fun k e => e ▸ h.fb)
theorem DskB.appended {w w1 w2 w3 : World} {F : Nat → Prop} {b mb : Nat} {A A' : Option Addr} {c c' : Nat} {s : St} {n : Nat} {l : List Int} (h : DskB w F b mb A c s) (h1 : DskB w1 F b mb A c s.step) (hf : Fr (fun k => k = b) w w1) (hn : n < s.num) (hl : Sec l) (hlim : s.pend.length < 999999)
    (hb : Below w1.heap.size w1 w2) (ho : w3.ownsRow 0 87 257 (.slice A' (s.pend.length + 1) c') (s.pend.length + 1) (pdC s.pend ++ wrC (n, l))) (hg : w2.grownBy w3 (Value.slice A s.pend.length c).ownBlock)
    (hw : (Value.slice A s.pend.length c).ownBlock = (Value.slice A' (s.pend.length + 1) c').ownBlock ∨ ∀ k, (Value.slice A' (s.pend.length + 1) c').ownBlock = some k → w1.heap.size ≤ k) :
    w3.cell? ⟨b, 2, none⟩ = some (.slice A s.pend.length c) ∧ w3.frozen? ⟨b, 2, none⟩ = false ∧
    RetWrite F b 0 (s.wrote n l) w (.returned (.int .i64 0)) (w3.setCell ⟨b, 2, none⟩ (.slice A' (s.pend.length + 1) c')) := by
  have e : s.step.pend = s.pend := St.step_pend s
  have hblk := h1.blk
  have hrow := h1.row
  have hfp := h1.fp
  rw [e] at hblk hrow hfp
  have hpb : ∀ k, (Value.slice A s.pend.length c).ownBlock = some k → k ≠ b ∧ k ≠ mb := by
    intro k hk
    constructor
    · rintro rfl
      rcases hrow.2 with ⟨q, _⟩ | ⟨g, cap, cur, q, _, hg, _⟩
      · rw [q] at hk; simp [Value.ownBlock] at hk
      · rw [q] at hk
        simp [Value.ownBlock] at hk
        subst hk
        unfold Bk at hblk
        rw [hblk] at hg
        simp at hg
    · rintro rfl
      exact h1.map.not_row hrow hk
  have hblk2 : Bk w2 b 84 #[.int .i64 s.step.num, .map (some mb), .slice A s.pend.length c, .int .i64 s.step.left, .bool s.step.gone, .int .i64 s.step.syncs] := hblk.bel hb h1.blk.lt
  have hblk3 : Bk w3 b 84 #[.int .i64 s.step.num, .map (some mb), .slice A s.pend.length c, .int .i64 s.step.left, .bool s.step.gone, .int .i64 s.step.syncs] :=
    hblk2.eq (hg.block b hblk2.lt (fun q => (hpb b q.symm).1 rfl))
  refine ⟨hblk3.cell 2, hblk3.frz 2, rfl, ?_⟩
  have hmb1 := h1.map.lt
  have hsz : w1.heap.size ≤ w3.heap.size := Nat.le_trans hb.size hg.size
  have hfr : Fr F w (w3.setCell ⟨b, 2, none⟩ (.slice A' (s.pend.length + 1) c')) := by
    have f1 : Fr F w w2 := (hf.mono (fun k q => (q ▸ h.fb : F k))).trans (Fr.of_below hb)
    exact (f1.grown hg (fun k hk => .inl (hfp k hk))).setCell h.fb _
  have hkeep : ∀ k, k < w1.heap.size → k ≠ b → (∀ q, (Value.slice A s.pend.length c).ownBlock = some q → k ≠ q) → (w3.setCell ⟨b, 2, none⟩ (.slice A' (s.pend.length + 1) c')).heap[k]? = w1.heap[k]? := by
    intro k hk hkb hkq
    rw [Below.heap_setCell _ _ _ _ hkb]
    exact (hg.block k (Nat.lt_of_lt_of_le hk hb.size) (fun q => hkq k q.symm rfl)).trans (hb.block k hk)
  have hbne : ∀ k, (Value.slice A' (s.pend.length + 1) c').ownBlock = some k → k ≠ b := by
    rintro k hk rfl
    rcases ho.2 with ⟨q, _⟩ | ⟨g, cap, cur, q, _, hg', _⟩
    · rw [q] at hk; simp [Value.ownBlock] at hk
    · rw [q] at hk
      simp [Value.ownBlock] at hk
      subst hk
      unfold Bk at hblk3
      rw [hblk3] at hg'
      simp at hg'
  have D : DskB (w3.setCell ⟨b, 2, none⟩ (.slice A' (s.pend.length + 1) c')) (grow F w (w3.setCell ⟨b, 2, none⟩ (.slice A' (s.pend.length + 1) c'))) b mb A' c' (s.wrote n l) := by
    have hlen : (s.wrote n l).pend.length = s.pend.length + 1 := by simp [St.wrote]
    refine ⟨?_, ?_, ?_, .inl h.fb, .inl h.fm, ?_, ?_, h.ok.wrote hn hl, ?_⟩
    · have := hblk3.setc 2 (.slice A' (s.pend.length + 1) c')
      rw [hlen]
      simpa [St.wrote] using this
    · have := h1.map.eq (hkeep mb hmb1 (h1.map.not_bk h1.blk) (fun q hq => fun e => (hpb q hq).2 e.symm))
      exact this
    · rw [hlen]
      have hp : pdC (s.wrote n l).pend = pdC s.pend ++ wrC (n, l) := by simp [pdC, St.wrote, List.flatMap_append]
      rw [hp]
      exact owns_keep ho (fun k hk => Below.heap_setCell _ _ _ _ (hbne k hk))
    · rw [hlen]
      intro k hk
      rcases hw with hw | hw
      · exact .inl (hfp k (hw.trans hk))
      · refine .inr ⟨Nat.le_trans hf.size (hw k hk), ?_⟩
        have := (ho.lt k hk).2
        simpa [World.setCell] using this
    · intro k f
      rcases f with f | f
      · exact Nat.lt_of_lt_of_le (h.lt k f) hfr.size
      · exact f.2
    · rw [hlen]
      have e2 : (s.wrote n l).syncs = s.syncs := St.step_syncs s
      rw [e2]
      exact ⟨by omega, h.lim.2⟩
  exact D.turn hfr
set_option maxHeartbeats 1000000 in
theorem write_bad (w : World) (F : Nat → Prop) (b mb : Nat) (A : Option Addr) (c : Nat) (s : St) (h : DskB w F b mb A c s) (n : Int) (hn : n < 0 ∨ (s.num : Int) ≤ n) (v : Value) :
    Calls Tryz.prog 135 #[.pointer (some ⟨b, 0, none⟩), .int .i64 n, v] w (RetWrite F b 1 s w) := by
  have C := Lib.hid (find_bad h n hn)
  have R : Hid (RetWrite F b 1 s w (.returned (.int .i64 1)) w) := Lib.hid ⟨rfl, h.same⟩
  clear h hn
  go_enter Tryz.func135, Tryz.ntmps135
  go_wp2_with fail
  refine C.out.mono ?_
  rintro e w' ⟨rfl, rfl⟩
  go_wp2_with fail
  go_ret
  exact R.out
set_option maxHeartbeats 1000000 in
theorem write_len (w : World) (F : Nat → Prop) (b mb : Nat) (A : Option Addr) (c : Nat) (s : St) (h : DskB w F b mb A c s) (n : Nat) (hn : n < s.num) (A' : Option Addr) (m c' : Nat) (hm : m ≠ 256) :
    Calls Tryz.prog 135 #[.pointer (some ⟨b, 0, none⟩), .int .i64 n, .slice A' m c'] w (RetWrite F b 12 s w) := by
  have C := Lib.hid (find_ok h n hn)
  have R : Hid (RetWrite F b 12 s w (.returned (.int .i64 12)) w) := Lib.hid ⟨rfl, h.same⟩
  have hne : ((m : Int) != 256) = true := by simp; omega
  clear h hn hm
  go_enter Tryz.func135, Tryz.ntmps135
  go_wp2_with fail
  refine C.out.mono ?_
  rintro e w' ⟨rfl, rfl⟩
  go_wp2_with fail
  go_ret
  exact R.out
set_option maxHeartbeats 1000000 in
theorem write_down (w : World) (F : Nat → Prop) (b mb : Nat) (A : Option Addr) (c : Nat) (s : St) (h : DskB w F b mb A c s) (n : Nat) (hn : n < s.num) (A' : Option Addr) (c' : Nat) (hc : s.can = false) :
    Calls Tryz.prog 135 #[.pointer (some ⟨b, 0, none⟩), .int .i64 n, .slice A' 256 c'] w (RetWrite F b 40 s.step w) := by
  have C := Lib.hid (find_ok h n hn)
  have C2 := Lib.hid (step_any h)
  have T := Lib.hid (fun w' (h' : DskB w' F b mb A c s.step) hf => h.turned h' hf)
  have HC := Lib.hid hc
  clear h hn hc
  go_enter Tryz.func135, Tryz.ntmps135
  go_wp2_with fail
  refine C.out.mono ?_
  rintro e w' ⟨rfl, rfl⟩
  go_wp2_with fail
  refine C2.out.mono ?_
  rintro e w' ⟨rfl, h1, h2⟩
  rw [HC.out]
  have R : Hid (RetWrite F b 40 s.step w (.returned (.int .i64 40)) w') := Lib.hid ⟨rfl, T.out w' h1 h2⟩
  clear h1 h2
  go_wp2_with fail
  go_ret
  exact R.out
set_option maxRecDepth 100000 in
set_option maxHeartbeats 4000000 in
theorem write_made (w : World) (F : Nat → Prop) (b mb : Nat) (A : Option Addr) (c : Nat) (s : St) (h : DskB w F b mb A c s) (n : Nat) (hn : n < s.num) (A' : Option Addr) (c' : Nat) (l : List Int) (hl : Byt w A' 256 c' l) (hA : ∀ k, (Value.slice A' 256 c').ownBlock = some k → ¬ F k) (hc : s.can = true) (hlim : s.pend.length < 999999) :
    Calls Tryz.prog 135 #[.pointer (some ⟨b, 0, none⟩), .int .i64 n, .slice A' 256 c'] w (RetWrite F b 0 (s.wrote n l) w) := by
  have hsec : Sec l := ⟨hl.len, hl.rng⟩
  obtain ⟨g, off, rfl, _⟩ := hl.at_ (by omega)
  have C := Lib.hid (find_ok h n hn)
  have C2 := Lib.hid (step_any h)
  obtain ⟨i0, hi, hz0, hz1, hz2⟩ := info_parts info_wr
  have X : Hid (∀ w1, DskB w1 F b mb A c s.step → Fr (fun k => k = b) w w1 → w1.rangeAt g off (byC l) ∧ g < w1.heap.size ∧ g ≠ b) := Lib.hid (fun w1 h1 hf => by
    have hgb : g ≠ b := hl.not_bk h.blk (by simp) g off rfl
    have hgl := hl.block_lt (by omega) g off rfl
    exact ⟨(hl.keep_block (fun g' off' e => by injection e with e; injection e with e1 e2; subst e1; exact hf.block _ hgl hgb)).range, Nat.lt_of_lt_of_le hgl hf.size, hgb⟩)
  have Y := Lib.hid (fun w1 w2 w3 A' c' (h1 : DskB w1 F b mb A c s.step) (hf : Fr (fun k => k = b) w w1) => @DskB.appended w w1 w2 w3 F b mb A A' c c' s n l h h1 hf hn hsec hlim)
  have KB : Hid (∀ w1 w2 w3, DskB w1 F b mb A c s.step → Fr (fun k => k = b) w w1 → Below w1.heap.size w1 w2 → w2.grownBy w3 (Value.slice A s.pend.length c).ownBlock →
      w3.cell? ⟨b, 2, none⟩ = some (.slice A s.pend.length c) ∧ w3.frozen? ⟨b, 2, none⟩ = false ∧ w3.rangeAt g off (byC l)) := Lib.hid (fun w1 w2 w3 h1 hf hb hg => by
    obtain ⟨hrg, hg1, hg2⟩ := X.out w1 h1 hf
    have hrow : w1.ownsRow 0 87 257 (.slice A s.pend.length c) s.pend.length (pdC s.pend) := by have := h1.row; rwa [St.step_pend] at this
    have hfp : ∀ k, (Value.slice A s.pend.length c).ownBlock = some k → F k := by have := h1.fp; rwa [St.step_pend] at this
    have hblk := h1.blk
    rw [St.step_pend] at hblk
    have hpb : (Value.slice A s.pend.length c).ownBlock ≠ some b := by
      intro hk
      rcases hrow.2 with ⟨q, _⟩ | ⟨g', cap, cur, q, _, hg', _⟩
      · rw [q] at hk; simp [Value.ownBlock] at hk
      · rw [q] at hk
        simp [Value.ownBlock] at hk
        subst hk
        unfold Bk at hblk
        rw [hblk] at hg'
        simp at hg'
    have e1 : w3.heap[b]? = w1.heap[b]? := (hg.block b (Nat.lt_of_lt_of_le hblk.lt hb.size) (fun q => hpb q.symm)).trans (hb.block b hblk.lt)
    have e2 : w3.heap[g]? = w1.heap[g]? := (hg.block g (Nat.lt_of_lt_of_le hg1 hb.size) (fun q => hA g rfl (hfp g q.symm))).trans (hb.block g hg1)
    have hblk3 := hblk.eq e1
    exact ⟨hblk3.cell 2, hblk3.frz 2, fun j v hv => (World.cell?_of_block e2).trans (hrg j v hv)⟩)
  have hone1 : Hid (∀ u ∈ wrC (n, l), u.oneCell' = true) := Lib.hid (fun u hu => by
    rcases List.mem_cons.1 hu with rfl | hu
    · rfl
    · exact byC_one l u hu)
  have HC := Lib.hid hc
  have harr := fun w => arrayAt_sec (some ⟨g, off, none⟩) c' w
  have hu := Tryz.underlying81
  have hlen : (byC l).length = 256 := by rw [byC_len, hl.len]
  have hsz : (Tryz.prog.info? 81).map (·.size) = some (byC l).length := by rw [hlen]; exact size_sec
  have hone := byC_one l
  have hwl : (wrC (n, l)).length = 257 := wrC_len (p := (n, l)) hsec
  have hcp : c' ≤ 9223372036854775807 := by have := hl.max; unfold maxLen at this; omega
  clear h hn hl hc hA
  go_enter Tryz.func135, Tryz.ntmps135
  go_wp2_with fail
  refine C.out.mono ?_
  rintro e w' ⟨rfl, rfl⟩
  go_wp2_with fail
  refine C2.out.mono ?_
  rintro e w1 ⟨rfl, h1, h2⟩
  rw [HC.out]
  obtain ⟨hrg, hg1, hg2⟩ := X.out w1 h1 h2
  have hc2 : w1.cell? ⟨b, 2, none⟩ = some (.slice A s.pend.length c) := by have := h1.blk.cell 2; rw [St.step_pend] at this; exact this
  have hf2 : w1.frozen? ⟨b, 2, none⟩ = false := h1.blk.frz 2
  have hrow : w1.ownsRow 0 87 257 (.slice A s.pend.length c) s.pend.length (pdC s.pend) := by have := h1.row; rwa [St.step_pend] at this
  have H1 := Lib.hid h1
  have H2 := Lib.hid h2
  have HR := Lib.hid hrow
  clear h1 h2 hrow
  go_wp2_with fail
  have hbs := bslice_wr (n, l) hsec
  have hbl := built_wr n l hsec
  have HK := Lib.hid (fun w2 w3 hb hg => KB.out w1 w2 w3 H1.out H2.out hb hg)
  have hS0 : w1.drew.cell? ⟨b, 2, none⟩ = some (.slice A s.pend.length c) ∧ w1.drew.rangeAt g off (byC l) := ⟨hc2, hrg⟩
  refine wp_region_noPanic ?_
  refine upto_start (fun w' => w'.cell? ⟨b, 2, none⟩ = some (.slice A s.pend.length c) ∧ w'.rangeAt g off (byC l)) 12 (by kernel_rfl) ?_
  change Upto _ _ _ _ _ 15 _ _ _
  refine Upto.take (i := 0) (v := ?_) rfl (by kernel_rfl) (fun _ _ _ h => h) rfl (fun w' hS => ?_) hS0 ?_
  rotate_left
  · (try dsimp only at hS); go_split_ands; go_simp; (try with_reducible rfl)
  simp only [Act.put, List.setIfInBounds_toArray, List.set_cons_zero, List.set_cons_succ]
  refine Upto.take (i := 1) (v := ?_) rfl (by kernel_rfl) (fun _ _ _ h => h) rfl (fun w' hS => ?_) hS0 ?_
  rotate_left
  · (try dsimp only at hS); go_split_ands; go_simp; (try with_reducible rfl)
  simp only [Act.put, List.setIfInBounds_toArray, List.set_cons_zero, List.set_cons_succ]
  refine Upto.take (i := 2) (v := ?_) rfl (by kernel_rfl) (fun _ _ _ h => h) rfl (fun w' hS => ?_) hS0 ?_
  rotate_left
  · (try dsimp only at hS); go_split_ands; go_simp; (try with_reducible rfl)
  simp only [Act.put, List.setIfInBounds_toArray, List.set_cons_zero, List.set_cons_succ]
  refine Upto.take (i := 3) (v := ?_) rfl (by kernel_rfl) (fun _ _ _ h => h) rfl (fun w' hS => ?_) hS0 ?_
  rotate_left
  · (try dsimp only at hS); go_split_ands; go_simp; (try with_reducible rfl)
  simp only [Act.put, List.setIfInBounds_toArray, List.set_cons_zero, List.set_cons_succ]
  refine Upto.take (i := 4) (v := ?_) rfl (by kernel_rfl) (fun _ _ _ h => h) rfl (fun w' hS => ?_) hS0 ?_
  rotate_left
  · (try dsimp only at hS); go_split_ands; go_simp; (try with_reducible rfl)
  simp only [Act.put, List.setIfInBounds_toArray, List.set_cons_zero, List.set_cons_succ]
  refine Upto.take (i := 5) (v := ?_) rfl (by kernel_rfl) (fun _ _ _ h => h) rfl (fun w' hS => ?_) hS0 ?_
  rotate_left
  · (try dsimp only at hS); go_split_ands; go_simp; (try with_reducible rfl)
  simp only [Act.put, List.setIfInBounds_toArray, List.set_cons_zero, List.set_cons_succ]
  refine Upto.take (i := 6) (v := ?_) rfl (by kernel_rfl) (fun _ _ _ h => h) rfl (fun w' hS => ?_) hS0 ?_
  rotate_left
  · (try dsimp only at hS); go_split_ands; go_simp; (try with_reducible rfl)
  simp only [Act.put, List.setIfInBounds_toArray, List.set_cons_zero, List.set_cons_succ]
  refine Upto.take (i := 7) rfl (by kernel_rfl) (fun _ _ _ h => h) rfl (fun w' hS => exec_arrayAt rfl (by exact harr _)) hS0 ?_
  simp only [Act.put, List.setIfInBounds_toArray, List.set_cons_zero, List.set_cons_succ]
  refine Upto.take (i := 8) rfl (by kernel_rfl) (fun _ _ _ h => h) rfl (fun w' hS => exec_load rfl (by rfl) (by exact hS.2) hu rfl hsz) hS0 ?_
  simp only [Act.put, List.setIfInBounds_toArray, List.set_cons_zero, List.set_cons_succ]
  refine Upto.take (i := 9) rfl (by kernel_rfl) (fun _ _ _ h => h) rfl (fun w' hS => exec_build rfl [(0, .int .i64 n), (1, secV l)] (by rfl) hbl) hS0 ?_
  simp only [Act.put, List.setIfInBounds_toArray, List.set_cons_zero, List.set_cons_succ]
  refine Upto.only (i := 10) rfl (by kernel_rfl) rfl (exec_buildSlice rfl [(0, .agg (wrC (n, l)).toArray)] (by rfl) (hbs _)) ?_ ?_
  · have := HK.out (w1.drew.alloc (.cells (wrC (n, l)).toArray 87)) _ ((Below.refl _ w1).drew.alloc (Nat.le_refl _) _) ⟨rfl, rfl, rfl, Nat.le_refl _, fun _ _ _ => rfl⟩
    exact ⟨this.1, this.2.2⟩
  simp only [Act.put, List.setIfInBounds_toArray, List.set_cons_zero, List.set_cons_succ]
  refine Upto.law (i := 11) rfl (by kernel_rfl) rfl (fun K hK => ?_)
  have hz257 : (Value.agg (wrC (0, zeros)).toArray).cells.size = 257 := by simp [Value.cells, wrC_len (p := (0, zeros)) zeros_sec]
  refine wp_append_lies _ _ _ 82 (by rfl) 0 87 i0 _ 257 264 Tryz.underlying82 hi hz0 hz1 hz2 hz257 (by omega) (.slice A s.pend.length c) s.pend.length (pdC s.pend) (by rfl) (HR.out.alloc _)
    ⟨w1.heap.size, 0, none⟩ 1 1 (wrC (n, l)) (by rfl) (by rw [hwl]) (World.news_of_block (cs := (wrC (n, l)).toArray) (t := 87) (fr := (0, 0)) (heap_alloc_new w1.drew _)) hone1.out
    (by omega) (by unfold maxLen; omega) (by omega) (Nat.zero_le _) (w1.heap.size + 1) (by simp) ?_
  intro gg cap w3 hown3 hgrow hat hltt
  have hb1 : Below w1.heap.size w1 (w1.drew.alloc (.cells (wrC (n, l)).toArray 87)) := (Below.refl _ w1).drew.alloc (Nat.le_refl _) _
  have hS3 := HK.out _ w3 hb1 hgrow
  obtain ⟨hc3, hf3, R⟩ := Y.out w1 _ w3 (some ⟨gg, 0, none⟩) cap H1.out H2.out hb1 hown3 hgrow (by
    rcases hat with h | h
    · exact .inl h
    · refine .inr (fun k hk => ?_)
      have : gg = k := by simpa [Value.ownBlock] using hk
      omega)
  have R := Lib.hid R
  refine hK _ _ ⟨hS3.1, hS3.2.2⟩ ?_
  clear hS3 hown3 hgrow hat hK HK H1 H2 HR Y KB hbl hbs harr
  simp only [Act.put, List.setIfInBounds_toArray, List.set_cons_zero, List.set_cons_succ]
  refine Upto.tail rfl (by kernel_rfl) ?_
  simp only [List.drop_succ_cons, List.drop_zero]
  go_wp2_with fail
  refine NoPanic.normal ?_
  go_wp2_with fail
  go_ret
  exact R.out
end
end Go.Proofs.YtjllpihkjlblaaaGreatDoor
