/- What it says: stamp.stamped, Wrap and Open answer what the plain mathematics says, in new memory. -/
import Derived.Test.YtlchikllgmkokabStamp1
import Derived.Test.YtlchikllgmkokabFull
import Derived.Test.YtlchikllgmkokabClone
import Derived.Laws.CopyOwn
import Derived.BigQuiet
import Derived.Deep.QuietTactic
namespace Go.Proofs.Ytlchikllgmkokab
open Go.RowKit

theorem wrap_none (m : Int) : u8C (fun i => if i = 255 then m else if i = 0 then m else 0) = (byC (wrapL m [])).toArray := by
  apply Array.ext_getElem?
  intro i
  have hs : (wrapL m []).length = 256 := by
    unfold wrapL
    rw [List.length_cons, List.length_append, padL_len (by simp)]
    rfl
  by_cases hi : i < 256
  · rw [u8C_at _ i hi, List.getElem?_toArray]
    unfold byC
    rw [List.getElem?_map]
    have : (wrapL m [])[i]? = some (if i = 255 then m else if i = 0 then m else 0) := by
      unfold wrapL padL
      by_cases h0 : i = 0
      · subst h0; rfl
      · obtain ⟨j, rfl⟩ : ∃ j, i = j + 1 := ⟨i - 1, by omega⟩
        rw [List.getElem?_cons_succ]
        by_cases h1 : j + 1 = 255
        · obtain rfl : j = 254 := by omega
          rfl
        · rw [if_neg h1, if_neg h0, List.nil_append, List.getElem?_append_left (by rw [List.length_replicate]; show j < 254; omega), List.getElem?_replicate]
          rw [if_pos (by show j < 254; omega)]
    rw [this]
    rfl
  · have h1 : (u8C (fun i => if i = 255 then m else if i = 0 then m else 0))[i]? = none := Array.getElem?_eq_none (by rw [u8C_size]; omega)
    have h2 : ((byC (wrapL m [])).toArray)[i]? = none := Array.getElem?_eq_none (by rw [List.size_toArray, byC_len, hs]; omega)
    rw [h1, h2]

theorem splice_wrap (m : Int) (p : List Int) (h : p.length ≤ 254) : splice (byC (wrapL m [])) 1 (byC p) = byC (wrapL m p) := by
  unfold splice byC wrapL
  rw [List.length_map]
  simp only [List.map_cons, List.take_succ_cons, List.take_zero]
  rw [show 1 + p.length = p.length + 1 from by omega, List.drop_succ_cons]
  simp only [List.cons_append, List.nil_append]
  congr 1
  unfold padL
  simp only [List.nil_append, List.map_append, List.map_replicate, List.map_cons, List.map_nil, List.length_nil, Nat.sub_zero, List.append_assoc]
  rw [List.drop_append_of_le_length (by rw [List.length_replicate]; omega), List.drop_replicate]

set_option maxRecDepth 100000 in
set_option maxHeartbeats 2000000 in
theorem stamped_any (m : Int) (hm : 0 ≤ m ∧ m < 256) (A : Option Addr) (n c : Nat) (p : List Int) (w : World) (h : Byt w A n c p) (hn : n ≤ 254) :
    Calls Try.prog 26 #[.int .u8 m, .slice A n c] w (RetFull (wrapL m p) w) := by
  have HM := Lib.hid make_256
  have hcap := h.cap
  have hmax := h.max
  unfold maxLen at hmax
  have hpl := h.len
  obtain ⟨W1, hW1⟩ : ∃ W1, W1 = w.alloc (.cells (u8C (fun _ => 0)) 5) := ⟨_, rfl⟩
  have hB1 : Bk W1 w.heap.size 5 (u8C (fun _ => 0)) := by rw [hW1]; exact heap_alloc_new _ _
  have hb1 : Below w.heap.size w W1 := by rw [hW1]; exact (Below.refl _ _).alloc (Nat.le_refl _) _
  have hB2 := hB1.setc 0 (.int .u8 m)
  rw [u8C_set] at hB2
  have hb2 : Below w.heap.size w (W1.setCell ⟨w.heap.size, 0, none⟩ (.int .u8 m)) := hb1.setCell (Nat.le_refl _) _
  have hB3 := hB2.setc 255 (.int .u8 m)
  rw [u8C_set, wrap_none] at hB3
  have hb3 : Below w.heap.size w ((W1.setCell ⟨w.heap.size, 0, none⟩ (.int .u8 m)).setCell ⟨w.heap.size, 255, none⟩ (.int .u8 m)) := hb2.setCell (Nat.le_refl _) _
  have hc0 : W1.cell? ⟨w.heap.size, 0, none⟩ = some (.int .u8 0) := by rw [hB1.cell]; exact u8C_at _ 0 (by omega)
  have hf0 : W1.frozen? ⟨w.heap.size, 0, none⟩ = false := hB1.frz 0
  have hc1 : W1.cell? ⟨w.heap.size, 255, none⟩ = some (.int .u8 0) := by rw [hB1.cell]; exact u8C_at _ 255 (by omega)
  have hf1 : W1.frozen? ⟨w.heap.size, 255, none⟩ = false := hB1.frz 255
  have hc2 : (W1.setCell ⟨w.heap.size, 0, none⟩ (.int .u8 m)).cell? ⟨w.heap.size, 255, none⟩ = some (.int .u8 0) := by rw [hB2.cell]; exact (u8C_at _ 255 (by omega)).trans (by simp)
  have hf2 : (W1.setCell ⟨w.heap.size, 0, none⟩ (.int .u8 m)).frozen? ⟨w.heap.size, 255, none⟩ = false := hB2.frz 255
  have HP := Lib.hid h
  have HS : Hid ((wrapL m []).length = 256) := Lib.hid (wrapL_sec hm (by simp) (by simp)).1
  have HB3 := Lib.hid hB3
  have Hb3 := Lib.hid hb3
  have HW := Lib.hid hW1
  have HMK : Hid ((Instr.makeSlice 22 (.int .i64 256) (.int .i64 256)).run Try.prog w = .ok (.slice (some ⟨w.heap.size, 0, none⟩) 256 256) W1) := by
    rw [hW1]; exact Lib.hid (HM.out w)
  clear h hB1 hB2 hB3 hb1 hb2 hb3 HM hW1
  go_enter Try.func26, Try.ntmps26
  go_wp2_with (first
    | (refine wpList_run rfl (exec_makeSlice rfl HMK.out) ?_)
    | (refine wpList_copy_splice rfl _ _ 22 22 rfl 5 Try.underlying22 (by kernel_rfl) (some ⟨w.heap.size, 1, none⟩) A 254 255 n c (by rfl) (by rfl) w.heap.size 1 (byC (wrapL m [])) 5 HB3.out (byC p) (by rw [byC_len, hpl]; show n = min n 254; omega)
        (fun hq => ⟨rfl, by
          obtain ⟨g, off, e, hc⟩ := HP.out.at_ (by rw [byC_len, hpl] at hq; exact hq)
          exact ⟨_, e, (HP.out.below Hb3.out).cells _ e⟩⟩)
        (by rw [byC_len, byC_len, hpl, HS.out]; omega) (byC_one p) w.heap.size w Hb3.out (Nat.le_refl _) ?_))
  intro W2 hg hb
  have hg' := hg.out
  rw [splice_wrap m p (by omega)] at hg'
  have R : Hid (RetFull (wrapL m p) w (.returned (.slice (some ⟨w.heap.size, 0, none⟩) 256 256)) W2) := Lib.hid ⟨_, Nat.le_refl _, rfl, hg', hb⟩
  clear hg hg' hb HP HB3 Hb3 HMK HW
  go_wp2_with fail
  go_ret
  exact R.out

set_option maxHeartbeats 2000000 in
theorem wrap_any (m : Int) (hm : 0 ≤ m ∧ m < 256) (A : Option Addr) (n c : Nat) (p : List Int) (w : World) (h : Byt w A n c p) :
    Calls Try.prog 10 #[.int .u8 m, .slice A n c] w (RetByt2 (wrapB m p) .i64 (wrapE m p) w) := by
  have CI := Lib.hid (isStamp_any m hm w)
  have hcap := h.cap
  have hmax := h.max
  unfold maxLen at hmax
  have hpl := h.len
  by_cases h1 : m < 1 ∨ 3 < m
  · rw [show decide (1 ≤ m ∧ m ≤ 3) = false from by simp; omega] at CI
    have E : Hid (wrapE m p = 1 ∧ wrapB m p = []) := Lib.hid ⟨wrapE_arg h1, wrapB_bad (by rw [wrapE_arg h1]; omega)⟩
    rw [E.out.1, E.out.2]
    clear h h1 E
    go_enter Try.func10, Try.ntmps10
    go_wp2_with fail
    refine CI.out.mono ?_
    rintro e w1 ⟨rfl, rfl⟩
    go_wp2_with fail
    go_ret2
    exact ⟨none, 0, 0, rfl, Byt.nil _, Below.refl _ _⟩
  · rw [show decide (1 ≤ m ∧ m ≤ 3) = true from by simp; omega] at CI
    by_cases h2 : 254 < n
    · have E : Hid (wrapE m p = 12 ∧ wrapB m p = []) := Lib.hid ⟨wrapE_long h1 (by omega), wrapB_bad (by rw [wrapE_long h1 (by omega)]; omega)⟩
      rw [E.out.1, E.out.2]
      clear h h1 E
      go_enter Try.func10, Try.ntmps10
      go_wp2_with fail
      refine CI.out.mono ?_
      rintro e w1 ⟨rfl, rfl⟩
      go_wp2_with fail
      go_ret2
      exact ⟨none, 0, 0, rfl, Byt.nil _, Below.refl _ _⟩
    · have E : Hid (wrapE m p = 0 ∧ wrapB m p = wrapL m p) := Lib.hid ⟨wrapE_ok h1 (by omega), wrapB_ok h1 (by omega)⟩
      rw [E.out.1, E.out.2]
      have CS := Lib.hid (stamped_any m hm A n c p w h (by omega))
      have HSC := Lib.hid (wrapL_sec hm h.rng (by omega))
      clear h h1 E
      go_enter Try.func10, Try.ntmps10
      go_wp2_with fail
      refine CI.out.mono ?_
      rintro e w1 ⟨rfl, rfl⟩
      go_wp2_with fail
      refine CS.out.mono ?_
      rintro e w2 ⟨g, hg, rfl, hb, hbel⟩
      have R : Hid (Byt w2 (some ⟨g, 0, none⟩) 256 256 (wrapL m p) ∧ Below w.heap.size w w2) := Lib.hid ⟨Byt.sec hb HSC.out, hbel⟩
      clear hb hbel CS CI hg
      go_wp2_with fail
      go_ret2
      exact ⟨_, 256, 256, rfl, R.out.1, R.out.2⟩

/-- A row of the call's own that reads as l, and a number beside it. -/
def RetOwn2 (l : List Int) (x : Int) (w : World) (e : Ending) (w' : World) : Prop :=
  ∃ A n c, e = .returned (.tuple #[.slice A n c, .int .i64 x]) ∧ w'.ownsRow w.heap.size 5 1 (.slice A n c) n (l.map (Value.int .u8)) ∧ (∀ x ∈ l, 0 ≤ x ∧ x < 256) ∧ Below w.heap.size w w'
theorem RetOwn2.byt {l : List Int} {x : Int} {w : World} {e : Ending} {w' : World} (h : RetOwn2 l x w e w') : RetByt2 l .i64 x w e w' := by
  obtain ⟨A, n, c, he, ho, hr, hb⟩ := h
  exact ⟨A, n, c, he, Byt.of_own ho hr, hb⟩
theorem RetOwn2.no (x : Int) {w w' : World} (h : Below w.heap.size w w') : RetOwn2 [] x w (.returned (.tuple #[.slice none 0 0, .int .i64 x])) w' :=
  ⟨none, 0, 0, rfl, World.ownsRow_nil _ _ _ _, by simp, h⟩

theorem Byt.body {w : World} {g off c : Nat} {l : List Int} (h : Byt w (some ⟨g, off, none⟩) 256 c l) : Byt w (some ⟨g, off + 1, none⟩) 254 (c - 1) (bodyL l) := by
  have hcap := h.cap
  have hmax := h.max
  refine ⟨bodyL_len h.len, by omega, by omega, bodyL_rng h.rng, (fun q => nomatch q), fun _ => ⟨g, off + 1, rfl, fun i hi => ?_⟩⟩
  obtain ⟨g1, o1, e, hc⟩ := h.at_ (by omega)
  injection e with e
  injection e with e1 e2
  subst e1 e2
  have := hc (i + 1) (by omega)
  rw [show off + 1 + i = off + (i + 1) from by omega, this]
  congr 2
  unfold bodyL
  simp only [List.getD_eq_getElem?_getD, List.getElem?_take, hi, if_true, List.getElem?_drop]
  rw [show 1 + i = i + 1 from by omega]

set_option maxHeartbeats 4000000 in
theorem open_own (A : Option Addr) (n c : Nat) (l : List Int) (w : World) (h : Byt w A n c l) :
    Calls Try.prog 16 #[.slice A n c] w (RetOwn2 (openB l) (openE l) w) := by
  have hl := h.len
  have hcap := h.cap
  have hmax := h.max
  unfold maxLen at hmax
  by_cases hn : n = 256
  · subst hn
    obtain ⟨g, off, rfl, h0, h1⟩ := h.ends
    have ra := h.lt_ 0 (by omega)
    have rb := h.lt_ 255 (by omega)
    have HB := Lib.hid h
    have HR : Hid (rightL l ↔ l.getD 0 0 = l.getD 255 0 ∧ 1 ≤ l.getD 0 0 ∧ l.getD 0 0 ≤ 3) := Lib.hid Iff.rfl
    have HL := Lib.hid hl
    obtain ⟨a, ha⟩ : ∃ a, l.getD 0 0 = a := ⟨_, rfl⟩
    obtain ⟨b, hb⟩ : ∃ b, l.getD 255 0 = b := ⟨_, rfl⟩
    rw [ha, hb] at HR
    rw [ha] at h0 ra
    rw [hb] at h1 rb
    clear ha hb h hl
    have CI : Hid (∀ W, Calls Try.prog 25 #[.int .u8 a] W (Same (.bool (decide (1 ≤ a ∧ a ≤ 3))) W)) := Lib.hid (isStamp_any a ra)
    by_cases hab : a = b
    · subst hab
      have d1 : (a != a) = false := by simp
      by_cases hs : 1 ≤ a ∧ a ≤ 3
      · have E : Hid (openE l = 0 ∧ openB l = bodyL l) := Lib.hid ⟨openE_right HL.out (HR.out.2 ⟨rfl, hs⟩), openB_right HL.out (HR.out.2 ⟨rfl, hs⟩)⟩
        rw [E.out.1, E.out.2]
        rw [show decide (1 ≤ a ∧ a ≤ 3) = true from by simp; omega] at CI
        have CC : Hid (∀ k, Calls Try.prog 28 #[.slice (some ⟨g, off + 1, none⟩) 254 (c - 1)] (w.drewN k) (RetOwn (bodyL l) (w.drewN k))) := Lib.hid (fun k => clone_own _ 254 (c - 1) (bodyL l) (w.drewN k) (HB.out.body.drewN k) (by omega))
        clear hs E HR HL
        go_enter Try.func16, Try.ntmps16
        go_wp2_with fail
        go_quiet (first | (go_at_call 25; exact Calls.quiet_of_same ((CI.out _).mono fun _ _ h => ⟨h.1, h.2.symm⟩)))
        go_wp2_with fail
        refine (CC.out _).mono ?_
        rintro e w2 ⟨A2, n2, c2, rfl, hb2, hr2, hbel2⟩
        have R : Hid (w2.ownsRow w.heap.size 5 1 (.slice A2 n2 c2) n2 ((bodyL l).map (Value.int .u8)) ∧ (∀ x ∈ bodyL l, 0 ≤ x ∧ x < 256) ∧ Below w.heap.size w w2) := Lib.hid ⟨hb2, hr2, (below_drewN (Below.refl _ _) _).trans hbel2⟩
        clear hb2 hr2 hbel2 CC CI
        go_wp2_with fail
        go_ret2
        exact ⟨_, _, _, rfl, R.out.1, R.out.2.1, R.out.2.2⟩
      · have E : Hid (openE l = 50 ∧ openB l = []) := Lib.hid ⟨openE_torn HL.out (fun q => hs (HR.out.1 q).2), openB_bad (by rw [openE_torn HL.out (fun q => hs (HR.out.1 q).2)]; omega)⟩
        rw [E.out.1, E.out.2]
        rw [show decide (1 ≤ a ∧ a ≤ 3) = false from by simp; omega] at CI
        clear hs E HR HL
        go_enter Try.func16, Try.ntmps16
        go_wp2_with fail
        go_quiet (first | (go_at_call 25; exact Calls.quiet_of_same ((CI.out _).mono fun _ _ h => ⟨h.1, h.2.symm⟩)))
        go_wp2_with fail
        go_ret2
        exact RetOwn2.no _ (below_drewN (Below.refl _ _) _)
    · have d1 : (a != b) = true := by simpa using hab
      have E : Hid (openE l = 50 ∧ openB l = []) := Lib.hid ⟨openE_torn HL.out (fun q => hab (HR.out.1 q).1), openB_bad (by rw [openE_torn HL.out (fun q => hab (HR.out.1 q).1)]; omega)⟩
      rw [E.out.1, E.out.2]
      clear E HR HL CI
      go_enter Try.func16, Try.ntmps16
      go_wp2_with fail
      go_quiet (fail)
      go_wp2_with fail
      go_ret2
      exact RetOwn2.no _ (below_drewN (Below.refl _ _) _)
  · have E : Hid (openE l = 12 ∧ openB l = []) := Lib.hid ⟨openE_len (by omega), openB_bad (by rw [openE_len (by omega)]; omega)⟩
    have hd : ((n : Int) != 256) = true := by simp; omega
    rw [E.out.1, E.out.2]
    clear h hl E
    go_enter Try.func16, Try.ntmps16
    go_wp2_with fail
    go_ret2
    exact RetOwn2.no _ (Below.refl _ _)

theorem open_any (A : Option Addr) (n c : Nat) (l : List Int) (w : World) (h : Byt w A n c l) :
    Calls Try.prog 16 #[.slice A n c] w (RetByt2 (openB l) .i64 (openE l) w) := (open_own A n c l w h).mono fun _ _ h => h.byt
end Go.Proofs.Ytlchikllgmkokab
