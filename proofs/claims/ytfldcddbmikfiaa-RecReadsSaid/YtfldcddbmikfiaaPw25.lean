/- What it says: contracts and plain mathematics that the laws' walks use, 25 of 34: each part's own remark says what; no condition. -/
import Derived.Test.YtfldcddbmikfiaaPw7
import Derived.Test.YtfldcddbmikfiaaPw21
import Derived.Test.YtfldcddbmikfiaaPw24
import Derived.Lib.QuietBelow
import Derived.BigQuiet
import Derived.WalkMore
import Derived.OwnWalk
import Derived.Laws.CopyOwn
import Derived.LoopTactic
import Derived.Deep.CutBlock

set_option linter.unusedSimpArgs false
set_option linter.unusedVariables false
set_option linter.deprecated false
set_option linter.unusedSectionVars false
set_option linter.all false

/- trothref07.rows answers true just of rows that may be. -/
namespace Go.Proofs.Ytfldcddbmikfiaa
open Go.RowKit
structure Sq (sq : Int → Int → Bool) : Prop where
  yes : ∀ {a b}, sq a b = true → seqOk a b
  no : ∀ {a b}, sq a b = false → ¬ seqOk a b
theorem RetB.dec {P : Prop} [Decidable P] {p : Program} {f : FuncId} {args : Array Value} {w : World} (h : Calls p f args w (RetB P w)) : Calls p f args w (Ret (.bool (decide P)) w) :=
  h.mono fun e w' ⟨b, he, hb, m, hw⟩ => ⟨by rw [he]; congr 2; cases b with
    | true => exact (decide_eq_true (hb.1 rfl)).symm
    | false => exact (decide_eq_false (fun q => nomatch hb.2 q)).symm, by rw [hw]; exact below_drewN (Below.refl _ _) m⟩
theorem mapg {α β : Type} [Inhabited α] [Inhabited β] (l : List α) (f : α → β) (i : Nat) (h : i < l.length) : (l.map f).getD i default = f (l.getD i default) := by
  rw [List.getD_eq_getElem?_getD, List.getD_eq_getElem?_getD, List.getElem?_map, List.getElem?_eq_getElem h]
  rfl
theorem XwIn.calm_ {H : Nat} {w w' : World} {x : Xw} (h : XwIn H w x) (hc : Calm H w w') : XwIn H w' x := elR.calm H w w' x h hc
theorem below_cell_some {w w' : World} {a : Addr} {v : Value} (hb : Below w.heap.size w w') (h : w.cell? a = some v) : w'.cell? a = some v := by
  have hlt : a.block < w.heap.size := by
    unfold World.cell? at h
    cases hq : w.heap[a.block]? with
    | none => rw [hq] at h; cases h
    | some o => exact (Array.getElem?_eq_some_iff.1 hq).1
  exact (World.cell?_of_block (hb.block _ hlt)).trans h
set_option maxRecDepth 100000 in
set_option maxHeartbeats 16000000 in
theorem refRows_any (A : Option Addr) (n c H : Nat) (l : List Xw) (w : World) (h : Sl elR H w A n c l) :
    Calls Try.prog 49 #[.slice A n c] w (RetBB (rwsOk (l.map Xw.row)) w) := by
  have hl := h.len
  by_cases hbig : (64 : Int) < (n : Int)
  · have R := Lib.hid (RetB.below (RetB.no (P := rwsOk (l.map Xw.row)) (w := w) (w' := w) (fun q => by have := q.1; rw [List.length_map] at this; omega) (drew_self w)))
    clear h hl
    go_enter Try.func49, Try.ntmps49
    go_wp2_with fail
    go_ret
    exact R.out
  · by_cases hn : 0 < n
    · obtain ⟨g, off, rfl, hsg, hr⟩ := h.at_ hn
      have hcap := h.cap
      have hmax := h.max
      unfold maxLen at hmax
      have HS := Lib.hid h
      have HL := Lib.hid hl
      clear h hsg hr hl
      go_enter Try.func49, Try.ntmps49
      go_wp2_with fail
      go_loopw [3] (fun i wr => ∃ k : Nat, k ≤ n ∧ i = .int .i64 k ∧ Below w.heap.size w wr ∧ Hid (∀ j, j < k → rwOk (l.getD j default).row ∧ (0 < j → (l.getD (j - 1) default).tx < (l.getD j default).tx))) (fun i _ => n - (intOf i).toNat)
      case atStart => exact ⟨0, Nat.zero_le _, rfl, Below.refl _ _, Lib.hid (fun j hj => absurd hj (by omega))⟩
      case round =>
        obtain ⟨k, hk, rfl, hbw, HP⟩ := hrel
        have SW := HS.out.calm (Calm.of_below (H := H) hbw)
        have HBW := Lib.hid hbw
        clear hbw
        by_cases hlt : k < n
        · obtain ⟨g', off', e, _, hr⟩ := SW.at_ hn
          injection e with e
          injection e with e1 e2
          subst e1 e2
          have hzi := SW.get hlt
          obtain ⟨z, hz⟩ : ∃ z, l.getD k default = z := ⟨_, rfl⟩
          have hr2 := hr k hlt
          rw [hz] at hr2 hzi
          have no : ¬ (rwOk z.row ∧ (0 < k → (l.getD (k - 1) default).tx < z.tx)) → ¬ rwsOk (l.map Xw.row) := fun q z' => q (by
            have := z'.2 k (by rw [List.length_map, HL.out]; exact hlt)
            rw [mapg l Xw.row k (by rw [HL.out]; exact hlt), hz] at this
            refine ⟨this.1, fun h0 => ?_⟩
            have h2 := this.2 h0
            rw [mapg l Xw.row (k - 1) (by rw [HL.out]; omega)] at h2
            exact h2)
          have YES : Hid ((0 < k → (l.getD (k - 1) default).tx < z.tx) → Hid (rwOk z.row → Hid (∀ j, j < k + 1 → rwOk (l.getD j default).row ∧ (0 < j → (l.getD (j - 1) default).tx < (l.getD j default).tx)))) := Lib.hid fun q2 => Lib.hid fun q1 => Lib.hid fun j hj => by
            by_cases e : j = k
            · subst e; rw [hz]; exact ⟨q1, q2⟩
            · exact HP.out j (by omega)
          have hp0 : 0 < k → wr.cell? ⟨g, off + (k - 1) * 8, none⟩ = some (.int .i64 (l.getD (k - 1) default).tx) := fun _ => hr (k - 1) (by omega) 0 _ rfl
          clear hz hr HP SW
          obtain ⟨zt, zs, zf, zl, zu, zc, zmA, zmn, zmc, zmem, zkA, zkn, zkc, zlks⟩ := z
          have HR2 : Hid (wr.rangeAt g (off + k * 8) [.int .i64 zt, .int .i64 zs, .int .i64 zf, .int .i64 zl, .int .i64 zu, .int .i64 zc, .slice zmA zmn zmc, .slice zkA zkn zkc]) := Lib.hid hr2
          obtain ⟨e, he⟩ : ∃ e, wr.heap.size = e := ⟨_, rfl⟩
          obtain ⟨wa, hwa⟩ : ∃ wa, wa = wr.alloc (.cells #[.int .i64 zt, .int .i64 zs, .int .i64 zf, .int .i64 zl, .int .i64 zu, .int .i64 zc, .slice zmA zmn zmc, .slice zkA zkn zkc] 51) := ⟨_, rfl⟩
          have ba : Below wr.heap.size wr wa := by rw [hwa]; exact (Below.refl _ _).alloc (Nat.le_refl _) _
          have Vwa : Bk wa e 51 #[.int .i64 zt, .int .i64 zs, .int .i64 zf, .int .i64 zl, .int .i64 zu, .int .i64 zc, .slice zmA zmn zmc, .slice zkA zkn zkc] := by rw [hwa, ← he]; exact Bk.new wr _ _
          have BA := Lib.hid (Below.then HBW.out ba)
          have ZI := Lib.hid (XwIn.calm_ hzi (Calm.of_below (H := H) ba))
          have NO : Hid (¬ (rwOk ⟨zt, zs, zf, zl, zu, zc, zmem, zlks⟩ ∧ (0 < k → (l.getD (k - 1) default).tx < zt)) → Hid (∀ w', Below wa.heap.size wa w' → RetBB (rwsOk (l.map Xw.row)) w (.returned (.bool false)) w')) := Lib.hid fun q => Lib.hid fun w' hw => RetBB.of ⟨(fun q' => nomatch q'), fun q' => absurd q' (no q)⟩ (Below.then BA.out hw)
          have hp : 0 < k → ∀ d' os, (Go.Sort.grow (redrawn wa d') os).cell? ⟨g, off + (k - 1) * 8, none⟩ = some (.int .i64 (l.getD (k - 1) default).tx) := fun h0 => cell_regrown (below_cell_some ba (hp0 h0))
          have f0 : ∀ d' os, (Go.Sort.grow (redrawn wa d') os).cell? ⟨e, 0, none⟩ = some (.int .i64 zt) := cell_regrown (Vwa.cell 0)
          have f1 : ∀ d' os, (Go.Sort.grow (redrawn wa d') os).cell? ⟨e, 1, none⟩ = some (.int .i64 zs) := cell_regrown (Vwa.cell 1)
          have f2 : ∀ d' os, (Go.Sort.grow (redrawn wa d') os).cell? ⟨e, 2, none⟩ = some (.int .i64 zf) := cell_regrown (Vwa.cell 2)
          have f3 : ∀ d' os, (Go.Sort.grow (redrawn wa d') os).cell? ⟨e, 3, none⟩ = some (.int .i64 zl) := cell_regrown (Vwa.cell 3)
          have f4 : ∀ d' os, (Go.Sort.grow (redrawn wa d') os).cell? ⟨e, 4, none⟩ = some (.int .i64 zu) := cell_regrown (Vwa.cell 4)
          have f5 : ∀ d' os, (Go.Sort.grow (redrawn wa d') os).cell? ⟨e, 5, none⟩ = some (.int .i64 zc) := cell_regrown (Vwa.cell 5)
          have f6 : ∀ d' os, (Go.Sort.grow (redrawn wa d') os).cell? ⟨e, 6, none⟩ = some (.slice zmA zmn zmc) := cell_regrown (Vwa.cell 6)
          have f7 : ∀ d' os, (Go.Sort.grow (redrawn wa d') os).cell? ⟨e, 7, none⟩ = some (.slice zkA zkn zkc) := cell_regrown (Vwa.cell 7)
          have HWA := Lib.hid hwa
          clear hwa ba Vwa hr2 hzi no hp0
          go_upto_region 7 with (first
            | (refine wpList_load_mid rfl 51 _ rfl g (off + k * 8) rfl [.int .i64 zt, .int .i64 zs, .int .i64 zf, .int .i64 zl, .int .i64 zu, .int .i64 zc, .slice zmA zmn zmc, .slice zkA zkn zkc] _ HR2.out Try.underlying51 rfl (by kernel_rfl) ?_)
            | (refine wpList_store_new rfl (W := wr) rfl (c := #[.int .i64 0, .int .i64 0, .int .i64 0, .int .i64 0, .int .i64 0, .int .i64 0, .slice none 0 0, .slice none 0 0]) (c' := #[.int .i64 zt, .int .i64 zs, .int .i64 zf, .int .i64 zl, .int .i64 zu, .int .i64 zc, .slice zmA zmn zmc, .slice zkA zkn zkc]) rfl (by simp [he]) rfl (by kernel_rfl) rfl rfl ?_; simp only [Act.put]))
          (try rw [he])
          rw [← HWA.out]
          clear HWA he HR2
          obtain ⟨sq, hsq⟩ : ∃ sq : Int → Int → Bool, sq = fun a b => decide (seqOk a b) := ⟨_, rfl⟩
          have SQ : Hid (Sq sq) := Lib.hid (by rw [hsq]; exact ⟨fun h => of_decide_eq_true h, fun h => of_decide_eq_false h⟩)
          have CG : Hid (∀ z a W, Calls Try.prog 26 #[.int .i64 z, .int .i64 a] W (Ret (.bool (sq a z)) W)) := Lib.hid (by rw [hsq]; exact fun z a W => RetB.dec (refSeq_any z a W))
          clear hsq
          cases s1 : sq 1 zt
          · have s1' : ¬ seqOk 1 zt := SQ.out.no s1
            have HNO := NO.out (fun q => s1' q.1.1)
            clear s1' hp
            refine wp_region_quiet_below (by kernel_rfl) (by kernel_rfl) ?_
            repeat (any_goals (first | go_big_quiet_step ((go_at_call 26; exact Calls.regrown_of (CG.out _ _ _))) | quiet_step ((go_at_call 26; exact Calls.regrown_of (CG.out _ _ _)))))
            refine wpQuiet_nil ?_
            intro _ hw'
            obtain ⟨⟨dq, osq⟩, hw''⟩ := hw'
            subst hw''
            have R := Lib.hid (HNO.out _ (below_regrown wa dq osq))
            clear CG f0 f1 f2 f3 f4 f5 f6 f7 NO YES ZI BA HNO
            go_wp2_with fail
            go_ret
            exact R.out
          by_cases h3 : 0 < k
          · have fq := hp h3
            obtain ⟨y, ey⟩ : ∃ y, y = (l.getD (k - 1) default).tx := ⟨_, rfl⟩
            rw [← ey] at fq NO YES
            obtain ⟨k1, rfl⟩ : ∃ k1, k = k1 + 1 := ⟨k - 1, by omega⟩
            simp only [Nat.add_sub_cancel] at fq
            have h3' : decide ((0 : Int) < ((k1 + 1 : Nat) : Int)) = true := decide_eq_true (by omega)
            have e4 : ((k1 + 1 : Nat) : Int) - 1 = (k1 : Int) := by omega
            clear ey hp
            by_cases h4 : zt ≤ y
            · have h4' : decide (zt ≤ y) = true := decide_eq_true h4
              have HNO := NO.out (fun q => by have := q.2 h3; omega)
              skip
              refine wp_region_quiet_below (by kernel_rfl) (by kernel_rfl) ?_
              repeat (any_goals (first | go_big_quiet_step ((go_at_call 26; exact Calls.regrown_of (CG.out _ _ _))) | quiet_step ((go_at_call 26; exact Calls.regrown_of (CG.out _ _ _)))))
              refine wpQuiet_nil ?_
              intro _ hw'
              obtain ⟨⟨dq, osq⟩, hw''⟩ := hw'
              subst hw''
              have R := Lib.hid (HNO.out _ (below_regrown wa dq osq))
              clear CG f0 f1 f2 f3 f4 f5 f6 f7 NO YES ZI BA HNO fq
              go_wp2_with fail
              go_ret
              exact R.out
            have h4' : decide (zt ≤ y) = false := decide_eq_false h4
            by_cases s2 : zs < 1
            · have q2 : decide (zs < 1) = true := decide_eq_true s2
              have HNO := NO.out (fun q => by have := q.1.2.1.1; have q3 : (1 : Int) ≤ zs := this; omega)
              clear s2
              refine wp_region_quiet_below (by kernel_rfl) (by kernel_rfl) ?_
              repeat (any_goals (first | go_big_quiet_step ((go_at_call 26; exact Calls.regrown_of (CG.out _ _ _))) | quiet_step ((go_at_call 26; exact Calls.regrown_of (CG.out _ _ _)))))
              refine wpQuiet_nil ?_
              intro _ hw'
              obtain ⟨⟨dq, osq⟩, hw''⟩ := hw'
              subst hw''
              have R := Lib.hid (HNO.out _ (below_regrown wa dq osq))
              clear CG f0 f1 f2 f3 f4 f5 f6 f7 NO YES ZI BA HNO fq
              go_wp2_with fail
              go_ret
              exact R.out
            have q2 : decide (zs < 1) = false := decide_eq_false s2
            by_cases s3 : 4 < zs
            · have q3 : decide (4 < zs) = true := decide_eq_true s3
              have HNO := NO.out (fun q => by have := q.1.2.1.2; have q3 : zs ≤ (4 : Int) := this; omega)
              clear s2 s3
              refine wp_region_quiet_below (by kernel_rfl) (by kernel_rfl) ?_
              repeat (any_goals (first | go_big_quiet_step ((go_at_call 26; exact Calls.regrown_of (CG.out _ _ _))) | quiet_step ((go_at_call 26; exact Calls.regrown_of (CG.out _ _ _)))))
              refine wpQuiet_nil ?_
              intro _ hw'
              obtain ⟨⟨dq, osq⟩, hw''⟩ := hw'
              subst hw''
              have R := Lib.hid (HNO.out _ (below_regrown wa dq osq))
              clear CG f0 f1 f2 f3 f4 f5 f6 f7 NO YES ZI BA HNO fq
              go_wp2_with fail
              go_ret
              exact R.out
            have q3 : decide (4 < zs) = false := decide_eq_false s3
            cases t2 : sq 0 zf
            · have t2' : ¬ seqOk 0 zf := SQ.out.no t2
              have HNO := NO.out (fun q => t2' q.1.2.2.1)
              clear t2'
              refine wp_region_quiet_below (by kernel_rfl) (by kernel_rfl) ?_
              repeat (any_goals (first | go_big_quiet_step ((go_at_call 26; exact Calls.regrown_of (CG.out _ _ _))) | quiet_step ((go_at_call 26; exact Calls.regrown_of (CG.out _ _ _)))))
              refine wpQuiet_nil ?_
              intro _ hw'
              obtain ⟨⟨dq, osq⟩, hw''⟩ := hw'
              subst hw''
              have R := Lib.hid (HNO.out _ (below_regrown wa dq osq))
              clear CG f0 f1 f2 f3 f4 f5 f6 f7 NO YES ZI BA HNO fq
              go_wp2_with fail
              go_ret
              exact R.out
            cases t3 : sq 0 zl
            · have t3' : ¬ seqOk 0 zl := SQ.out.no t3
              have HNO := NO.out (fun q => t3' q.1.2.2.2.1)
              clear t3'
              refine wp_region_quiet_below (by kernel_rfl) (by kernel_rfl) ?_
              repeat (any_goals (first | go_big_quiet_step ((go_at_call 26; exact Calls.regrown_of (CG.out _ _ _))) | quiet_step ((go_at_call 26; exact Calls.regrown_of (CG.out _ _ _)))))
              refine wpQuiet_nil ?_
              intro _ hw'
              obtain ⟨⟨dq, osq⟩, hw''⟩ := hw'
              subst hw''
              have R := Lib.hid (HNO.out _ (below_regrown wa dq osq))
              clear CG f0 f1 f2 f3 f4 f5 f6 f7 NO YES ZI BA HNO fq
              go_wp2_with fail
              go_ret
              exact R.out
            cases t4 : sq 0 zu
            · have t4' : ¬ seqOk 0 zu := SQ.out.no t4
              have HNO := NO.out (fun q => t4' q.1.2.2.2.2.1)
              clear t4'
              refine wp_region_quiet_below (by kernel_rfl) (by kernel_rfl) ?_
              repeat (any_goals (first | go_big_quiet_step ((go_at_call 26; exact Calls.regrown_of (CG.out _ _ _))) | quiet_step ((go_at_call 26; exact Calls.regrown_of (CG.out _ _ _)))))
              refine wpQuiet_nil ?_
              intro _ hw'
              obtain ⟨⟨dq, osq⟩, hw''⟩ := hw'
              subst hw''
              have R := Lib.hid (HNO.out _ (below_regrown wa dq osq))
              clear CG f0 f1 f2 f3 f4 f5 f6 f7 NO YES ZI BA HNO fq
              go_wp2_with fail
              go_ret
              exact R.out
            refine wp_region_quiet_below (by kernel_rfl) (by kernel_rfl) ?_
            repeat (any_goals (first | go_big_quiet_step ((go_at_call 26; exact Calls.regrown_of (CG.out _ _ _))) | quiet_step ((go_at_call 26; exact Calls.regrown_of (CG.out _ _ _)))))
            refine wpQuiet_nil ?_
            intro _ hw'
            obtain ⟨⟨dq, osq⟩, hw''⟩ := hw'
            subst hw''
            obtain ⟨wb, hwb⟩ : ∃ wb, wb = Go.Sort.grow (redrawn wa dq) osq := ⟨_, rfl⟩
            have bwb : Below wa.heap.size wa wb := by rw [hwb]; exact below_regrown wa dq osq
            have g5 : wb.cell? ⟨e, 5, none⟩ = some (.int .i64 zc) := by rw [hwb]; exact f5 dq osq
            have g6 : wb.cell? ⟨e, 6, none⟩ = some (.slice zmA zmn zmc) := by rw [hwb]; exact f6 dq osq
            have g7 : wb.cell? ⟨e, 7, none⟩ = some (.slice zkA zkn zkc) := by rw [hwb]; exact f7 dq osq
            rw [← hwb]
            have BWB := Lib.hid bwb
            have ZB := Lib.hid (XwIn.calm_ ZI.out (Calm.of_below (H := H) bwb))
            have YB := YES.out (fun _ => by show y < zt; omega)
            have YS := Lib.hid (show seqOk 1 zt ∧ (1 ≤ zs ∧ zs ≤ 4) ∧ seqOk 0 zf ∧ seqOk 0 zl ∧ seqOk 0 zu from ⟨SQ.out.yes s1, ⟨by omega, by omega⟩, SQ.out.yes t2, SQ.out.yes t3, SQ.out.yes t4⟩)
            have BB := Lib.hid (Below.then BA.out bwb)
            clear hwb bwb CG f0 f1 f2 f3 f4 f5 f6 f7 YES ZI s1 s2 s3 q2 q3 t2 t3 t4 SQ fq h4 h4'
            by_cases s5 : zc < 0
            · have q5 : decide (zc < 0) = true := decide_eq_true s5
              have R := Lib.hid ((NO.out (fun q => by have := q.1.2.2.2.2.2.1.1; have q3 : (0 : Int) ≤ zc := this; omega)).out _ BWB.out)
              clear NO YB YS ZB BB
              go_wp2_with fail
              go_ret
              exact R.out
            have q5 : decide (zc < 0) = false := decide_eq_false s5
            by_cases s6 : 7 < zc
            · have q6 : decide (7 < zc) = true := decide_eq_true s6
              have R := Lib.hid ((NO.out (fun q => by have := q.1.2.2.2.2.2.1.2; have q3 : zc ≤ (7 : Int) := this; omega)).out _ BWB.out)
              clear NO YB YS ZB BB
              go_wp2_with fail
              go_ret
              exact R.out
            have q6 : decide (7 < zc) = false := decide_eq_false s6
            have YC : Hid (0 ≤ zc ∧ zc ≤ 7) := Lib.hid ⟨by omega, by omega⟩
            clear s5 s6
            go_wp2_with fail
            refine (refMem_any zmA zmn zmc H zmem wb ZB.out.mem).mono ?_
            rintro e2 w2 ⟨b, rfl, hb, m, rfl⟩
            cases b with
            | false =>
              have R := Lib.hid ((NO.out (fun q => by have := hb.2 q.1.2.2.2.2.2.2.1; cases this)).out _ (below_drewN BWB.out m))
              clear NO YB YS ZB BB YC hb
              go_wp2_with fail
              go_ret
              first | exact R.out | (rw [World.drewN_drewN]; exact R.out)
            | true =>
              have YM := Lib.hid (hb.1 rfl)
              clear hb
              go_wp2_with fail
              refine (refLks_any zkA zkn zkc H zlks (wb.drewN m) (ZB.out.lks.calm (calm_drewN H wb m))).mono ?_
              rintro e3 w3 ⟨b, rfl, hb, m2, rfl⟩
              cases b with
              | false =>
                have R := Lib.hid ((NO.out (fun q => by have := hb.2 q.1.2.2.2.2.2.2.2; cases this)).out _ (below_drewN BWB.out (m + m2)))
                clear NO YB YS ZB BB YC YM hb
                go_wp2_with fail
                go_ret
                first | exact R.out | (rw [World.drewN_drewN]; exact R.out)
              | true =>
                have HQ := YB.out ⟨YS.out.1, YS.out.2.1, YS.out.2.2.1, YS.out.2.2.2.1, YS.out.2.2.2.2, YC.out, YM.out, hb.1 rfl⟩
                have BF := Lib.hid (below_drewN BB.out (m + m2))
                clear NO YB YS ZB BB YC YM hb
                go_wp2_with fail
                go_roundw
                case rel => exact ⟨k1 + 1 + 1, by omega, by go_num, by first | exact BF.out | (rw [World.drewN_drewN]; exact BF.out), HQ⟩
                case measure => simp [intOf]; omega
          · have h3' : decide ((0 : Int) < (k : Int)) = false := decide_eq_false (by omega)
            clear hp
            by_cases s2 : zs < 1
            · have q2 : decide (zs < 1) = true := decide_eq_true s2
              have HNO := NO.out (fun q => by have := q.1.2.1.1; have q3 : (1 : Int) ≤ zs := this; omega)
              clear s2
              refine wp_region_quiet_below (by kernel_rfl) (by kernel_rfl) ?_
              repeat (any_goals (first | go_big_quiet_step ((go_at_call 26; exact Calls.regrown_of (CG.out _ _ _))) | quiet_step ((go_at_call 26; exact Calls.regrown_of (CG.out _ _ _)))))
              refine wpQuiet_nil ?_
              intro _ hw'
              obtain ⟨⟨dq, osq⟩, hw''⟩ := hw'
              subst hw''
              have R := Lib.hid (HNO.out _ (below_regrown wa dq osq))
              clear CG f0 f1 f2 f3 f4 f5 f6 f7 NO YES ZI BA HNO
              go_wp2_with fail
              go_ret
              exact R.out
            have q2 : decide (zs < 1) = false := decide_eq_false s2
            by_cases s3 : 4 < zs
            · have q3 : decide (4 < zs) = true := decide_eq_true s3
              have HNO := NO.out (fun q => by have := q.1.2.1.2; have q3 : zs ≤ (4 : Int) := this; omega)
              clear s2 s3
              refine wp_region_quiet_below (by kernel_rfl) (by kernel_rfl) ?_
              repeat (any_goals (first | go_big_quiet_step ((go_at_call 26; exact Calls.regrown_of (CG.out _ _ _))) | quiet_step ((go_at_call 26; exact Calls.regrown_of (CG.out _ _ _)))))
              refine wpQuiet_nil ?_
              intro _ hw'
              obtain ⟨⟨dq, osq⟩, hw''⟩ := hw'
              subst hw''
              have R := Lib.hid (HNO.out _ (below_regrown wa dq osq))
              clear CG f0 f1 f2 f3 f4 f5 f6 f7 NO YES ZI BA HNO
              go_wp2_with fail
              go_ret
              exact R.out
            have q3 : decide (4 < zs) = false := decide_eq_false s3
            cases t2 : sq 0 zf
            · have t2' : ¬ seqOk 0 zf := SQ.out.no t2
              have HNO := NO.out (fun q => t2' q.1.2.2.1)
              clear t2'
              refine wp_region_quiet_below (by kernel_rfl) (by kernel_rfl) ?_
              repeat (any_goals (first | go_big_quiet_step ((go_at_call 26; exact Calls.regrown_of (CG.out _ _ _))) | quiet_step ((go_at_call 26; exact Calls.regrown_of (CG.out _ _ _)))))
              refine wpQuiet_nil ?_
              intro _ hw'
              obtain ⟨⟨dq, osq⟩, hw''⟩ := hw'
              subst hw''
              have R := Lib.hid (HNO.out _ (below_regrown wa dq osq))
              clear CG f0 f1 f2 f3 f4 f5 f6 f7 NO YES ZI BA HNO
              go_wp2_with fail
              go_ret
              exact R.out
            cases t3 : sq 0 zl
            · have t3' : ¬ seqOk 0 zl := SQ.out.no t3
              have HNO := NO.out (fun q => t3' q.1.2.2.2.1)
              clear t3'
              refine wp_region_quiet_below (by kernel_rfl) (by kernel_rfl) ?_
              repeat (any_goals (first | go_big_quiet_step ((go_at_call 26; exact Calls.regrown_of (CG.out _ _ _))) | quiet_step ((go_at_call 26; exact Calls.regrown_of (CG.out _ _ _)))))
              refine wpQuiet_nil ?_
              intro _ hw'
              obtain ⟨⟨dq, osq⟩, hw''⟩ := hw'
              subst hw''
              have R := Lib.hid (HNO.out _ (below_regrown wa dq osq))
              clear CG f0 f1 f2 f3 f4 f5 f6 f7 NO YES ZI BA HNO
              go_wp2_with fail
              go_ret
              exact R.out
            cases t4 : sq 0 zu
            · have t4' : ¬ seqOk 0 zu := SQ.out.no t4
              have HNO := NO.out (fun q => t4' q.1.2.2.2.2.1)
              clear t4'
              refine wp_region_quiet_below (by kernel_rfl) (by kernel_rfl) ?_
              repeat (any_goals (first | go_big_quiet_step ((go_at_call 26; exact Calls.regrown_of (CG.out _ _ _))) | quiet_step ((go_at_call 26; exact Calls.regrown_of (CG.out _ _ _)))))
              refine wpQuiet_nil ?_
              intro _ hw'
              obtain ⟨⟨dq, osq⟩, hw''⟩ := hw'
              subst hw''
              have R := Lib.hid (HNO.out _ (below_regrown wa dq osq))
              clear CG f0 f1 f2 f3 f4 f5 f6 f7 NO YES ZI BA HNO
              go_wp2_with fail
              go_ret
              exact R.out
            refine wp_region_quiet_below (by kernel_rfl) (by kernel_rfl) ?_
            repeat (any_goals (first | go_big_quiet_step ((go_at_call 26; exact Calls.regrown_of (CG.out _ _ _))) | quiet_step ((go_at_call 26; exact Calls.regrown_of (CG.out _ _ _)))))
            refine wpQuiet_nil ?_
            intro _ hw'
            obtain ⟨⟨dq, osq⟩, hw''⟩ := hw'
            subst hw''
            obtain ⟨wb, hwb⟩ : ∃ wb, wb = Go.Sort.grow (redrawn wa dq) osq := ⟨_, rfl⟩
            have bwb : Below wa.heap.size wa wb := by rw [hwb]; exact below_regrown wa dq osq
            have g5 : wb.cell? ⟨e, 5, none⟩ = some (.int .i64 zc) := by rw [hwb]; exact f5 dq osq
            have g6 : wb.cell? ⟨e, 6, none⟩ = some (.slice zmA zmn zmc) := by rw [hwb]; exact f6 dq osq
            have g7 : wb.cell? ⟨e, 7, none⟩ = some (.slice zkA zkn zkc) := by rw [hwb]; exact f7 dq osq
            rw [← hwb]
            have BWB := Lib.hid bwb
            have ZB := Lib.hid (XwIn.calm_ ZI.out (Calm.of_below (H := H) bwb))
            have YB := YES.out (fun q => absurd q (by omega))
            have YS := Lib.hid (show seqOk 1 zt ∧ (1 ≤ zs ∧ zs ≤ 4) ∧ seqOk 0 zf ∧ seqOk 0 zl ∧ seqOk 0 zu from ⟨SQ.out.yes s1, ⟨by omega, by omega⟩, SQ.out.yes t2, SQ.out.yes t3, SQ.out.yes t4⟩)
            have BB := Lib.hid (Below.then BA.out bwb)
            clear hwb bwb CG f0 f1 f2 f3 f4 f5 f6 f7 YES ZI s1 s2 s3 q2 q3 t2 t3 t4 SQ
            by_cases s5 : zc < 0
            · have q5 : decide (zc < 0) = true := decide_eq_true s5
              have R := Lib.hid ((NO.out (fun q => by have := q.1.2.2.2.2.2.1.1; have q3 : (0 : Int) ≤ zc := this; omega)).out _ BWB.out)
              clear NO YB YS ZB BB
              go_wp2_with fail
              go_ret
              exact R.out
            have q5 : decide (zc < 0) = false := decide_eq_false s5
            by_cases s6 : 7 < zc
            · have q6 : decide (7 < zc) = true := decide_eq_true s6
              have R := Lib.hid ((NO.out (fun q => by have := q.1.2.2.2.2.2.1.2; have q3 : zc ≤ (7 : Int) := this; omega)).out _ BWB.out)
              clear NO YB YS ZB BB
              go_wp2_with fail
              go_ret
              exact R.out
            have q6 : decide (7 < zc) = false := decide_eq_false s6
            have YC : Hid (0 ≤ zc ∧ zc ≤ 7) := Lib.hid ⟨by omega, by omega⟩
            clear s5 s6
            go_wp2_with fail
            refine (refMem_any zmA zmn zmc H zmem wb ZB.out.mem).mono ?_
            rintro e2 w2 ⟨b, rfl, hb, m, rfl⟩
            cases b with
            | false =>
              have R := Lib.hid ((NO.out (fun q => by have := hb.2 q.1.2.2.2.2.2.2.1; cases this)).out _ (below_drewN BWB.out m))
              clear NO YB YS ZB BB YC hb
              go_wp2_with fail
              go_ret
              first | exact R.out | (rw [World.drewN_drewN]; exact R.out)
            | true =>
              have YM := Lib.hid (hb.1 rfl)
              clear hb
              go_wp2_with fail
              refine (refLks_any zkA zkn zkc H zlks (wb.drewN m) (ZB.out.lks.calm (calm_drewN H wb m))).mono ?_
              rintro e3 w3 ⟨b, rfl, hb, m2, rfl⟩
              cases b with
              | false =>
                have R := Lib.hid ((NO.out (fun q => by have := hb.2 q.1.2.2.2.2.2.2.2; cases this)).out _ (below_drewN BWB.out (m + m2)))
                clear NO YB YS ZB BB YC YM hb
                go_wp2_with fail
                go_ret
                first | exact R.out | (rw [World.drewN_drewN]; exact R.out)
              | true =>
                have HQ := YB.out ⟨YS.out.1, YS.out.2.1, YS.out.2.2.1, YS.out.2.2.2.1, YS.out.2.2.2.2, YC.out, YM.out, hb.1 rfl⟩
                have BF := Lib.hid (below_drewN BB.out (m + m2))
                clear NO YB YS ZB BB YC YM hb
                go_wp2_with fail
                go_roundw
                case rel => exact ⟨k + 1, by omega, by go_num, by first | exact BF.out | (rw [World.drewN_drewN]; exact BF.out), HQ⟩
                case measure => simp [intOf]; omega
        · have hkn : k = n := by omega
          subst hkn
          have R := Lib.hid (RetBB.of (P := rwsOk (l.map Xw.row)) (b := true) ⟨fun _ => ⟨by rw [List.length_map, HL.out]; omega, fun i hi => by
            rw [List.length_map] at hi
            have := HP.out i (by rw [← HL.out]; exact hi)
            rw [mapg l Xw.row i hi]
            refine ⟨this.1, fun h0 => ?_⟩
            rw [mapg l Xw.row (i - 1) (by omega)]
            exact this.2 h0⟩, fun _ => rfl⟩ HBW.out)
          clear SW
          go_wp2_with fail
          go_ret
          exact R.out
    · have h0 : n = 0 := by omega
      subst h0
      have R := Lib.hid (RetB.below (RetB.yes (P := rwsOk (l.map Xw.row)) (w := w) (w' := w) ⟨by rw [List.length_map]; omega, fun i hi => by rw [List.length_map] at hi; exact absurd hi (by omega)⟩ (drew_self w)))
      clear h hn hl
      go_enter Try.func49, Try.ntmps49
      go_wp2_with fail
      refine wp_loop_rounds 1 ?_
      rw [rounds_succ]
      go_wp2_with fail
      go_ret
      exact R.out
end Go.Proofs.Ytfldcddbmikfiaa
