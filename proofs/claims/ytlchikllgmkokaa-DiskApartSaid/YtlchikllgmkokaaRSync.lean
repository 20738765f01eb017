/- What it says: the document's Sync answers and leaves what the plain disk does. -/
import Derived.Test.YtlchikllgmkokaaRRead
namespace Go.Proofs.Ytlchikllgmkokaa
open Go.RowKit

/-- The first k writes synchronized. -/
def St.part (s : St) (k : Nat) : St := { s.step with syn := s.upTo k }

theorem St.part_at (s : St) (k i : Nat) : (s.part k).at_ i = s.at_ i := by
  unfold St.at_
  show s.step.pend.getD i _ = _
  rw [St.step_pend]
theorem St.Ok.part {s : St} (h : s.Ok) (k : Nat) (hk : k ≤ s.pend.length) : (s.part k).Ok := ⟨h.step.num, h.upTo k hk, h.step.pend, h.step.left⟩

/-- One write more. -/
theorem RfdB.part_next {wr : World} {F : Nat → Prop} {g sb : Nat} {LA : Option Addr} {sc lc : Nat} {sl : List Value} {rl : List (Nat × Value)} {s : St} {k : Nat} {v : Value}
    (hok : s.Ok) (h : RfdB wr F g (some ⟨sb, 0, none⟩) sc LA lc sl rl (s.part k)) (hk : k < s.pend.length) (hv : Dat wr F v (s.at_ k).2) :
    RfdB (wr.setCell ⟨sb, (s.at_ k).1, none⟩ v) F g (some ⟨sb, 0, none⟩) sc LA lc (sl.set (s.at_ k).1 v) rl (s.part (k + 1)) ∧ Fr F wr (wr.setCell ⟨sb, (s.at_ k).1, none⟩ v) := by
  have hbs : ∀ q, q ≠ sb → (wr.setCell ⟨sb, (s.at_ k).1, none⟩ v).heap[q]? = wr.heap[q]? := fun q hq => Below.heap_setCell _ _ _ _ hq
  have hsbF : F sb := h.fs sb rfl
  have hsl : sl.length = (s.part k).num := by simpa using h.srow.1
  have hn : (s.part k).num = s.num := St.step_num s
  have hp : (s.part k).pend = s.pend := St.step_pend s
  have hat := hok.at_ k hk
  have hgs : g ≠ sb := fun e => row_not_bk h.srow h.blk (by decide) (by rw [e]; rfl)
  have hdk : ∀ {x l}, Dat wr F x l → Dat (wr.setCell ⟨sb, (s.at_ k).1, none⟩ v) F x l := fun {x l} hd => ⟨owns_keep hd.1 (fun q hq => hbs q (fun e => row_not_row hd.1 h.srow (by decide) q hq (by rw [e]; rfl))), hd.2⟩
  refine ⟨⟨h.blk.eq (hbs g hgs), (h.srow.stored _ _).1, owns_keep h.lrow (fun q hq => hbs q (fun e => row_not_row h.lrow h.srow (by decide) q hq (by rw [e]; rfl))), h.rlen, fun n hnn => ?_, fun i hi => ?_, h.fg, h.fs, h.fl, fun q f => ?_, hok.part (k + 1) hk, h.lim⟩, (Fr.refl F wr).setCell (a := ⟨sb, (s.at_ k).1, none⟩) hsbF v⟩
  · have hnn' : n < (s.part k).num := hnn
    by_cases he : n = (s.at_ k).1
    · subst he
      refine ⟨v, by rw [List.getElem?_set_self (by omega)], ?_⟩
      have e2 : (s.part (k + 1)).syn (s.at_ k).1 = (s.at_ k).2 := by
        show upd (s.upTo k) (s.at_ k).1 (s.at_ k).2 _ = _
        unfold upd
        rw [if_pos rfl]
      rw [e2]
      exact hdk hv
    · obtain ⟨x, a1, a2⟩ := h.syn n hnn'
      refine ⟨x, by rw [List.getElem?_set_ne (fun e => he e.symm)]; exact a1, ?_⟩
      have e2 : (s.part (k + 1)).syn n = (s.part k).syn n := by
        show upd (s.upTo k) (s.at_ k).1 (s.at_ k).2 n = _
        unfold upd
        rw [if_neg he]
        rfl
      rw [e2]
      exact hdk a2
  · obtain ⟨x, a1, a2⟩ := h.pnd i hi
    exact ⟨x, a1, hdk a2⟩
  · have := h.lt q f
    simpa [World.setCell] using this

/-- What Sync leaves. -/
def RetRSync (F : Nat → Prop) (g : Nat) (e0 : Int) (s' : St) (w : World) (e : Ending) (w' : World) : Prop := e = .returned (.int .i64 e0) ∧ Turn (rfd g s') F w w'

theorem RfdB.synced {w wr : World} {F : Nat → Prop} {g : Nat} {SA LA : Option Addr} {sc lc : Nat} {sl : List Value} {rl : List (Nat × Value)} {s : St} (hok : s.Ok) (hlim : s.syncs < 999999)
    (h : RfdB wr F g SA sc LA lc sl rl (s.part s.pend.length)) (hf : Fr F w wr) :
    RetRSync F g 0 s.synced w (.returned (.int .i64 0)) ((wr.setCell ⟨g, 1, none⟩ (.slice none 0 0)).setCell ⟨g, 4, none⟩ (.int .i64 (s.syncs + 1))) := by
  have hfr : Fr F w ((wr.setCell ⟨g, 1, none⟩ (.slice none 0 0)).setCell ⟨g, 4, none⟩ (.int .i64 (s.syncs + 1))) := (hf.setCell (a := ⟨g, 1, none⟩) h.fg _).setCell (a := ⟨g, 4, none⟩) h.fg _
  have hbs : ∀ q, q ≠ g → ((wr.setCell ⟨g, 1, none⟩ (.slice none 0 0)).setCell ⟨g, 4, none⟩ (.int .i64 (s.syncs + 1))).heap[q]? = wr.heap[q]? := fun q hq => by
    rw [Below.heap_setCell _ _ _ _ hq, Below.heap_setCell _ _ _ _ hq]
  have hdk : ∀ {x l}, Dat wr F x l → Dat ((wr.setCell ⟨g, 1, none⟩ (.slice none 0 0)).setCell ⟨g, 4, none⟩ (.int .i64 (s.syncs + 1))) F x l := fun {x l} hd => ⟨owns_keep hd.1 (fun q hq => hbs q (fun e => row_not_bk hd.1 h.blk (by decide) (e ▸ hq))), hd.2⟩
  have hlt : ∀ q, F q → q < ((wr.setCell ⟨g, 1, none⟩ (.slice none 0 0)).setCell ⟨g, 4, none⟩ (.int .i64 (s.syncs + 1))).heap.size := fun q f => by
    have := h.lt q f
    simpa [World.setCell] using this
  have hsok : s.synced.Ok := ⟨hok.step.num, hok.now, fun p hp => by simp [St.synced] at hp, hok.step.left⟩
  have D : RfdB ((wr.setCell ⟨g, 1, none⟩ (.slice none 0 0)).setCell ⟨g, 4, none⟩ (.int .i64 (s.syncs + 1))) F g SA sc none 0 sl [] s.synced := by
    refine ⟨?_, owns_keep h.srow (fun q hq => hbs q (fun e => row_not_bk h.srow h.blk (by decide) (e ▸ hq))), World.ownsRow_nil _ _ _ _, rfl, fun n hn => ?_, fun i hi => absurd hi (by simp [St.synced]), h.fg, h.fs, fun q hq => by simp [St.synced, Value.ownBlock] at hq, hlt, hsok, ⟨by simp [St.synced], by show s.syncs + 1 < _; omega⟩⟩
    · have := (h.blk.setc 1 (.slice none 0 0)).setc 4 (.int .i64 (s.syncs + 1))
      simpa [St.synced, St.part] using this
    · obtain ⟨x, a1, a2⟩ := h.syn n hn
      exact ⟨x, a1, hdk a2⟩
  exact ⟨rfl, ⟨SA, sc, none, 0, sl, [], D.mono (fun _ f => .inl f) (fun q f => by
    rcases f with f | f
    · exact hlt q f
    · exact f.2)⟩, hfr⟩

set_option maxHeartbeats 1000000 in
theorem rsync_down {w : World} {F : Nat → Prop} {g : Nat} {SA LA : Option Addr} {sc lc : Nat} {sl : List Value} {rl : List (Nat × Value)} {s : St} (h : RfdB w F g SA sc LA lc sl rl s) (hc : s.can = false) :
    Calls Try.prog 17 #[.pointer (some ⟨g, 0, none⟩)] w (RetRSync F g 40 s.step w) := by
  have C2 := Lib.hid (rstep_any h)
  have T := Lib.hid (fun w' (h' : RfdB w' F g SA sc LA lc sl rl s.step) hf => h.turned h' hf)
  have HC := Lib.hid hc
  clear h hc
  go_enter Try.func17, Try.ntmps17
  go_wp2_with fail
  refine C2.out.mono ?_
  rintro e w' ⟨rfl, h1, h2⟩
  rw [HC.out]
  have R : Hid (RetRSync F g 40 s.step w (.returned (.int .i64 40)) w') := Lib.hid ⟨rfl, T.out w' h1 h2⟩
  clear h1 h2
  go_wp2_with fail
  go_ret
  exact R.out

set_option maxRecDepth 100000 in
set_option maxHeartbeats 4000000 in
theorem rsync_made {w : World} {F : Nat → Prop} {g : Nat} {SA LA : Option Addr} {sc lc : Nat} {sl : List Value} {rl : List (Nat × Value)} {s : St} (h : RfdB w F g SA sc LA lc sl rl s) (hc : s.can = true) (hlim : s.syncs < 999999) :
    Calls Try.prog 17 #[.pointer (some ⟨g, 0, none⟩)] w (RetRSync F g 0 s.synced w) := by
  have C2 := Lib.hid (rstep_any h)
  have HC := Lib.hid hc
  have HOK := Lib.hid h.ok
  have HFG := Lib.hid h.fg
  have hpl := h.lim.1
  have hnum := h.ok.num
  obtain ⟨hl1, hl2⟩ := h.lcap
  obtain ⟨sb, _, _, rfl, hs1, hs2, _, _⟩ := h.syn_at 0 (by omega)
  unfold maxLen at hs2
  clear h hc
  go_enter Try.func17, Try.ntmps17
  go_wp2_with fail
  refine C2.out.mono ?_
  rintro e w1 ⟨rfl, h1, h2⟩
  rw [HC.out]
  have R0 : Hid (∃ sl, RfdB w1 F g (some ⟨sb, 0, none⟩) sc LA lc sl rl (s.part 0) ∧ Fr F w w1) := Lib.hid ⟨sl, by
    have e : s.part 0 = s.step := by unfold St.part; show { s.step with syn := s.syn } = s.step; rw [← St.step_syn s]
    rw [e]; exact h1, h2.mono (fun q e => e ▸ HFG.out)⟩
  clear h1 h2 C2 HC
  go_wp2_with fail
  go_loopw [3] (fun q wr => ∃ k : Nat, k ≤ s.pend.length ∧ q = .int .i64 k ∧ ∃ sl, RfdB wr F g (some ⟨sb, 0, none⟩) sc LA lc sl rl (s.part k) ∧ Fr F w wr) (fun q _ => s.pend.length - (intOf q).toNat)
  case atStart => exact ⟨0, Nat.zero_le _, rfl, R0.out⟩
  case round =>
    obtain ⟨k, hk, rfl, sl, hr, hf⟩ := hrel
    have ep : (s.part k).pend.length = s.pend.length := by show s.step.pend.length = _; rw [St.step_pend]
    have en : (s.part k).num = s.num := St.step_num s
    have hc0 : wr.cell? ⟨g, 0, none⟩ = some (.slice (some ⟨sb, 0, none⟩) s.num sc) := by have := hr.blk.cell 0; rw [en] at this; exact this
    have hc1 : wr.cell? ⟨g, 1, none⟩ = some (.slice LA s.pend.length lc) := by have := hr.blk.cell 1; rw [ep] at this; exact this
    by_cases hlt : k < s.pend.length
    · obtain ⟨lb, vg, vc, rfl, _, _, x0, x1, xd⟩ := hr.list_at k (by rw [ep]; exact hlt)
      rw [St.part_at] at x0 xd
      have hat := HOK.out.at_ k hlt
      obtain ⟨hR1, hR2⟩ := RfdB.part_next HOK.out hr hlt xd
      have hfz : wr.frozen? ⟨sb, (s.at_ k).1, none⟩ = false := hr.srow.frozenAt _
      have hcl : ∃ u, wr.cell? ⟨sb, (s.at_ k).1, none⟩ = some u := by
        obtain ⟨u, a1, _⟩ := hr.syn (s.at_ k).1 (by rw [en]; exact hat.1)
        exact ⟨u, cell_row hr.srow a1⟩
      have R : Hid (∃ sl, RfdB (wr.setCell ⟨sb, (s.at_ k).1, none⟩ (.slice (some ⟨vg, 0, none⟩) 256 vc)) F g (some ⟨sb, 0, none⟩) sc (some ⟨lb, 0, none⟩) lc sl rl (s.part (k + 1)) ∧ Fr F w (wr.setCell ⟨sb, (s.at_ k).1, none⟩ (.slice (some ⟨vg, 0, none⟩) 256 vc))) := Lib.hid ⟨_, hR1, hf.then hR2⟩
      obtain ⟨m, hm⟩ : ∃ m, (s.at_ k).1 = m := ⟨_, rfl⟩
      obtain ⟨u, hcl⟩ := hcl
      rw [hm] at x0 hfz hcl R
      have hmn := hat.1
      rw [hm] at hmn
      clear hr hf xd hR1 hR2 hm hat ep en
      have hk0 : (0 : Int) ≤ (k : Int) := Int.natCast_nonneg _
      have hk1 : (k : Int) < (s.pend.length : Int) := by omega
      have hm0 : (0 : Int) ≤ (m : Int) := Int.natCast_nonneg _
      have hm1 : (m : Int) < (s.num : Int) := by omega
      go_wp2_with fail
      have hS0 : wr.drew.cell? ⟨g, 0, none⟩ = some (.slice (some ⟨sb, 0, none⟩) s.num sc) ∧ wr.drew.cell? ⟨g, 1, none⟩ = some (.slice (some ⟨lb, 0, none⟩) s.pend.length lc) ∧ wr.drew.cell? ⟨lb, k * 2, none⟩ = some (.int .i64 m) ∧ wr.drew.cell? ⟨lb, k * 2 + 1, none⟩ = some (.slice (some ⟨vg, 0, none⟩) 256 vc) := ⟨hc0, hc1, x0, x1⟩
      refine wp_region_noPanic ?_
      refine upto_start (fun w' => w'.cell? ⟨g, 0, none⟩ = some (.slice (some ⟨sb, 0, none⟩) s.num sc) ∧ w'.cell? ⟨g, 1, none⟩ = some (.slice (some ⟨lb, 0, none⟩) s.pend.length lc) ∧ w'.cell? ⟨lb, k * 2, none⟩ = some (.int .i64 m) ∧ w'.cell? ⟨lb, k * 2 + 1, none⟩ = some (.slice (some ⟨vg, 0, none⟩) 256 vc)) 20 (by kernel_rfl) ?_
      change Upto _ _ _ _ _ 22 _ _ _
      refine Upto.take (i := 0) (v := ?_) rfl (by kernel_rfl) (fun _ _ _ h => h) rfl (fun w' hS => ?_) hS0 ?_
      rotate_left
      · (try dsimp only at hS); go_split_ands; go_simp; (try with_reducible rfl)
      simp only [Act.put, List.setIfInBounds_toArray, List.set_cons_zero, List.set_cons_succ]
      refine Upto.take (i := 1) (v := ?_) rfl (by kernel_rfl) (fun _ _ _ h => h) rfl (fun w' hS => ?_) hS0 ?_
      rotate_left
      · (try dsimp only at hS); go_split_ands; go_simp; (try with_reducible rfl)
      simp only [Act.put, List.setIfInBounds_toArray, List.set_cons_zero, List.set_cons_succ]
      refine Upto.take (i := 2) (v := ?_) rfl (by kernel_rfl) (fun _ _ _ h => h) rfl (fun w' hS => ?_) hS0 ?_
      rotate_left
      · (try dsimp only at hS); go_split_ands; go_simp; (try with_reducible rfl)
      simp only [Act.put, List.setIfInBounds_toArray, List.set_cons_zero, List.set_cons_succ]
      refine Upto.take (i := 3) (v := ?_) rfl (by kernel_rfl) (fun _ _ _ h => h) rfl (fun w' hS => ?_) hS0 ?_
      rotate_left
      · (try dsimp only at hS); go_split_ands; go_simp; (try with_reducible rfl)
      simp only [Act.put, List.setIfInBounds_toArray, List.set_cons_zero, List.set_cons_succ]
      refine Upto.take (i := 4) (v := ?_) rfl (by kernel_rfl) (fun _ _ _ h => h) rfl (fun w' hS => ?_) hS0 ?_
      rotate_left
      · (try dsimp only at hS); go_split_ands; go_simp; (try with_reducible rfl)
      simp only [Act.put, List.setIfInBounds_toArray, List.set_cons_zero, List.set_cons_succ]
      refine Upto.take (i := 5) (v := ?_) rfl (by kernel_rfl) (fun _ _ _ h => h) rfl (fun w' hS => ?_) hS0 ?_
      rotate_left
      · (try dsimp only at hS); go_split_ands; go_simp; (try with_reducible rfl)
      simp only [Act.put, List.setIfInBounds_toArray, List.set_cons_zero, List.set_cons_succ]
      refine Upto.take (i := 6) (v := ?_) rfl (by kernel_rfl) (fun _ _ _ h => h) rfl (fun w' hS => ?_) hS0 ?_
      rotate_left
      · (try dsimp only at hS); go_split_ands; go_simp; (try with_reducible rfl)
      simp only [Act.put, List.setIfInBounds_toArray, List.set_cons_zero, List.set_cons_succ]
      refine Upto.take (i := 7) (v := ?_) rfl (by kernel_rfl) (fun _ _ _ h => h) rfl (fun w' hS => ?_) hS0 ?_
      rotate_left
      · (try dsimp only at hS); go_split_ands; go_simp; (try with_reducible rfl)
      simp only [Act.put, List.setIfInBounds_toArray, List.set_cons_zero, List.set_cons_succ]
      refine Upto.take (i := 8) (v := ?_) rfl (by kernel_rfl) (fun _ _ _ h => h) rfl (fun w' hS => ?_) hS0 ?_
      rotate_left
      · (try dsimp only at hS); go_split_ands; go_simp; (try with_reducible rfl)
      simp only [Act.put, List.setIfInBounds_toArray, List.set_cons_zero, List.set_cons_succ]
      refine Upto.take (i := 9) (v := ?_) rfl (by kernel_rfl) (fun _ _ _ h => h) rfl (fun w' hS => ?_) hS0 ?_
      rotate_left
      · (try dsimp only at hS); go_split_ands; go_simp; (try with_reducible rfl)
      simp only [Act.put, List.setIfInBounds_toArray, List.set_cons_zero, List.set_cons_succ]
      refine Upto.take (i := 10) (v := ?_) rfl (by kernel_rfl) (fun _ _ _ h => h) rfl (fun w' hS => ?_) hS0 ?_
      rotate_left
      · (try dsimp only at hS); go_split_ands; go_simp; (try with_reducible rfl)
      simp only [Act.put, List.setIfInBounds_toArray, List.set_cons_zero, List.set_cons_succ]
      refine Upto.take (i := 11) (v := ?_) rfl (by kernel_rfl) (fun _ _ _ h => h) rfl (fun w' hS => ?_) hS0 ?_
      rotate_left
      · (try dsimp only at hS); go_split_ands; go_simp; (try with_reducible rfl)
      simp only [Act.put, List.setIfInBounds_toArray, List.set_cons_zero, List.set_cons_succ]
      refine Upto.take (i := 12) (v := ?_) rfl (by kernel_rfl) (fun _ _ _ h => h) rfl (fun w' hS => ?_) hS0 ?_
      rotate_left
      · (try dsimp only at hS); go_split_ands; go_simp; (try with_reducible rfl)
      simp only [Act.put, List.setIfInBounds_toArray, List.set_cons_zero, List.set_cons_succ]
      refine Upto.take (i := 13) (v := ?_) rfl (by kernel_rfl) (fun _ _ _ h => h) rfl (fun w' hS => ?_) hS0 ?_
      rotate_left
      · (try dsimp only at hS); go_split_ands; go_simp; (try with_reducible rfl)
      simp only [Act.put, List.setIfInBounds_toArray, List.set_cons_zero, List.set_cons_succ]
      refine Upto.take (i := 14) (v := ?_) rfl (by kernel_rfl) (fun _ _ _ h => h) rfl (fun w' hS => ?_) hS0 ?_
      rotate_left
      · (try dsimp only at hS); go_split_ands; go_simp; (try with_reducible rfl)
      simp only [Act.put, List.setIfInBounds_toArray, List.set_cons_zero, List.set_cons_succ]
      refine Upto.take (i := 15) (v := ?_) rfl (by kernel_rfl) (fun _ _ _ h => h) rfl (fun w' hS => ?_) hS0 ?_
      rotate_left
      · (try dsimp only at hS); go_split_ands; go_simp; (try with_reducible rfl)
      simp only [Act.put, List.setIfInBounds_toArray, List.set_cons_zero, List.set_cons_succ]
      refine Upto.take (i := 16) (v := ?_) rfl (by kernel_rfl) (fun _ _ _ h => h) rfl (fun w' hS => ?_) hS0 ?_
      rotate_left
      · (try dsimp only at hS); go_split_ands; go_simp; (try with_reducible rfl)
      simp only [Act.put, List.setIfInBounds_toArray, List.set_cons_zero, List.set_cons_succ]
      refine Upto.take (i := 17) (v := ?_) rfl (by kernel_rfl) (fun _ _ _ h => h) rfl (fun w' hS => ?_) hS0 ?_
      rotate_left
      · (try dsimp only at hS); go_split_ands; go_simp; (try with_reducible rfl)
      simp only [Act.put, List.setIfInBounds_toArray, List.set_cons_zero, List.set_cons_succ]
      refine Upto.take (i := 18) (v := ?_) rfl (by kernel_rfl) (fun _ _ _ h => h) rfl (fun w' hS => ?_) hS0 ?_
      rotate_left
      · (try dsimp only at hS); go_split_ands; go_simp; (try with_reducible rfl)
      simp only [Act.put, List.setIfInBounds_toArray, List.set_cons_zero, List.set_cons_succ]
      refine Upto.take (i := 19) (v := ?_) rfl (by kernel_rfl) (fun _ _ _ h => h) rfl (fun w' hS => ?_) hS0 ?_
      rotate_left
      · (try dsimp only at hS); go_split_ands; go_simp; (try with_reducible rfl)
      simp only [Act.put, List.setIfInBounds_toArray, List.set_cons_zero, List.set_cons_succ]
      refine Upto.tail rfl (by kernel_rfl) ?_
      simp only [List.drop_succ_cons, List.drop_zero]
      go_wp2_with fail
      refine NoPanic.normal ?_
      go_wp2_with fail
      go_roundw
      case rel => exact ⟨k + 1, by omega, by go_num, let ⟨sl', r1, r2⟩ := R.out; ⟨sl', r1.below ((Below.refl _ _).drew), ⟨r2.os, r2.tape, r2.output, r2.size, r2.block⟩⟩⟩
      case measure => simp [intOf]; omega
    · obtain rfl : k = s.pend.length := by omega
      have R := Lib.hid (RfdB.synced HOK.out hlim hr hf)
      have hc4 : wr.cell? ⟨g, 4, none⟩ = some (.int .i64 s.syncs) := by have := hr.blk.cell 4; rw [show (s.part s.pend.length).syncs = s.syncs from St.step_syncs s] at this; exact this
      have hf1 : wr.frozen? ⟨g, 1, none⟩ = false := hr.blk.frz 1
      have hf4 : wr.frozen? ⟨g, 4, none⟩ = false := hr.blk.frz 4
      clear hr hf ep en
      go_wp2_with fail
      go_ret
      exact R.out
end Go.Proofs.Ytlchikllgmkokaa
