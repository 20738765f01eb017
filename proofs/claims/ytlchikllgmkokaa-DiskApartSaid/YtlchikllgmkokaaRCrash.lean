/- What it says: the document's Crash hands back the disk that the plain one's crash leaves, all of it new memory. -/
import Derived.Test.YtlchikllgmkokaaRIn
namespace Go.Proofs.Ytlchikllgmkokaa
open Go.RowKit

/-- What Crash hands back. -/
def RetRCrash (s : St) (w : World) (e : Ending) (w' : World) : Prop := ∃ g, e = .returned (.pointer (some ⟨g, 0, none⟩)) ∧ (rfd g s).is w' (fresh w w') ∧ Below w.heap.size w w'

theorem SynRel.crashed {w W1 wr : World} {g : Nat} {SA : Option Addr} {sc : Nat} {sl : List Value} {s : St} {c : Crs} (ok : s.Ok) (hb : Below w.heap.size w W1) (h : SynRel W1 g (s.left_ (c.of s.pend.length) s.pend.length) s.num SA sc sl wr) :
    RetRCrash (s.crash c) w (.returned (.pointer (some ⟨g, 0, none⟩))) wr := by
  obtain ⟨SA', sc', LA', lc', sl', rl', hd⟩ := SynRel.done (s := s.crash c) h ⟨rfl, rfl, rfl, rfl⟩ (ok.crash c)
  exact ⟨g, rfl, ⟨SA', sc', LA', lc', sl', rl', hd.mono (fun q f => ⟨Nat.le_trans hb.size f.1, f.2⟩) (fun q f => f.2)⟩, hb.trans (h.bel.mono hb.size)⟩

set_option maxRecDepth 100000 in
set_option maxHeartbeats 8000000 in
theorem rcrash_any {w : World} {F : Nat → Prop} {g : Nat} {SA LA : Option Addr} {sc lc : Nat} {sl : List Value} {rl : List (Nat × Value)} {s : St} (h : RfdB w F g SA sc LA lc sl rl s) (KA : Option Addr) (kn kc : Nat) (c : Crs) (hk : Nts w KA kn kc c.keep) (hcut : -9223372036854775808 ≤ c.cut ∧ c.cut ≤ 9223372036854775807) :
    Calls Try.prog 25 #[.pointer (some ⟨g, 0, none⟩), .agg (crsV KA kn kc c)] w (RetRCrash (s.crash c) w) := by
  obtain ⟨i0, hi, hz0, hz1, hz2⟩ := info_parts info_rows
  obtain ⟨j0, ji, jz0, jz1, jz2⟩ := info_parts info_u8r
  obtain ⟨k0, ki, kz0, kz1, kz2⟩ := info_parts info_rw
  have HOK := Lib.hid h.ok
  have hnum := h.ok.num
  have hpl := h.lim.1
  obtain ⟨hl1, hl2⟩ := h.lcap
  obtain ⟨sb, _, _, rfl, hs1, hs2, _, _⟩ := h.syn_at 0 (by omega)
  unfold maxLen at hs2
  have hB1 : Below w.heap.size w (w.alloc (.cells (crsV KA kn kc c) 35)) := (Below.refl _ _).alloc (Nat.le_refl _) _
  have h1 := h.below hB1
  have hk1 := hk.below hB1
  have hbox : (w.alloc (.cells (crsV KA kn kc c) 35)).heap[w.heap.size]? = some (.cells (crsV KA kn kc c) 35 (0, 0)) := heap_alloc_new _ _
  have hbl : w.heap.size < (w.alloc (.cells (crsV KA kn kc c) 35)).heap.size := by simp
  obtain ⟨W1, hW1⟩ : ∃ W1, W1 = w.alloc (.cells (crsV KA kn kc c) 35) := ⟨_, rfl⟩
  rw [← hW1] at h1 hB1 hk1 hbox hbl
  have HW1 := Lib.hid hW1
  have HB1 := Lib.hid hB1
  have H1 := Lib.hid h1
  have HK1 := Lib.hid hk1
  have HBX : Hid (Bk W1 w.heap.size 35 (crsV KA kn kc c)) := Lib.hid hbox
  have hg1 := h1.blk.lt
  have HLT := Lib.hid h1.lt
  have R0 : Hid (SynRel W1 W1.heap.size s.syn 0 none 0 [] (W1.alloc (.cells #[.slice none 0 0, .slice none 0 0, .int .i64 (-1), .bool false, .int .i64 0] 55))) :=
    Lib.hid ⟨heap_alloc_new _ _, World.ownsRow_nil _ _ _ _, fun j hj => absurd hj (by omega), fun i j v u _ hv => by simp at hv, Nat.le_refl _, (Below.refl _ _).alloc (Nat.le_refl _) _⟩
  obtain ⟨cut, hcu⟩ : ∃ cut, c.cut = cut := ⟨_, rfl⟩
  obtain ⟨tn, htn⟩ : ∃ tn, c.torn = tn := ⟨_, rfl⟩
  have HCU := Lib.hid hcu
  have HTN := Lib.hid htn
  rw [hcu] at hcut
  have HBX2 : Hid (Bk W1 w.heap.size 35 #[.slice KA kn kc, .bool tn, .int .i64 cut]) := Lib.hid (by rw [← htn, ← hcu]; exact HBX.out)
  have HW2 : Hid (W1 = w.alloc (.cells #[.slice KA kn kc, .bool tn, .int .i64 cut] 35)) := Lib.hid (by rw [← htn, ← hcu]; exact hW1)
  unfold crsV
  rw [hcu, htn]
  clear h h1 hB1 hk hk1 hbox hW1 hcu htn HW1 HBX
  go_enter Try.func25, Try.ntmps25
  go_wp2_with (refine wpList_box rfl rfl (by rfl) HW2.out ?_)
  go_wp2_with fail
  go_loopw [6] (fun q wr => ∃ k SA' sc' sl', k ≤ s.num ∧ q = .int .i64 (k : Nat) ∧ SynRel W1 W1.heap.size s.syn k SA' sc' sl' wr) (fun q _ => s.num - (intOf q).toNat)
  case atStart => exact ⟨0, none, 0, [], Nat.zero_le _, rfl, R0.out⟩
  case round =>
    obtain ⟨k, SA', sc', sl', hkk, rfl, hr⟩ := hrel
    have HR := Lib.hid hr
    have hd := H1.out.below hr.bel
    have hcx : wr.cell? ⟨W1.heap.size, 0, none⟩ = some (.slice SA' k sc') := hr.blk.cell 0
    have hcg : wr.cell? ⟨g, 0, none⟩ = some (.slice (some ⟨sb, 0, none⟩) s.num sc) := hd.blk.cell 0
    have hgxl := hr.blk.lt
    clear hr
    by_cases hlt : k < s.num
    · obtain ⟨sb2, vg, vc, hsb2, _, _, x0, xd⟩ := hd.syn_at k hlt
      injection hsb2 with hsb2
      injection hsb2 with hsb2
      subst hsb2
      have hby := Lib.hid (Dat.byt xd (HOK.out.syn k))
      have hsbl : sb < W1.heap.size := HLT.out sb (H1.out.fs sb rfl)
      have hgl : g < W1.heap.size := hg1
      have HBR := Lib.hid HR.out.bel
      clear hd xd
      have hk0' : (0 : Int) ≤ (k : Int) := Int.natCast_nonneg _
      have hk1' : (k : Int) < (s.num : Int) := by omega
      go_wp2_with fail
      have hS0 : wr.drew.cell? ⟨W1.heap.size, 0, none⟩ = some (.slice SA' k sc') ∧ wr.drew.cell? ⟨g, 0, none⟩ = some (.slice (some ⟨sb, 0, none⟩) s.num sc) ∧ wr.drew.cell? ⟨sb, k, none⟩ = some (.slice (some ⟨vg, 0, none⟩) 256 vc) := ⟨hcx, hcg, x0⟩
      have KS : Hid (∀ W, Below wr.heap.size wr W → W.cell? ⟨W1.heap.size, 0, none⟩ = some (.slice SA' k sc') ∧ W.cell? ⟨g, 0, none⟩ = some (.slice (some ⟨sb, 0, none⟩) s.num sc) ∧ W.cell? ⟨sb, k, none⟩ = some (.slice (some ⟨vg, 0, none⟩) 256 vc)) := Lib.hid (fun W hb => ⟨(hb.cell (p := ⟨W1.heap.size, 0, none⟩) hgxl).trans hcx, (hb.cell (p := ⟨g, 0, none⟩) (Nat.lt_of_lt_of_le hgl HBR.out.size)).trans hcg, (hb.cell (p := ⟨sb, k, none⟩) (Nat.lt_of_lt_of_le hsbl HBR.out.size)).trans x0⟩)
      have KO : Hid (∀ W, Below W1.heap.size wr W → W.cell? ⟨g, 0, none⟩ = some (.slice (some ⟨sb, 0, none⟩) s.num sc) ∧ W.cell? ⟨sb, k, none⟩ = some (.slice (some ⟨vg, 0, none⟩) 256 vc)) := Lib.hid (fun W hb => ⟨(hb.cell (p := ⟨g, 0, none⟩) hgl).trans hcg, (hb.cell (p := ⟨sb, k, none⟩) hsbl).trans x0⟩)
      refine wp_region_noPanic ?_
      refine upto_start (fun w' => w'.cell? ⟨W1.heap.size, 0, none⟩ = some (.slice SA' k sc') ∧ w'.cell? ⟨g, 0, none⟩ = some (.slice (some ⟨sb, 0, none⟩) s.num sc) ∧ w'.cell? ⟨sb, k, none⟩ = some (.slice (some ⟨vg, 0, none⟩) 256 vc)) 16 (by kernel_rfl) ?_
      change Upto _ _ _ _ _ 19 _ _ _
      refine Upto.take (i := 0) (v := ?_) rfl (by kernel_rfl) (fun _ _ _ h => h) rfl (fun w' hS => ?_) hS0 ?_
      rotate_left
      · (try dsimp only at hS); go_split_ands; go_simp; (try with_reducible rfl)
      simp only [Act.put, List.setIfInBounds_toArray, List.set_cons_zero, List.set_cons_succ]
      refine Upto.take (i := 1) (v := ?_) rfl (by kernel_rfl) (fun _ _ _ h => h) rfl (fun w' hS => ?_) hS0 ?_
      rotate_left
      · (try dsimp only at hS); go_split_ands; go_simp; (try with_reducible rfl)
      simp only [Act.put, List.setIfInBounds_toArray, List.set_cons_zero, List.set_cons_succ]
      refine Upto.take (i := 2) (v := ?_) rfl (by kernel_rfl) (fun _ _ _ h => h) rfl (fun w' hS => ?_) hS0 ?_
      rotate_left
      · (try dsimp only at hS); go_split_ands; go_simp; (try with_reducible rfl)
      simp only [Act.put, List.setIfInBounds_toArray, List.set_cons_zero, List.set_cons_succ]
      refine Upto.take (i := 3) (v := ?_) rfl (by kernel_rfl) (fun _ _ _ h => h) rfl (fun w' hS => ?_) hS0 ?_
      rotate_left
      · (try dsimp only at hS); go_split_ands; go_simp; (try with_reducible rfl)
      simp only [Act.put, List.setIfInBounds_toArray, List.set_cons_zero, List.set_cons_succ]
      refine Upto.take (i := 4) (v := ?_) rfl (by kernel_rfl) (fun _ _ _ h => h) rfl (fun w' hS => ?_) hS0 ?_
      rotate_left
      · (try dsimp only at hS); go_split_ands; go_simp; (try with_reducible rfl)
      simp only [Act.put, List.setIfInBounds_toArray, List.set_cons_zero, List.set_cons_succ]
      refine Upto.take (i := 6) (v := ?_) rfl (by kernel_rfl) (fun _ _ _ h => h) rfl (fun w' hS => ?_) hS0 ?_
      rotate_left
      · (try dsimp only at hS); go_split_ands; go_simp; (try with_reducible rfl)
      simp only [Act.put, List.setIfInBounds_toArray, List.set_cons_zero, List.set_cons_succ]
      refine Upto.take (i := 7) (v := ?_) rfl (by kernel_rfl) (fun _ _ _ h => h) rfl (fun w' hS => ?_) hS0 ?_
      rotate_left
      · (try dsimp only at hS); go_split_ands; go_simp; (try with_reducible rfl)
      simp only [Act.put, List.setIfInBounds_toArray, List.set_cons_zero, List.set_cons_succ]
      refine Upto.take (i := 8) (v := ?_) rfl (by kernel_rfl) (fun _ _ _ h => h) rfl (fun w' hS => ?_) hS0 ?_
      rotate_left
      · (try dsimp only at hS); go_split_ands; go_simp; (try with_reducible rfl)
      simp only [Act.put, List.setIfInBounds_toArray, List.set_cons_zero, List.set_cons_succ]
      refine Upto.take (i := 9) (v := ?_) rfl (by kernel_rfl) (fun _ _ _ h => h) rfl (fun w' hS => ?_) hS0 ?_
      rotate_left
      · (try dsimp only at hS); go_split_ands; go_simp; (try with_reducible rfl)
      simp only [Act.put, List.setIfInBounds_toArray, List.set_cons_zero, List.set_cons_succ]
      refine Upto.take (i := 10) (v := ?_) rfl (by kernel_rfl) (fun _ _ _ h => h) rfl (fun w' hS => ?_) hS0 ?_
      rotate_left
      · (try dsimp only at hS); go_split_ands; go_simp; (try with_reducible rfl)
      simp only [Act.put, List.setIfInBounds_toArray, List.set_cons_zero, List.set_cons_succ]
      refine Upto.take (i := 11) (v := ?_) rfl (by kernel_rfl) (fun _ _ _ h => h) rfl (fun w' hS => ?_) hS0 ?_
      rotate_left
      · (try dsimp only at hS); go_split_ands; go_simp; (try with_reducible rfl)
      simp only [Act.put, List.setIfInBounds_toArray, List.set_cons_zero, List.set_cons_succ]
      refine Upto.take (i := 12) (v := ?_) rfl (by kernel_rfl) (fun _ _ _ h => h) rfl (fun w' hS => ?_) hS0 ?_
      rotate_left
      · (try dsimp only at hS); go_split_ands; go_simp; (try with_reducible rfl)
      simp only [Act.put, List.setIfInBounds_toArray, List.set_cons_zero, List.set_cons_succ]
      refine Upto.only (i := 5) rfl (by kernel_rfl) rfl (exec_buildSlice rfl [] (by rfl) (bslice_none _)) ?_ ?_
      · exact KS.out _ ((Below.refl _ wr).drew.alloc (Nat.le_refl _) _)
      simp only [Act.put, List.setIfInBounds_toArray, List.set_cons_zero, List.set_cons_succ]
      have hown0 := World.ownsRow_made (base := wr.heap.size) (e := 5) (size := 1) wr.drew #[] 0 (Nat.le_refl _) (Nat.zero_le _) rfl
      have hbA : Below wr.heap.size wr (wr.drew.alloc (.cells #[] 5)) := (Below.refl _ wr).drew.alloc (Nat.le_refl _) _
      refine Upto.law (i := 13) rfl (by kernel_rfl) rfl (fun K hK => ?_)
      refine wp_append_byt _ _ 32 (by rfl) wr.heap.size 5 j0 Try.underlying32 ji jz0 jz1 jz2 _ 0 [] (by rfl) hown0 (some ⟨vg, 0, none⟩) 256 vc (s.syn k) (by rfl) (hby.out.below hbA) (by omega) hbA.size ?_
      intro vA vcc W2 hv2 hg2
      have hbB : Below wr.heap.size wr W2 := hbA.grown hg2 hbA.size (fun k hk => by simp [Value.ownBlock] at hk; omega)
      refine hK _ _ (KS.out _ hbB) ?_
      clear hK hown0 hg2
      have HV : Hid (W2.ownsRow wr.heap.size 5 1 (.slice vA 256 vcc) 256 (byC (s.syn k))) := Lib.hid (by simpa [byC] using hv2)
      clear hv2
      simp only [Act.put, List.setIfInBounds_toArray, List.set_cons_zero, List.set_cons_succ, Nat.zero_add]
      have hbC := hbB.alloc hbB.size (.cells #[.slice vA 256 vcc] 32)
      refine Upto.only (i := 14) rfl (by kernel_rfl) rfl (exec_buildSlice rfl [(0, .slice vA 256 vcc)] (by rfl) (bslice_rows _ _ _ _)) (KS.out _ hbC) ?_
      simp only [Act.put, List.setIfInBounds_toArray, List.set_cons_zero, List.set_cons_succ]
      refine Upto.law (i := 15) rfl (by kernel_rfl) rfl (fun K hK => ?_)
      refine wp_append_lies _ _ _ 52 (by rfl) W1.heap.size 32 i0 _ 1 24 Try.underlying52 hi hz0 hz1 hz2 rfl (by omega) (.slice SA' k sc') k sl' (by rfl)
        (owns_keep HR.out.srow (fun q hq => hbC.block q (HR.out.srow.lt q hq).2))
        ⟨W2.heap.size, 0, none⟩ 1 1 [.slice vA 256 vcc] (by rfl) rfl (World.news_of_block (cs := #[.slice vA 256 vcc]) (t := 32) (fr := (0, 0)) (heap_alloc_new _ _)) (by simp [Value.oneCell'])
        (by omega) (by unfold maxLen; omega) (by omega) (Nat.le_trans HR.out.bel.size hbC.size) _ rfl ?_
      intro gg cap W3 hown3 hgrow hat hltt
      have hvC := owns_keep (w' := W2.alloc (.cells #[.slice vA 256 vcc] 32)) HV.out (fun q hq => Below.heap_alloc _ _ _ (HV.out.lt q hq).2)
      obtain ⟨hc3, hf3, R⟩ := HR.out.step hbC hvC hown3 hgrow
      have R := Lib.hid R
      have hO3 := KO.out W3 ((hbC.mono HBR.out.size).grown hgrow (Nat.le_trans HBR.out.size hbC.size) (fun q hq => (HR.out.srow.lt q hq).1))
      refine hK _ _ ⟨hc3, hO3⟩ ?_
      clear hown3 hgrow hat hK HR KS KO HV hbA hbB hbC hvC hcx hcg x0 hS0 hO3 hby HBR
      simp only [Act.put, List.setIfInBounds_toArray, List.set_cons_zero, List.set_cons_succ]
      refine Upto.tail rfl (by kernel_rfl) ?_
      simp only [List.drop_succ_cons, List.drop_zero]
      go_wp2_with fail
      refine NoPanic.normal ?_
      go_wp2_with fail
      go_roundw
      case rel => exact ⟨k + 1, _, _, _, by omega, by go_num, R.out⟩
      case measure => simp [intOf]; omega
    · obtain rfl : k = s.num := by omega
      clear hcx hgxl
      have HSAF : Hid (∃ sx, SA' = some ⟨sx, 0, none⟩ ∧ s.num ≤ sc' ∧ sc' ≤ maxLen) := Lib.hid (by
        rcases HR.out.srow.2 with ⟨_, h0⟩ | ⟨sx, cap, cur, hv, _, _, h1, h2, _⟩
        · omega
        · injection hv with e1 e2 e3
          subst e3
          exact ⟨sx, e1, h1, h2⟩)
      obtain ⟨sx, rfl, hx1, hx2⟩ := HSAF.out
      unfold maxLen at hx2
      have hd0 := H1.out.below HR.out.bel
      go_wp2_with fail
      go_loopw [7] (fun q wr2 => ∃ i : Nat, i ≤ s.pend.length ∧ q = .int .i64 i ∧ SynRel W1 W1.heap.size (s.left_ (c.of s.pend.length) i) s.num (some ⟨sx, 0, none⟩) sc' sl' wr2) (fun q _ => s.pend.length - (intOf q).toNat)
      case atStart => exact ⟨0, Nat.zero_le _, rfl, HR.out⟩
      case round =>
        obtain ⟨i, hil, rfl, hr2⟩ := hrel
        obtain ⟨wr2, hwr2⟩ : ∃ x, x = wr := ⟨_, rfl⟩
        subst hwr2
        have hd2 := H1.out.below hr2.bel
        have hc1 : wr2.cell? ⟨g, 1, none⟩ = some (.slice LA s.pend.length lc) := hd2.blk.cell 1
        by_cases hlt2 : i < s.pend.length
        · obtain ⟨lb, vg, vc, rfl, _, _, x0, x1, xd⟩ := hd2.list_at i hlt2
          obtain ⟨lb', vg', vc', hlb', _, _, x0', x1', xd'⟩ := H1.out.list_at i hlt2
          injection hlb' with hlb'
          injection hlb' with hlb'
          subst hlb'
          have hlbl : lb < W1.heap.size := HLT.out lb (H1.out.fl lb rfl)
          have hvv : (Value.slice (some ⟨vg, 0, none⟩) 256 vc) = .slice (some ⟨vg', 0, none⟩) 256 vc' := by
            have := (hr2.bel.cell (p := ⟨lb, i * 2 + 1, none⟩) hlbl).trans x1'
            rw [x1] at this
            injection this
          injection hvv with hv1 _ hv3
          injection hv1 with hv1
          injection hv1 with hv1
          subst hv1 hv3
          have hat := HOK.out.at_ i hlt2
          have hmsec := HOK.out.left_ (c.of_le s.pend.length) i (by omega) (s.at_ i).1
          have hnx : s.left_ (c.of s.pend.length) (i + 1) = upd (s.left_ (c.of s.pend.length) i) (s.at_ i).1 (over (s.at_ i).2 (s.left_ (c.of s.pend.length) i (s.at_ i).1) (c.of s.pend.length i)) := rfl
          obtain ⟨n, hn⟩ : ∃ n, (s.at_ i).1 = n := ⟨_, rfl⟩
          obtain ⟨l, hl⟩ : ∃ l, (s.at_ i).2 = l := ⟨_, rfl⟩
          rw [hn] at x0 hat hmsec hnx
          rw [hl] at xd' hat hnx
          obtain ⟨m, hm⟩ : ∃ m, s.left_ (c.of s.pend.length) i n = m := ⟨_, rfl⟩
          rw [hm] at hmsec hnx
          have HNX := Lib.hid hnx
          have HNN := Lib.hid hat.1
          have HSEC := Lib.hid hat.2
          have HSECM := Lib.hid hmsec
          have HDT : Hid (∀ W k, Below W1.heap.size W1 W → k < 256 → W.cell? ⟨vg, k, none⟩ = some (.int .u8 (l.getD k 0))) := Lib.hid (fun W k hb hk => by
            have hvl := (xd'.1.lt vg rfl).2
            have hkl : k < l.length := by rw [hat.2.1]; exact hk
            have := cell_row xd'.1 (j := k) (u := .int .u8 (l.getD k 0)) (by simp [byC, List.getD, List.getElem?_eq_getElem hkl])
            exact (hb.cell (p := ⟨vg, k, none⟩) hvl).trans this)
          obtain ⟨vN, aN, bN⟩ := hr2.each n hat.1
          obtain ⟨dg, dc, rfl, _, _⟩ := Dat.form (F := fun _ => True) (w := wr2) (v := vN) (l := s.left_ (c.of s.pend.length) i n) ⟨owns_low bN (Nat.zero_le _), fun _ _ => trivial⟩
          have HSL := Lib.hid aN
          have HDG : Hid (dg < wr2.heap.size) := Lib.hid (bN.lt dg rfl).2
          have hrg : wr2.rangeAt lb (i * 2) [.int .i64 n, .slice (some ⟨vg, 0, none⟩) 256 vc] := fun j v hv => by
            match j, hv with
            | 0, hv => simp at hv; subst hv; exact x0
            | 1, hv => simp at hv; subst hv; exact x1
            | j + 2, hv => simp at hv
          have hrg0 : wr2.rangeAt lb (0 + i * 2) [.int .i64 n, .slice (some ⟨vg, 0, none⟩) 256 vc] := by rw [Nat.zero_add]; exact hrg
          have hbW : Below wr2.heap.size wr2 (wr2.alloc (.cells #[.int .i64 n, .slice (some ⟨vg, 0, none⟩) 256 vc] 60)) := (Below.refl _ _).alloc (Nat.le_refl _) _
          have RI0 : Hid (SynRel W1 W1.heap.size (upd (s.left_ (c.of s.pend.length) i) n (over l m 0)) s.num (some ⟨sx, 0, none⟩) sc' sl' (wr2.alloc (.cells #[.int .i64 n, .slice (some ⟨vg, 0, none⟩) 256 vc] 60)) ∧ Bk (wr2.alloc (.cells #[.int .i64 n, .slice (some ⟨vg, 0, none⟩) 256 vc] 60)) wr2.heap.size 60 #[.int .i64 n, .slice (some ⟨vg, 0, none⟩) 256 vc]) := Lib.hid ⟨by
            rw [over_zero, ← hm, upd_self]
            exact hr2.below hbW, heap_alloc_new _ _⟩
          have hbel := RI0.out.1.bel
          have CI := Lib.hid (rin_any KA kn kc c.keep (i : Int) (wr2.alloc (.cells #[.int .i64 n, .slice (some ⟨vg, 0, none⟩) 256 vc] 60)) (HK1.out.below hbel))
          have b0 : (wr2.alloc (.cells #[.int .i64 n, .slice (some ⟨vg, 0, none⟩) 256 vc] 60)).cell? ⟨w.heap.size, 0, none⟩ = some (.slice KA kn kc) := (hbel.cell (p := ⟨w.heap.size, 0, none⟩) hbl).trans (HBX2.out.cell 0)
          have b1 : (wr2.alloc (.cells #[.int .i64 n, .slice (some ⟨vg, 0, none⟩) 256 vc] 60)).cell? ⟨w.heap.size, 1, none⟩ = some (.bool tn) := (hbel.cell (p := ⟨w.heap.size, 1, none⟩) hbl).trans (HBX2.out.cell 1)
          have b2 : (wr2.alloc (.cells #[.int .i64 n, .slice (some ⟨vg, 0, none⟩) 256 vc] 60)).cell? ⟨w.heap.size, 2, none⟩ = some (.int .i64 cut) := (hbel.cell (p := ⟨w.heap.size, 2, none⟩) hbl).trans (HBX2.out.cell 2)
          have b3 : (wr2.alloc (.cells #[.int .i64 n, .slice (some ⟨vg, 0, none⟩) 256 vc] 60)).cell? ⟨g, 1, none⟩ = some (.slice (some ⟨lb, 0, none⟩) s.pend.length lc) := (hbW.cell (p := ⟨g, 1, none⟩) hd2.blk.lt).trans hc1
          have hurw := Try.underlying60
          have HZW : Hid (∀ w, (zeroValue 60).run Try.prog w = .ok (.agg #[.int .i64 0, .slice none 0 0]) w) := Lib.hid (fun w => by simp [zeroValue, typeInfo, ki, kz0])
          have HIW : Hid ((Try.prog.info? 60).map (·.size) = some ([.int .i64 n, .slice (some ⟨vg, 0, none⟩) 256 vc] : List Value).length) := Lib.hid (by rw [ki]; simp [kz1])
          clear hr2 hd2 xd xd' x0 x1 x0' x1' hn hl hm hat hmsec hnx bN aN hbW hbel
          have hi0' : (0 : Int) ≤ (i : Int) := Int.natCast_nonneg _
          have hi1' : (i : Int) < (s.pend.length : Int) := by omega
          have HOF : Hid (c.of s.pend.length i = if tn = true ∧ i + 1 = s.pend.length then clamp cut else if (i : Int) ∈ c.keep then 256 else 0) := Lib.hid (by unfold Crs.of; rw [HCU.out, HTN.out])
          go_wp2_with (first
            | (refine wpList_run rfl (exec_load rfl (by rfl) (by first | exact hrg | exact hrg0) hurw rfl HIW.out) ?_)
            | (refine wpList_run rfl (exec_allocA (t := 60) rfl HZW.out) ?_)
            | (refine wpList_store_new rfl (ty := 60) rfl (W := wr2) (c := #[.int .i64 0, .slice none 0 0]) (c' := #[.int .i64 n, .slice (some ⟨vg, 0, none⟩) 256 vc]) rfl (by rfl) (by rfl) HIW.out rfl rfl ?_))
          refine CI.out.mono ?_
          rintro e wy ⟨rfl, hwy⟩
          subst hwy
          clear hrg hrg0 CI
          by_cases hmem : (i : Int) ∈ c.keep
          · rw [decide_eq_true hmem]
            cases tn with
            | false =>
              have HCF : Hid (c.of s.pend.length i = 256) := Lib.hid (by rw [HOF.out, if_neg (by simp), if_pos hmem])
              clear HOF hmem
              go_wp2_with fail
              go_loopw [10] (fun q wi => ∃ k : Nat, k ≤ 256 ∧ q = .int .i64 k ∧ SynRel W1 W1.heap.size (upd (s.left_ (c.of s.pend.length) i) n (over l m k)) s.num (some ⟨sx, 0, none⟩) sc' sl' wi ∧ Bk wi wr2.heap.size 60 #[.int .i64 n, .slice (some ⟨vg, 0, none⟩) 256 vc]) (fun q _ => 256 - (intOf q).toNat)
              case atStart => exact ⟨0, Nat.zero_le _, rfl, RI0.out⟩
              case round =>
                obtain ⟨k, hkc, rfl, hri, hbi⟩ := hrel
                obtain ⟨wi, hwi⟩ : ∃ x, x = wr := ⟨_, rfl⟩
                subst hwi
                by_cases hlt3 : k < 256
                · have hcu256 := HCF.out
                  have hk256 : k < 256 := by have := c.of_le s.pend.length i; omega
                  have y0 : wi.cell? ⟨W1.heap.size, 0, none⟩ = some (.slice (some ⟨sx, 0, none⟩) s.num sc') := hri.blk.cell 0
                  have y1 : wi.cell? ⟨wr2.heap.size, 0, none⟩ = some (.int .i64 n) := hbi.cell 0
                  have y2 : wi.cell? ⟨wr2.heap.size, 1, none⟩ = some (.slice (some ⟨vg, 0, none⟩) 256 vc) := hbi.cell 1
                  have y3 : wi.cell? ⟨sx, n, none⟩ = some (.slice (some ⟨dg, 0, none⟩) 256 dc) := cell_row hri.srow HSL.out
                  have y4 : wi.cell? ⟨vg, k, none⟩ = some (.int .u8 (l.getD k 0)) := HDT.out wi k hri.bel hk256
                  obtain ⟨u5, y5, y6⟩ : ∃ u, wi.cell? ⟨dg, k, none⟩ = some u ∧ wi.frozen? ⟨dg, k, none⟩ = false := by
                    obtain ⟨v, a1, a2⟩ := hri.each n HNN.out
                    rw [HSL.out] at a1
                    injection a1 with a1
                    subst a1
                    have hlen : (byC (upd (s.left_ (c.of s.pend.length) i) n (over l m k) n)).length = 256 := by simpa using a2.1
                    exact ⟨_, cell_row a2 (List.getElem?_eq_getElem (show k < _ by omega)), a2.frozenAt _⟩
                  have hput := hri.put HNN.out HSL.out hk256 (l.getD k 0)
                  rw [upd_at, upd_upd, over_next HSEC.out HSECM.out k hk256] at hput
                  have hbi2 : Bk (wi.setCell ⟨dg, k, none⟩ (.int .u8 (l.getD k 0))) wr2.heap.size 60 #[.int .i64 n, .slice (some ⟨vg, 0, none⟩) 256 vc] := hbi.eq (Below.heap_setCell _ _ _ _ (by
                    have := HDG.out
                    show wr2.heap.size ≠ dg
                    omega))
                  have R : Hid (SynRel W1 W1.heap.size (upd (s.left_ (c.of s.pend.length) i) n (over l m (k + 1))) s.num (some ⟨sx, 0, none⟩) sc' sl' (wi.setCell ⟨dg, k, none⟩ (.int .u8 (l.getD k 0))).drew ∧ Bk (wi.setCell ⟨dg, k, none⟩ (.int .u8 (l.getD k 0))).drew wr2.heap.size 60 #[.int .i64 n, .slice (some ⟨vg, 0, none⟩) 256 vc]) := Lib.hid ⟨hput.below ((Below.refl _ _).drew), hbi2⟩
                  obtain ⟨bx, hbx⟩ : ∃ bx, l.getD k 0 = bx := ⟨_, rfl⟩
                  rw [hbx] at y4 R
                  clear hri hbi hput hbi2 hcu256 hbx
                  have hk0' : (0 : Int) ≤ (k : Int) := Int.natCast_nonneg _
                  have hk1' : (k : Int) < 256 := by omega
                  have hn0 : (0 : Int) ≤ (n : Int) := Int.natCast_nonneg _
                  have hn1 : (n : Int) < (s.num : Int) := by have := HNN.out; omega
                  go_wp2_with fail
                  have hS0 : wi.drew.cell? ⟨W1.heap.size, 0, none⟩ = some (.slice (some ⟨sx, 0, none⟩) s.num sc') ∧ wi.drew.cell? ⟨wr2.heap.size, 0, none⟩ = some (.int .i64 n) ∧ wi.drew.cell? ⟨wr2.heap.size, 1, none⟩ = some (.slice (some ⟨vg, 0, none⟩) 256 vc) ∧ wi.drew.cell? ⟨sx, n, none⟩ = some (.slice (some ⟨dg, 0, none⟩) 256 dc) ∧ wi.drew.cell? ⟨vg, k, none⟩ = some (.int .u8 bx) := ⟨y0, y1, y2, y3, y4⟩
                  refine wp_region_noPanic ?_
                  refine upto_start (fun w' => w'.cell? ⟨W1.heap.size, 0, none⟩ = some (.slice (some ⟨sx, 0, none⟩) s.num sc') ∧ w'.cell? ⟨wr2.heap.size, 0, none⟩ = some (.int .i64 n) ∧ w'.cell? ⟨wr2.heap.size, 1, none⟩ = some (.slice (some ⟨vg, 0, none⟩) 256 vc) ∧ w'.cell? ⟨sx, n, none⟩ = some (.slice (some ⟨dg, 0, none⟩) 256 dc) ∧ w'.cell? ⟨vg, k, none⟩ = some (.int .u8 bx)) 14 (by kernel_rfl) ?_
                  change Upto _ _ _ _ _ 16 _ _ _
                  refine Upto.take (i := 0) (v := ?_) rfl (by kernel_rfl) (fun _ _ _ h => h) rfl (fun w' hS => ?_) hS0 ?_
                  rotate_left
                  · (try dsimp only at hS); go_split_ands; go_simp; (try with_reducible rfl)
                  simp only [Act.put, List.setIfInBounds_toArray, List.set_cons_zero, List.set_cons_succ]
                  refine Upto.take (i := 1) (v := ?_) rfl (by kernel_rfl) (fun _ _ _ h => h) rfl (fun w' hS => ?_) hS0 ?_
                  rotate_left
                  · (try dsimp only at hS); go_split_ands; go_simp; (try with_reducible rfl)
                  simp only [Act.put, List.setIfInBounds_toArray, List.set_cons_zero, List.set_cons_succ]
                  refine Upto.take (i := 2) (v := ?_) rfl (by kernel_rfl) (fun _ _ _ h => h) rfl (fun w' hS => ?_) hS0 ?_
                  rotate_left
                  · (try dsimp only at hS); go_split_ands; go_simp; (try with_reducible rfl)
                  simp only [Act.put, List.setIfInBounds_toArray, List.set_cons_zero, List.set_cons_succ]
                  refine Upto.take (i := 3) (v := ?_) rfl (by kernel_rfl) (fun _ _ _ h => h) rfl (fun w' hS => ?_) hS0 ?_
                  rotate_left
                  · (try dsimp only at hS); go_split_ands; go_simp; (try with_reducible rfl)
                  simp only [Act.put, List.setIfInBounds_toArray, List.set_cons_zero, List.set_cons_succ]
                  refine Upto.take (i := 4) (v := ?_) rfl (by kernel_rfl) (fun _ _ _ h => h) rfl (fun w' hS => ?_) hS0 ?_
                  rotate_left
                  · (try dsimp only at hS); go_split_ands; go_simp; (try with_reducible rfl)
                  simp only [Act.put, List.setIfInBounds_toArray, List.set_cons_zero, List.set_cons_succ]
                  refine Upto.take (i := 5) (v := ?_) rfl (by kernel_rfl) (fun _ _ _ h => h) rfl (fun w' hS => ?_) hS0 ?_
                  rotate_left
                  · (try dsimp only at hS); go_split_ands; go_simp; (try with_reducible rfl)
                  simp only [Act.put, List.setIfInBounds_toArray, List.set_cons_zero, List.set_cons_succ]
                  refine Upto.take (i := 6) (v := ?_) rfl (by kernel_rfl) (fun _ _ _ h => h) rfl (fun w' hS => ?_) hS0 ?_
                  rotate_left
                  · (try dsimp only at hS); go_split_ands; go_simp; (try with_reducible rfl)
                  simp only [Act.put, List.setIfInBounds_toArray, List.set_cons_zero, List.set_cons_succ]
                  refine Upto.take (i := 7) (v := ?_) rfl (by kernel_rfl) (fun _ _ _ h => h) rfl (fun w' hS => ?_) hS0 ?_
                  rotate_left
                  · (try dsimp only at hS); go_split_ands; go_simp; (try with_reducible rfl)
                  simp only [Act.put, List.setIfInBounds_toArray, List.set_cons_zero, List.set_cons_succ]
                  refine Upto.take (i := 8) (v := ?_) rfl (by kernel_rfl) (fun _ _ _ h => h) rfl (fun w' hS => ?_) hS0 ?_
                  rotate_left
                  · (try dsimp only at hS); go_split_ands; go_simp; (try with_reducible rfl)
                  simp only [Act.put, List.setIfInBounds_toArray, List.set_cons_zero, List.set_cons_succ]
                  refine Upto.take (i := 9) (v := ?_) rfl (by kernel_rfl) (fun _ _ _ h => h) rfl (fun w' hS => ?_) hS0 ?_
                  rotate_left
                  · (try dsimp only at hS); go_split_ands; go_simp; (try with_reducible rfl)
                  simp only [Act.put, List.setIfInBounds_toArray, List.set_cons_zero, List.set_cons_succ]
                  refine Upto.take (i := 10) (v := ?_) rfl (by kernel_rfl) (fun _ _ _ h => h) rfl (fun w' hS => ?_) hS0 ?_
                  rotate_left
                  · (try dsimp only at hS); go_split_ands; go_simp; (try with_reducible rfl)
                  simp only [Act.put, List.setIfInBounds_toArray, List.set_cons_zero, List.set_cons_succ]
                  refine Upto.take (i := 11) (v := ?_) rfl (by kernel_rfl) (fun _ _ _ h => h) rfl (fun w' hS => ?_) hS0 ?_
                  rotate_left
                  · (try dsimp only at hS); go_split_ands; go_simp; (try with_reducible rfl)
                  simp only [Act.put, List.setIfInBounds_toArray, List.set_cons_zero, List.set_cons_succ]
                  refine Upto.take (i := 12) (v := ?_) rfl (by kernel_rfl) (fun _ _ _ h => h) rfl (fun w' hS => ?_) hS0 ?_
                  rotate_left
                  · (try dsimp only at hS); go_split_ands; go_simp; (try with_reducible rfl)
                  simp only [Act.put, List.setIfInBounds_toArray, List.set_cons_zero, List.set_cons_succ]
                  refine Upto.take (i := 13) (v := ?_) rfl (by kernel_rfl) (fun _ _ _ h => h) rfl (fun w' hS => ?_) hS0 ?_
                  rotate_left
                  · (try dsimp only at hS); go_split_ands; go_simp; (try with_reducible rfl)
                  simp only [Act.put, List.setIfInBounds_toArray, List.set_cons_zero, List.set_cons_succ]
                  refine Upto.tail rfl (by kernel_rfl) ?_
                  simp only [List.drop_succ_cons, List.drop_zero]
                  go_wp2_with fail
                  refine NoPanic.normal ?_
                  go_wp2_with fail
                  go_roundw
                  case rel => exact ⟨k + 1, by omega, by go_num, R.out⟩
                  case measure => simp [intOf]; omega
                · have hke : k = 256 := by omega
                  have R : Hid (SynRel W1 W1.heap.size (s.left_ (c.of s.pend.length) (i + 1)) s.num (some ⟨sx, 0, none⟩) sc' sl' wi) := Lib.hid (by
                    rw [hke.trans HCF.out.symm] at hri
                    have e : s.left_ (c.of s.pend.length) (i + 1) = upd (s.left_ (c.of s.pend.length) i) n (over l m (c.of s.pend.length i)) := HNX.out
                    rw [e]
                    exact hri)
                  clear hri hbi hke
                  go_wp2_with fail
                  go_roundw
                  case rel => exact ⟨i + 1, by omega, by go_num, R.out⟩
                  case measure => simp [intOf]; omega
            | true =>
              by_cases hlast : i + 1 = s.pend.length
              · have he : ((i : Int) == (s.pend.length : Int) - 1) = true := by simp; omega
                have HOF2 : Hid (c.of s.pend.length i = clamp cut) := Lib.hid (by rw [HOF.out, if_pos ⟨rfl, hlast⟩])
                clear HOF hmem hlast
                by_cases hc0 : cut < 0
                · have HCF : Hid (c.of s.pend.length i = 0) := Lib.hid (by rw [HOF2.out]; unfold clamp; omega)
                  go_wp2_with fail
                  go_loopw [10] (fun q wi => ∃ k : Nat, k ≤ 0 ∧ q = .int .i64 k ∧ SynRel W1 W1.heap.size (upd (s.left_ (c.of s.pend.length) i) n (over l m k)) s.num (some ⟨sx, 0, none⟩) sc' sl' wi ∧ Bk wi wr2.heap.size 60 #[.int .i64 n, .slice (some ⟨vg, 0, none⟩) 256 vc]) (fun q _ => 0 - (intOf q).toNat)
                  case atStart => exact ⟨0, Nat.zero_le _, rfl, RI0.out⟩
                  case round =>
                    obtain ⟨k, hkc, rfl, hri, hbi⟩ := hrel
                    obtain ⟨wi, hwi⟩ : ∃ x, x = wr := ⟨_, rfl⟩
                    subst hwi
                    by_cases hlt3 : k < 0
                    · exact absurd hlt3 (Nat.not_lt_zero k)
                    · have hke : k = 0 := by omega
                      have R : Hid (SynRel W1 W1.heap.size (s.left_ (c.of s.pend.length) (i + 1)) s.num (some ⟨sx, 0, none⟩) sc' sl' wi) := Lib.hid (by
                        rw [hke.trans HCF.out.symm] at hri
                        have e : s.left_ (c.of s.pend.length) (i + 1) = upd (s.left_ (c.of s.pend.length) i) n (over l m (c.of s.pend.length i)) := HNX.out
                        rw [e]
                        exact hri)
                      clear hri hbi hke
                      go_wp2_with fail
                      go_roundw
                      case rel => exact ⟨i + 1, by omega, by go_num, R.out⟩
                      case measure => simp [intOf]; omega
                · by_cases hc1 : cut = 0
                  · subst hc1
                    have HCF : Hid (c.of s.pend.length i = 0) := Lib.hid (by rw [HOF2.out]; unfold clamp; omega)
                    go_wp2_with fail
                    go_loopw [10] (fun q wi => ∃ k : Nat, k ≤ 0 ∧ q = .int .i64 k ∧ SynRel W1 W1.heap.size (upd (s.left_ (c.of s.pend.length) i) n (over l m k)) s.num (some ⟨sx, 0, none⟩) sc' sl' wi ∧ Bk wi wr2.heap.size 60 #[.int .i64 n, .slice (some ⟨vg, 0, none⟩) 256 vc]) (fun q _ => 0 - (intOf q).toNat)
                    case atStart => exact ⟨0, Nat.zero_le _, rfl, RI0.out⟩
                    case round =>
                      obtain ⟨k, hkc, rfl, hri, hbi⟩ := hrel
                      obtain ⟨wi, hwi⟩ : ∃ x, x = wr := ⟨_, rfl⟩
                      subst hwi
                      by_cases hlt3 : k < 0
                      · exact absurd hlt3 (Nat.not_lt_zero k)
                      · have hke : k = 0 := by omega
                        have R : Hid (SynRel W1 W1.heap.size (s.left_ (c.of s.pend.length) (i + 1)) s.num (some ⟨sx, 0, none⟩) sc' sl' wi) := Lib.hid (by
                          rw [hke.trans HCF.out.symm] at hri
                          have e : s.left_ (c.of s.pend.length) (i + 1) = upd (s.left_ (c.of s.pend.length) i) n (over l m (c.of s.pend.length i)) := HNX.out
                          rw [e]
                          exact hri)
                        clear hri hbi hke
                        go_wp2_with fail
                        go_roundw
                        case rel => exact ⟨i + 1, by omega, by go_num, R.out⟩
                        case measure => simp [intOf]; omega
                  · by_cases hc2 : 256 < cut
                    · have HCF : Hid (c.of s.pend.length i = 256) := Lib.hid (by rw [HOF2.out]; unfold clamp; omega)
                      go_wp2_with fail
                      go_loopw [10] (fun q wi => ∃ k : Nat, k ≤ 256 ∧ q = .int .i64 k ∧ SynRel W1 W1.heap.size (upd (s.left_ (c.of s.pend.length) i) n (over l m k)) s.num (some ⟨sx, 0, none⟩) sc' sl' wi ∧ Bk wi wr2.heap.size 60 #[.int .i64 n, .slice (some ⟨vg, 0, none⟩) 256 vc]) (fun q _ => 256 - (intOf q).toNat)
                      case atStart => exact ⟨0, Nat.zero_le _, rfl, RI0.out⟩
                      case round =>
                        obtain ⟨k, hkc, rfl, hri, hbi⟩ := hrel
                        obtain ⟨wi, hwi⟩ : ∃ x, x = wr := ⟨_, rfl⟩
                        subst hwi
                        by_cases hlt3 : k < 256
                        · have hcu256 := HCF.out
                          have hk256 : k < 256 := by have := c.of_le s.pend.length i; omega
                          have y0 : wi.cell? ⟨W1.heap.size, 0, none⟩ = some (.slice (some ⟨sx, 0, none⟩) s.num sc') := hri.blk.cell 0
                          have y1 : wi.cell? ⟨wr2.heap.size, 0, none⟩ = some (.int .i64 n) := hbi.cell 0
                          have y2 : wi.cell? ⟨wr2.heap.size, 1, none⟩ = some (.slice (some ⟨vg, 0, none⟩) 256 vc) := hbi.cell 1
                          have y3 : wi.cell? ⟨sx, n, none⟩ = some (.slice (some ⟨dg, 0, none⟩) 256 dc) := cell_row hri.srow HSL.out
                          have y4 : wi.cell? ⟨vg, k, none⟩ = some (.int .u8 (l.getD k 0)) := HDT.out wi k hri.bel hk256
                          obtain ⟨u5, y5, y6⟩ : ∃ u, wi.cell? ⟨dg, k, none⟩ = some u ∧ wi.frozen? ⟨dg, k, none⟩ = false := by
                            obtain ⟨v, a1, a2⟩ := hri.each n HNN.out
                            rw [HSL.out] at a1
                            injection a1 with a1
                            subst a1
                            have hlen : (byC (upd (s.left_ (c.of s.pend.length) i) n (over l m k) n)).length = 256 := by simpa using a2.1
                            exact ⟨_, cell_row a2 (List.getElem?_eq_getElem (show k < _ by omega)), a2.frozenAt _⟩
                          have hput := hri.put HNN.out HSL.out hk256 (l.getD k 0)
                          rw [upd_at, upd_upd, over_next HSEC.out HSECM.out k hk256] at hput
                          have hbi2 : Bk (wi.setCell ⟨dg, k, none⟩ (.int .u8 (l.getD k 0))) wr2.heap.size 60 #[.int .i64 n, .slice (some ⟨vg, 0, none⟩) 256 vc] := hbi.eq (Below.heap_setCell _ _ _ _ (by
                            have := HDG.out
                            show wr2.heap.size ≠ dg
                            omega))
                          have R : Hid (SynRel W1 W1.heap.size (upd (s.left_ (c.of s.pend.length) i) n (over l m (k + 1))) s.num (some ⟨sx, 0, none⟩) sc' sl' (wi.setCell ⟨dg, k, none⟩ (.int .u8 (l.getD k 0))).drew ∧ Bk (wi.setCell ⟨dg, k, none⟩ (.int .u8 (l.getD k 0))).drew wr2.heap.size 60 #[.int .i64 n, .slice (some ⟨vg, 0, none⟩) 256 vc]) := Lib.hid ⟨hput.below ((Below.refl _ _).drew), hbi2⟩
                          obtain ⟨bx, hbx⟩ : ∃ bx, l.getD k 0 = bx := ⟨_, rfl⟩
                          rw [hbx] at y4 R
                          clear hri hbi hput hbi2 hcu256 hbx
                          have hk0' : (0 : Int) ≤ (k : Int) := Int.natCast_nonneg _
                          have hk1' : (k : Int) < 256 := by omega
                          have hn0 : (0 : Int) ≤ (n : Int) := Int.natCast_nonneg _
                          have hn1 : (n : Int) < (s.num : Int) := by have := HNN.out; omega
                          go_wp2_with fail
                          have hS0 : wi.drew.cell? ⟨W1.heap.size, 0, none⟩ = some (.slice (some ⟨sx, 0, none⟩) s.num sc') ∧ wi.drew.cell? ⟨wr2.heap.size, 0, none⟩ = some (.int .i64 n) ∧ wi.drew.cell? ⟨wr2.heap.size, 1, none⟩ = some (.slice (some ⟨vg, 0, none⟩) 256 vc) ∧ wi.drew.cell? ⟨sx, n, none⟩ = some (.slice (some ⟨dg, 0, none⟩) 256 dc) ∧ wi.drew.cell? ⟨vg, k, none⟩ = some (.int .u8 bx) := ⟨y0, y1, y2, y3, y4⟩
                          refine wp_region_noPanic ?_
                          refine upto_start (fun w' => w'.cell? ⟨W1.heap.size, 0, none⟩ = some (.slice (some ⟨sx, 0, none⟩) s.num sc') ∧ w'.cell? ⟨wr2.heap.size, 0, none⟩ = some (.int .i64 n) ∧ w'.cell? ⟨wr2.heap.size, 1, none⟩ = some (.slice (some ⟨vg, 0, none⟩) 256 vc) ∧ w'.cell? ⟨sx, n, none⟩ = some (.slice (some ⟨dg, 0, none⟩) 256 dc) ∧ w'.cell? ⟨vg, k, none⟩ = some (.int .u8 bx)) 14 (by kernel_rfl) ?_
                          change Upto _ _ _ _ _ 16 _ _ _
                          refine Upto.take (i := 0) (v := ?_) rfl (by kernel_rfl) (fun _ _ _ h => h) rfl (fun w' hS => ?_) hS0 ?_
                          rotate_left
                          · (try dsimp only at hS); go_split_ands; go_simp; (try with_reducible rfl)
                          simp only [Act.put, List.setIfInBounds_toArray, List.set_cons_zero, List.set_cons_succ]
                          refine Upto.take (i := 1) (v := ?_) rfl (by kernel_rfl) (fun _ _ _ h => h) rfl (fun w' hS => ?_) hS0 ?_
                          rotate_left
                          · (try dsimp only at hS); go_split_ands; go_simp; (try with_reducible rfl)
                          simp only [Act.put, List.setIfInBounds_toArray, List.set_cons_zero, List.set_cons_succ]
                          refine Upto.take (i := 2) (v := ?_) rfl (by kernel_rfl) (fun _ _ _ h => h) rfl (fun w' hS => ?_) hS0 ?_
                          rotate_left
                          · (try dsimp only at hS); go_split_ands; go_simp; (try with_reducible rfl)
                          simp only [Act.put, List.setIfInBounds_toArray, List.set_cons_zero, List.set_cons_succ]
                          refine Upto.take (i := 3) (v := ?_) rfl (by kernel_rfl) (fun _ _ _ h => h) rfl (fun w' hS => ?_) hS0 ?_
                          rotate_left
                          · (try dsimp only at hS); go_split_ands; go_simp; (try with_reducible rfl)
                          simp only [Act.put, List.setIfInBounds_toArray, List.set_cons_zero, List.set_cons_succ]
                          refine Upto.take (i := 4) (v := ?_) rfl (by kernel_rfl) (fun _ _ _ h => h) rfl (fun w' hS => ?_) hS0 ?_
                          rotate_left
                          · (try dsimp only at hS); go_split_ands; go_simp; (try with_reducible rfl)
                          simp only [Act.put, List.setIfInBounds_toArray, List.set_cons_zero, List.set_cons_succ]
                          refine Upto.take (i := 5) (v := ?_) rfl (by kernel_rfl) (fun _ _ _ h => h) rfl (fun w' hS => ?_) hS0 ?_
                          rotate_left
                          · (try dsimp only at hS); go_split_ands; go_simp; (try with_reducible rfl)
                          simp only [Act.put, List.setIfInBounds_toArray, List.set_cons_zero, List.set_cons_succ]
                          refine Upto.take (i := 6) (v := ?_) rfl (by kernel_rfl) (fun _ _ _ h => h) rfl (fun w' hS => ?_) hS0 ?_
                          rotate_left
                          · (try dsimp only at hS); go_split_ands; go_simp; (try with_reducible rfl)
                          simp only [Act.put, List.setIfInBounds_toArray, List.set_cons_zero, List.set_cons_succ]
                          refine Upto.take (i := 7) (v := ?_) rfl (by kernel_rfl) (fun _ _ _ h => h) rfl (fun w' hS => ?_) hS0 ?_
                          rotate_left
                          · (try dsimp only at hS); go_split_ands; go_simp; (try with_reducible rfl)
                          simp only [Act.put, List.setIfInBounds_toArray, List.set_cons_zero, List.set_cons_succ]
                          refine Upto.take (i := 8) (v := ?_) rfl (by kernel_rfl) (fun _ _ _ h => h) rfl (fun w' hS => ?_) hS0 ?_
                          rotate_left
                          · (try dsimp only at hS); go_split_ands; go_simp; (try with_reducible rfl)
                          simp only [Act.put, List.setIfInBounds_toArray, List.set_cons_zero, List.set_cons_succ]
                          refine Upto.take (i := 9) (v := ?_) rfl (by kernel_rfl) (fun _ _ _ h => h) rfl (fun w' hS => ?_) hS0 ?_
                          rotate_left
                          · (try dsimp only at hS); go_split_ands; go_simp; (try with_reducible rfl)
                          simp only [Act.put, List.setIfInBounds_toArray, List.set_cons_zero, List.set_cons_succ]
                          refine Upto.take (i := 10) (v := ?_) rfl (by kernel_rfl) (fun _ _ _ h => h) rfl (fun w' hS => ?_) hS0 ?_
                          rotate_left
                          · (try dsimp only at hS); go_split_ands; go_simp; (try with_reducible rfl)
                          simp only [Act.put, List.setIfInBounds_toArray, List.set_cons_zero, List.set_cons_succ]
                          refine Upto.take (i := 11) (v := ?_) rfl (by kernel_rfl) (fun _ _ _ h => h) rfl (fun w' hS => ?_) hS0 ?_
                          rotate_left
                          · (try dsimp only at hS); go_split_ands; go_simp; (try with_reducible rfl)
                          simp only [Act.put, List.setIfInBounds_toArray, List.set_cons_zero, List.set_cons_succ]
                          refine Upto.take (i := 12) (v := ?_) rfl (by kernel_rfl) (fun _ _ _ h => h) rfl (fun w' hS => ?_) hS0 ?_
                          rotate_left
                          · (try dsimp only at hS); go_split_ands; go_simp; (try with_reducible rfl)
                          simp only [Act.put, List.setIfInBounds_toArray, List.set_cons_zero, List.set_cons_succ]
                          refine Upto.take (i := 13) (v := ?_) rfl (by kernel_rfl) (fun _ _ _ h => h) rfl (fun w' hS => ?_) hS0 ?_
                          rotate_left
                          · (try dsimp only at hS); go_split_ands; go_simp; (try with_reducible rfl)
                          simp only [Act.put, List.setIfInBounds_toArray, List.set_cons_zero, List.set_cons_succ]
                          refine Upto.tail rfl (by kernel_rfl) ?_
                          simp only [List.drop_succ_cons, List.drop_zero]
                          go_wp2_with fail
                          refine NoPanic.normal ?_
                          go_wp2_with fail
                          go_roundw
                          case rel => exact ⟨k + 1, by omega, by go_num, R.out⟩
                          case measure => simp [intOf]; omega
                        · have hke : k = 256 := by omega
                          have R : Hid (SynRel W1 W1.heap.size (s.left_ (c.of s.pend.length) (i + 1)) s.num (some ⟨sx, 0, none⟩) sc' sl' wi) := Lib.hid (by
                            rw [hke.trans HCF.out.symm] at hri
                            have e : s.left_ (c.of s.pend.length) (i + 1) = upd (s.left_ (c.of s.pend.length) i) n (over l m (c.of s.pend.length i)) := HNX.out
                            rw [e]
                            exact hri)
                          clear hri hbi hke
                          go_wp2_with fail
                          go_roundw
                          case rel => exact ⟨i + 1, by omega, by go_num, R.out⟩
                          case measure => simp [intOf]; omega
                    · by_cases hc3 : cut = 256
                      · subst hc3
                        have HCF : Hid (c.of s.pend.length i = 256) := Lib.hid (by rw [HOF2.out]; unfold clamp; omega)
                        go_wp2_with fail
                        go_loopw [10] (fun q wi => ∃ k : Nat, k ≤ 256 ∧ q = .int .i64 k ∧ SynRel W1 W1.heap.size (upd (s.left_ (c.of s.pend.length) i) n (over l m k)) s.num (some ⟨sx, 0, none⟩) sc' sl' wi ∧ Bk wi wr2.heap.size 60 #[.int .i64 n, .slice (some ⟨vg, 0, none⟩) 256 vc]) (fun q _ => 256 - (intOf q).toNat)
                        case atStart => exact ⟨0, Nat.zero_le _, rfl, RI0.out⟩
                        case round =>
                          obtain ⟨k, hkc, rfl, hri, hbi⟩ := hrel
                          obtain ⟨wi, hwi⟩ : ∃ x, x = wr := ⟨_, rfl⟩
                          subst hwi
                          by_cases hlt3 : k < 256
                          · have hcu256 := HCF.out
                            have hk256 : k < 256 := by have := c.of_le s.pend.length i; omega
                            have y0 : wi.cell? ⟨W1.heap.size, 0, none⟩ = some (.slice (some ⟨sx, 0, none⟩) s.num sc') := hri.blk.cell 0
                            have y1 : wi.cell? ⟨wr2.heap.size, 0, none⟩ = some (.int .i64 n) := hbi.cell 0
                            have y2 : wi.cell? ⟨wr2.heap.size, 1, none⟩ = some (.slice (some ⟨vg, 0, none⟩) 256 vc) := hbi.cell 1
                            have y3 : wi.cell? ⟨sx, n, none⟩ = some (.slice (some ⟨dg, 0, none⟩) 256 dc) := cell_row hri.srow HSL.out
                            have y4 : wi.cell? ⟨vg, k, none⟩ = some (.int .u8 (l.getD k 0)) := HDT.out wi k hri.bel hk256
                            obtain ⟨u5, y5, y6⟩ : ∃ u, wi.cell? ⟨dg, k, none⟩ = some u ∧ wi.frozen? ⟨dg, k, none⟩ = false := by
                              obtain ⟨v, a1, a2⟩ := hri.each n HNN.out
                              rw [HSL.out] at a1
                              injection a1 with a1
                              subst a1
                              have hlen : (byC (upd (s.left_ (c.of s.pend.length) i) n (over l m k) n)).length = 256 := by simpa using a2.1
                              exact ⟨_, cell_row a2 (List.getElem?_eq_getElem (show k < _ by omega)), a2.frozenAt _⟩
                            have hput := hri.put HNN.out HSL.out hk256 (l.getD k 0)
                            rw [upd_at, upd_upd, over_next HSEC.out HSECM.out k hk256] at hput
                            have hbi2 : Bk (wi.setCell ⟨dg, k, none⟩ (.int .u8 (l.getD k 0))) wr2.heap.size 60 #[.int .i64 n, .slice (some ⟨vg, 0, none⟩) 256 vc] := hbi.eq (Below.heap_setCell _ _ _ _ (by
                              have := HDG.out
                              show wr2.heap.size ≠ dg
                              omega))
                            have R : Hid (SynRel W1 W1.heap.size (upd (s.left_ (c.of s.pend.length) i) n (over l m (k + 1))) s.num (some ⟨sx, 0, none⟩) sc' sl' (wi.setCell ⟨dg, k, none⟩ (.int .u8 (l.getD k 0))).drew ∧ Bk (wi.setCell ⟨dg, k, none⟩ (.int .u8 (l.getD k 0))).drew wr2.heap.size 60 #[.int .i64 n, .slice (some ⟨vg, 0, none⟩) 256 vc]) := Lib.hid ⟨hput.below ((Below.refl _ _).drew), hbi2⟩
                            obtain ⟨bx, hbx⟩ : ∃ bx, l.getD k 0 = bx := ⟨_, rfl⟩
                            rw [hbx] at y4 R
                            clear hri hbi hput hbi2 hcu256 hbx
                            have hk0' : (0 : Int) ≤ (k : Int) := Int.natCast_nonneg _
                            have hk1' : (k : Int) < 256 := by omega
                            have hn0 : (0 : Int) ≤ (n : Int) := Int.natCast_nonneg _
                            have hn1 : (n : Int) < (s.num : Int) := by have := HNN.out; omega
                            go_wp2_with fail
                            have hS0 : wi.drew.cell? ⟨W1.heap.size, 0, none⟩ = some (.slice (some ⟨sx, 0, none⟩) s.num sc') ∧ wi.drew.cell? ⟨wr2.heap.size, 0, none⟩ = some (.int .i64 n) ∧ wi.drew.cell? ⟨wr2.heap.size, 1, none⟩ = some (.slice (some ⟨vg, 0, none⟩) 256 vc) ∧ wi.drew.cell? ⟨sx, n, none⟩ = some (.slice (some ⟨dg, 0, none⟩) 256 dc) ∧ wi.drew.cell? ⟨vg, k, none⟩ = some (.int .u8 bx) := ⟨y0, y1, y2, y3, y4⟩
                            refine wp_region_noPanic ?_
                            refine upto_start (fun w' => w'.cell? ⟨W1.heap.size, 0, none⟩ = some (.slice (some ⟨sx, 0, none⟩) s.num sc') ∧ w'.cell? ⟨wr2.heap.size, 0, none⟩ = some (.int .i64 n) ∧ w'.cell? ⟨wr2.heap.size, 1, none⟩ = some (.slice (some ⟨vg, 0, none⟩) 256 vc) ∧ w'.cell? ⟨sx, n, none⟩ = some (.slice (some ⟨dg, 0, none⟩) 256 dc) ∧ w'.cell? ⟨vg, k, none⟩ = some (.int .u8 bx)) 14 (by kernel_rfl) ?_
                            change Upto _ _ _ _ _ 16 _ _ _
                            refine Upto.take (i := 0) (v := ?_) rfl (by kernel_rfl) (fun _ _ _ h => h) rfl (fun w' hS => ?_) hS0 ?_
                            rotate_left
                            · (try dsimp only at hS); go_split_ands; go_simp; (try with_reducible rfl)
                            simp only [Act.put, List.setIfInBounds_toArray, List.set_cons_zero, List.set_cons_succ]
                            refine Upto.take (i := 1) (v := ?_) rfl (by kernel_rfl) (fun _ _ _ h => h) rfl (fun w' hS => ?_) hS0 ?_
                            rotate_left
                            · (try dsimp only at hS); go_split_ands; go_simp; (try with_reducible rfl)
                            simp only [Act.put, List.setIfInBounds_toArray, List.set_cons_zero, List.set_cons_succ]
                            refine Upto.take (i := 2) (v := ?_) rfl (by kernel_rfl) (fun _ _ _ h => h) rfl (fun w' hS => ?_) hS0 ?_
                            rotate_left
                            · (try dsimp only at hS); go_split_ands; go_simp; (try with_reducible rfl)
                            simp only [Act.put, List.setIfInBounds_toArray, List.set_cons_zero, List.set_cons_succ]
                            refine Upto.take (i := 3) (v := ?_) rfl (by kernel_rfl) (fun _ _ _ h => h) rfl (fun w' hS => ?_) hS0 ?_
                            rotate_left
                            · (try dsimp only at hS); go_split_ands; go_simp; (try with_reducible rfl)
                            simp only [Act.put, List.setIfInBounds_toArray, List.set_cons_zero, List.set_cons_succ]
                            refine Upto.take (i := 4) (v := ?_) rfl (by kernel_rfl) (fun _ _ _ h => h) rfl (fun w' hS => ?_) hS0 ?_
                            rotate_left
                            · (try dsimp only at hS); go_split_ands; go_simp; (try with_reducible rfl)
                            simp only [Act.put, List.setIfInBounds_toArray, List.set_cons_zero, List.set_cons_succ]
                            refine Upto.take (i := 5) (v := ?_) rfl (by kernel_rfl) (fun _ _ _ h => h) rfl (fun w' hS => ?_) hS0 ?_
                            rotate_left
                            · (try dsimp only at hS); go_split_ands; go_simp; (try with_reducible rfl)
                            simp only [Act.put, List.setIfInBounds_toArray, List.set_cons_zero, List.set_cons_succ]
                            refine Upto.take (i := 6) (v := ?_) rfl (by kernel_rfl) (fun _ _ _ h => h) rfl (fun w' hS => ?_) hS0 ?_
                            rotate_left
                            · (try dsimp only at hS); go_split_ands; go_simp; (try with_reducible rfl)
                            simp only [Act.put, List.setIfInBounds_toArray, List.set_cons_zero, List.set_cons_succ]
                            refine Upto.take (i := 7) (v := ?_) rfl (by kernel_rfl) (fun _ _ _ h => h) rfl (fun w' hS => ?_) hS0 ?_
                            rotate_left
                            · (try dsimp only at hS); go_split_ands; go_simp; (try with_reducible rfl)
                            simp only [Act.put, List.setIfInBounds_toArray, List.set_cons_zero, List.set_cons_succ]
                            refine Upto.take (i := 8) (v := ?_) rfl (by kernel_rfl) (fun _ _ _ h => h) rfl (fun w' hS => ?_) hS0 ?_
                            rotate_left
                            · (try dsimp only at hS); go_split_ands; go_simp; (try with_reducible rfl)
                            simp only [Act.put, List.setIfInBounds_toArray, List.set_cons_zero, List.set_cons_succ]
                            refine Upto.take (i := 9) (v := ?_) rfl (by kernel_rfl) (fun _ _ _ h => h) rfl (fun w' hS => ?_) hS0 ?_
                            rotate_left
                            · (try dsimp only at hS); go_split_ands; go_simp; (try with_reducible rfl)
                            simp only [Act.put, List.setIfInBounds_toArray, List.set_cons_zero, List.set_cons_succ]
                            refine Upto.take (i := 10) (v := ?_) rfl (by kernel_rfl) (fun _ _ _ h => h) rfl (fun w' hS => ?_) hS0 ?_
                            rotate_left
                            · (try dsimp only at hS); go_split_ands; go_simp; (try with_reducible rfl)
                            simp only [Act.put, List.setIfInBounds_toArray, List.set_cons_zero, List.set_cons_succ]
                            refine Upto.take (i := 11) (v := ?_) rfl (by kernel_rfl) (fun _ _ _ h => h) rfl (fun w' hS => ?_) hS0 ?_
                            rotate_left
                            · (try dsimp only at hS); go_split_ands; go_simp; (try with_reducible rfl)
                            simp only [Act.put, List.setIfInBounds_toArray, List.set_cons_zero, List.set_cons_succ]
                            refine Upto.take (i := 12) (v := ?_) rfl (by kernel_rfl) (fun _ _ _ h => h) rfl (fun w' hS => ?_) hS0 ?_
                            rotate_left
                            · (try dsimp only at hS); go_split_ands; go_simp; (try with_reducible rfl)
                            simp only [Act.put, List.setIfInBounds_toArray, List.set_cons_zero, List.set_cons_succ]
                            refine Upto.take (i := 13) (v := ?_) rfl (by kernel_rfl) (fun _ _ _ h => h) rfl (fun w' hS => ?_) hS0 ?_
                            rotate_left
                            · (try dsimp only at hS); go_split_ands; go_simp; (try with_reducible rfl)
                            simp only [Act.put, List.setIfInBounds_toArray, List.set_cons_zero, List.set_cons_succ]
                            refine Upto.tail rfl (by kernel_rfl) ?_
                            simp only [List.drop_succ_cons, List.drop_zero]
                            go_wp2_with fail
                            refine NoPanic.normal ?_
                            go_wp2_with fail
                            go_roundw
                            case rel => exact ⟨k + 1, by omega, by go_num, R.out⟩
                            case measure => simp [intOf]; omega
                          · have hke : k = 256 := by omega
                            have R : Hid (SynRel W1 W1.heap.size (s.left_ (c.of s.pend.length) (i + 1)) s.num (some ⟨sx, 0, none⟩) sc' sl' wi) := Lib.hid (by
                              rw [hke.trans HCF.out.symm] at hri
                              have e : s.left_ (c.of s.pend.length) (i + 1) = upd (s.left_ (c.of s.pend.length) i) n (over l m (c.of s.pend.length i)) := HNX.out
                              rw [e]
                              exact hri)
                            clear hri hbi hke
                            go_wp2_with fail
                            go_roundw
                            case rel => exact ⟨i + 1, by omega, by go_num, R.out⟩
                            case measure => simp [intOf]; omega
                      · obtain ⟨cn, rfl⟩ := Int.eq_ofNat_of_zero_le (Int.not_lt.1 hc0)
                        have hcn0 : (0 : Int) < (cn : Int) := by omega
                        have hcn1 : (cn : Int) < 256 := by omega
                        have HCF : Hid (c.of s.pend.length i = cn) := Lib.hid (by rw [HOF2.out]; unfold clamp; omega)
                        clear hc0 hc1 hc2 hc3
                        go_wp2_with fail
                        go_loopw [10] (fun q wi => ∃ k : Nat, k ≤ cn ∧ q = .int .i64 k ∧ SynRel W1 W1.heap.size (upd (s.left_ (c.of s.pend.length) i) n (over l m k)) s.num (some ⟨sx, 0, none⟩) sc' sl' wi ∧ Bk wi wr2.heap.size 60 #[.int .i64 n, .slice (some ⟨vg, 0, none⟩) 256 vc]) (fun q _ => cn - (intOf q).toNat)
                        case atStart => exact ⟨0, Nat.zero_le _, rfl, RI0.out⟩
                        case round =>
                          obtain ⟨k, hkc, rfl, hri, hbi⟩ := hrel
                          obtain ⟨wi, hwi⟩ : ∃ x, x = wr := ⟨_, rfl⟩
                          subst hwi
                          by_cases hlt3 : k < cn
                          · have hcu256 := HCF.out
                            have hk256 : k < 256 := by have := c.of_le s.pend.length i; omega
                            have y0 : wi.cell? ⟨W1.heap.size, 0, none⟩ = some (.slice (some ⟨sx, 0, none⟩) s.num sc') := hri.blk.cell 0
                            have y1 : wi.cell? ⟨wr2.heap.size, 0, none⟩ = some (.int .i64 n) := hbi.cell 0
                            have y2 : wi.cell? ⟨wr2.heap.size, 1, none⟩ = some (.slice (some ⟨vg, 0, none⟩) 256 vc) := hbi.cell 1
                            have y3 : wi.cell? ⟨sx, n, none⟩ = some (.slice (some ⟨dg, 0, none⟩) 256 dc) := cell_row hri.srow HSL.out
                            have y4 : wi.cell? ⟨vg, k, none⟩ = some (.int .u8 (l.getD k 0)) := HDT.out wi k hri.bel hk256
                            obtain ⟨u5, y5, y6⟩ : ∃ u, wi.cell? ⟨dg, k, none⟩ = some u ∧ wi.frozen? ⟨dg, k, none⟩ = false := by
                              obtain ⟨v, a1, a2⟩ := hri.each n HNN.out
                              rw [HSL.out] at a1
                              injection a1 with a1
                              subst a1
                              have hlen : (byC (upd (s.left_ (c.of s.pend.length) i) n (over l m k) n)).length = 256 := by simpa using a2.1
                              exact ⟨_, cell_row a2 (List.getElem?_eq_getElem (show k < _ by omega)), a2.frozenAt _⟩
                            have hput := hri.put HNN.out HSL.out hk256 (l.getD k 0)
                            rw [upd_at, upd_upd, over_next HSEC.out HSECM.out k hk256] at hput
                            have hbi2 : Bk (wi.setCell ⟨dg, k, none⟩ (.int .u8 (l.getD k 0))) wr2.heap.size 60 #[.int .i64 n, .slice (some ⟨vg, 0, none⟩) 256 vc] := hbi.eq (Below.heap_setCell _ _ _ _ (by
                              have := HDG.out
                              show wr2.heap.size ≠ dg
                              omega))
                            have R : Hid (SynRel W1 W1.heap.size (upd (s.left_ (c.of s.pend.length) i) n (over l m (k + 1))) s.num (some ⟨sx, 0, none⟩) sc' sl' (wi.setCell ⟨dg, k, none⟩ (.int .u8 (l.getD k 0))).drew ∧ Bk (wi.setCell ⟨dg, k, none⟩ (.int .u8 (l.getD k 0))).drew wr2.heap.size 60 #[.int .i64 n, .slice (some ⟨vg, 0, none⟩) 256 vc]) := Lib.hid ⟨hput.below ((Below.refl _ _).drew), hbi2⟩
                            obtain ⟨bx, hbx⟩ : ∃ bx, l.getD k 0 = bx := ⟨_, rfl⟩
                            rw [hbx] at y4 R
                            clear hri hbi hput hbi2 hcu256 hbx
                            have hk0' : (0 : Int) ≤ (k : Int) := Int.natCast_nonneg _
                            have hk1' : (k : Int) < 256 := by omega
                            have hn0 : (0 : Int) ≤ (n : Int) := Int.natCast_nonneg _
                            have hn1 : (n : Int) < (s.num : Int) := by have := HNN.out; omega
                            go_wp2_with fail
                            have hS0 : wi.drew.cell? ⟨W1.heap.size, 0, none⟩ = some (.slice (some ⟨sx, 0, none⟩) s.num sc') ∧ wi.drew.cell? ⟨wr2.heap.size, 0, none⟩ = some (.int .i64 n) ∧ wi.drew.cell? ⟨wr2.heap.size, 1, none⟩ = some (.slice (some ⟨vg, 0, none⟩) 256 vc) ∧ wi.drew.cell? ⟨sx, n, none⟩ = some (.slice (some ⟨dg, 0, none⟩) 256 dc) ∧ wi.drew.cell? ⟨vg, k, none⟩ = some (.int .u8 bx) := ⟨y0, y1, y2, y3, y4⟩
                            refine wp_region_noPanic ?_
                            refine upto_start (fun w' => w'.cell? ⟨W1.heap.size, 0, none⟩ = some (.slice (some ⟨sx, 0, none⟩) s.num sc') ∧ w'.cell? ⟨wr2.heap.size, 0, none⟩ = some (.int .i64 n) ∧ w'.cell? ⟨wr2.heap.size, 1, none⟩ = some (.slice (some ⟨vg, 0, none⟩) 256 vc) ∧ w'.cell? ⟨sx, n, none⟩ = some (.slice (some ⟨dg, 0, none⟩) 256 dc) ∧ w'.cell? ⟨vg, k, none⟩ = some (.int .u8 bx)) 14 (by kernel_rfl) ?_
                            change Upto _ _ _ _ _ 16 _ _ _
                            refine Upto.take (i := 0) (v := ?_) rfl (by kernel_rfl) (fun _ _ _ h => h) rfl (fun w' hS => ?_) hS0 ?_
                            rotate_left
                            · (try dsimp only at hS); go_split_ands; go_simp; (try with_reducible rfl)
                            simp only [Act.put, List.setIfInBounds_toArray, List.set_cons_zero, List.set_cons_succ]
                            refine Upto.take (i := 1) (v := ?_) rfl (by kernel_rfl) (fun _ _ _ h => h) rfl (fun w' hS => ?_) hS0 ?_
                            rotate_left
                            · (try dsimp only at hS); go_split_ands; go_simp; (try with_reducible rfl)
                            simp only [Act.put, List.setIfInBounds_toArray, List.set_cons_zero, List.set_cons_succ]
                            refine Upto.take (i := 2) (v := ?_) rfl (by kernel_rfl) (fun _ _ _ h => h) rfl (fun w' hS => ?_) hS0 ?_
                            rotate_left
                            · (try dsimp only at hS); go_split_ands; go_simp; (try with_reducible rfl)
                            simp only [Act.put, List.setIfInBounds_toArray, List.set_cons_zero, List.set_cons_succ]
                            refine Upto.take (i := 3) (v := ?_) rfl (by kernel_rfl) (fun _ _ _ h => h) rfl (fun w' hS => ?_) hS0 ?_
                            rotate_left
                            · (try dsimp only at hS); go_split_ands; go_simp; (try with_reducible rfl)
                            simp only [Act.put, List.setIfInBounds_toArray, List.set_cons_zero, List.set_cons_succ]
                            refine Upto.take (i := 4) (v := ?_) rfl (by kernel_rfl) (fun _ _ _ h => h) rfl (fun w' hS => ?_) hS0 ?_
                            rotate_left
                            · (try dsimp only at hS); go_split_ands; go_simp; (try with_reducible rfl)
                            simp only [Act.put, List.setIfInBounds_toArray, List.set_cons_zero, List.set_cons_succ]
                            refine Upto.take (i := 5) (v := ?_) rfl (by kernel_rfl) (fun _ _ _ h => h) rfl (fun w' hS => ?_) hS0 ?_
                            rotate_left
                            · (try dsimp only at hS); go_split_ands; go_simp; (try with_reducible rfl)
                            simp only [Act.put, List.setIfInBounds_toArray, List.set_cons_zero, List.set_cons_succ]
                            refine Upto.take (i := 6) (v := ?_) rfl (by kernel_rfl) (fun _ _ _ h => h) rfl (fun w' hS => ?_) hS0 ?_
                            rotate_left
                            · (try dsimp only at hS); go_split_ands; go_simp; (try with_reducible rfl)
                            simp only [Act.put, List.setIfInBounds_toArray, List.set_cons_zero, List.set_cons_succ]
                            refine Upto.take (i := 7) (v := ?_) rfl (by kernel_rfl) (fun _ _ _ h => h) rfl (fun w' hS => ?_) hS0 ?_
                            rotate_left
                            · (try dsimp only at hS); go_split_ands; go_simp; (try with_reducible rfl)
                            simp only [Act.put, List.setIfInBounds_toArray, List.set_cons_zero, List.set_cons_succ]
                            refine Upto.take (i := 8) (v := ?_) rfl (by kernel_rfl) (fun _ _ _ h => h) rfl (fun w' hS => ?_) hS0 ?_
                            rotate_left
                            · (try dsimp only at hS); go_split_ands; go_simp; (try with_reducible rfl)
                            simp only [Act.put, List.setIfInBounds_toArray, List.set_cons_zero, List.set_cons_succ]
                            refine Upto.take (i := 9) (v := ?_) rfl (by kernel_rfl) (fun _ _ _ h => h) rfl (fun w' hS => ?_) hS0 ?_
                            rotate_left
                            · (try dsimp only at hS); go_split_ands; go_simp; (try with_reducible rfl)
                            simp only [Act.put, List.setIfInBounds_toArray, List.set_cons_zero, List.set_cons_succ]
                            refine Upto.take (i := 10) (v := ?_) rfl (by kernel_rfl) (fun _ _ _ h => h) rfl (fun w' hS => ?_) hS0 ?_
                            rotate_left
                            · (try dsimp only at hS); go_split_ands; go_simp; (try with_reducible rfl)
                            simp only [Act.put, List.setIfInBounds_toArray, List.set_cons_zero, List.set_cons_succ]
                            refine Upto.take (i := 11) (v := ?_) rfl (by kernel_rfl) (fun _ _ _ h => h) rfl (fun w' hS => ?_) hS0 ?_
                            rotate_left
                            · (try dsimp only at hS); go_split_ands; go_simp; (try with_reducible rfl)
                            simp only [Act.put, List.setIfInBounds_toArray, List.set_cons_zero, List.set_cons_succ]
                            refine Upto.take (i := 12) (v := ?_) rfl (by kernel_rfl) (fun _ _ _ h => h) rfl (fun w' hS => ?_) hS0 ?_
                            rotate_left
                            · (try dsimp only at hS); go_split_ands; go_simp; (try with_reducible rfl)
                            simp only [Act.put, List.setIfInBounds_toArray, List.set_cons_zero, List.set_cons_succ]
                            refine Upto.take (i := 13) (v := ?_) rfl (by kernel_rfl) (fun _ _ _ h => h) rfl (fun w' hS => ?_) hS0 ?_
                            rotate_left
                            · (try dsimp only at hS); go_split_ands; go_simp; (try with_reducible rfl)
                            simp only [Act.put, List.setIfInBounds_toArray, List.set_cons_zero, List.set_cons_succ]
                            refine Upto.tail rfl (by kernel_rfl) ?_
                            simp only [List.drop_succ_cons, List.drop_zero]
                            go_wp2_with fail
                            refine NoPanic.normal ?_
                            go_wp2_with fail
                            go_roundw
                            case rel => exact ⟨k + 1, by omega, by go_num, R.out⟩
                            case measure => simp [intOf]; omega
                          · have hke : k = cn := by omega
                            have R : Hid (SynRel W1 W1.heap.size (s.left_ (c.of s.pend.length) (i + 1)) s.num (some ⟨sx, 0, none⟩) sc' sl' wi) := Lib.hid (by
                              rw [hke.trans HCF.out.symm] at hri
                              have e : s.left_ (c.of s.pend.length) (i + 1) = upd (s.left_ (c.of s.pend.length) i) n (over l m (c.of s.pend.length i)) := HNX.out
                              rw [e]
                              exact hri)
                            clear hri hbi hke
                            go_wp2_with fail
                            go_roundw
                            case rel => exact ⟨i + 1, by omega, by go_num, R.out⟩
                            case measure => simp [intOf]; omega
              · have he : ((i : Int) == (s.pend.length : Int) - 1) = false := by simp; omega
                have HCF : Hid (c.of s.pend.length i = 256) := Lib.hid (by rw [HOF.out, if_neg (by rintro ⟨_, q⟩; exact hlast q), if_pos hmem])
                clear HOF hmem hlast
                go_wp2_with fail
                go_loopw [10] (fun q wi => ∃ k : Nat, k ≤ 256 ∧ q = .int .i64 k ∧ SynRel W1 W1.heap.size (upd (s.left_ (c.of s.pend.length) i) n (over l m k)) s.num (some ⟨sx, 0, none⟩) sc' sl' wi ∧ Bk wi wr2.heap.size 60 #[.int .i64 n, .slice (some ⟨vg, 0, none⟩) 256 vc]) (fun q _ => 256 - (intOf q).toNat)
                case atStart => exact ⟨0, Nat.zero_le _, rfl, RI0.out⟩
                case round =>
                  obtain ⟨k, hkc, rfl, hri, hbi⟩ := hrel
                  obtain ⟨wi, hwi⟩ : ∃ x, x = wr := ⟨_, rfl⟩
                  subst hwi
                  by_cases hlt3 : k < 256
                  · have hcu256 := HCF.out
                    have hk256 : k < 256 := by have := c.of_le s.pend.length i; omega
                    have y0 : wi.cell? ⟨W1.heap.size, 0, none⟩ = some (.slice (some ⟨sx, 0, none⟩) s.num sc') := hri.blk.cell 0
                    have y1 : wi.cell? ⟨wr2.heap.size, 0, none⟩ = some (.int .i64 n) := hbi.cell 0
                    have y2 : wi.cell? ⟨wr2.heap.size, 1, none⟩ = some (.slice (some ⟨vg, 0, none⟩) 256 vc) := hbi.cell 1
                    have y3 : wi.cell? ⟨sx, n, none⟩ = some (.slice (some ⟨dg, 0, none⟩) 256 dc) := cell_row hri.srow HSL.out
                    have y4 : wi.cell? ⟨vg, k, none⟩ = some (.int .u8 (l.getD k 0)) := HDT.out wi k hri.bel hk256
                    obtain ⟨u5, y5, y6⟩ : ∃ u, wi.cell? ⟨dg, k, none⟩ = some u ∧ wi.frozen? ⟨dg, k, none⟩ = false := by
                      obtain ⟨v, a1, a2⟩ := hri.each n HNN.out
                      rw [HSL.out] at a1
                      injection a1 with a1
                      subst a1
                      have hlen : (byC (upd (s.left_ (c.of s.pend.length) i) n (over l m k) n)).length = 256 := by simpa using a2.1
                      exact ⟨_, cell_row a2 (List.getElem?_eq_getElem (show k < _ by omega)), a2.frozenAt _⟩
                    have hput := hri.put HNN.out HSL.out hk256 (l.getD k 0)
                    rw [upd_at, upd_upd, over_next HSEC.out HSECM.out k hk256] at hput
                    have hbi2 : Bk (wi.setCell ⟨dg, k, none⟩ (.int .u8 (l.getD k 0))) wr2.heap.size 60 #[.int .i64 n, .slice (some ⟨vg, 0, none⟩) 256 vc] := hbi.eq (Below.heap_setCell _ _ _ _ (by
                      have := HDG.out
                      show wr2.heap.size ≠ dg
                      omega))
                    have R : Hid (SynRel W1 W1.heap.size (upd (s.left_ (c.of s.pend.length) i) n (over l m (k + 1))) s.num (some ⟨sx, 0, none⟩) sc' sl' (wi.setCell ⟨dg, k, none⟩ (.int .u8 (l.getD k 0))).drew ∧ Bk (wi.setCell ⟨dg, k, none⟩ (.int .u8 (l.getD k 0))).drew wr2.heap.size 60 #[.int .i64 n, .slice (some ⟨vg, 0, none⟩) 256 vc]) := Lib.hid ⟨hput.below ((Below.refl _ _).drew), hbi2⟩
                    obtain ⟨bx, hbx⟩ : ∃ bx, l.getD k 0 = bx := ⟨_, rfl⟩
                    rw [hbx] at y4 R
                    clear hri hbi hput hbi2 hcu256 hbx
                    have hk0' : (0 : Int) ≤ (k : Int) := Int.natCast_nonneg _
                    have hk1' : (k : Int) < 256 := by omega
                    have hn0 : (0 : Int) ≤ (n : Int) := Int.natCast_nonneg _
                    have hn1 : (n : Int) < (s.num : Int) := by have := HNN.out; omega
                    go_wp2_with fail
                    have hS0 : wi.drew.cell? ⟨W1.heap.size, 0, none⟩ = some (.slice (some ⟨sx, 0, none⟩) s.num sc') ∧ wi.drew.cell? ⟨wr2.heap.size, 0, none⟩ = some (.int .i64 n) ∧ wi.drew.cell? ⟨wr2.heap.size, 1, none⟩ = some (.slice (some ⟨vg, 0, none⟩) 256 vc) ∧ wi.drew.cell? ⟨sx, n, none⟩ = some (.slice (some ⟨dg, 0, none⟩) 256 dc) ∧ wi.drew.cell? ⟨vg, k, none⟩ = some (.int .u8 bx) := ⟨y0, y1, y2, y3, y4⟩
                    refine wp_region_noPanic ?_
                    refine upto_start (fun w' => w'.cell? ⟨W1.heap.size, 0, none⟩ = some (.slice (some ⟨sx, 0, none⟩) s.num sc') ∧ w'.cell? ⟨wr2.heap.size, 0, none⟩ = some (.int .i64 n) ∧ w'.cell? ⟨wr2.heap.size, 1, none⟩ = some (.slice (some ⟨vg, 0, none⟩) 256 vc) ∧ w'.cell? ⟨sx, n, none⟩ = some (.slice (some ⟨dg, 0, none⟩) 256 dc) ∧ w'.cell? ⟨vg, k, none⟩ = some (.int .u8 bx)) 14 (by kernel_rfl) ?_
                    change Upto _ _ _ _ _ 16 _ _ _
                    refine Upto.take (i := 0) (v := ?_) rfl (by kernel_rfl) (fun _ _ _ h => h) rfl (fun w' hS => ?_) hS0 ?_
                    rotate_left
                    · (try dsimp only at hS); go_split_ands; go_simp; (try with_reducible rfl)
                    simp only [Act.put, List.setIfInBounds_toArray, List.set_cons_zero, List.set_cons_succ]
                    refine Upto.take (i := 1) (v := ?_) rfl (by kernel_rfl) (fun _ _ _ h => h) rfl (fun w' hS => ?_) hS0 ?_
                    rotate_left
                    · (try dsimp only at hS); go_split_ands; go_simp; (try with_reducible rfl)
                    simp only [Act.put, List.setIfInBounds_toArray, List.set_cons_zero, List.set_cons_succ]
                    refine Upto.take (i := 2) (v := ?_) rfl (by kernel_rfl) (fun _ _ _ h => h) rfl (fun w' hS => ?_) hS0 ?_
                    rotate_left
                    · (try dsimp only at hS); go_split_ands; go_simp; (try with_reducible rfl)
                    simp only [Act.put, List.setIfInBounds_toArray, List.set_cons_zero, List.set_cons_succ]
                    refine Upto.take (i := 3) (v := ?_) rfl (by kernel_rfl) (fun _ _ _ h => h) rfl (fun w' hS => ?_) hS0 ?_
                    rotate_left
                    · (try dsimp only at hS); go_split_ands; go_simp; (try with_reducible rfl)
                    simp only [Act.put, List.setIfInBounds_toArray, List.set_cons_zero, List.set_cons_succ]
                    refine Upto.take (i := 4) (v := ?_) rfl (by kernel_rfl) (fun _ _ _ h => h) rfl (fun w' hS => ?_) hS0 ?_
                    rotate_left
                    · (try dsimp only at hS); go_split_ands; go_simp; (try with_reducible rfl)
                    simp only [Act.put, List.setIfInBounds_toArray, List.set_cons_zero, List.set_cons_succ]
                    refine Upto.take (i := 5) (v := ?_) rfl (by kernel_rfl) (fun _ _ _ h => h) rfl (fun w' hS => ?_) hS0 ?_
                    rotate_left
                    · (try dsimp only at hS); go_split_ands; go_simp; (try with_reducible rfl)
                    simp only [Act.put, List.setIfInBounds_toArray, List.set_cons_zero, List.set_cons_succ]
                    refine Upto.take (i := 6) (v := ?_) rfl (by kernel_rfl) (fun _ _ _ h => h) rfl (fun w' hS => ?_) hS0 ?_
                    rotate_left
                    · (try dsimp only at hS); go_split_ands; go_simp; (try with_reducible rfl)
                    simp only [Act.put, List.setIfInBounds_toArray, List.set_cons_zero, List.set_cons_succ]
                    refine Upto.take (i := 7) (v := ?_) rfl (by kernel_rfl) (fun _ _ _ h => h) rfl (fun w' hS => ?_) hS0 ?_
                    rotate_left
                    · (try dsimp only at hS); go_split_ands; go_simp; (try with_reducible rfl)
                    simp only [Act.put, List.setIfInBounds_toArray, List.set_cons_zero, List.set_cons_succ]
                    refine Upto.take (i := 8) (v := ?_) rfl (by kernel_rfl) (fun _ _ _ h => h) rfl (fun w' hS => ?_) hS0 ?_
                    rotate_left
                    · (try dsimp only at hS); go_split_ands; go_simp; (try with_reducible rfl)
                    simp only [Act.put, List.setIfInBounds_toArray, List.set_cons_zero, List.set_cons_succ]
                    refine Upto.take (i := 9) (v := ?_) rfl (by kernel_rfl) (fun _ _ _ h => h) rfl (fun w' hS => ?_) hS0 ?_
                    rotate_left
                    · (try dsimp only at hS); go_split_ands; go_simp; (try with_reducible rfl)
                    simp only [Act.put, List.setIfInBounds_toArray, List.set_cons_zero, List.set_cons_succ]
                    refine Upto.take (i := 10) (v := ?_) rfl (by kernel_rfl) (fun _ _ _ h => h) rfl (fun w' hS => ?_) hS0 ?_
                    rotate_left
                    · (try dsimp only at hS); go_split_ands; go_simp; (try with_reducible rfl)
                    simp only [Act.put, List.setIfInBounds_toArray, List.set_cons_zero, List.set_cons_succ]
                    refine Upto.take (i := 11) (v := ?_) rfl (by kernel_rfl) (fun _ _ _ h => h) rfl (fun w' hS => ?_) hS0 ?_
                    rotate_left
                    · (try dsimp only at hS); go_split_ands; go_simp; (try with_reducible rfl)
                    simp only [Act.put, List.setIfInBounds_toArray, List.set_cons_zero, List.set_cons_succ]
                    refine Upto.take (i := 12) (v := ?_) rfl (by kernel_rfl) (fun _ _ _ h => h) rfl (fun w' hS => ?_) hS0 ?_
                    rotate_left
                    · (try dsimp only at hS); go_split_ands; go_simp; (try with_reducible rfl)
                    simp only [Act.put, List.setIfInBounds_toArray, List.set_cons_zero, List.set_cons_succ]
                    refine Upto.take (i := 13) (v := ?_) rfl (by kernel_rfl) (fun _ _ _ h => h) rfl (fun w' hS => ?_) hS0 ?_
                    rotate_left
                    · (try dsimp only at hS); go_split_ands; go_simp; (try with_reducible rfl)
                    simp only [Act.put, List.setIfInBounds_toArray, List.set_cons_zero, List.set_cons_succ]
                    refine Upto.tail rfl (by kernel_rfl) ?_
                    simp only [List.drop_succ_cons, List.drop_zero]
                    go_wp2_with fail
                    refine NoPanic.normal ?_
                    go_wp2_with fail
                    go_roundw
                    case rel => exact ⟨k + 1, by omega, by go_num, R.out⟩
                    case measure => simp [intOf]; omega
                  · have hke : k = 256 := by omega
                    have R : Hid (SynRel W1 W1.heap.size (s.left_ (c.of s.pend.length) (i + 1)) s.num (some ⟨sx, 0, none⟩) sc' sl' wi) := Lib.hid (by
                      rw [hke.trans HCF.out.symm] at hri
                      have e : s.left_ (c.of s.pend.length) (i + 1) = upd (s.left_ (c.of s.pend.length) i) n (over l m (c.of s.pend.length i)) := HNX.out
                      rw [e]
                      exact hri)
                    clear hri hbi hke
                    go_wp2_with fail
                    go_roundw
                    case rel => exact ⟨i + 1, by omega, by go_num, R.out⟩
                    case measure => simp [intOf]; omega
          · rw [decide_eq_false hmem]
            cases tn with
            | false =>
              have HCF : Hid (c.of s.pend.length i = 0) := Lib.hid (by rw [HOF.out, if_neg (by simp), if_neg hmem])
              clear HOF hmem
              go_wp2_with fail
              go_loopw [10] (fun q wi => ∃ k : Nat, k ≤ 0 ∧ q = .int .i64 k ∧ SynRel W1 W1.heap.size (upd (s.left_ (c.of s.pend.length) i) n (over l m k)) s.num (some ⟨sx, 0, none⟩) sc' sl' wi ∧ Bk wi wr2.heap.size 60 #[.int .i64 n, .slice (some ⟨vg, 0, none⟩) 256 vc]) (fun q _ => 0 - (intOf q).toNat)
              case atStart => exact ⟨0, Nat.zero_le _, rfl, RI0.out⟩
              case round =>
                obtain ⟨k, hkc, rfl, hri, hbi⟩ := hrel
                obtain ⟨wi, hwi⟩ : ∃ x, x = wr := ⟨_, rfl⟩
                subst hwi
                by_cases hlt3 : k < 0
                · exact absurd hlt3 (Nat.not_lt_zero k)
                · have hke : k = 0 := by omega
                  have R : Hid (SynRel W1 W1.heap.size (s.left_ (c.of s.pend.length) (i + 1)) s.num (some ⟨sx, 0, none⟩) sc' sl' wi) := Lib.hid (by
                    rw [hke.trans HCF.out.symm] at hri
                    have e : s.left_ (c.of s.pend.length) (i + 1) = upd (s.left_ (c.of s.pend.length) i) n (over l m (c.of s.pend.length i)) := HNX.out
                    rw [e]
                    exact hri)
                  clear hri hbi hke
                  go_wp2_with fail
                  go_roundw
                  case rel => exact ⟨i + 1, by omega, by go_num, R.out⟩
                  case measure => simp [intOf]; omega
            | true =>
              by_cases hlast : i + 1 = s.pend.length
              · have he : ((i : Int) == (s.pend.length : Int) - 1) = true := by simp; omega
                have HOF2 : Hid (c.of s.pend.length i = clamp cut) := Lib.hid (by rw [HOF.out, if_pos ⟨rfl, hlast⟩])
                clear HOF hmem hlast
                by_cases hc0 : cut < 0
                · have HCF : Hid (c.of s.pend.length i = 0) := Lib.hid (by rw [HOF2.out]; unfold clamp; omega)
                  go_wp2_with fail
                  go_loopw [10] (fun q wi => ∃ k : Nat, k ≤ 0 ∧ q = .int .i64 k ∧ SynRel W1 W1.heap.size (upd (s.left_ (c.of s.pend.length) i) n (over l m k)) s.num (some ⟨sx, 0, none⟩) sc' sl' wi ∧ Bk wi wr2.heap.size 60 #[.int .i64 n, .slice (some ⟨vg, 0, none⟩) 256 vc]) (fun q _ => 0 - (intOf q).toNat)
                  case atStart => exact ⟨0, Nat.zero_le _, rfl, RI0.out⟩
                  case round =>
                    obtain ⟨k, hkc, rfl, hri, hbi⟩ := hrel
                    obtain ⟨wi, hwi⟩ : ∃ x, x = wr := ⟨_, rfl⟩
                    subst hwi
                    by_cases hlt3 : k < 0
                    · exact absurd hlt3 (Nat.not_lt_zero k)
                    · have hke : k = 0 := by omega
                      have R : Hid (SynRel W1 W1.heap.size (s.left_ (c.of s.pend.length) (i + 1)) s.num (some ⟨sx, 0, none⟩) sc' sl' wi) := Lib.hid (by
                        rw [hke.trans HCF.out.symm] at hri
                        have e : s.left_ (c.of s.pend.length) (i + 1) = upd (s.left_ (c.of s.pend.length) i) n (over l m (c.of s.pend.length i)) := HNX.out
                        rw [e]
                        exact hri)
                      clear hri hbi hke
                      go_wp2_with fail
                      go_roundw
                      case rel => exact ⟨i + 1, by omega, by go_num, R.out⟩
                      case measure => simp [intOf]; omega
                · by_cases hc1 : cut = 0
                  · subst hc1
                    have HCF : Hid (c.of s.pend.length i = 0) := Lib.hid (by rw [HOF2.out]; unfold clamp; omega)
                    go_wp2_with fail
                    go_loopw [10] (fun q wi => ∃ k : Nat, k ≤ 0 ∧ q = .int .i64 k ∧ SynRel W1 W1.heap.size (upd (s.left_ (c.of s.pend.length) i) n (over l m k)) s.num (some ⟨sx, 0, none⟩) sc' sl' wi ∧ Bk wi wr2.heap.size 60 #[.int .i64 n, .slice (some ⟨vg, 0, none⟩) 256 vc]) (fun q _ => 0 - (intOf q).toNat)
                    case atStart => exact ⟨0, Nat.zero_le _, rfl, RI0.out⟩
                    case round =>
                      obtain ⟨k, hkc, rfl, hri, hbi⟩ := hrel
                      obtain ⟨wi, hwi⟩ : ∃ x, x = wr := ⟨_, rfl⟩
                      subst hwi
                      by_cases hlt3 : k < 0
                      · exact absurd hlt3 (Nat.not_lt_zero k)
                      · have hke : k = 0 := by omega
                        have R : Hid (SynRel W1 W1.heap.size (s.left_ (c.of s.pend.length) (i + 1)) s.num (some ⟨sx, 0, none⟩) sc' sl' wi) := Lib.hid (by
                          rw [hke.trans HCF.out.symm] at hri
                          have e : s.left_ (c.of s.pend.length) (i + 1) = upd (s.left_ (c.of s.pend.length) i) n (over l m (c.of s.pend.length i)) := HNX.out
                          rw [e]
                          exact hri)
                        clear hri hbi hke
                        go_wp2_with fail
                        go_roundw
                        case rel => exact ⟨i + 1, by omega, by go_num, R.out⟩
                        case measure => simp [intOf]; omega
                  · by_cases hc2 : 256 < cut
                    · have HCF : Hid (c.of s.pend.length i = 256) := Lib.hid (by rw [HOF2.out]; unfold clamp; omega)
                      go_wp2_with fail
                      go_loopw [10] (fun q wi => ∃ k : Nat, k ≤ 256 ∧ q = .int .i64 k ∧ SynRel W1 W1.heap.size (upd (s.left_ (c.of s.pend.length) i) n (over l m k)) s.num (some ⟨sx, 0, none⟩) sc' sl' wi ∧ Bk wi wr2.heap.size 60 #[.int .i64 n, .slice (some ⟨vg, 0, none⟩) 256 vc]) (fun q _ => 256 - (intOf q).toNat)
                      case atStart => exact ⟨0, Nat.zero_le _, rfl, RI0.out⟩
                      case round =>
                        obtain ⟨k, hkc, rfl, hri, hbi⟩ := hrel
                        obtain ⟨wi, hwi⟩ : ∃ x, x = wr := ⟨_, rfl⟩
                        subst hwi
                        by_cases hlt3 : k < 256
                        · have hcu256 := HCF.out
                          have hk256 : k < 256 := by have := c.of_le s.pend.length i; omega
                          have y0 : wi.cell? ⟨W1.heap.size, 0, none⟩ = some (.slice (some ⟨sx, 0, none⟩) s.num sc') := hri.blk.cell 0
                          have y1 : wi.cell? ⟨wr2.heap.size, 0, none⟩ = some (.int .i64 n) := hbi.cell 0
                          have y2 : wi.cell? ⟨wr2.heap.size, 1, none⟩ = some (.slice (some ⟨vg, 0, none⟩) 256 vc) := hbi.cell 1
                          have y3 : wi.cell? ⟨sx, n, none⟩ = some (.slice (some ⟨dg, 0, none⟩) 256 dc) := cell_row hri.srow HSL.out
                          have y4 : wi.cell? ⟨vg, k, none⟩ = some (.int .u8 (l.getD k 0)) := HDT.out wi k hri.bel hk256
                          obtain ⟨u5, y5, y6⟩ : ∃ u, wi.cell? ⟨dg, k, none⟩ = some u ∧ wi.frozen? ⟨dg, k, none⟩ = false := by
                            obtain ⟨v, a1, a2⟩ := hri.each n HNN.out
                            rw [HSL.out] at a1
                            injection a1 with a1
                            subst a1
                            have hlen : (byC (upd (s.left_ (c.of s.pend.length) i) n (over l m k) n)).length = 256 := by simpa using a2.1
                            exact ⟨_, cell_row a2 (List.getElem?_eq_getElem (show k < _ by omega)), a2.frozenAt _⟩
                          have hput := hri.put HNN.out HSL.out hk256 (l.getD k 0)
                          rw [upd_at, upd_upd, over_next HSEC.out HSECM.out k hk256] at hput
                          have hbi2 : Bk (wi.setCell ⟨dg, k, none⟩ (.int .u8 (l.getD k 0))) wr2.heap.size 60 #[.int .i64 n, .slice (some ⟨vg, 0, none⟩) 256 vc] := hbi.eq (Below.heap_setCell _ _ _ _ (by
                            have := HDG.out
                            show wr2.heap.size ≠ dg
                            omega))
                          have R : Hid (SynRel W1 W1.heap.size (upd (s.left_ (c.of s.pend.length) i) n (over l m (k + 1))) s.num (some ⟨sx, 0, none⟩) sc' sl' (wi.setCell ⟨dg, k, none⟩ (.int .u8 (l.getD k 0))).drew ∧ Bk (wi.setCell ⟨dg, k, none⟩ (.int .u8 (l.getD k 0))).drew wr2.heap.size 60 #[.int .i64 n, .slice (some ⟨vg, 0, none⟩) 256 vc]) := Lib.hid ⟨hput.below ((Below.refl _ _).drew), hbi2⟩
                          obtain ⟨bx, hbx⟩ : ∃ bx, l.getD k 0 = bx := ⟨_, rfl⟩
                          rw [hbx] at y4 R
                          clear hri hbi hput hbi2 hcu256 hbx
                          have hk0' : (0 : Int) ≤ (k : Int) := Int.natCast_nonneg _
                          have hk1' : (k : Int) < 256 := by omega
                          have hn0 : (0 : Int) ≤ (n : Int) := Int.natCast_nonneg _
                          have hn1 : (n : Int) < (s.num : Int) := by have := HNN.out; omega
                          go_wp2_with fail
                          have hS0 : wi.drew.cell? ⟨W1.heap.size, 0, none⟩ = some (.slice (some ⟨sx, 0, none⟩) s.num sc') ∧ wi.drew.cell? ⟨wr2.heap.size, 0, none⟩ = some (.int .i64 n) ∧ wi.drew.cell? ⟨wr2.heap.size, 1, none⟩ = some (.slice (some ⟨vg, 0, none⟩) 256 vc) ∧ wi.drew.cell? ⟨sx, n, none⟩ = some (.slice (some ⟨dg, 0, none⟩) 256 dc) ∧ wi.drew.cell? ⟨vg, k, none⟩ = some (.int .u8 bx) := ⟨y0, y1, y2, y3, y4⟩
                          refine wp_region_noPanic ?_
                          refine upto_start (fun w' => w'.cell? ⟨W1.heap.size, 0, none⟩ = some (.slice (some ⟨sx, 0, none⟩) s.num sc') ∧ w'.cell? ⟨wr2.heap.size, 0, none⟩ = some (.int .i64 n) ∧ w'.cell? ⟨wr2.heap.size, 1, none⟩ = some (.slice (some ⟨vg, 0, none⟩) 256 vc) ∧ w'.cell? ⟨sx, n, none⟩ = some (.slice (some ⟨dg, 0, none⟩) 256 dc) ∧ w'.cell? ⟨vg, k, none⟩ = some (.int .u8 bx)) 14 (by kernel_rfl) ?_
                          change Upto _ _ _ _ _ 16 _ _ _
                          refine Upto.take (i := 0) (v := ?_) rfl (by kernel_rfl) (fun _ _ _ h => h) rfl (fun w' hS => ?_) hS0 ?_
                          rotate_left
                          · (try dsimp only at hS); go_split_ands; go_simp; (try with_reducible rfl)
                          simp only [Act.put, List.setIfInBounds_toArray, List.set_cons_zero, List.set_cons_succ]
                          refine Upto.take (i := 1) (v := ?_) rfl (by kernel_rfl) (fun _ _ _ h => h) rfl (fun w' hS => ?_) hS0 ?_
                          rotate_left
                          · (try dsimp only at hS); go_split_ands; go_simp; (try with_reducible rfl)
                          simp only [Act.put, List.setIfInBounds_toArray, List.set_cons_zero, List.set_cons_succ]
                          refine Upto.take (i := 2) (v := ?_) rfl (by kernel_rfl) (fun _ _ _ h => h) rfl (fun w' hS => ?_) hS0 ?_
                          rotate_left
                          · (try dsimp only at hS); go_split_ands; go_simp; (try with_reducible rfl)
                          simp only [Act.put, List.setIfInBounds_toArray, List.set_cons_zero, List.set_cons_succ]
                          refine Upto.take (i := 3) (v := ?_) rfl (by kernel_rfl) (fun _ _ _ h => h) rfl (fun w' hS => ?_) hS0 ?_
                          rotate_left
                          · (try dsimp only at hS); go_split_ands; go_simp; (try with_reducible rfl)
                          simp only [Act.put, List.setIfInBounds_toArray, List.set_cons_zero, List.set_cons_succ]
                          refine Upto.take (i := 4) (v := ?_) rfl (by kernel_rfl) (fun _ _ _ h => h) rfl (fun w' hS => ?_) hS0 ?_
                          rotate_left
                          · (try dsimp only at hS); go_split_ands; go_simp; (try with_reducible rfl)
                          simp only [Act.put, List.setIfInBounds_toArray, List.set_cons_zero, List.set_cons_succ]
                          refine Upto.take (i := 5) (v := ?_) rfl (by kernel_rfl) (fun _ _ _ h => h) rfl (fun w' hS => ?_) hS0 ?_
                          rotate_left
                          · (try dsimp only at hS); go_split_ands; go_simp; (try with_reducible rfl)
                          simp only [Act.put, List.setIfInBounds_toArray, List.set_cons_zero, List.set_cons_succ]
                          refine Upto.take (i := 6) (v := ?_) rfl (by kernel_rfl) (fun _ _ _ h => h) rfl (fun w' hS => ?_) hS0 ?_
                          rotate_left
                          · (try dsimp only at hS); go_split_ands; go_simp; (try with_reducible rfl)
                          simp only [Act.put, List.setIfInBounds_toArray, List.set_cons_zero, List.set_cons_succ]
                          refine Upto.take (i := 7) (v := ?_) rfl (by kernel_rfl) (fun _ _ _ h => h) rfl (fun w' hS => ?_) hS0 ?_
                          rotate_left
                          · (try dsimp only at hS); go_split_ands; go_simp; (try with_reducible rfl)
                          simp only [Act.put, List.setIfInBounds_toArray, List.set_cons_zero, List.set_cons_succ]
                          refine Upto.take (i := 8) (v := ?_) rfl (by kernel_rfl) (fun _ _ _ h => h) rfl (fun w' hS => ?_) hS0 ?_
                          rotate_left
                          · (try dsimp only at hS); go_split_ands; go_simp; (try with_reducible rfl)
                          simp only [Act.put, List.setIfInBounds_toArray, List.set_cons_zero, List.set_cons_succ]
                          refine Upto.take (i := 9) (v := ?_) rfl (by kernel_rfl) (fun _ _ _ h => h) rfl (fun w' hS => ?_) hS0 ?_
                          rotate_left
                          · (try dsimp only at hS); go_split_ands; go_simp; (try with_reducible rfl)
                          simp only [Act.put, List.setIfInBounds_toArray, List.set_cons_zero, List.set_cons_succ]
                          refine Upto.take (i := 10) (v := ?_) rfl (by kernel_rfl) (fun _ _ _ h => h) rfl (fun w' hS => ?_) hS0 ?_
                          rotate_left
                          · (try dsimp only at hS); go_split_ands; go_simp; (try with_reducible rfl)
                          simp only [Act.put, List.setIfInBounds_toArray, List.set_cons_zero, List.set_cons_succ]
                          refine Upto.take (i := 11) (v := ?_) rfl (by kernel_rfl) (fun _ _ _ h => h) rfl (fun w' hS => ?_) hS0 ?_
                          rotate_left
                          · (try dsimp only at hS); go_split_ands; go_simp; (try with_reducible rfl)
                          simp only [Act.put, List.setIfInBounds_toArray, List.set_cons_zero, List.set_cons_succ]
                          refine Upto.take (i := 12) (v := ?_) rfl (by kernel_rfl) (fun _ _ _ h => h) rfl (fun w' hS => ?_) hS0 ?_
                          rotate_left
                          · (try dsimp only at hS); go_split_ands; go_simp; (try with_reducible rfl)
                          simp only [Act.put, List.setIfInBounds_toArray, List.set_cons_zero, List.set_cons_succ]
                          refine Upto.take (i := 13) (v := ?_) rfl (by kernel_rfl) (fun _ _ _ h => h) rfl (fun w' hS => ?_) hS0 ?_
                          rotate_left
                          · (try dsimp only at hS); go_split_ands; go_simp; (try with_reducible rfl)
                          simp only [Act.put, List.setIfInBounds_toArray, List.set_cons_zero, List.set_cons_succ]
                          refine Upto.tail rfl (by kernel_rfl) ?_
                          simp only [List.drop_succ_cons, List.drop_zero]
                          go_wp2_with fail
                          refine NoPanic.normal ?_
                          go_wp2_with fail
                          go_roundw
                          case rel => exact ⟨k + 1, by omega, by go_num, R.out⟩
                          case measure => simp [intOf]; omega
                        · have hke : k = 256 := by omega
                          have R : Hid (SynRel W1 W1.heap.size (s.left_ (c.of s.pend.length) (i + 1)) s.num (some ⟨sx, 0, none⟩) sc' sl' wi) := Lib.hid (by
                            rw [hke.trans HCF.out.symm] at hri
                            have e : s.left_ (c.of s.pend.length) (i + 1) = upd (s.left_ (c.of s.pend.length) i) n (over l m (c.of s.pend.length i)) := HNX.out
                            rw [e]
                            exact hri)
                          clear hri hbi hke
                          go_wp2_with fail
                          go_roundw
                          case rel => exact ⟨i + 1, by omega, by go_num, R.out⟩
                          case measure => simp [intOf]; omega
                    · by_cases hc3 : cut = 256
                      · subst hc3
                        have HCF : Hid (c.of s.pend.length i = 256) := Lib.hid (by rw [HOF2.out]; unfold clamp; omega)
                        go_wp2_with fail
                        go_loopw [10] (fun q wi => ∃ k : Nat, k ≤ 256 ∧ q = .int .i64 k ∧ SynRel W1 W1.heap.size (upd (s.left_ (c.of s.pend.length) i) n (over l m k)) s.num (some ⟨sx, 0, none⟩) sc' sl' wi ∧ Bk wi wr2.heap.size 60 #[.int .i64 n, .slice (some ⟨vg, 0, none⟩) 256 vc]) (fun q _ => 256 - (intOf q).toNat)
                        case atStart => exact ⟨0, Nat.zero_le _, rfl, RI0.out⟩
                        case round =>
                          obtain ⟨k, hkc, rfl, hri, hbi⟩ := hrel
                          obtain ⟨wi, hwi⟩ : ∃ x, x = wr := ⟨_, rfl⟩
                          subst hwi
                          by_cases hlt3 : k < 256
                          · have hcu256 := HCF.out
                            have hk256 : k < 256 := by have := c.of_le s.pend.length i; omega
                            have y0 : wi.cell? ⟨W1.heap.size, 0, none⟩ = some (.slice (some ⟨sx, 0, none⟩) s.num sc') := hri.blk.cell 0
                            have y1 : wi.cell? ⟨wr2.heap.size, 0, none⟩ = some (.int .i64 n) := hbi.cell 0
                            have y2 : wi.cell? ⟨wr2.heap.size, 1, none⟩ = some (.slice (some ⟨vg, 0, none⟩) 256 vc) := hbi.cell 1
                            have y3 : wi.cell? ⟨sx, n, none⟩ = some (.slice (some ⟨dg, 0, none⟩) 256 dc) := cell_row hri.srow HSL.out
                            have y4 : wi.cell? ⟨vg, k, none⟩ = some (.int .u8 (l.getD k 0)) := HDT.out wi k hri.bel hk256
                            obtain ⟨u5, y5, y6⟩ : ∃ u, wi.cell? ⟨dg, k, none⟩ = some u ∧ wi.frozen? ⟨dg, k, none⟩ = false := by
                              obtain ⟨v, a1, a2⟩ := hri.each n HNN.out
                              rw [HSL.out] at a1
                              injection a1 with a1
                              subst a1
                              have hlen : (byC (upd (s.left_ (c.of s.pend.length) i) n (over l m k) n)).length = 256 := by simpa using a2.1
                              exact ⟨_, cell_row a2 (List.getElem?_eq_getElem (show k < _ by omega)), a2.frozenAt _⟩
                            have hput := hri.put HNN.out HSL.out hk256 (l.getD k 0)
                            rw [upd_at, upd_upd, over_next HSEC.out HSECM.out k hk256] at hput
                            have hbi2 : Bk (wi.setCell ⟨dg, k, none⟩ (.int .u8 (l.getD k 0))) wr2.heap.size 60 #[.int .i64 n, .slice (some ⟨vg, 0, none⟩) 256 vc] := hbi.eq (Below.heap_setCell _ _ _ _ (by
                              have := HDG.out
                              show wr2.heap.size ≠ dg
                              omega))
                            have R : Hid (SynRel W1 W1.heap.size (upd (s.left_ (c.of s.pend.length) i) n (over l m (k + 1))) s.num (some ⟨sx, 0, none⟩) sc' sl' (wi.setCell ⟨dg, k, none⟩ (.int .u8 (l.getD k 0))).drew ∧ Bk (wi.setCell ⟨dg, k, none⟩ (.int .u8 (l.getD k 0))).drew wr2.heap.size 60 #[.int .i64 n, .slice (some ⟨vg, 0, none⟩) 256 vc]) := Lib.hid ⟨hput.below ((Below.refl _ _).drew), hbi2⟩
                            obtain ⟨bx, hbx⟩ : ∃ bx, l.getD k 0 = bx := ⟨_, rfl⟩
                            rw [hbx] at y4 R
                            clear hri hbi hput hbi2 hcu256 hbx
                            have hk0' : (0 : Int) ≤ (k : Int) := Int.natCast_nonneg _
                            have hk1' : (k : Int) < 256 := by omega
                            have hn0 : (0 : Int) ≤ (n : Int) := Int.natCast_nonneg _
                            have hn1 : (n : Int) < (s.num : Int) := by have := HNN.out; omega
                            go_wp2_with fail
                            have hS0 : wi.drew.cell? ⟨W1.heap.size, 0, none⟩ = some (.slice (some ⟨sx, 0, none⟩) s.num sc') ∧ wi.drew.cell? ⟨wr2.heap.size, 0, none⟩ = some (.int .i64 n) ∧ wi.drew.cell? ⟨wr2.heap.size, 1, none⟩ = some (.slice (some ⟨vg, 0, none⟩) 256 vc) ∧ wi.drew.cell? ⟨sx, n, none⟩ = some (.slice (some ⟨dg, 0, none⟩) 256 dc) ∧ wi.drew.cell? ⟨vg, k, none⟩ = some (.int .u8 bx) := ⟨y0, y1, y2, y3, y4⟩
                            refine wp_region_noPanic ?_
                            refine upto_start (fun w' => w'.cell? ⟨W1.heap.size, 0, none⟩ = some (.slice (some ⟨sx, 0, none⟩) s.num sc') ∧ w'.cell? ⟨wr2.heap.size, 0, none⟩ = some (.int .i64 n) ∧ w'.cell? ⟨wr2.heap.size, 1, none⟩ = some (.slice (some ⟨vg, 0, none⟩) 256 vc) ∧ w'.cell? ⟨sx, n, none⟩ = some (.slice (some ⟨dg, 0, none⟩) 256 dc) ∧ w'.cell? ⟨vg, k, none⟩ = some (.int .u8 bx)) 14 (by kernel_rfl) ?_
                            change Upto _ _ _ _ _ 16 _ _ _
                            refine Upto.take (i := 0) (v := ?_) rfl (by kernel_rfl) (fun _ _ _ h => h) rfl (fun w' hS => ?_) hS0 ?_
                            rotate_left
                            · (try dsimp only at hS); go_split_ands; go_simp; (try with_reducible rfl)
                            simp only [Act.put, List.setIfInBounds_toArray, List.set_cons_zero, List.set_cons_succ]
                            refine Upto.take (i := 1) (v := ?_) rfl (by kernel_rfl) (fun _ _ _ h => h) rfl (fun w' hS => ?_) hS0 ?_
                            rotate_left
                            · (try dsimp only at hS); go_split_ands; go_simp; (try with_reducible rfl)
                            simp only [Act.put, List.setIfInBounds_toArray, List.set_cons_zero, List.set_cons_succ]
                            refine Upto.take (i := 2) (v := ?_) rfl (by kernel_rfl) (fun _ _ _ h => h) rfl (fun w' hS => ?_) hS0 ?_
                            rotate_left
                            · (try dsimp only at hS); go_split_ands; go_simp; (try with_reducible rfl)
                            simp only [Act.put, List.setIfInBounds_toArray, List.set_cons_zero, List.set_cons_succ]
                            refine Upto.take (i := 3) (v := ?_) rfl (by kernel_rfl) (fun _ _ _ h => h) rfl (fun w' hS => ?_) hS0 ?_
                            rotate_left
                            · (try dsimp only at hS); go_split_ands; go_simp; (try with_reducible rfl)
                            simp only [Act.put, List.setIfInBounds_toArray, List.set_cons_zero, List.set_cons_succ]
                            refine Upto.take (i := 4) (v := ?_) rfl (by kernel_rfl) (fun _ _ _ h => h) rfl (fun w' hS => ?_) hS0 ?_
                            rotate_left
                            · (try dsimp only at hS); go_split_ands; go_simp; (try with_reducible rfl)
                            simp only [Act.put, List.setIfInBounds_toArray, List.set_cons_zero, List.set_cons_succ]
                            refine Upto.take (i := 5) (v := ?_) rfl (by kernel_rfl) (fun _ _ _ h => h) rfl (fun w' hS => ?_) hS0 ?_
                            rotate_left
                            · (try dsimp only at hS); go_split_ands; go_simp; (try with_reducible rfl)
                            simp only [Act.put, List.setIfInBounds_toArray, List.set_cons_zero, List.set_cons_succ]
                            refine Upto.take (i := 6) (v := ?_) rfl (by kernel_rfl) (fun _ _ _ h => h) rfl (fun w' hS => ?_) hS0 ?_
                            rotate_left
                            · (try dsimp only at hS); go_split_ands; go_simp; (try with_reducible rfl)
                            simp only [Act.put, List.setIfInBounds_toArray, List.set_cons_zero, List.set_cons_succ]
                            refine Upto.take (i := 7) (v := ?_) rfl (by kernel_rfl) (fun _ _ _ h => h) rfl (fun w' hS => ?_) hS0 ?_
                            rotate_left
                            · (try dsimp only at hS); go_split_ands; go_simp; (try with_reducible rfl)
                            simp only [Act.put, List.setIfInBounds_toArray, List.set_cons_zero, List.set_cons_succ]
                            refine Upto.take (i := 8) (v := ?_) rfl (by kernel_rfl) (fun _ _ _ h => h) rfl (fun w' hS => ?_) hS0 ?_
                            rotate_left
                            · (try dsimp only at hS); go_split_ands; go_simp; (try with_reducible rfl)
                            simp only [Act.put, List.setIfInBounds_toArray, List.set_cons_zero, List.set_cons_succ]
                            refine Upto.take (i := 9) (v := ?_) rfl (by kernel_rfl) (fun _ _ _ h => h) rfl (fun w' hS => ?_) hS0 ?_
                            rotate_left
                            · (try dsimp only at hS); go_split_ands; go_simp; (try with_reducible rfl)
                            simp only [Act.put, List.setIfInBounds_toArray, List.set_cons_zero, List.set_cons_succ]
                            refine Upto.take (i := 10) (v := ?_) rfl (by kernel_rfl) (fun _ _ _ h => h) rfl (fun w' hS => ?_) hS0 ?_
                            rotate_left
                            · (try dsimp only at hS); go_split_ands; go_simp; (try with_reducible rfl)
                            simp only [Act.put, List.setIfInBounds_toArray, List.set_cons_zero, List.set_cons_succ]
                            refine Upto.take (i := 11) (v := ?_) rfl (by kernel_rfl) (fun _ _ _ h => h) rfl (fun w' hS => ?_) hS0 ?_
                            rotate_left
                            · (try dsimp only at hS); go_split_ands; go_simp; (try with_reducible rfl)
                            simp only [Act.put, List.setIfInBounds_toArray, List.set_cons_zero, List.set_cons_succ]
                            refine Upto.take (i := 12) (v := ?_) rfl (by kernel_rfl) (fun _ _ _ h => h) rfl (fun w' hS => ?_) hS0 ?_
                            rotate_left
                            · (try dsimp only at hS); go_split_ands; go_simp; (try with_reducible rfl)
                            simp only [Act.put, List.setIfInBounds_toArray, List.set_cons_zero, List.set_cons_succ]
                            refine Upto.take (i := 13) (v := ?_) rfl (by kernel_rfl) (fun _ _ _ h => h) rfl (fun w' hS => ?_) hS0 ?_
                            rotate_left
                            · (try dsimp only at hS); go_split_ands; go_simp; (try with_reducible rfl)
                            simp only [Act.put, List.setIfInBounds_toArray, List.set_cons_zero, List.set_cons_succ]
                            refine Upto.tail rfl (by kernel_rfl) ?_
                            simp only [List.drop_succ_cons, List.drop_zero]
                            go_wp2_with fail
                            refine NoPanic.normal ?_
                            go_wp2_with fail
                            go_roundw
                            case rel => exact ⟨k + 1, by omega, by go_num, R.out⟩
                            case measure => simp [intOf]; omega
                          · have hke : k = 256 := by omega
                            have R : Hid (SynRel W1 W1.heap.size (s.left_ (c.of s.pend.length) (i + 1)) s.num (some ⟨sx, 0, none⟩) sc' sl' wi) := Lib.hid (by
                              rw [hke.trans HCF.out.symm] at hri
                              have e : s.left_ (c.of s.pend.length) (i + 1) = upd (s.left_ (c.of s.pend.length) i) n (over l m (c.of s.pend.length i)) := HNX.out
                              rw [e]
                              exact hri)
                            clear hri hbi hke
                            go_wp2_with fail
                            go_roundw
                            case rel => exact ⟨i + 1, by omega, by go_num, R.out⟩
                            case measure => simp [intOf]; omega
                      · obtain ⟨cn, rfl⟩ := Int.eq_ofNat_of_zero_le (Int.not_lt.1 hc0)
                        have hcn0 : (0 : Int) < (cn : Int) := by omega
                        have hcn1 : (cn : Int) < 256 := by omega
                        have HCF : Hid (c.of s.pend.length i = cn) := Lib.hid (by rw [HOF2.out]; unfold clamp; omega)
                        clear hc0 hc1 hc2 hc3
                        go_wp2_with fail
                        go_loopw [10] (fun q wi => ∃ k : Nat, k ≤ cn ∧ q = .int .i64 k ∧ SynRel W1 W1.heap.size (upd (s.left_ (c.of s.pend.length) i) n (over l m k)) s.num (some ⟨sx, 0, none⟩) sc' sl' wi ∧ Bk wi wr2.heap.size 60 #[.int .i64 n, .slice (some ⟨vg, 0, none⟩) 256 vc]) (fun q _ => cn - (intOf q).toNat)
                        case atStart => exact ⟨0, Nat.zero_le _, rfl, RI0.out⟩
                        case round =>
                          obtain ⟨k, hkc, rfl, hri, hbi⟩ := hrel
                          obtain ⟨wi, hwi⟩ : ∃ x, x = wr := ⟨_, rfl⟩
                          subst hwi
                          by_cases hlt3 : k < cn
                          · have hcu256 := HCF.out
                            have hk256 : k < 256 := by have := c.of_le s.pend.length i; omega
                            have y0 : wi.cell? ⟨W1.heap.size, 0, none⟩ = some (.slice (some ⟨sx, 0, none⟩) s.num sc') := hri.blk.cell 0
                            have y1 : wi.cell? ⟨wr2.heap.size, 0, none⟩ = some (.int .i64 n) := hbi.cell 0
                            have y2 : wi.cell? ⟨wr2.heap.size, 1, none⟩ = some (.slice (some ⟨vg, 0, none⟩) 256 vc) := hbi.cell 1
                            have y3 : wi.cell? ⟨sx, n, none⟩ = some (.slice (some ⟨dg, 0, none⟩) 256 dc) := cell_row hri.srow HSL.out
                            have y4 : wi.cell? ⟨vg, k, none⟩ = some (.int .u8 (l.getD k 0)) := HDT.out wi k hri.bel hk256
                            obtain ⟨u5, y5, y6⟩ : ∃ u, wi.cell? ⟨dg, k, none⟩ = some u ∧ wi.frozen? ⟨dg, k, none⟩ = false := by
                              obtain ⟨v, a1, a2⟩ := hri.each n HNN.out
                              rw [HSL.out] at a1
                              injection a1 with a1
                              subst a1
                              have hlen : (byC (upd (s.left_ (c.of s.pend.length) i) n (over l m k) n)).length = 256 := by simpa using a2.1
                              exact ⟨_, cell_row a2 (List.getElem?_eq_getElem (show k < _ by omega)), a2.frozenAt _⟩
                            have hput := hri.put HNN.out HSL.out hk256 (l.getD k 0)
                            rw [upd_at, upd_upd, over_next HSEC.out HSECM.out k hk256] at hput
                            have hbi2 : Bk (wi.setCell ⟨dg, k, none⟩ (.int .u8 (l.getD k 0))) wr2.heap.size 60 #[.int .i64 n, .slice (some ⟨vg, 0, none⟩) 256 vc] := hbi.eq (Below.heap_setCell _ _ _ _ (by
                              have := HDG.out
                              show wr2.heap.size ≠ dg
                              omega))
                            have R : Hid (SynRel W1 W1.heap.size (upd (s.left_ (c.of s.pend.length) i) n (over l m (k + 1))) s.num (some ⟨sx, 0, none⟩) sc' sl' (wi.setCell ⟨dg, k, none⟩ (.int .u8 (l.getD k 0))).drew ∧ Bk (wi.setCell ⟨dg, k, none⟩ (.int .u8 (l.getD k 0))).drew wr2.heap.size 60 #[.int .i64 n, .slice (some ⟨vg, 0, none⟩) 256 vc]) := Lib.hid ⟨hput.below ((Below.refl _ _).drew), hbi2⟩
                            obtain ⟨bx, hbx⟩ : ∃ bx, l.getD k 0 = bx := ⟨_, rfl⟩
                            rw [hbx] at y4 R
                            clear hri hbi hput hbi2 hcu256 hbx
                            have hk0' : (0 : Int) ≤ (k : Int) := Int.natCast_nonneg _
                            have hk1' : (k : Int) < 256 := by omega
                            have hn0 : (0 : Int) ≤ (n : Int) := Int.natCast_nonneg _
                            have hn1 : (n : Int) < (s.num : Int) := by have := HNN.out; omega
                            go_wp2_with fail
                            have hS0 : wi.drew.cell? ⟨W1.heap.size, 0, none⟩ = some (.slice (some ⟨sx, 0, none⟩) s.num sc') ∧ wi.drew.cell? ⟨wr2.heap.size, 0, none⟩ = some (.int .i64 n) ∧ wi.drew.cell? ⟨wr2.heap.size, 1, none⟩ = some (.slice (some ⟨vg, 0, none⟩) 256 vc) ∧ wi.drew.cell? ⟨sx, n, none⟩ = some (.slice (some ⟨dg, 0, none⟩) 256 dc) ∧ wi.drew.cell? ⟨vg, k, none⟩ = some (.int .u8 bx) := ⟨y0, y1, y2, y3, y4⟩
                            refine wp_region_noPanic ?_
                            refine upto_start (fun w' => w'.cell? ⟨W1.heap.size, 0, none⟩ = some (.slice (some ⟨sx, 0, none⟩) s.num sc') ∧ w'.cell? ⟨wr2.heap.size, 0, none⟩ = some (.int .i64 n) ∧ w'.cell? ⟨wr2.heap.size, 1, none⟩ = some (.slice (some ⟨vg, 0, none⟩) 256 vc) ∧ w'.cell? ⟨sx, n, none⟩ = some (.slice (some ⟨dg, 0, none⟩) 256 dc) ∧ w'.cell? ⟨vg, k, none⟩ = some (.int .u8 bx)) 14 (by kernel_rfl) ?_
                            change Upto _ _ _ _ _ 16 _ _ _
                            refine Upto.take (i := 0) (v := ?_) rfl (by kernel_rfl) (fun _ _ _ h => h) rfl (fun w' hS => ?_) hS0 ?_
                            rotate_left
                            · (try dsimp only at hS); go_split_ands; go_simp; (try with_reducible rfl)
                            simp only [Act.put, List.setIfInBounds_toArray, List.set_cons_zero, List.set_cons_succ]
                            refine Upto.take (i := 1) (v := ?_) rfl (by kernel_rfl) (fun _ _ _ h => h) rfl (fun w' hS => ?_) hS0 ?_
                            rotate_left
                            · (try dsimp only at hS); go_split_ands; go_simp; (try with_reducible rfl)
                            simp only [Act.put, List.setIfInBounds_toArray, List.set_cons_zero, List.set_cons_succ]
                            refine Upto.take (i := 2) (v := ?_) rfl (by kernel_rfl) (fun _ _ _ h => h) rfl (fun w' hS => ?_) hS0 ?_
                            rotate_left
                            · (try dsimp only at hS); go_split_ands; go_simp; (try with_reducible rfl)
                            simp only [Act.put, List.setIfInBounds_toArray, List.set_cons_zero, List.set_cons_succ]
                            refine Upto.take (i := 3) (v := ?_) rfl (by kernel_rfl) (fun _ _ _ h => h) rfl (fun w' hS => ?_) hS0 ?_
                            rotate_left
                            · (try dsimp only at hS); go_split_ands; go_simp; (try with_reducible rfl)
                            simp only [Act.put, List.setIfInBounds_toArray, List.set_cons_zero, List.set_cons_succ]
                            refine Upto.take (i := 4) (v := ?_) rfl (by kernel_rfl) (fun _ _ _ h => h) rfl (fun w' hS => ?_) hS0 ?_
                            rotate_left
                            · (try dsimp only at hS); go_split_ands; go_simp; (try with_reducible rfl)
                            simp only [Act.put, List.setIfInBounds_toArray, List.set_cons_zero, List.set_cons_succ]
                            refine Upto.take (i := 5) (v := ?_) rfl (by kernel_rfl) (fun _ _ _ h => h) rfl (fun w' hS => ?_) hS0 ?_
                            rotate_left
                            · (try dsimp only at hS); go_split_ands; go_simp; (try with_reducible rfl)
                            simp only [Act.put, List.setIfInBounds_toArray, List.set_cons_zero, List.set_cons_succ]
                            refine Upto.take (i := 6) (v := ?_) rfl (by kernel_rfl) (fun _ _ _ h => h) rfl (fun w' hS => ?_) hS0 ?_
                            rotate_left
                            · (try dsimp only at hS); go_split_ands; go_simp; (try with_reducible rfl)
                            simp only [Act.put, List.setIfInBounds_toArray, List.set_cons_zero, List.set_cons_succ]
                            refine Upto.take (i := 7) (v := ?_) rfl (by kernel_rfl) (fun _ _ _ h => h) rfl (fun w' hS => ?_) hS0 ?_
                            rotate_left
                            · (try dsimp only at hS); go_split_ands; go_simp; (try with_reducible rfl)
                            simp only [Act.put, List.setIfInBounds_toArray, List.set_cons_zero, List.set_cons_succ]
                            refine Upto.take (i := 8) (v := ?_) rfl (by kernel_rfl) (fun _ _ _ h => h) rfl (fun w' hS => ?_) hS0 ?_
                            rotate_left
                            · (try dsimp only at hS); go_split_ands; go_simp; (try with_reducible rfl)
                            simp only [Act.put, List.setIfInBounds_toArray, List.set_cons_zero, List.set_cons_succ]
                            refine Upto.take (i := 9) (v := ?_) rfl (by kernel_rfl) (fun _ _ _ h => h) rfl (fun w' hS => ?_) hS0 ?_
                            rotate_left
                            · (try dsimp only at hS); go_split_ands; go_simp; (try with_reducible rfl)
                            simp only [Act.put, List.setIfInBounds_toArray, List.set_cons_zero, List.set_cons_succ]
                            refine Upto.take (i := 10) (v := ?_) rfl (by kernel_rfl) (fun _ _ _ h => h) rfl (fun w' hS => ?_) hS0 ?_
                            rotate_left
                            · (try dsimp only at hS); go_split_ands; go_simp; (try with_reducible rfl)
                            simp only [Act.put, List.setIfInBounds_toArray, List.set_cons_zero, List.set_cons_succ]
                            refine Upto.take (i := 11) (v := ?_) rfl (by kernel_rfl) (fun _ _ _ h => h) rfl (fun w' hS => ?_) hS0 ?_
                            rotate_left
                            · (try dsimp only at hS); go_split_ands; go_simp; (try with_reducible rfl)
                            simp only [Act.put, List.setIfInBounds_toArray, List.set_cons_zero, List.set_cons_succ]
                            refine Upto.take (i := 12) (v := ?_) rfl (by kernel_rfl) (fun _ _ _ h => h) rfl (fun w' hS => ?_) hS0 ?_
                            rotate_left
                            · (try dsimp only at hS); go_split_ands; go_simp; (try with_reducible rfl)
                            simp only [Act.put, List.setIfInBounds_toArray, List.set_cons_zero, List.set_cons_succ]
                            refine Upto.take (i := 13) (v := ?_) rfl (by kernel_rfl) (fun _ _ _ h => h) rfl (fun w' hS => ?_) hS0 ?_
                            rotate_left
                            · (try dsimp only at hS); go_split_ands; go_simp; (try with_reducible rfl)
                            simp only [Act.put, List.setIfInBounds_toArray, List.set_cons_zero, List.set_cons_succ]
                            refine Upto.tail rfl (by kernel_rfl) ?_
                            simp only [List.drop_succ_cons, List.drop_zero]
                            go_wp2_with fail
                            refine NoPanic.normal ?_
                            go_wp2_with fail
                            go_roundw
                            case rel => exact ⟨k + 1, by omega, by go_num, R.out⟩
                            case measure => simp [intOf]; omega
                          · have hke : k = cn := by omega
                            have R : Hid (SynRel W1 W1.heap.size (s.left_ (c.of s.pend.length) (i + 1)) s.num (some ⟨sx, 0, none⟩) sc' sl' wi) := Lib.hid (by
                              rw [hke.trans HCF.out.symm] at hri
                              have e : s.left_ (c.of s.pend.length) (i + 1) = upd (s.left_ (c.of s.pend.length) i) n (over l m (c.of s.pend.length i)) := HNX.out
                              rw [e]
                              exact hri)
                            clear hri hbi hke
                            go_wp2_with fail
                            go_roundw
                            case rel => exact ⟨i + 1, by omega, by go_num, R.out⟩
                            case measure => simp [intOf]; omega
              · have he : ((i : Int) == (s.pend.length : Int) - 1) = false := by simp; omega
                have HCF : Hid (c.of s.pend.length i = 0) := Lib.hid (by rw [HOF.out, if_neg (by rintro ⟨_, q⟩; exact hlast q), if_neg hmem])
                clear HOF hmem hlast
                go_wp2_with fail
                go_loopw [10] (fun q wi => ∃ k : Nat, k ≤ 0 ∧ q = .int .i64 k ∧ SynRel W1 W1.heap.size (upd (s.left_ (c.of s.pend.length) i) n (over l m k)) s.num (some ⟨sx, 0, none⟩) sc' sl' wi ∧ Bk wi wr2.heap.size 60 #[.int .i64 n, .slice (some ⟨vg, 0, none⟩) 256 vc]) (fun q _ => 0 - (intOf q).toNat)
                case atStart => exact ⟨0, Nat.zero_le _, rfl, RI0.out⟩
                case round =>
                  obtain ⟨k, hkc, rfl, hri, hbi⟩ := hrel
                  obtain ⟨wi, hwi⟩ : ∃ x, x = wr := ⟨_, rfl⟩
                  subst hwi
                  by_cases hlt3 : k < 0
                  · exact absurd hlt3 (Nat.not_lt_zero k)
                  · have hke : k = 0 := by omega
                    have R : Hid (SynRel W1 W1.heap.size (s.left_ (c.of s.pend.length) (i + 1)) s.num (some ⟨sx, 0, none⟩) sc' sl' wi) := Lib.hid (by
                      rw [hke.trans HCF.out.symm] at hri
                      have e : s.left_ (c.of s.pend.length) (i + 1) = upd (s.left_ (c.of s.pend.length) i) n (over l m (c.of s.pend.length i)) := HNX.out
                      rw [e]
                      exact hri)
                    clear hri hbi hke
                    go_wp2_with fail
                    go_roundw
                    case rel => exact ⟨i + 1, by omega, by go_num, R.out⟩
                    case measure => simp [intOf]; omega
        · obtain rfl : i = s.pend.length := by omega
          have R := Lib.hid (SynRel.crashed HOK.out HB1.out hr2)
          clear hr2 hd2
          go_wp2_with fail
          go_ret
          exact R.out
end Go.Proofs.Ytlchikllgmkokaa
