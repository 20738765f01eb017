/- What it says: the statements' Own() hands back the same crash, its list in new memory. -/
import Derived.Test.YtlchikllgmkokaaHasR
import Derived.Test.YtlchikllgmkokaaNtsApp
import Derived.Test.YtlchikllgmkokaaLong
namespace Go.Proofs.Ytlchikllgmkokaa
open Go.RowKit

/-- The same crash, its list new. -/
def RetOwnC (c : Crs) (kn : Nat) (w : World) (e : Ending) (w' : World) : Prop :=
  ∃ A cc, e = .returned (.agg (crsV A kn cc c)) ∧ Nts w' A kn cc c.keep ∧ (∀ q, (Value.slice A kn cc).ownBlock = some q → w.heap.size ≤ q) ∧ Below w.heap.size w w'

set_option maxRecDepth 100000 in
set_option maxHeartbeats 4000000 in
theorem ownC_any (KA : Option Addr) (kn kc : Nat) (c : Crs) (w : World) (hk : Nts w KA kn kc c.keep) (hn : kn ≤ 1000000) :
    Calls Try.prog 24 #[.agg (crsV KA kn kc c)] w (RetOwnC c kn w) := by
  obtain ⟨i0, hi, hz0, hz1, hz2⟩ := info_parts info_int
  obtain ⟨cut, hcu⟩ : ∃ cut, c.cut = cut := ⟨_, rfl⟩
  obtain ⟨tn, htn⟩ : ∃ tn, c.torn = tn := ⟨_, rfl⟩
  have HCU := Lib.hid hcu
  have HTN := Lib.hid htn
  obtain ⟨W1, hW1⟩ : ∃ W1, W1 = w.alloc (.cells #[.slice KA kn kc, .bool tn, .int .i64 cut] 35) := ⟨_, rfl⟩
  have HW1 := Lib.hid hW1
  have HB1 : Hid (Below w.heap.size w W1) := Lib.hid (by rw [hW1]; exact (Below.refl _ _).alloc (Nat.le_refl _) _)
  have HBX : Hid (Bk W1 w.heap.size 35 #[.slice KA kn kc, .bool tn, .int .i64 cut]) := Lib.hid (by rw [hW1]; exact Bk.new w _ _)
  have HN1 : Hid (Nts W1 KA kn kc c.keep) := Lib.hid (hk.below HB1.out)
  unfold crsV
  rw [hcu, htn]
  clear hcu htn hk hW1
  go_enter Try.func24, Try.ntmps24
  go_wp2_with (refine wpList_box rfl rfl (by rfl) HW1.out ?_)
  go_wp2_with fail
  obtain ⟨W2, hW2⟩ : ∃ W2, W2 = W1.alloc (.cells #[.slice none 0 0, .bool false, .int .i64 0] 35) := ⟨_, rfl⟩
  have HB2 : Hid (Below W1.heap.size W1 W2) := Lib.hid (by rw [hW2]; exact (Below.refl _ _).alloc (Nat.le_refl _) _)
  have HBZ : Hid (Bk W2 W1.heap.size 35 #[.slice none 0 0, .bool false, .int .i64 0]) := Lib.hid (by rw [hW2]; exact Bk.new W1 _ _)
  have HBX2 : Hid (Bk W2 w.heap.size 35 #[.slice KA kn kc, .bool tn, .int .i64 cut]) := Lib.hid (HBX.out.bel HB2.out HBX.out.lt)
  have HN2 := Lib.hid (HN1.out.below HB2.out)
  rw [← hW2]
  clear hW2
  have KS : Hid (∀ W, Below W2.heap.size W2 W → W.cell? ⟨w.heap.size, 0, none⟩ = some (.slice KA kn kc) ∧ W.cell? ⟨w.heap.size, 1, none⟩ = some (.bool tn) ∧ W.cell? ⟨w.heap.size, 2, none⟩ = some (.int .i64 cut)) := Lib.hid (fun W hb => by
    have hz := HBX2.out.bel hb HBX2.out.lt
    exact ⟨hz.cell 0, hz.cell 1, hz.cell 2⟩)
  have hS0 := KS.out W2.drew (Below.refl _ _).drew
  refine wp_region_noPanic ?_
  refine upto_start (fun w' => w'.cell? ⟨w.heap.size, 0, none⟩ = some (.slice KA kn kc) ∧ w'.cell? ⟨w.heap.size, 1, none⟩ = some (.bool tn) ∧ w'.cell? ⟨w.heap.size, 2, none⟩ = some (.int .i64 cut)) 8 (by kernel_rfl) ?_
  change Upto _ _ _ _ _ 10 _ _ _
  refine Upto.take (i := 1) (v := ?_) rfl (by kernel_rfl) (fun _ _ _ h => h) rfl (fun w' hS => ?_) hS0 ?_
  rotate_left
  · (try dsimp only at hS); go_split_ands; go_simp; (try with_reducible rfl)
  simp only [Act.put, List.setIfInBounds_toArray, List.set_cons_zero, List.set_cons_succ]
  refine Upto.take (i := 2) (v := ?_) rfl (by kernel_rfl) (fun _ _ _ h => h) rfl (fun w' hS => ?_) hS0 ?_
  rotate_left
  · (try dsimp only at hS); go_split_ands; go_simp; (try with_reducible rfl)
  simp only [Act.put, List.setIfInBounds_toArray, List.set_cons_zero, List.set_cons_succ]
  refine Upto.take (i := 4) (v := ?_) rfl (by kernel_rfl) (fun _ _ _ h => h) rfl (fun w' hS => ?_) hS0 ?_
  rotate_left
  · (try dsimp only at hS); go_split_ands; go_simp; (try with_reducible rfl)
  simp only [Act.put, List.setIfInBounds_toArray, List.set_cons_zero, List.set_cons_succ]
  refine Upto.take (i := 5) (v := ?_) rfl (by kernel_rfl) (fun _ _ _ h => h) rfl (fun w' hS => ?_) hS0 ?_
  rotate_left
  · (try dsimp only at hS); go_split_ands; go_simp; (try with_reducible rfl)
  simp only [Act.put, List.setIfInBounds_toArray, List.set_cons_zero, List.set_cons_succ]
  refine Upto.take (i := 6) (v := ?_) rfl (by kernel_rfl) (fun _ _ _ h => h) rfl (fun w' hS => ?_) hS0 ?_
  rotate_left
  · (try dsimp only at hS); go_split_ands; go_simp; (try with_reducible rfl)
  simp only [Act.put, List.setIfInBounds_toArray, List.set_cons_zero, List.set_cons_succ]
  refine Upto.take (i := 7) (v := ?_) rfl (by kernel_rfl) (fun _ _ _ h => h) rfl (fun w' hS => ?_) hS0 ?_
  rotate_left
  · (try dsimp only at hS); go_split_ands; go_simp; (try with_reducible rfl)
  simp only [Act.put, List.setIfInBounds_toArray, List.set_cons_zero, List.set_cons_succ]
  refine Upto.only (i := 0) rfl (by kernel_rfl) rfl (exec_buildSlice rfl [] (by rfl) (bslice_noints _)) ?_ ?_
  · exact KS.out _ ((Below.refl _ W2).drew.alloc (Nat.le_refl _) _)
  simp only [Act.put, List.setIfInBounds_toArray, List.set_cons_zero, List.set_cons_succ]
  have hown0 := World.ownsRow_made (base := W2.heap.size) (e := 3) (size := 1) W2.drew #[] 0 (Nat.le_refl _) (Nat.zero_le _) rfl
  have hbA : Below W2.heap.size W2 (W2.drew.alloc (.cells #[] 3)) := (Below.refl _ W2).drew.alloc (Nat.le_refl _) _
  refine Upto.law (i := 3) rfl (by kernel_rfl) rfl (fun K hK => ?_)
  refine wp_append_nts _ _ 33 (by rfl) W2.heap.size 3 i0 Try.underlying33 hi hz0 hz1 hz2 _ 0 [] (by rfl) hown0 KA kn kc c.keep (by rfl) (HN2.out.below hbA) (by omega) hbA.size ?_
  intro vA vcc W3 hv3 hg3
  have hbB : Below W2.heap.size W2 W3 := hbA.grown hg3 hbA.size (fun k hk => by simp [Value.ownBlock] at hk; omega)
  refine hK _ _ (KS.out _ hbB) ?_
  clear hK hown0 hg3
  have HV : Hid (W3.ownsRow W2.heap.size 3 1 (.slice vA kn vcc) kn (c.keep.map (Value.int .i64))) := Lib.hid (by simpa using hv3)
  have HB3 := Lib.hid hbB
  have hz3 := HBZ.out.bel HB3.out HBZ.out.lt
  have HZ3 := Lib.hid hz3
  have y0 : W3.cell? ⟨W1.heap.size, 0, none⟩ = some (.slice none 0 0) := hz3.cell 0
  have y1 : W3.cell? ⟨W1.heap.size, 1, none⟩ = some (.bool false) := hz3.cell 1
  have y2 : W3.cell? ⟨W1.heap.size, 2, none⟩ = some (.int .i64 0) := hz3.cell 2
  have yf := hz3.frz 0
  have yf1 := hz3.frz 1
  have yf2 := hz3.frz 2
  clear hv3 hbA hbB hz3 KS hS0
  simp only [Act.put, List.setIfInBounds_toArray, List.set_cons_zero, List.set_cons_succ, Nat.zero_add]
  refine Upto.tail rfl (by kernel_rfl) ?_
  simp only [List.drop_succ_cons, List.drop_zero]
  go_wp2_with fail
  have hb4 := (((HZ3.out.setc 0 (.slice vA kn vcc)).setc 1 (.bool tn)).setc 2 (.int .i64 cut))
  have fr4 : Fr (fun k => k = W1.heap.size) W3 (((W3.setCell ⟨W1.heap.size, 0, none⟩ (.slice vA kn vcc)).setCell ⟨W1.heap.size, 1, none⟩ (.bool tn)).setCell ⟨W1.heap.size, 2, none⟩ (.int .i64 cut)) :=
    ((Fr.cell1 W3 W1.heap.size 0 (.slice vA kn vcc)).setCell (a := ⟨W1.heap.size, 1, none⟩) (show (fun k => k = W1.heap.size) W1.heap.size from rfl) (.bool tn)).setCell (a := ⟨W1.heap.size, 2, none⟩) (show (fun k => k = W1.heap.size) W1.heap.size from rfl) (.int .i64 cut)
  obtain ⟨W4, hW4⟩ : ∃ W4, W4 = (((W3.setCell ⟨W1.heap.size, 0, none⟩ (.slice vA kn vcc)).setCell ⟨W1.heap.size, 1, none⟩ (.bool tn)).setCell ⟨W1.heap.size, 2, none⟩ (.int .i64 cut)) := ⟨_, rfl⟩
  rw [← hW4] at hb4 fr4 ⊢
  have hb4' : Bk W4 W1.heap.size 35 #[.slice vA kn vcc, .bool tn, .int .i64 cut] := hb4
  have z0 : W4.cell? ⟨W1.heap.size, 0, none⟩ = some (.slice vA kn vcc) := hb4'.cell 0
  have z1 : W4.cell? ⟨W1.heap.size, 1, none⟩ = some (.bool tn) := hb4'.cell 1
  have z2 : W4.cell? ⟨W1.heap.size, 2, none⟩ = some (.int .i64 cut) := hb4'.cell 2
  have hsz := HB2.out.size
  have hlt12 : W1.heap.size < W2.heap.size := HBZ.out.lt
  have hbb : Below w.heap.size w W4 := (((HB1.out.trans (HB2.out.mono HB1.out.size)).trans (HB3.out.mono (Nat.le_trans HB1.out.size hsz))).trans (fr4.below (Nat.le_trans (Nat.le_trans HB1.out.size hsz) HB3.out.size) (fun k hk => by
    have hk' : k = W1.heap.size := hk
    have := HB1.out.size
    omega)))
  have hv4 := owns_keep (w' := W4) HV.out (fun q hq => fr4.block q (HV.out.lt q hq).2 (fun hk => by
    have hk' : q = W1.heap.size := hk
    have := (HV.out.lt q hq).1
    omega))
  have R : Hid (RetOwnC c kn w (.returned (.agg (crsV vA kn vcc c))) W4) := Lib.hid ⟨vA, vcc, rfl, Nts.of_row hv4 HN1.out.len HN1.out.rng, fun q hq => by
    have h1 := (HV.out.lt q hq).1
    have h2 := HB1.out.size
    omega, hbb⟩
  unfold crsV at R
  rw [HCU.out, HTN.out] at R
  have HB4 := Lib.hid hb4'
  clear hb4 hb4' fr4 hW4 hsz hlt12 hbb hv4 y0 y1 y2 yf yf1 yf2 HV HB3 HZ3 HBZ HBX HBX2 HB1 HB2 HN1 HN2 HW1
  refine NoPanic.normal ?_
  go_wp2_with fail
  (try simp only [Exit.inBlock, Exit.then])
  exact bodyPost_ret (v := .agg #[.slice vA kn vcc, .bool tn, .int .i64 cut]) (results_cell_row (p := 2) (ty := 35) rfl _ _ W1.heap.size 35 _ (0, 0) _ rfl HB4.out Try.underlying35 rfl (by kernel_rfl)) rfl R.out
end Go.Proofs.Ytlchikllgmkokaa
