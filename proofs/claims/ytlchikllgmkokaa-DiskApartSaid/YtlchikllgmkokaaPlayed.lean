/- What it says: the statements' played() hands back a disk and the document's disk behind the same writes and synchronizations: one state. -/
import Derived.Test.YtlchikllgmkokaaHasR
import Derived.Test.YtlchikllgmkokaaDAwake
import Derived.Test.YtlchikllgmkokaaLong
namespace Go.Proofs.Ytlchikllgmkokaa
open Go.RowKit

/-- A disk and the document's, of one state. -/
def both (b g : Nat) (s : St) : Res := (dsk b s).star ((rfd g s).star emp)

/-- Behind k calls, the power on. -/
structure Ply (s : St) (k : Nat) : Prop where
  num : s.num = 4
  left : s.left = -1
  gone : s.gone = false
  pend : s.pend.length ≤ k
  syncs : s.syncs ≤ k

theorem Ply.start : Ply (St.new 4) 0 := ⟨rfl, rfl, rfl, Nat.le_refl _, Nat.le_refl _⟩
theorem Ply.next {s : St} {k : Nat} (h : Ply s k) : Ply s (k + 1) := ⟨h.num, h.left, h.gone, Nat.le_succ_of_le h.pend, Nat.le_succ_of_le h.syncs⟩
theorem Ply.step {s : St} {k : Nat} (h : Ply s k) : s.step = s := by
  have h1 := h.left
  have h2 := h.gone
  unfold St.step
  rw [if_neg (by rw [h2]; simp), if_neg (by omega), if_neg (by omega)]
theorem Ply.can {s : St} {k : Nat} (h : Ply s k) : s.can = true := by
  have h1 := h.left
  have h2 := h.gone
  unfold St.can
  rw [h1, h2]
  rfl
theorem Ply.write {s : St} {k : Nat} (h : Ply s k) (n : Int) (l : List Int) : Ply (s.write n l) (k + 1) := by
  unfold St.write
  split
  · exact h.next
  · split
    · exact h.next
    · rw [if_pos h.can]
      unfold St.wrote
      rw [h.step]
      exact ⟨h.num, h.left, h.gone, by show (s.pend ++ [_]).length ≤ _; rw [List.length_append]; have := h.pend; simp; omega, Nat.le_succ_of_le h.syncs⟩
theorem Ply.sync {s : St} {k : Nat} (h : Ply s k) : Ply s.sync (k + 1) := by
  unfold St.sync
  rw [if_pos h.can]
  unfold St.synced
  rw [h.step]
  exact ⟨h.num, h.left, h.gone, Nat.zero_le _, by show s.syncs + 1 ≤ _; have := h.syncs; omega⟩

/-- What played hands back. -/
def RetPlayed (B : Nat) (w : World) (e : Ending) (w' : World) : Prop := ∃ b g s, e = .returned (.tuple #[.pointer (some ⟨b, 0, none⟩), .pointer (some ⟨g, 0, none⟩)]) ∧ Ply s 60 ∧ Has B (both b g s) w' ∧ Below B w w'

theorem new_four' {B : Nat} (w : World) (hB : B ≤ w.heap.size) : Calls Try.prog 11 #[.int .i64 4] w (fun e w' => ∃ b, e = .returned (.tuple #[.pointer (some ⟨b, 0, none⟩), .int .i64 0]) ∧ Has B ((dsk b (St.new 4)).star emp) w' ∧ Below w.heap.size w w') :=
  hasD_new (Has.emp _ _) hB 4 (by omega)
theorem rnew_four {B : Nat} {R : Res} (w : World) (hS : Has B R w) (hB : B ≤ w.heap.size) : Calls Try.prog 12 #[.int .i64 4] w (fun e w' => ∃ g, e = .returned (.tuple #[.pointer (some ⟨g, 0, none⟩), .int .i64 0]) ∧ Has B ((rfd g (St.new 4)).star R) w' ∧ Below w.heap.size w w') :=
  hasR_new hS hB 4 (by omega)

set_option maxRecDepth 100000 in
set_option maxHeartbeats 8000000 in
theorem played_any (A : Option Addr) (n c : Nat) (cs : List Cal) (w : World) (h : Cls w A n c cs) (hn60 : n ≤ 60) :
    Calls Try.prog 30 #[.slice A n c] w (RetPlayed w.heap.size w) := by
  have HX := Lib.hid h
  have hcap := h.cap
  have hmax := h.max
  unfold maxLen at hmax
  clear h
  go_enter Try.func30, Try.ntmps30
  go_wp2_with fail
  refine (new_four' w (Nat.le_refl w.heap.size)).mono ?_
  rintro e w1 ⟨b, rfl, h1, b1⟩
  have C2 := Lib.hid (rnew_four w1 h1 b1.size)
  have B1 := Lib.hid b1
  clear h1 b1
  go_wp2_with fail
  refine C2.out.mono ?_
  rintro e w2 ⟨g, rfl, h2, b2⟩
  have R0 : Hid (∃ s, Ply s 0 ∧ Has w.heap.size (both b g s) w2 ∧ Below w.heap.size w w2) := Lib.hid ⟨_, Ply.start, h2.swap, B1.out.trans (b2.mono B1.out.size)⟩
  clear h2 b2 C2 B1
  go_wp2_with fail
  go_loopw [8] (fun q wr => ∃ k : Nat, k ≤ n ∧ q = .int .i64 k ∧ ∃ s, Ply s k ∧ Has w.heap.size (both b g s) wr ∧ Below w.heap.size w wr) (fun q _ => n - (intOf q).toNat)
  case atStart => exact ⟨0, Nat.zero_le _, rfl, R0.out⟩
  case round =>
    obtain ⟨k, hkn, rfl, s, hp, hs, hb⟩ := hrel
    have HP := Lib.hid hp
    have HS := Lib.hid hs
    have HB := Lib.hid hb
    clear hp hs hb
    by_cases hlt : k < n
    · obtain ⟨q0, off, rfl, hc⟩ := HX.out.at_ (by omega)
      have hin := HX.out.each k hlt
      obtain ⟨cl, hcl⟩ : ∃ cl, cs.getD k default = cl := ⟨_, rfl⟩
      have hc0 := hc k hlt
      rw [hcl] at hin hc0
      have hglt : q0 < w.heap.size := World.block_lt_of_cell? w _ (hc0 0 _ rfl)
      have z1 := hc0 1 _ rfl
      have z2 := hc0 2 _ rfl
      have x0 : wr.cell? ⟨q0, off + k * 7, none⟩ = some (.int .i64 cl.kind) := (HB.out.cell (p := ⟨q0, off + k * 7, none⟩) hglt).trans (hc0 0 _ rfl)
      have x1 : wr.cell? ⟨q0, off + k * 7 + 1, none⟩ = some (.int .i64 cl.n) := (HB.out.cell (p := ⟨q0, off + k * 7 + 1, none⟩) hglt).trans z1
      have x2 : wr.cell? ⟨q0, off + k * 7 + 2, none⟩ = some (.int .u8 cl.b) := (HB.out.cell (p := ⟨q0, off + k * 7 + 2, none⟩) hglt).trans z2
      have hcn := hin.n
      have hcb := hin.b
      clear hc hc0 hcl hin
      have hk0 : (0 : Int) ≤ (k : Int) := Int.natCast_nonneg _
      have hk1 : (k : Int) < (n : Int) := by omega
      obtain ⟨kd, hkd⟩ : ∃ kd, cl.kind = kd := ⟨_, rfl⟩
      obtain ⟨cn, hcn'⟩ : ∃ cn, cl.n = cn := ⟨_, rfl⟩
      obtain ⟨cb, hcb'⟩ : ∃ cb, cl.b = cb := ⟨_, rfl⟩
      rw [hkd] at x0
      rw [hcn'] at x1 z1 hcn
      rw [hcb'] at x2 z2 hcb
      clear hkd hcn' hcb'
      by_cases hk0' : kd = 0
      · subst hk0'
        have KS : Hid (∀ W, Below w.heap.size w W → W.cell? ⟨q0, off + k * 7 + 1, none⟩ = some (.int .i64 cn) ∧ W.cell? ⟨q0, off + k * 7 + 2, none⟩ = some (.int .u8 cb)) := Lib.hid (fun W hb => ⟨(hb.cell (p := ⟨q0, off + k * 7 + 1, none⟩) hglt).trans z1, (hb.cell (p := ⟨q0, off + k * 7 + 2, none⟩) hglt).trans z2⟩)
        have Z1 := Lib.hid z1
        have Z2 := Lib.hid z2
        clear z1 z2
        go_wp2_with fail
        have hS0 : wr.drew.cell? ⟨q0, off + k * 7 + 1, none⟩ = some (.int .i64 cn) ∧ wr.drew.cell? ⟨q0, off + k * 7 + 2, none⟩ = some (.int .u8 cb) := ⟨x1, x2⟩
        refine wp_region_noPanic ?_
        refine upto_start (fun w' => w'.cell? ⟨q0, off + k * 7 + 1, none⟩ = some (.int .i64 cn) ∧ w'.cell? ⟨q0, off + k * 7 + 2, none⟩ = some (.int .u8 cb)) 12 (by kernel_rfl) ?_
        change Upto _ _ _ _ _ 13 _ _ _
        refine Upto.take (i := 0) (v := ?_) rfl (by kernel_rfl) (fun _ _ _ h => h) rfl (fun w' hS => ?_) hS0 ?_
        rotate_left
        · (try dsimp only at hS); go_split_ands; go_simp; (try with_reducible rfl)
        simp only [Act.put, List.setIfInBounds_toArray, List.set_cons_zero, List.set_cons_succ]
        refine Upto.take (i := 1) (v := ?_) rfl (by kernel_rfl) (fun _ _ _ h => h) rfl (fun w' hS => ?_) hS0 ?_
        rotate_left
        · (try dsimp only at hS); go_split_ands; go_simp; (try with_reducible rfl)
        simp only [Act.put, List.setIfInBounds_toArray, List.set_cons_zero, List.set_cons_succ]
        refine Upto.take (i := 2) (v := ?_) rfl (by kernel_rfl) (fun _ _ _ h => h) rfl (fun w' hS => ?_) hS0 ?_
        rotate_left
        · (try dsimp only at hS); go_split_ands; go_simp; (try with_reducible rfl)
        simp only [Act.put, List.setIfInBounds_toArray, List.set_cons_zero, List.set_cons_succ]
        refine Upto.take (i := 3) (v := ?_) rfl (by kernel_rfl) (fun _ _ _ h => h) rfl (fun w' hS => ?_) hS0 ?_
        rotate_left
        · (try dsimp only at hS); go_split_ands; go_simp; (try with_reducible rfl)
        simp only [Act.put, List.setIfInBounds_toArray, List.set_cons_zero, List.set_cons_succ]
        refine Upto.take (i := 4) (v := ?_) rfl (by kernel_rfl) (fun _ _ _ h => h) rfl (fun w' hS => ?_) hS0 ?_
        rotate_left
        · (try dsimp only at hS); go_split_ands; go_simp; (try with_reducible rfl)
        simp only [Act.put, List.setIfInBounds_toArray, List.set_cons_zero, List.set_cons_succ]
        refine Upto.take (i := 5) (v := ?_) rfl (by kernel_rfl) (fun _ _ _ h => h) rfl (fun w' hS => ?_) hS0 ?_
        rotate_left
        · (try dsimp only at hS); go_split_ands; go_simp; (try with_reducible rfl)
        simp only [Act.put, List.setIfInBounds_toArray, List.set_cons_zero, List.set_cons_succ]
        refine Upto.take (i := 6) (v := ?_) rfl (by kernel_rfl) (fun _ _ _ h => h) rfl (fun w' hS => ?_) hS0 ?_
        rotate_left
        · (try dsimp only at hS); go_split_ands; go_simp; (try with_reducible rfl)
        simp only [Act.put, List.setIfInBounds_toArray, List.set_cons_zero, List.set_cons_succ]
        refine Upto.take (i := 7) (v := ?_) rfl (by kernel_rfl) (fun _ _ _ h => h) rfl (fun w' hS => ?_) hS0 ?_
        rotate_left
        · (try dsimp only at hS); go_split_ands; go_simp; (try with_reducible rfl)
        simp only [Act.put, List.setIfInBounds_toArray, List.set_cons_zero, List.set_cons_succ]
        refine Upto.take (i := 8) (v := ?_) rfl (by kernel_rfl) (fun _ _ _ h => h) rfl (fun w' hS => ?_) hS0 ?_
        rotate_left
        · (try dsimp only at hS); go_split_ands; go_simp; (try with_reducible rfl)
        simp only [Act.put, List.setIfInBounds_toArray, List.set_cons_zero, List.set_cons_succ]
        refine Upto.take (i := 9) (v := ?_) rfl (by kernel_rfl) (fun _ _ _ h => h) rfl (fun w' hS => ?_) hS0 ?_
        rotate_left
        · (try dsimp only at hS); go_split_ands; go_simp; (try with_reducible rfl)
        simp only [Act.put, List.setIfInBounds_toArray, List.set_cons_zero, List.set_cons_succ]
        refine Upto.take (i := 10) (v := ?_) rfl (by kernel_rfl) (fun _ _ _ h => h) rfl (fun w' hS => ?_) hS0 ?_
        rotate_left
        · (try dsimp only at hS); go_split_ands; go_simp; (try with_reducible rfl)
        simp only [Act.put, List.setIfInBounds_toArray, List.set_cons_zero, List.set_cons_succ]
        refine Upto.law (i := 11) rfl (by kernel_rfl) rfl (fun K hK => ?_)
        refine wp_enter (f := 14) (args := #[.int .u8 cb]) (by go_simp) (full_any cb wr.drew) ?_
        rintro e W2 ⟨gg, hgg, rfl, hbk, hb2⟩
        have hb2' : Below wr.heap.size wr W2 := ⟨hb2.os, hb2.tape, hb2.output, hb2.size, hb2.block⟩
        have hS2 := KS.out W2 (HB.out.trans (hb2'.mono HB.out.size))
        refine ⟨_, rfl, hK _ _ hS2 ?_⟩
        clear hK
        have CW := Lib.hid (hasD_write HS.out hb2' HB.out.size (Byt.sec hbk (fullL_sec hcb)) (fun q hq => by
          have : gg = q := by simpa [Value.ownBlock] using hq
          have : wr.heap.size ≤ gg := hgg
          omega) cn hcn (by have := HP.out.pend; omega))
        have HB2 := Lib.hid (HB.out.trans (hb2'.mono HB.out.size))
        clear hbk hb2 hb2' hS2 hgg hS0 x0 x1 x2
        simp only [Act.put, List.setIfInBounds_toArray, List.set_cons_zero, List.set_cons_succ]
        refine Upto.tail rfl (by kernel_rfl) ?_
        simp only [List.drop_succ_cons, List.drop_zero]
        go_wp2_with fail
        refine CW.out.mono ?_
        rintro e W3 ⟨rfl, h3, b3⟩
        have HB3 := Lib.hid (HB2.out.trans b3)
        have H3 := Lib.hid h3.sw
        have y1 : W3.cell? ⟨q0, off + k * 7 + 1, none⟩ = some (.int .i64 cn) := (KS.out W3 HB3.out).1
        have y2 : W3.cell? ⟨q0, off + k * 7 + 2, none⟩ = some (.int .u8 cb) := (KS.out W3 HB3.out).2
        clear h3 b3 CW HB2 HS HB
        go_wp2_with fail
        refine NoPanic.normal ?_
        go_wp2_with fail
        have hS0 : W3.drew.cell? ⟨q0, off + k * 7 + 1, none⟩ = some (.int .i64 cn) ∧ W3.drew.cell? ⟨q0, off + k * 7 + 2, none⟩ = some (.int .u8 cb) := ⟨y1, y2⟩
        refine wp_region_noPanic ?_
        refine upto_start (fun w' => w'.cell? ⟨q0, off + k * 7 + 1, none⟩ = some (.int .i64 cn) ∧ w'.cell? ⟨q0, off + k * 7 + 2, none⟩ = some (.int .u8 cb)) 12 (by kernel_rfl) ?_
        change Upto _ _ _ _ _ 13 _ _ _
        refine Upto.take (i := 0) (v := ?_) rfl (by kernel_rfl) (fun _ _ _ h => h) rfl (fun w' hS => ?_) hS0 ?_
        rotate_left
        · (try dsimp only at hS); go_split_ands; go_simp; (try with_reducible rfl)
        simp only [Act.put, List.setIfInBounds_toArray, List.set_cons_zero, List.set_cons_succ]
        refine Upto.take (i := 1) (v := ?_) rfl (by kernel_rfl) (fun _ _ _ h => h) rfl (fun w' hS => ?_) hS0 ?_
        rotate_left
        · (try dsimp only at hS); go_split_ands; go_simp; (try with_reducible rfl)
        simp only [Act.put, List.setIfInBounds_toArray, List.set_cons_zero, List.set_cons_succ]
        refine Upto.take (i := 2) (v := ?_) rfl (by kernel_rfl) (fun _ _ _ h => h) rfl (fun w' hS => ?_) hS0 ?_
        rotate_left
        · (try dsimp only at hS); go_split_ands; go_simp; (try with_reducible rfl)
        simp only [Act.put, List.setIfInBounds_toArray, List.set_cons_zero, List.set_cons_succ]
        refine Upto.take (i := 3) (v := ?_) rfl (by kernel_rfl) (fun _ _ _ h => h) rfl (fun w' hS => ?_) hS0 ?_
        rotate_left
        · (try dsimp only at hS); go_split_ands; go_simp; (try with_reducible rfl)
        simp only [Act.put, List.setIfInBounds_toArray, List.set_cons_zero, List.set_cons_succ]
        refine Upto.take (i := 4) (v := ?_) rfl (by kernel_rfl) (fun _ _ _ h => h) rfl (fun w' hS => ?_) hS0 ?_
        rotate_left
        · (try dsimp only at hS); go_split_ands; go_simp; (try with_reducible rfl)
        simp only [Act.put, List.setIfInBounds_toArray, List.set_cons_zero, List.set_cons_succ]
        refine Upto.take (i := 5) (v := ?_) rfl (by kernel_rfl) (fun _ _ _ h => h) rfl (fun w' hS => ?_) hS0 ?_
        rotate_left
        · (try dsimp only at hS); go_split_ands; go_simp; (try with_reducible rfl)
        simp only [Act.put, List.setIfInBounds_toArray, List.set_cons_zero, List.set_cons_succ]
        refine Upto.take (i := 6) (v := ?_) rfl (by kernel_rfl) (fun _ _ _ h => h) rfl (fun w' hS => ?_) hS0 ?_
        rotate_left
        · (try dsimp only at hS); go_split_ands; go_simp; (try with_reducible rfl)
        simp only [Act.put, List.setIfInBounds_toArray, List.set_cons_zero, List.set_cons_succ]
        refine Upto.take (i := 7) (v := ?_) rfl (by kernel_rfl) (fun _ _ _ h => h) rfl (fun w' hS => ?_) hS0 ?_
        rotate_left
        · (try dsimp only at hS); go_split_ands; go_simp; (try with_reducible rfl)
        simp only [Act.put, List.setIfInBounds_toArray, List.set_cons_zero, List.set_cons_succ]
        refine Upto.take (i := 8) (v := ?_) rfl (by kernel_rfl) (fun _ _ _ h => h) rfl (fun w' hS => ?_) hS0 ?_
        rotate_left
        · (try dsimp only at hS); go_split_ands; go_simp; (try with_reducible rfl)
        simp only [Act.put, List.setIfInBounds_toArray, List.set_cons_zero, List.set_cons_succ]
        refine Upto.take (i := 9) (v := ?_) rfl (by kernel_rfl) (fun _ _ _ h => h) rfl (fun w' hS => ?_) hS0 ?_
        rotate_left
        · (try dsimp only at hS); go_split_ands; go_simp; (try with_reducible rfl)
        simp only [Act.put, List.setIfInBounds_toArray, List.set_cons_zero, List.set_cons_succ]
        refine Upto.take (i := 10) (v := ?_) rfl (by kernel_rfl) (fun _ _ _ h => h) rfl (fun w' hS => ?_) hS0 ?_
        rotate_left
        · (try dsimp only at hS); go_split_ands; go_simp; (try with_reducible rfl)
        simp only [Act.put, List.setIfInBounds_toArray, List.set_cons_zero, List.set_cons_succ]
        refine Upto.law (i := 11) rfl (by kernel_rfl) rfl (fun K hK => ?_)
        refine wp_enter (f := 14) (args := #[.int .u8 cb]) (by go_simp) (full_any cb W3.drew) ?_
        rintro e W4 ⟨gg4, hgg4, rfl, hbk4, hb2⟩
        have hb2' : Below W3.heap.size W3 W4 := ⟨hb2.os, hb2.tape, hb2.output, hb2.size, hb2.block⟩
        have hS2 := KS.out W4 (HB3.out.trans (hb2'.mono HB3.out.size))
        refine ⟨_, rfl, hK _ _ hS2 ?_⟩
        clear hK
        have H4 := Lib.hid (H3.out.below hb2')
        have HB4 := Lib.hid (HB3.out.trans (hb2'.mono HB3.out.size))
        have CW := Lib.hid (hasR_write H4.out HB4.out.size (Byt.sec hbk4 (fullL_sec hcb)) cn (by have := HP.out.pend; omega))
        have x0 : W4.cell? ⟨q0, off + k * 7, none⟩ = W4.cell? ⟨q0, off + k * 7, none⟩ := rfl
        clear hbk4 hb2 hb2' hS2 hgg4 hS0 y1 y2 x0
        simp only [Act.put, List.setIfInBounds_toArray, List.set_cons_zero, List.set_cons_succ]
        refine Upto.tail rfl (by kernel_rfl) ?_
        simp only [List.drop_succ_cons, List.drop_zero]
        go_wp2_with fail
        refine CW.out.mono ?_
        rintro e W5 ⟨rfl, h5, b5⟩
        have R : Hid (∃ s, Ply s (k + 1) ∧ Has w.heap.size (both b g s) W5 ∧ Below w.heap.size w W5) := Lib.hid ⟨_, HP.out.write cn (fullL cb), h5.wsBack, HB4.out.trans b5⟩
        clear h5 b5 CW H4 HB4 H3 HB3 HP
        go_wp2_with fail
        refine NoPanic.normal ?_
        go_wp2_with fail
        go_roundw
        case rel => exact ⟨k + 1, by omega, by go_num, R.out⟩
        case measure => simp [intOf]; omega
      · have hd0 : (kd == 0) = false := by simpa using hk0'
        clear x1 x2 z1 z2
        by_cases hk1' : kd = 1
        · subst hk1'
          have CS := Lib.hid (hasD_sync HS.out HB.out.size (by have := HP.out.syncs; omega))
          have HBW := Lib.hid HB.out
          clear HS HB hk0'
          go_wp2_with fail
          refine CS.out.mono ?_
          rintro e W3 ⟨rfl, h3, b3⟩
          have HB3 := Lib.hid (HBW.out.trans b3)
          have CR := Lib.hid (hasR_sync h3.sw HB3.out.size (by have := HP.out.syncs; omega))
          clear h3 b3 CS HBW x0
          go_wp2_with fail
          refine CR.out.mono ?_
          rintro e W5 ⟨rfl, h5, b5⟩
          have R : Hid (∃ s, Ply s (k + 1) ∧ Has w.heap.size (both b g s) W5 ∧ Below w.heap.size w W5) := Lib.hid ⟨_, HP.out.sync, h5.wsBack, HB3.out.trans b5⟩
          clear h5 b5 CR HB3 HP
          go_wp2_with fail
          go_roundw
          case rel => exact ⟨k + 1, by omega, by go_num, R.out⟩
          case measure => simp [intOf]; omega
        · have hd1 : (kd == 1) = false := by simpa using hk1'
          have R : Hid (∃ s, Ply s (k + 1) ∧ Has w.heap.size (both b g s) wr ∧ Below w.heap.size w wr) := Lib.hid ⟨s, HP.out.next, HS.out, HB.out⟩
          clear HS HB HP hk0' hk1'
          go_wp2_with fail
          go_roundw
          case rel => exact ⟨k + 1, by omega, by go_num, R.out⟩
          case measure => simp [intOf]; omega
    · have R : Hid (RetPlayed w.heap.size w (.returned (.tuple #[.pointer (some ⟨b, 0, none⟩), .pointer (some ⟨g, 0, none⟩)])) wr) := Lib.hid ⟨b, g, s, rfl, ⟨HP.out.num, HP.out.left, HP.out.gone, by have := HP.out.pend; omega, by have := HP.out.syncs; omega⟩, HS.out, HB.out⟩
      clear HS HB HP
      go_wp2_with fail
      go_ret2
      exact R.out
end Go.Proofs.Ytlchikllgmkokaa
