/- What it says: the walk of the law DiskPower: whatever comes in, it answers true and turns nothing that was there. -/
import Derived.Test.YtefhnmjeofbaiaaDAwake
import Derived.Test.YtefhnmjeofbaiaaLong
namespace Go.Proofs.Ytefhnmjeofbaiaa
open Go.RowKit

/-- Behind k calls of which dn were made, under a fuse of n. -/
structure Pow (s : St) (dn n k : Nat) : Prop where
  num : s.num = 4
  left : s.left = (n : Int) - dn
  le : dn ≤ n
  gone : s.gone = true → dn = n
  pend : s.pend.length ≤ k
  syncs : s.syncs ≤ k

theorem Pow.start (n : Nat) : Pow ((St.new 4).fuse n) 0 n 0 := ⟨rfl, by show max (n : Int) (-1) = _; omega, by omega, (fun h => by cases h), Nat.le_refl _, Nat.le_refl _⟩

theorem Pow.can {s : St} {dn n k : Nat} (h : Pow s dn n k) : s.can = decide (dn < n) := by
  unfold St.can
  have hl := h.left
  have hle := h.le
  by_cases hd : dn < n
  · have hg : s.gone = false := by
      cases hs : s.gone with
      | false => rfl
      | true => have := h.gone hs; omega
    have hz : (s.left == 0) = false := by simp; omega
    rw [hg, hz]
    simp [hd]
  · have hz : (s.left == 0) = true := by simp; omega
    rw [hz]
    simp [hd]

theorem Pow.down {s : St} {dn n k : Nat} (h : Pow s dn n k) (hc : s.can = false) : dn = n ∧ s.step.gone = true ∧ Pow s.step dn n (k + 1) := by
  rw [h.can] at hc
  have hd : ¬ dn < n := by simpa using hc
  have hle := h.le
  have hl := h.left
  have e : dn = n := by omega
  have hg : s.step.gone = true := by
    unfold St.step
    split
    · assumption
    · rw [if_pos (by omega)]
  have hlf : s.step.left = s.left := by
    unfold St.step
    split
    · rfl
    · rw [if_pos (by omega)]
  exact ⟨e, hg, by rw [St.step_num]; exact h.num, by rw [hlf]; exact hl, hle, fun _ => e, by rw [St.step_pend]; have := h.pend; omega, by rw [St.step_syncs]; have := h.syncs; omega⟩

theorem Pow.made {s : St} {dn n k : Nat} (h : Pow s dn n k) (hc : s.can = true) : dn + 1 ≤ n ∧ s.step.left = (n : Int) - (dn + 1) ∧ s.step.gone = false ∧ s.step.num = 4 := by
  rw [h.can] at hc
  have hd : dn < n := by simpa using hc
  have hl := h.left
  have hg : s.gone = false := by
    cases hs : s.gone with
    | false => rfl
    | true => have := h.gone hs; omega
  have e : s.step = { s with left := s.left - 1 } := by
    unfold St.step
    rw [if_neg (by rw [hg]; simp), if_neg (by omega), if_pos (by omega)]
  rw [e]
  exact ⟨hd, by show s.left - 1 = _; omega, hg, h.num⟩

theorem Pow.write {s : St} {dn n k : Nat} (h : Pow s dn n k) (m : Int) (l : List Int) (hl : l.length = 256) :
    (s.wErr m l = 0 ∧ dn + 1 ≤ n ∧ Pow (s.write m l) (dn + 1) n (k + 1)) ∨ (s.wErr m l = 40 ∧ dn = n ∧ (s.write m l).gone = true ∧ Pow (s.write m l) dn n (k + 1)) ∨ (s.wErr m l = 1 ∧ Pow (s.write m l) dn n (k + 1)) := by
  by_cases h1 : m < 0 ∨ (s.num : Int) ≤ m
  · have e1 : s.wErr m l = 1 := by unfold St.wErr; rw [if_pos h1]
    have e2 : s.write m l = s := by unfold St.write; rw [if_pos h1]
    rw [e1, e2]
    exact .inr (.inr ⟨rfl, h.num, h.left, h.le, h.gone, by have := h.pend; omega, by have := h.syncs; omega⟩)
  · cases hc : s.can with
    | true =>
      have e1 : s.wErr m l = 0 := by unfold St.wErr; rw [if_neg h1, if_neg (by omega), if_pos hc]
      have e2 : s.write m l = s.wrote m.toNat l := by unfold St.write; rw [if_neg h1, if_neg (by omega), if_pos hc]
      rw [e1, e2]
      obtain ⟨a1, a2, a3, a4⟩ := h.made hc
      refine .inl ⟨rfl, a1, a4, by push_cast; exact a2, a1, fun q => ?_, ?_, ?_⟩
      · have q' : s.step.gone = true := q
        rw [a3] at q'; cases q'
      · show (s.pend ++ [_]).length ≤ _
        rw [List.length_append]
        have := h.pend
        simp; omega
      · show s.step.syncs ≤ _
        rw [St.step_syncs]; have := h.syncs; omega
    | false =>
      have e1 : s.wErr m l = 40 := by unfold St.wErr; rw [if_neg h1, if_neg (by omega), if_neg (by rw [hc]; simp)]
      have e2 : s.write m l = s.step := by unfold St.write; rw [if_neg h1, if_neg (by omega), if_neg (by rw [hc]; simp)]
      rw [e1, e2]
      obtain ⟨a1, a2, a3⟩ := h.down hc
      exact .inr (.inl ⟨rfl, a1, a2, a3⟩)

theorem Pow.sync {s : St} {dn n k : Nat} (h : Pow s dn n k) :
    (s.sErr = 0 ∧ dn + 1 ≤ n ∧ Pow s.sync (dn + 1) n (k + 1)) ∨ (s.sErr = 40 ∧ dn = n ∧ s.sync.gone = true ∧ Pow s.sync dn n (k + 1)) := by
  cases hc : s.can with
  | true =>
    have e1 : s.sErr = 0 := by unfold St.sErr; rw [if_pos hc]
    have e2 : s.sync = s.synced := by unfold St.sync; rw [if_pos hc]
    rw [e1, e2]
    obtain ⟨a1, a2, a3, a4⟩ := h.made hc
    refine .inl ⟨rfl, a1, a4, by push_cast; exact a2, a1, fun q => ?_, Nat.zero_le _, ?_⟩
    · have q' : s.step.gone = true := q
      rw [a3] at q'; cases q'
    · show s.syncs + 1 ≤ _
      have := h.syncs; omega
  | false =>
    have e1 : s.sErr = 40 := by unfold St.sErr; rw [if_neg (by rw [hc]; simp)]
    have e2 : s.sync = s.step := by unfold St.sync; rw [if_neg (by rw [hc]; simp)]
    rw [e1, e2]
    obtain ⟨a1, a2, a3⟩ := h.down hc
    exact .inr ⟨rfl, a1, a2, a3⟩

theorem new_four {B : Nat} (w : World) (hB : B ≤ w.heap.size) : Calls Try.prog 11 #[.int .i64 4] w (fun e w' => ∃ b, e = .returned (.tuple #[.pointer (some ⟨b, 0, none⟩), .int .i64 0]) ∧ Has B ((dsk b (St.new 4)).star emp) w' ∧ Below w.heap.size w w') :=
  hasD_new (Has.emp _ _) hB 4 (by omega)

set_option maxRecDepth 100000 in
set_option maxHeartbeats 4000000 in
theorem diskPower_walk (A : Option Addr) (n c : Nat) (cs : List Cal) (x : Int) (w : World) (h : Cls w A n c cs) (hx : -9223372036854775808 ≤ x ∧ x ≤ 9223372036854775807) :
    Calls Try.prog 7 #[.slice A n c, .int .i64 x] w (Ret (.bool true) w) := by
  have CL := Lib.hid (long_any A n c cs w h)
  have HX := Lib.hid h
  have hcap := h.cap
  have hmax := h.max
  unfold maxLen at hmax
  have HLN := Lib.hid h.len
  clear h
  by_cases hlong : longC cs = true
  · rw [hlong] at CL
    clear hlong
    go_enter Try.func7, Try.ntmps7
    go_wp2_with fail
    refine CL.out.mono ?_
    rintro e w1 ⟨rfl, rfl⟩
    go_wp2_with fail
    refine (awake_any _).mono ?_
    rintro e w1 ⟨rfl, b1⟩
    have B1 := Lib.hid b1
    clear b1
    go_wp2_with fail
    go_ret
    exact ⟨rfl, B1.out⟩
  · have hlong' : longC cs = false := by simpa using hlong
    have HNO := Lib.hid (longC_no hlong')
    have hn60 : n ≤ 60 := by rw [← HLN.out]; exact HNO.out.1
    rw [hlong'] at CL
    clear hlong hlong'
    by_cases hx0 : x < 0
    · go_enter Try.func7, Try.ntmps7
      go_wp2_with fail
      refine CL.out.mono ?_
      rintro e w1 ⟨rfl, rfl⟩
      go_wp2_with fail
      refine (awake_any _).mono ?_
      rintro e w1 ⟨rfl, b1⟩
      have B1 := Lib.hid b1
      clear b1
      go_wp2_with fail
      go_ret
      exact ⟨rfl, B1.out⟩
    · obtain ⟨fu, rfl⟩ := Int.eq_ofNat_of_zero_le (Int.not_lt.1 hx0)
      obtain ⟨_, hfu⟩ := hx
      go_enter Try.func7, Try.ntmps7
      go_wp2_with fail
      refine CL.out.mono ?_
      rintro e w1 ⟨rfl, rfl⟩
      go_wp2_with fail
      refine (new_four w (Nat.le_refl w.heap.size)).mono ?_
      rintro e w1 ⟨b, rfl, h1, b1⟩
      have C2 := Lib.hid (hasD_fuse h1 b1.size fu (by omega))
      have B1 := Lib.hid b1
      clear h1 b1 CL
      go_wp2_with fail
      refine C2.out.mono ?_
      rintro e w2 ⟨rfl, h2, b2⟩
      have R0 : Hid (∃ s, Pow s 0 fu 0 ∧ Has w.heap.size ((dsk b s).star emp) w2 ∧ Below w.heap.size w w2) := Lib.hid ⟨_, Pow.start fu, h2, B1.out.trans b2⟩
      clear h2 b2 C2 B1
      go_wp2_with fail
      go_loopw [8, 7] (fun q d wr => ∃ k dn : Nat, k ≤ n ∧ dn ≤ fu ∧ q = .int .i64 k ∧ d = .int .i64 dn ∧ ∃ s, Pow s dn fu k ∧ Has w.heap.size ((dsk b s).star emp) wr ∧ Below w.heap.size w wr) (fun q _ _ => n - (intOf q).toNat)
      case atStart => exact ⟨0, 0, Nat.zero_le _, Nat.zero_le _, rfl, rfl, R0.out⟩
      case round =>
        obtain ⟨k, dn, hkn, hdn, rfl, rfl, s, hp, hs, hb⟩ := hrel
        have HP := Lib.hid hp
        have HS := Lib.hid hs
        have HB := Lib.hid hb
        clear hp hs hb
        by_cases hlt : k < n
        · obtain ⟨g, off, rfl, hc⟩ := HX.out.at_ (by omega)
          have hin := HX.out.each k hlt
          obtain ⟨cl, hcl⟩ : ∃ cl, cs.getD k default = cl := ⟨_, rfl⟩
          have hc0 := hc k hlt
          rw [hcl] at hin hc0
          have x0 : wr.cell? ⟨g, off + k * 7, none⟩ = some (.int .i64 cl.kind) := (HB.out.cell (World.block_lt_of_cell? w _ (hc0 0 _ rfl))).trans (hc0 0 _ rfl)
          have x1 : wr.cell? ⟨g, off + k * 7 + 1, none⟩ = some (.int .i64 cl.n) := (HB.out.cell (World.block_lt_of_cell? w _ (hc0 1 _ rfl))).trans (hc0 1 _ rfl)
          have x2 : wr.cell? ⟨g, off + k * 7 + 2, none⟩ = some (.int .u8 cl.b) := (HB.out.cell (World.block_lt_of_cell? w _ (hc0 2 _ rfl))).trans (hc0 2 _ rfl)
          have hglt : g < w.heap.size := World.block_lt_of_cell? w _ (hc0 0 _ rfl)
          have hcn := hin.n
          have hcb := hin.b
          have hin' := Lib.hid hin
          clear hc hc0 hcl hin
          have hk0 : (0 : Int) ≤ (k : Int) := Int.natCast_nonneg _
          have hk1 : (k : Int) < (n : Int) := by omega
          obtain ⟨kd, hkd⟩ : ∃ kd, cl.kind = kd := ⟨_, rfl⟩
          obtain ⟨cn, hcn'⟩ : ∃ cn, cl.n = cn := ⟨_, rfl⟩
          obtain ⟨cb, hcb'⟩ : ∃ cb, cl.b = cb := ⟨_, rfl⟩
          rw [hkd] at x0
          rw [hcn'] at x1 hcn
          rw [hcb'] at x2 hcb
          clear hkd hcn' hcb' hin'
          by_cases hk0' : kd = 0
          · subst hk0'
            have CF : Hid (∀ W, Below wr.heap.size wr W → Calls Try.prog 14 #[.int .u8 cb] W (RetFull (fullL cb) W)) := Lib.hid (fun W _ => full_any cb W)
            have CW : Hid (∀ W1 W2 gg, Below wr.heap.size wr W1 → wr.heap.size ≤ gg → Bk W2 gg 5 (byC (fullL cb)).toArray → Below W1.heap.size W1 W2 → Calls Try.prog 13 #[.pointer (some ⟨b, 0, none⟩), .int .i64 cn, .slice (some ⟨gg, 0, none⟩) 256 256] W2 (RetHas (.int .i64 (s.wErr cn (fullL cb))) w.heap.size ((dsk b (s.write cn (fullL cb))).star emp) W2)) :=
              Lib.hid (fun W1 W2 gg hb1 hgg hbk hb2 => hasD_write HS.out (hb1.trans (hb2.mono hb1.size)) HB.out.size (Byt.sec hbk (fullL_sec hcb)) (fun q hq => by
                have : gg = q := by simpa [Value.ownBlock] using hq
                omega) cn hcn (by have := HP.out.pend; omega))
            go_wp2_with fail
            have hS0 : wr.drew.cell? ⟨g, off + k * 7 + 1, none⟩ = some (.int .i64 cn) ∧ wr.drew.cell? ⟨g, off + k * 7 + 2, none⟩ = some (.int .u8 cb) := ⟨x1, x2⟩
            have KS : Hid (∀ W, Below w.heap.size wr W → W.cell? ⟨g, off + k * 7 + 1, none⟩ = some (.int .i64 cn) ∧ W.cell? ⟨g, off + k * 7 + 2, none⟩ = some (.int .u8 cb)) := Lib.hid (fun W hb => ⟨(hb.cell (p := ⟨g, off + k * 7 + 1, none⟩) hglt).trans x1, (hb.cell (p := ⟨g, off + k * 7 + 2, none⟩) hglt).trans x2⟩)
            have HSZ : Hid (w.heap.size ≤ wr.heap.size) := Lib.hid HB.out.size
            refine wp_region_noPanic ?_
            refine upto_start (fun w' => w'.cell? ⟨g, off + k * 7 + 1, none⟩ = some (.int .i64 cn) ∧ w'.cell? ⟨g, off + k * 7 + 2, none⟩ = some (.int .u8 cb)) 13 (by kernel_rfl) ?_
            change Upto _ _ _ _ _ 14 _ _ _
            refine Upto.take (i := 0) (v := ?_) rfl (by kernel_rfl) (fun _ _ _ h => h) rfl (fun w' hS => ?_) hS0 ?_
            rotate_left
            · (try dsimp only at hS); go_split_ands; go_simp; (try with_reducible rfl)
            simp only [Act.put, List.setIfInBounds_toArray, List.set_cons_zero, List.set_cons_succ]
            refine Upto.take (i := 1) (v := ?_) rfl (by kernel_rfl) (fun _ _ _ h => h) rfl (fun w' hS => ?_) hS0 ?_
            rotate_left
            · (try dsimp only at hS); go_split_ands; go_simp; (try with_reducible rfl)
            simp only [Act.put, List.setIfInBounds_toArray, List.set_cons_zero, List.set_cons_succ]
            refine Upto.take (i := 2) (v := ?_) rfl (by kernel_rfl) (fun _ _ _ h => h) rfl (fun w' hS => ?_) hS0 ?_
            rotate_left
            · (try dsimp only at hS); go_split_ands; go_simp; (try with_reducible rfl)
            simp only [Act.put, List.setIfInBounds_toArray, List.set_cons_zero, List.set_cons_succ]
            refine Upto.take (i := 3) (v := ?_) rfl (by kernel_rfl) (fun _ _ _ h => h) rfl (fun w' hS => ?_) hS0 ?_
            rotate_left
            · (try dsimp only at hS); go_split_ands; go_simp; (try with_reducible rfl)
            simp only [Act.put, List.setIfInBounds_toArray, List.set_cons_zero, List.set_cons_succ]
            refine Upto.take (i := 4) (v := ?_) rfl (by kernel_rfl) (fun _ _ _ h => h) rfl (fun w' hS => ?_) hS0 ?_
            rotate_left
            · (try dsimp only at hS); go_split_ands; go_simp; (try with_reducible rfl)
            simp only [Act.put, List.setIfInBounds_toArray, List.set_cons_zero, List.set_cons_succ]
            refine Upto.take (i := 5) (v := ?_) rfl (by kernel_rfl) (fun _ _ _ h => h) rfl (fun w' hS => ?_) hS0 ?_
            rotate_left
            · (try dsimp only at hS); go_split_ands; go_simp; (try with_reducible rfl)
            simp only [Act.put, List.setIfInBounds_toArray, List.set_cons_zero, List.set_cons_succ]
            refine Upto.take (i := 6) (v := ?_) rfl (by kernel_rfl) (fun _ _ _ h => h) rfl (fun w' hS => ?_) hS0 ?_
            rotate_left
            · (try dsimp only at hS); go_split_ands; go_simp; (try with_reducible rfl)
            simp only [Act.put, List.setIfInBounds_toArray, List.set_cons_zero, List.set_cons_succ]
            refine Upto.take (i := 7) (v := ?_) rfl (by kernel_rfl) (fun _ _ _ h => h) rfl (fun w' hS => ?_) hS0 ?_
            rotate_left
            · (try dsimp only at hS); go_split_ands; go_simp; (try with_reducible rfl)
            simp only [Act.put, List.setIfInBounds_toArray, List.set_cons_zero, List.set_cons_succ]
            refine Upto.take (i := 8) (v := ?_) rfl (by kernel_rfl) (fun _ _ _ h => h) rfl (fun w' hS => ?_) hS0 ?_
            rotate_left
            · (try dsimp only at hS); go_split_ands; go_simp; (try with_reducible rfl)
            simp only [Act.put, List.setIfInBounds_toArray, List.set_cons_zero, List.set_cons_succ]
            refine Upto.take (i := 9) (v := ?_) rfl (by kernel_rfl) (fun _ _ _ h => h) rfl (fun w' hS => ?_) hS0 ?_
            rotate_left
            · (try dsimp only at hS); go_split_ands; go_simp; (try with_reducible rfl)
            simp only [Act.put, List.setIfInBounds_toArray, List.set_cons_zero, List.set_cons_succ]
            refine Upto.take (i := 10) (v := ?_) rfl (by kernel_rfl) (fun _ _ _ h => h) rfl (fun w' hS => ?_) hS0 ?_
            rotate_left
            · (try dsimp only at hS); go_split_ands; go_simp; (try with_reducible rfl)
            simp only [Act.put, List.setIfInBounds_toArray, List.set_cons_zero, List.set_cons_succ]
            refine Upto.law (i := 11) rfl (by kernel_rfl) rfl (fun K hK => ?_)
            refine wp_enter (f := 14) (args := #[.int .u8 cb]) (by go_simp) (CF.out wr.drew (Below.refl _ _).drew) ?_
            rintro e W2 ⟨gg, hgg, rfl, hbk, hb2⟩
            have hb2' : Below wr.heap.size wr W2 := ⟨hb2.os, hb2.tape, hb2.output, hb2.size, hb2.block⟩
            have hS2 := KS.out W2 (hb2'.mono HSZ.out)
            refine ⟨_, rfl, hK _ _ hS2 ?_⟩
            clear hK
            have CW2 := Lib.hid (CW.out wr.drew W2 gg (Below.refl _ _).drew hgg hbk hb2)
            have HB2 := Lib.hid (HB.out.trans (hb2'.mono HSZ.out))
            have HB2' := Lib.hid (hb2'.mono HSZ.out)
            clear hbk hb2 hb2' hS2 CW CF hgg
            simp only [Act.put, List.setIfInBounds_toArray, List.set_cons_zero, List.set_cons_succ]
            refine Upto.law (i := 12) rfl (by kernel_rfl) rfl (fun K hK => ?_)
            refine wp_enter (f := 13) (args := #[.pointer (some ⟨b, 0, none⟩), .int .i64 cn, .slice (some ⟨gg, 0, none⟩) 256 256]) (by go_simp) CW2.out ?_
            rintro e wz ⟨rfl, hz1, hz2⟩
            have hS3 := KS.out wz (HB2'.out.trans hz2)
            refine ⟨_, rfl, hK _ _ hS3 ?_⟩
            clear hK
            have HZ := Lib.hid (And.intro hz1 (HB2.out.trans hz2))
            have HO := Lib.hid (HP.out.write cn (fullL cb) (fullL_sec hcb).1)
            have x0z : wz.cell? ⟨g, off + k * 7, none⟩ = some (.int .i64 0) := ((HB2'.out.trans hz2).cell (p := ⟨g, off + k * 7, none⟩) hglt).trans x0
            clear hz1 hz2 hS3 hS0 CW2 HB2 HB2' HS HB HP x0 x1 x2 KS
            simp only [Act.put, List.setIfInBounds_toArray, List.set_cons_zero, List.set_cons_succ]
            refine Upto.tail rfl (by kernel_rfl) ?_
            simp only [List.drop_succ_cons, List.drop_zero]
            rcases HO.out with ⟨e1, hd1, hp1⟩ | ⟨e1, hd1, hg1, hp1⟩ | ⟨e1, hp1⟩
            · rw [e1]
              have R : Hid (∃ s, Pow s (dn + 1) fu (k + 1) ∧ Has w.heap.size ((dsk b s).star emp) wz ∧ Below w.heap.size w wz) := Lib.hid ⟨_, hp1, HZ.out.1, HZ.out.2⟩
              clear hp1 HO HZ e1 hdn
              go_wp2_with fail
              refine NoPanic.normal ?_
              go_wp2_with fail
              go_roundw
              case rel => exact ⟨k + 1, dn + 1, by omega, by omega, by go_num, by go_num, R.out⟩
              case measure => simp [intOf]; omega
            · rw [e1]
              subst hd1
              have R : Hid (∃ s, Pow s dn dn (k + 1) ∧ Has w.heap.size ((dsk b s).star emp) wz ∧ Below w.heap.size w wz) := Lib.hid ⟨_, hp1, HZ.out.1, HZ.out.2⟩
              have CD := Lib.hid (hasD_down HZ.out.1)
              rw [hg1] at CD
              clear hp1 HO HZ e1 hg1
              go_wp2_with fail
              refine NoPanic.normal ?_
              go_wp2_with fail
              refine CD.out.mono ?_
              rintro e wy ⟨rfl, rfl⟩
              go_wp2_with fail
              go_roundw
              case rel => exact ⟨k + 1, dn, by omega, by omega, by go_num, rfl, R.out⟩
              case measure => simp [intOf]; omega
            · rw [e1]
              have R : Hid (∃ s, Pow s dn fu (k + 1) ∧ Has w.heap.size ((dsk b s).star emp) wz ∧ Below w.heap.size w wz) := Lib.hid ⟨_, hp1, HZ.out.1, HZ.out.2⟩
              clear hp1 HO HZ e1
              go_wp2_with fail
              refine NoPanic.normal ?_
              go_wp2_with fail
              go_roundw
              case rel => exact ⟨k + 1, dn, by omega, by omega, by go_num, rfl, R.out⟩
              case measure => simp [intOf]; omega
          · have hd0 : (kd == 0) = false := by simpa using hk0'
            by_cases hk1' : kd = 1
            · subst hk1'
              have CS := Lib.hid (hasD_sync HS.out HB.out.size (by have := HP.out.syncs; omega))
              have HO := Lib.hid (HP.out.sync)
              have HBW := Lib.hid HB.out
              clear HS HB HP x1 x2 hk0'
              go_wp2_with fail
              refine CS.out.mono ?_
              rintro e wz ⟨rfl, hz1, hz2⟩
              have HZ := Lib.hid (And.intro hz1 (HBW.out.trans hz2))
              clear hz1 hz2 CS HBW x0
              rcases HO.out with ⟨e1, hd1, hp1⟩ | ⟨e1, hd1, hg1, hp1⟩
              · rw [e1]
                have R : Hid (∃ s, Pow s (dn + 1) fu (k + 1) ∧ Has w.heap.size ((dsk b s).star emp) wz ∧ Below w.heap.size w wz) := Lib.hid ⟨_, hp1, HZ.out.1, HZ.out.2⟩
                clear hp1 HO HZ e1 hdn
                go_wp2_with fail
                go_roundw
                case rel => exact ⟨k + 1, dn + 1, by omega, by omega, by go_num, by go_num, R.out⟩
                case measure => simp [intOf]; omega
              · rw [e1]
                subst hd1
                have R : Hid (∃ s, Pow s dn dn (k + 1) ∧ Has w.heap.size ((dsk b s).star emp) wz ∧ Below w.heap.size w wz) := Lib.hid ⟨_, hp1, HZ.out.1, HZ.out.2⟩
                have CD := Lib.hid (hasD_down HZ.out.1)
                rw [hg1] at CD
                clear hp1 HO HZ e1 hg1
                go_wp2_with fail
                refine CD.out.mono ?_
                rintro e wy ⟨rfl, rfl⟩
                go_wp2_with fail
                go_roundw
                case rel => exact ⟨k + 1, dn, by omega, by omega, by go_num, rfl, R.out⟩
                case measure => simp [intOf]; omega
            · have hd1 : (kd == 1) = false := by simpa using hk1'
              have R : Hid (∃ s, Pow s dn fu (k + 1) ∧ Has w.heap.size ((dsk b s).star emp) wr ∧ Below w.heap.size w wr) := Lib.hid ⟨s, ⟨HP.out.num, HP.out.left, HP.out.le, HP.out.gone, Nat.le_succ_of_le HP.out.pend, Nat.le_succ_of_le HP.out.syncs⟩, HS.out, HB.out⟩
              clear HS HB HP x1 x2 hk0' hk1'
              go_wp2_with fail
              go_roundw
              case rel => exact ⟨k + 1, dn, by omega, by omega, by go_num, rfl, R.out⟩
              case measure => simp [intOf]; omega
        · have CR := Lib.hid (hasD_read HS.out 0)
          have HE : Hid (s.rErr 0 = if s.gone then 40 else 0) := Lib.hid (by unfold St.rErr; rw [if_neg (by have := HP.out.num; omega)])
          have HDW : Hid (∀ W, Below wr.heap.size wr W → Calls Try.prog 26 #[.pointer (some ⟨b, 0, none⟩)] W (Same (.bool s.gone) W)) := Lib.hid (fun W hb => hasD_down (HS.out.below hb))
          rw [HE.out] at CR
          clear HS HP
          go_wp2_with fail
          refine CR.out.mono ?_
          rintro e w2 ⟨A2, n2, c2, rfl, _, _, hb2⟩
          have CD := Lib.hid (HDW.out w2 hb2)
          have HB2 := Lib.hid (HB.out.trans (hb2.mono HB.out.size))
          clear hb2 HDW CR HB HE
          cases hg : s.gone with
          | true =>
            rw [hg] at CD
            clear hg
            go_wp2_with fail
            refine CD.out.mono ?_
            rintro e wy ⟨rfl, rfl⟩
            go_wp2_with fail
            refine (awake_any _).mono ?_
            rintro e w3 ⟨rfl, b3⟩
            have B3 := Lib.hid (HB2.out.trans (b3.mono HB2.out.size))
            clear b3
            go_wp2_with fail
            go_ret
            exact ⟨rfl, B3.out⟩
          | false =>
            rw [hg] at CD
            clear hg
            go_wp2_with fail
            refine CD.out.mono ?_
            rintro e wy ⟨rfl, rfl⟩
            go_wp2_with fail
            refine (awake_any _).mono ?_
            rintro e w3 ⟨rfl, b3⟩
            have B3 := Lib.hid (HB2.out.trans (b3.mono HB2.out.size))
            clear b3
            go_wp2_with fail
            go_ret
            exact ⟨rfl, B3.out⟩
end Go.Proofs.Ytefhnmjeofbaiaa
