/- What it says: 'Rows.MasterLoadsSaid': for every input trothlaw06.MasterLoads answers true, and what came in reads behind the call as before. No condition. -/
import Derived.Test.YtjieledaiipheaaPl3
import Derived.LoopTactic

/- the walk of the law MasterLoads: whatever comes in, it answers true and turns nothing that was there. -/
namespace Go.Proofs.Ytjieledaiipheaa
open Go.RowKit

/-- Filled up to k bytes. -/
def fillL (p : List Int) (k : Nat) : List Int := p ++ List.replicate (k - p.length) 0
theorem fillL_next {p : List Int} {k : Nat} (h : p.length ≤ k) : fillL p k ++ [0] = fillL p (k + 1) := by
  unfold fillL
  rw [show k + 1 - p.length = (k - p.length) + 1 from by omega, List.replicate_succ', List.append_assoc]
theorem fillL_start (p : List Int) : fillL p p.length = p := by simp [fillL]
theorem fillL_rng {p : List Int} (h : ∀ x ∈ p, 0 ≤ x ∧ x < 256) (k : Nat) : ∀ x ∈ fillL p k, 0 ≤ x ∧ x < 256 := by
  intro x hx
  rcases List.mem_append.1 hx with q | q
  · exact h x q
  · obtain ⟨_, rfl⟩ := List.mem_replicate.1 q
    omega
theorem fillL_sec {p : List Int} (h : ∀ x ∈ p, 0 ≤ x ∧ x < 256) (hl : p.length ≤ 256) : Sec (fillL p 256) := ⟨by simp [fillL]; omega, fillL_rng h 256⟩

/-- Two sectors that are written. -/
theorem two_written {a b : List Int} (ha : Sec a) (hb : Sec b) : (St.new 2).wErr 0 a = 0 ∧ ((St.new 2).write 0 a).wErr 1 b = 0 ∧ ((St.new 2).write 0 a).pend.length = 1 ∧ loadR0 (((St.new 2).write 0 a).write 1 b).rBytes (((St.new 2).write 0 a).write 1 b).rErr = loadM a b ∧ loadE0 (((St.new 2).write 0 a).write 1 b).rBytes (((St.new 2).write 0 a).write 1 b).rErr = lostE (loadM a b) := by
  have e1 : (St.new 2).write 0 a = (St.new 2).wrote 0 a := by
    unfold St.write
    rw [if_neg (by decide), if_neg (by rw [ha.1]; decide), if_pos (by rfl)]
    rfl
  have e2 : ((St.new 2).write 0 a).write 1 b = ((St.new 2).wrote 0 a).wrote 1 b := by
    rw [e1]
    unfold St.write
    rw [if_neg (by show ¬ ((1 : Int) < 0 ∨ ((2 : Nat) : Int) ≤ 1); decide), if_neg (by rw [hb.1]; decide), if_pos (by rfl)]
    rfl
  have n0 : (((St.new 2).wrote 0 a).wrote 1 b).now = upd (upd (St.new 2).now 0 a) 1 b := by rw [wrote_now, wrote_now]
  have r0 : (((St.new 2).wrote 0 a).wrote 1 b).rErr 0 = 0 := rfl
  have r1 : (((St.new 2).wrote 0 a).wrote 1 b).rErr 1 = 0 := rfl
  have b0 : (((St.new 2).wrote 0 a).wrote 1 b).rBytes 0 = a := by
    unfold St.rBytes
    rw [if_pos r0, n0]
    rfl
  have b1 : (((St.new 2).wrote 0 a).wrote 1 b).rBytes 1 = b := by
    unfold St.rBytes
    rw [if_pos r1, n0]
    rfl
  refine ⟨?_, ?_, ?_, ?_, ?_⟩
  · unfold St.wErr
    rw [if_neg (by decide), if_neg (by rw [ha.1]; decide), if_pos (by rfl)]
  · rw [e1]
    unfold St.wErr
    rw [if_neg (by show ¬ ((1 : Int) < 0 ∨ ((2 : Nat) : Int) ≤ 1); decide), if_neg (by rw [hb.1]; decide), if_pos (by rfl)]
  · rw [e1]; rfl
  · rw [e2]
    unfold loadR0
    rw [if_neg (by rw [r0]; simp), if_neg (by rw [r1]; simp), b0, b1]
  · rw [e2]
    unfold loadE0
    rw [if_neg (by rw [r0]; simp), if_neg (by rw [r1]; simp), b0, b1]

/-- Two rows of the call's own that lie apart. -/
structure Rows2 (w wr : World) (a : Value) (k : Nat) (l : List Int) (b : Value) (j : Nat) (m : List Int) : Prop where
  one : wr.ownsRow w.heap.size 5 1 a k (l.map (Value.int .u8))
  two : wr.ownsRow w.heap.size 5 1 b j (m.map (Value.int .u8))
  apart : ∀ q, a.ownBlock = some q → b.ownBlock ≠ some q
  bel : Below w.heap.size w wr

theorem kept_apart {w w' : World} {base : Nat} {a b : Value} {k : Nat} {xs : List Value} (h : w.ownsRow base 5 1 b k xs) (hg : w.grownBy w' a.ownBlock) (ha : ∀ q, a.ownBlock = some q → b.ownBlock ≠ some q) : w'.ownsRow base 5 1 b k xs :=
  owns_keep h (fun q hq => hg.block q (h.lt q hq).2 (fun e => ha q e.symm hq))

theorem Rows2.swap {w wr : World} {a b : Value} {k j : Nat} {l m : List Int} (h : Rows2 w wr a k l b j m) : Rows2 w wr b j m a k l := ⟨h.two, h.one, fun q e f => h.apart q f e, h.bel⟩
/-- Behind an append onto the first. -/
theorem Rows2.app {w wr w' : World} {a b a' : Value} {k j k' : Nat} {l m l' : List Int} (h : Rows2 w wr a k l b j m) (h1 : w'.ownsRow w.heap.size 5 1 a' k' (l'.map (Value.int .u8))) (h2 : wr.grownBy w' a.ownBlock) (h3 : ∀ q, a'.ownBlock = some q → a.ownBlock = some q ∨ wr.heap.size ≤ q) : Rows2 w w' a' k' l' b j m :=
  ⟨h1, kept_apart h.two h2 h.apart, fun q e f => by
    rcases h3 q e with g | g
    · exact h.apart q g f
    · have := (h.two.lt q f).2
      omega, h.bel.grown h2 h.bel.size (fun q hq => (h.one.lt q hq).1)⟩
/-- Behind a new block. -/
theorem Rows2.alloc {w wr : World} {a b : Value} {k j : Nat} {l m : List Int} (h : Rows2 w wr a k l b j m) (o : Obj) : Rows2 w (wr.alloc o) a k l b j m :=
  ⟨h.one.alloc o, h.two.alloc o, h.apart, h.bel.alloc h.bel.size o⟩

theorem byt1 (W : World) (x : Int) (hx : 0 ≤ x ∧ x < 256) : Byt (W.alloc (.cells #[.int .u8 x] 5)) (some ⟨W.heap.size, 0, none⟩) 1 1 [x] :=
  Byt.lit W 5 [x] 1 rfl (by unfold maxLen; omega) (fun y hy => by simp at hy; rw [hy]; exact hx)

set_option maxRecDepth 100000 in
set_option maxHeartbeats 16000000 in
theorem masterLoads_walk (A1 : Option Addr) (n1 c1 : Nat) (l1 : List Int) (A2 : Option Addr) (n2 c2 : Nat) (l2 : List Int) (w : World) (h1 : Byt w A1 n1 c1 l1) (_z1 : n1 ≤ 140737488351232) (h2 : Byt w A2 n2 c2 l2) (_z2 : n2 ≤ 140737488351232) :
    Calls Try.prog 4 #[.slice A1 n1 c1, .slice A2 n2 c2] w (Ret (.bool true) w) := by
  have hc1 := h1.cap
  have hm1 := h1.max
  have hc2 := h2.cap
  have hm2 := h2.max
  unfold maxLen at hm1 hm2
  by_cases g1 : 256 < n1
  · clear h1 h2
    go_enter Try.func4, Try.ntmps4
    go_wp2_with fail
    refine (awakeM_any _).mono ?_
    rintro e w1 ⟨rfl, b1⟩
    have B1 := Lib.hid b1
    clear b1
    go_wp2_with fail
    go_ret
    exact ⟨rfl, B1.out⟩
  by_cases g2 : 256 < n2
  · clear h1 h2
    go_enter Try.func4, Try.ntmps4
    go_wp2_with fail
    refine (awakeM_any _).mono ?_
    rintro e w1 ⟨rfl, b1⟩
    have B1 := Lib.hid b1
    clear b1
    go_wp2_with fail
    go_ret
    exact ⟨rfl, B1.out⟩
  obtain ⟨i0, hi, hz0, hz1, hz2⟩ := info_parts info_u8
  have hown0 := World.ownsRow_made (base := w.heap.size) (e := 5) (size := 1) w #[] 0 (Nat.le_refl _) (Nat.zero_le _) rfl
  have H1 := Lib.hid h1
  have H2 := Lib.hid h2
  have HL1 := Lib.hid h1.len
  have HL2 := Lib.hid h2.len
  clear h1 h2
  go_enter Try.func4, Try.ntmps4
  go_wp2_with (at_builtin; refine wpList_append_byt rfl _ _ 34 rfl w.heap.size 5 i0 Try.underlying34 hi hz0 hz1 hz2 _ 0 [] rfl (by exact hown0) A1 n1 c1 l1 rfl (H1.out.alloc _) (by omega) (by simp) ?_)
  intro Aa ca W1 q1 q2
  have O1 : Hid (W1.ownsRow w.heap.size 5 1 (.slice Aa n1 ca) n1 ((fillL l1 n1).map (Value.int .u8))) := Lib.hid (by
    have e : fillL l1 n1 = l1 := by rw [← HL1.out]; exact fillL_start l1
    rw [e]
    simpa using q1)
  have B1 : Hid (Below w.heap.size w W1) := Lib.hid (((Below.refl _ _).alloc (Nat.le_refl _) _).grown q2 (by simp) (by intro k hk; simp [Value.ownBlock] at hk; omega))
  have Y2 := Lib.hid (H2.out.below B1.out)
  have hown1 := World.ownsRow_made (base := W1.heap.size) (e := 5) (size := 1) W1 #[] 0 (Nat.le_refl _) (Nat.zero_le _) rfl
  (try rw [Nat.zero_add])
  clear q1 q2 hown0
  go_wp2_with (at_builtin; refine wpList_append_byt rfl _ _ 34 rfl W1.heap.size 5 i0 Try.underlying34 hi hz0 hz1 hz2 _ 0 [] rfl (by exact hown1) A2 n2 c2 l2 rfl (Y2.out.alloc _) (by omega) (by simp) ?_)
  intro Ab cb W2 q1 q2
  have R2 : Hid (Rows2 w W2 (.slice Aa n1 ca) n1 (fillL l1 n1) (.slice Ab n2 cb) n2 (fillL l2 n2)) := Lib.hid (by
    have e : fillL l2 n2 = l2 := by rw [← HL2.out]; exact fillL_start l2
    have q3 : W2.ownsRow W1.heap.size 5 1 (.slice Ab n2 cb) n2 ((fillL l2 n2).map (Value.int .u8)) := by rw [e]; simpa using q1
    have b12 : Below W1.heap.size W1 W2 := ((Below.refl _ _).alloc (Nat.le_refl _) _).grown q2 (by simp) (by intro k hk; simp [Value.ownBlock] at hk; omega)
    refine ⟨owns_keep O1.out (fun q hq => b12.block q (O1.out.lt q hq).2), owns_low q3 B1.out.size, fun q e f => ?_, B1.out.trans (b12.mono B1.out.size)⟩
    have := (O1.out.lt q e).2
    have := (q3.lt q f).1
    omega)
  (try rw [Nat.zero_add])
  clear q1 q2 hown1 Y2 B1 O1
  go_wp2_with fail
  go_loopw [5] (fun v wr => ∃ (B : Option Addr) (k d : Nat), n1 ≤ k ∧ k ≤ 256 ∧ v = .slice B k d ∧ Rows2 w wr (.slice B k d) k (fillL l1 k) (.slice Ab n2 cb) n2 (fillL l2 n2)) (fun v _ => 256 - (match v with | .slice _ k _ => k | _ => 0))
  case atStart => exact ⟨Aa, n1, ca, Nat.le_refl _, by omega, rfl, R2.out⟩
  case round =>
    obtain ⟨B, k, d, hk1, hk2, rfl, hr⟩ := hrel
    have HR := Lib.hid hr
    have HK1 := Lib.hid hk1
    clear hr hk1
    by_cases hlt : k < 256
    · have ho2 := HR.out.one.alloc (.cells #[.int .u8 0] 5)
      have hb2 := byt1 wr 0 (by omega)
      go_wp2_with (at_builtin; refine wpList_append_at rfl _ _ 34 rfl w.heap.size 5 i0 Try.underlying34 hi hz0 hz1 hz2 _ k (fillL l1 k) rfl (by exact ho2) _ 1 1 [0] rfl (by exact hb2) (by omega) (by have := HR.out.bel.size; simp; omega) ?_)
      intro A3 c3 W3 q1 q2 q3
      have R3 : Hid (Rows2 w W3 (.slice A3 (k + 1) c3) (k + 1) (fillL l1 (k + 1)) (.slice Ab n2 cb) n2 (fillL l2 n2)) := Lib.hid (by
        have q4 : W3.ownsRow w.heap.size 5 1 (.slice A3 (k + 1) c3) (k + 1) ((fillL l1 (k + 1)).map (Value.int .u8)) := by
          rw [← fillL_next (by have := HK1.out; have := HL1.out; omega), List.map_append]; exact q1
        exact (HR.out.alloc _).app q4 q2 (by rw [World.size_alloc]; exact q3))
      clear q1 q2 q3 ho2 hb2
      go_wp2_with fail
      go_roundw
      case rel => exact ⟨A3, k + 1, c3, by have := HK1.out; omega, by omega, rfl, R3.out⟩
      case measure => simp; omega
    · obtain rfl : k = 256 := by omega
      clear hlt R2 HK1
      go_wp2_with fail
      go_loopw [6] (fun v wr => ∃ (C : Option Addr) (j f : Nat), n2 ≤ j ∧ j ≤ 256 ∧ v = .slice C j f ∧ Rows2 w wr (.slice C j f) j (fillL l2 j) (.slice B 256 d) 256 (fillL l1 256)) (fun v _ => 256 - (match v with | .slice _ k _ => k | _ => 0))
      case atStart => exact ⟨Ab, n2, cb, Nat.le_refl _, by omega, rfl, HR.out.swap⟩
      case round =>
        obtain ⟨C, j, f, hj1, hj2, rfl, hr⟩ := hrel
        have HR' := Lib.hid hr
        have HJ1 := Lib.hid hj1
        clear hr hj1
        by_cases hlt : j < 256
        · have ho2 := HR'.out.one.alloc (.cells #[.int .u8 0] 5)
          have hb2 := byt1 wr 0 (by omega)
          go_wp2_with (at_builtin; refine wpList_append_at rfl _ _ 34 rfl w.heap.size 5 i0 Try.underlying34 hi hz0 hz1 hz2 _ j (fillL l2 j) rfl (by exact ho2) _ 1 1 [0] rfl (by exact hb2) (by omega) (by have := HR'.out.bel.size; simp; omega) ?_)
          intro A3 c3 W3 q1 q2 q3
          have R3 : Hid (Rows2 w W3 (.slice A3 (j + 1) c3) (j + 1) (fillL l2 (j + 1)) (.slice B 256 d) 256 (fillL l1 256)) := Lib.hid (by
            have q4 : W3.ownsRow w.heap.size 5 1 (.slice A3 (j + 1) c3) (j + 1) ((fillL l2 (j + 1)).map (Value.int .u8)) := by
              rw [← fillL_next (by have := HJ1.out; have := HL2.out; omega), List.map_append]; exact q1
            exact (HR'.out.alloc _).app q4 q2 (by rw [World.size_alloc]; exact q3))
          clear q1 q2 q3 ho2 hb2
          go_wp2_with fail
          go_roundw
          case rel => exact ⟨A3, j + 1, c3, by have := HJ1.out; omega, by omega, rfl, R3.out⟩
          case measure => simp; omega
        · obtain rfl : j = 256 := by omega
          have HA : Hid (Byt wr B 256 d (fillL l1 256)) := Lib.hid (Byt.of_own HR'.out.two (fillL_rng H1.out.rng _))
          have HB : Hid (Byt wr C 256 f (fillL l2 256)) := Lib.hid (Byt.of_own HR'.out.one (fillL_rng H2.out.rng _))
          have HAL : Hid (∀ q, (Value.slice B 256 d).ownBlock = some q → q < wr.heap.size) := Lib.hid (fun q hq => (HR'.out.two.lt q hq).2)
          have HBL : Hid (∀ q, (Value.slice C 256 f).ownBlock = some q → q < wr.heap.size) := Lib.hid (fun q hq => (HR'.out.one.lt q hq).2)
          have SA : Hid (Sec (fillL l1 256)) := Lib.hid (fillL_sec H1.out.rng (by rw [HL1.out]; omega))
          have SB : Hid (Sec (fillL l2 256)) := Lib.hid (fillL_sec H2.out.rng (by rw [HL2.out]; omega))
          have BW : Hid (Below w.heap.size w wr) := Lib.hid HR'.out.bel
          have TW := Lib.hid (two_written SA.out SB.out)
          obtain ⟨a, hva⟩ : ∃ a, fillL l1 256 = a := ⟨_, rfl⟩
          obtain ⟨b, hvb⟩ : ∃ b, fillL l2 256 = b := ⟨_, rfl⟩
          rw [hva] at HA SA TW
          rw [hvb] at HB SB TW
          have CN := Lib.hid (new_two wr)
          clear HR HR' HJ1 hlt hva hvb H1 H2 HL1 HL2
          go_wp2_with fail
          refine CN.out.mono ?_
          rintro e w1 ⟨dd, rfl, h1, b1⟩
          have E1 : Hid (Below wr.heap.size wr w1) := Lib.hid b1
          have CW := hasD_writeO h1 (Below.refl _ _) b1.size (HA.out.below b1) (fun q hq => .inr (HAL.out q hq)) 0 (by omega) (Nat.zero_lt_succ _)
          rw [TW.out.1] at CW
          have CW := Lib.hid CW
          clear h1 b1 CN
          go_wp2_with fail
          refine CW.out.mono ?_
          rintro e w2 ⟨rfl, h2, b2⟩
          have E2 : Hid (Below wr.heap.size wr w2) := Lib.hid (E1.out.trans b2)
          have CV := hasD_writeO h2 (Below.refl _ _) E2.out.size (HB.out.below E2.out) (fun q hq => .inr (HBL.out q hq)) 1 (by omega) (by rw [TW.out.2.2.1]; omega)
          rw [TW.out.2.1] at CV
          have CV := Lib.hid CV
          clear h2 b2 CW E1
          go_wp2_with fail
          refine CV.out.mono ?_
          rintro e w3 ⟨rfl, h3, b3⟩
          have E3 : Hid (Below wr.heap.size wr w3) := Lib.hid (E2.out.trans b3)
          have CL := load_any h3
          obtain ⟨m, hm⟩ : ∃ m, loadM a b = m := ⟨_, rfl⟩
          rw [TW.out.2.2.2.1, TW.out.2.2.2.2, hm, show msV m = .agg #[.int .i64 m.gen, .int .i64 m.inc, .int .i64 m.first, .int .i64 m.lsn, .int .i64 m.chk] from rfl] at CL
          obtain ⟨x, hx⟩ : ∃ x, lostE m = x := ⟨_, rfl⟩
          rw [hx] at CL
          have CL := Lib.hid CL
          have HM := Lib.hid hm
          have HX := Lib.hid hx
          clear h3 b3 CV E2 hm hx
          go_wp2_with fail
          refine CL.out.mono ?_
          rintro e w4 ⟨rfl, b4⟩
          obtain ⟨W4, hW4⟩ : ∃ W4, W4 = w4.alloc (.cells #[.int .i64 m.gen, .int .i64 m.inc, .int .i64 m.first, .int .i64 m.lsn, .int .i64 m.chk] 23) := ⟨_, rfl⟩
          have N4 : Hid (Bk W4 w4.heap.size 23 #[.int .i64 m.gen, .int .i64 m.inc, .int .i64 m.first, .int .i64 m.lsn, .int .i64 m.chk]) := Lib.hid (by rw [hW4]; exact Bk.new _ _ _)
          have E4 : Hid (Below wr.heap.size wr W4) := Lib.hid (by rw [hW4]; exact (E3.out.trans (b4.mono E3.out.size)).alloc (Nat.le_trans E3.out.size b4.size) _)
          have CR := rload_any B 256 d a C 256 f b W4 (HA.out.below E4.out) (HB.out.below E4.out)
          rw [HM.out, HX.out, show msV m = .agg #[.int .i64 m.gen, .int .i64 m.inc, .int .i64 m.first, .int .i64 m.lsn, .int .i64 m.chk] from rfl] at CR
          have CR := Lib.hid CR
          have HW4 := Lib.hid hW4
          obtain ⟨p, hp⟩ : ∃ p, w4.heap.size = p := ⟨_, rfl⟩
          rw [hp] at N4
          have HP := Lib.hid hp
          clear b4 CL hW4 hp E3
          go_wp2_with fail
          rw [← HW4.out, HP.out]
          refine CR.out.mono ?_
          rintro e w5 ⟨rfl, b5⟩
          obtain ⟨W5, hW5⟩ : ∃ W5, W5 = w5.alloc (.cells #[.int .i64 m.gen, .int .i64 m.inc, .int .i64 m.first, .int .i64 m.lsn, .int .i64 m.chk] 23) := ⟨_, rfl⟩
          have bb5 : Below w5.heap.size w5 W5 := by rw [hW5]; exact (Below.refl _ _).alloc (Nat.le_refl _) _
          have N5 : Hid (Bk W5 p 23 #[.int .i64 m.gen, .int .i64 m.inc, .int .i64 m.first, .int .i64 m.lsn, .int .i64 m.chk]) := Lib.hid ((N4.out.later b5).later bb5)
          have M5 : Hid (Bk W5 w5.heap.size 23 #[.int .i64 m.gen, .int .i64 m.inc, .int .i64 m.first, .int .i64 m.lsn, .int .i64 m.chk]) := Lib.hid (by rw [hW5]; exact Bk.new _ _ _)
          have E5 : Hid (Below w.heap.size w W5) := Lib.hid (BW.out.trans ((E4.out.trans ((b5.trans (bb5.mono b5.size)).mono E4.out.size)).mono BW.out.size))
          have N5L : Hid (Bk (w5.alloc (.cells #[.int .i64 m.gen, .int .i64 m.inc, .int .i64 m.first, .int .i64 m.lsn, .int .i64 m.chk] 23)) p 23 #[.int .i64 m.gen, .int .i64 m.inc, .int .i64 m.first, .int .i64 m.lsn, .int .i64 m.chk]) := Lib.hid (by rw [← hW5]; exact N5.out)
          have M5L : Hid (Bk (w5.alloc (.cells #[.int .i64 m.gen, .int .i64 m.inc, .int .i64 m.first, .int .i64 m.lsn, .int .i64 m.chk] 23)) w5.heap.size 23 #[.int .i64 m.gen, .int .i64 m.inc, .int .i64 m.first, .int .i64 m.lsn, .int .i64 m.chk]) := Lib.hid (by rw [← hW5]; exact M5.out)
          have HW5 := Lib.hid hW5
          clear b5 bb5 CR hW5 N4 E4 HW4 HP
          go_wp2_with (first | (refine wpList_load_row rfl 23 _ rfl p rfl 23 #[.int .i64 m.gen, .int .i64 m.inc, .int .i64 m.first, .int .i64 m.lsn, .int .i64 m.chk] (0, 0) _ N5L.out Try.underlying23 rfl ms_info ?_) | (refine wpList_load_row rfl 23 _ rfl w5.heap.size rfl 23 #[.int .i64 m.gen, .int .i64 m.inc, .int .i64 m.first, .int .i64 m.lsn, .int .i64 m.chk] (0, 0) _ M5L.out Try.underlying23 rfl ms_info ?_))
          rw [← HW5.out]
          refine (awakeM_any _).mono ?_
          rintro e w6 ⟨rfl, b6⟩
          have B6 : Hid (Below w.heap.size w w6) := Lib.hid (E5.out.trans (b6.mono E5.out.size))
          clear b6
          go_wp2_with fail
          go_ret
          exact ⟨rfl, B6.out⟩
end Go.Proofs.Ytjieledaiipheaa

/- 'Rows.MasterLoadsSaid': for every input trothlaw06.MasterLoads answers true, and what came in reads behind the call as before. No condition. -/
namespace Go.Proofs.Ytjieledaiipheaa
open Go.ChangeShapes Go.WideShapes Go.ChangeAt Go.RowKit

set_option maxRecDepth 100000 in
theorem masterLoads_lifted (os : Os) (started : os.Started) (H : Type) (enc : TypeId × Value → H) :
    ReturnsInHanded {} Try.checked os 4 .any (Rows.masterLoadsSpec.pre6 enc Try.prog Try.f4 Rows.masterLoadsRow.domain false) (Rows.masterLoadsSpec.post enc Try.prog Try.f4 false true false false) := by
  refine returnsInHanded_of_change_sized (C := Try.checked) own_knob started (by kernel_rfl) Try.func4
    (ChangeSpec.witness6 (enc := enc) (C := Try.checked) false ⟨#[], #[.slice none 0 0, .slice none 0 0], []⟩ 8 (by kernel_rfl) (by kernel_rfl) (by kernel_rfl) (by kernel_rfl)) ?_
  intro W base args ds gs before hval0 hW _ hsz0 _
  have hsz : (DataW.weightsEach Try.prog (Try.f4.params.toList ++ Rows.masterLoadsSpec.plain.varTypes Try.prog) (ds ++ gs)).all (· ≤ reachBytes) = true := hsz0
  have hval : ∀ (j : Nat) t v, Try.f4.params[j]? = some t → args[j]? = some v → Value.okWide Try.prog W .any base t v := hval0
  have hW' := hW
  obtain ⟨p, q, hA0, hV, rfl, hfz, hnd⟩ := hW
  have hA : DataW.TrodAll enc Try.prog W 0 (fun _ => true) true Try.f4.params.toList args.toList ds p := hA0
  rw [Try.params4] at hA hval hsz
  obtain ⟨v0, vs0, d0, ds0, p0, q0, hargs, rfl, rfl, h0, r0⟩ := trodAll_cons hA
  obtain ⟨v1, vs1, d1, ds1, p1, q1, rfl, rfl, rfl, h1, r1⟩ := trodAll_cons r0
  obtain ⟨rfl, rfl, rfl⟩ := trodAll_nil r1
  obtain rfl : args = #[v0, v1] := by cases args; simp_all
  obtain ⟨rfl, rfl⟩ := trodVars_none hV
  obtain ⟨a0, n0, c0, rfl⟩ := okWide_slice Try.underlying34 (hval 0 34 v0 rfl rfl)
  have k0 := h0
  have lt0 : ∀ x ∈ p0, x.block < W.heap.size := by obtain ⟨m, hm⟩ := k0; exact DataW.trod_lt m _ _ _ hm
  obtain ⟨l0, b0, e0⟩ := open_bytes h0
  have z0 : n0 ≤ 140737488351232 := bytes_reach hsz (j := 0) rfl rfl e0
  obtain ⟨a1, n1, c1, rfl⟩ := okWide_slice Try.underlying34 (hval 1 34 v1 rfl rfl)
  have k1 := h1
  have lt1 : ∀ x ∈ p1, x.block < W.heap.size := by obtain ⟨m, hm⟩ := k1; exact DataW.trod_lt m _ _ _ hm
  obtain ⟨l1, b1, e1⟩ := open_bytes h1
  have z1 : n1 ≤ 140737488351232 := bytes_reach hsz (j := 1) rfl rfl e1
  clear hA0 hval0 hsz0 hsz
  refine (masterLoads_walk a0 n0 c0 l0 a1 n1 c1 l1 W b0 z0 b1 z1).mono fun e W' ⟨he, bel⟩ => ?_
  subst he
  exact ⟨_, rfl, _, _, _, [], _, [], hW', trodAll_mk1 (shut_bool Try.underlying4 _), (trodAll_cons_mk (Below.trod laidOut (by kernel_rfl) (of_decide_eq_true (by kernel_rfl)) k0 bel lt0) (trodAll_cons_mk (Below.trod laidOut (by kernel_rfl) (of_decide_eq_true (by kernel_rfl)) k1 bel lt1) trodAll_mk0)), rfl, bel.frame _, fun h => by cases h⟩

/-- The statement. -/
theorem masterLoads_holds : Rows.MasterLoadsSaid :=
  OpenClaim.holds_of_wide 4 Try.f4 rfl rfl rfl rfl rfl rfl rfl ⟨rfl, rfl, rfl, rfl, rfl⟩ rfl rfl rfl rfl rfl (by kernel_rfl) Try.func4 (by kernel_rfl)
    (of_decide_eq_true (by kernel_rfl)) (by unfold Func.isWrapper; first | (rw [if_pos (by decide +kernel)]; kernel_rfl) | (rw [if_neg (by decide +kernel)]; exact ⟨rfl, rfl⟩))
    (fun os started H enc _ => masterLoads_lifted os started H enc)
#print axioms masterLoads_holds
end Go.Proofs.Ytjieledaiipheaa
