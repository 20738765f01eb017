/- What it says: the document's Next, Wrap and Open (trothref05) answer what the plain mathematics says. -/
import Derived.Test.YtlchikllgmkokabStamp2
namespace Go.Proofs.Ytlchikllgmkokab
open Go.RowKit

set_option maxHeartbeats 2000000 in
theorem rnext_any (A : Option Addr) (n c : Nat) (l : List Int) (w : World) (h : Byt w A n c l) :
    Calls Try.prog 14 #[.slice A n c] w (Same (.tuple #[.int .u8 (nextV l), .int .i64 (nextE l)]) w) := by
  have hl := h.len
  have hcap := h.cap
  have hmax := h.max
  unfold maxLen at hmax
  by_cases hn : n = 256
  · subst hn
    obtain ⟨g, off, rfl, h0, h1⟩ := h.ends
    have ra := h.lt_ 0 (by omega)
    have rb := h.lt_ 255 (by omega)
    have E : Hid (nextV l = nextB (l.getD 0 0) (l.getD 255 0) ∧ nextE l = 0) := Lib.hid ⟨by unfold nextV; rw [if_neg (by omega)]; rfl, by unfold nextE; rw [if_neg (by omega)]⟩
    obtain ⟨a, ha⟩ : ∃ a, l.getD 0 0 = a := ⟨_, rfl⟩
    obtain ⟨b, hb⟩ : ∃ b, l.getD 255 0 = b := ⟨_, rfl⟩
    rw [ha, hb] at E
    rw [ha] at h0 ra
    rw [hb] at h1 rb
    rw [E.out.1, E.out.2]
    clear ha hb h hl E
    by_cases c1 : a ≠ 1 ∧ b ≠ 1
    · have d1 : (a != 1) = true := by simpa using c1.1
      have d2 : (b != 1) = true := by simpa using c1.2
      rw [nextB_one c1]
      clear c1
      go_enter Try.func14, Try.ntmps14
      go_wp2_with fail
      go_ret2
      exact ⟨rfl, rfl⟩
    · have c1' : a = 1 ∨ b = 1 := by omega
      by_cases c2 : a ≠ 2 ∧ b ≠ 2
      · rw [nextB_two c1' c2]
        have d3 : (a != 2) = true := by simpa using c2.1
        have d4 : (b != 2) = true := by simpa using c2.2
        by_cases ca : a = 1
        · have d1 : (a != 1) = false := by simpa using ca
          clear c1 c1' c2 ca
          go_enter Try.func14, Try.ntmps14
          go_wp2_with fail
          go_ret2
          exact ⟨rfl, rfl⟩
        · have d1 : (a != 1) = true := by simpa using ca
          have d2 : (b != 1) = false := by simp; omega
          clear c1 c1' c2 ca
          go_enter Try.func14, Try.ntmps14
          go_wp2_with fail
          go_ret2
          exact ⟨rfl, rfl⟩
      · rw [nextB_three c1' (by omega)]
        by_cases ca : a = 1
        · have d1 : (a != 1) = false := by simpa using ca
          have d3 : (a != 2) = true := by simp; omega
          have d4 : (b != 2) = false := by simp; omega
          clear c1 c1' c2 ca
          go_enter Try.func14, Try.ntmps14
          go_wp2_with fail
          go_ret2
          exact ⟨rfl, rfl⟩
        · have d1 : (a != 1) = true := by simpa using ca
          have d2 : (b != 1) = false := by simp; omega
          have d3 : (a != 2) = false := by simp; omega
          clear c1 c1' c2 ca
          go_enter Try.func14, Try.ntmps14
          go_wp2_with fail
          go_ret2
          exact ⟨rfl, rfl⟩
  · have E : Hid (nextV l = 0 ∧ nextE l = 12) := Lib.hid ⟨by unfold nextV; rw [if_pos (by omega)], by unfold nextE; rw [if_pos (by omega)]⟩
    have hd : ((n : Int) != 256) = true := by simp; omega
    rw [E.out.1, E.out.2]
    clear h hl E
    go_enter Try.func14, Try.ntmps14
    go_wp2_with fail
    go_ret2
    exact ⟨rfl, rfl⟩

set_option maxHeartbeats 4000000 in
theorem ropen_any (A : Option Addr) (n c : Nat) (l : List Int) (w : World) (h : Byt w A n c l) :
    Calls Try.prog 17 #[.slice A n c] w (RetByt2 (openB l) .i64 (openE l) w) := by
  have hl := h.len
  have hcap := h.cap
  have hmax := h.max
  unfold maxLen at hmax
  by_cases hn : n = 256
  · subst hn
    obtain ⟨g, off, rfl, h0, h1⟩ := h.ends
    have ra := h.lt_ 0 (by omega)
    have rb := h.lt_ 255 (by omega)
    have HB := Lib.hid h
    have HR : Hid (rightL l ↔ l.getD 0 0 = l.getD 255 0 ∧ 1 ≤ l.getD 0 0 ∧ l.getD 0 0 ≤ 3) := Lib.hid Iff.rfl
    have HL := Lib.hid hl
    obtain ⟨a, ha⟩ : ∃ a, l.getD 0 0 = a := ⟨_, rfl⟩
    obtain ⟨b, hb⟩ : ∃ b, l.getD 255 0 = b := ⟨_, rfl⟩
    rw [ha, hb] at HR
    rw [ha] at h0 ra
    rw [hb] at h1 rb
    clear ha hb h hl
    by_cases hab : a = b
    · subst hab
      have d1 : (a != a) = false := by simp
      by_cases hs : 1 ≤ a ∧ a ≤ 3
      · have E : Hid (openE l = 0 ∧ openB l = bodyL l) := Lib.hid ⟨openE_right HL.out (HR.out.2 ⟨rfl, hs⟩), openB_right HL.out (HR.out.2 ⟨rfl, hs⟩)⟩
        rw [E.out.1, E.out.2]
        obtain ⟨i0, hi, hz0, hz1, hz2⟩ := info_parts info_u8
        have d2 : decide (a < 1) = false := by simp; omega
        have d3 : decide (3 < a) = false := by simp; omega
        have HBD : Hid (∀ k, Byt (w.drewN k) (some ⟨g, off + 1, none⟩) 254 (c - 1) (bodyL l)) := Lib.hid (fun k => HB.out.body.drewN k)
        have HOW : Hid (∀ k, ((w.drewN k).alloc (.cells #[] 5)).ownsRow w.heap.size 5 1 (.slice (some ⟨w.heap.size, 0, none⟩) 0 0) 0 ([].map (Value.int .u8))) := Lib.hid (fun k => World.ownsRow_made (base := w.heap.size) (e := 5) (size := 1) (w.drewN k) #[] 0 (Nat.le_refl _) (Nat.zero_le _) rfl)
        clear hs E HR HL
        go_enter Try.func17, Try.ntmps17
        go_wp2_with fail
        go_quiet (fail)
        go_wp2_with (at_builtin; refine wpList_append_byt rfl _ _ 22 rfl w.heap.size 5 i0 Try.underlying22 hi hz0 hz1 hz2 _ 0 [] rfl (by exact HOW.out _) (some ⟨g, off + 1, none⟩) 254 (c - 1) (bodyL l) rfl ((HBD.out _).alloc _) (by omega) (by simp) ?_)
        intro A' c' w' h1' h2'
        have R : Hid (Byt w' A' (0 + 254) c' ([] ++ bodyL l) ∧ Below w.heap.size w w') := Lib.hid ⟨Byt.of_own h1' (bodyL_rng HB.out.rng), ((below_drewN (Below.refl w.heap.size w) _).alloc (Nat.le_refl _) _).grown h2' (by simp) (by intro k hk; simp [Value.ownBlock] at hk; omega)⟩
        clear h1' h2' HBD HOW
        go_wp2_with fail
        go_ret2
        exact ⟨_, _, _, rfl, R.out.1, R.out.2⟩
      · have E : Hid (openE l = 50 ∧ openB l = []) := Lib.hid ⟨openE_torn HL.out (fun q => hs (HR.out.1 q).2), openB_bad (by rw [openE_torn HL.out (fun q => hs (HR.out.1 q).2)]; omega)⟩
        rw [E.out.1, E.out.2]
        by_cases h1' : a < 1
        · have d2 : decide (a < 1) = true := by simpa using h1'
          clear hs E HR HL h1'
          go_enter Try.func17, Try.ntmps17
          go_wp2_with fail
          go_quiet (fail)
          go_wp2_with fail
          go_ret2
          exact ⟨none, 0, 0, rfl, Byt.nil _, below_drewN (Below.refl _ _) _⟩
        · have d2 : decide (a < 1) = false := by simp; omega
          have d3 : decide (3 < a) = true := by simp; omega
          clear hs E HR HL h1'
          go_enter Try.func17, Try.ntmps17
          go_wp2_with fail
          go_quiet (fail)
          go_wp2_with fail
          go_ret2
          exact ⟨none, 0, 0, rfl, Byt.nil _, below_drewN (Below.refl _ _) _⟩
    · have d1 : (a != b) = true := by simpa using hab
      have E : Hid (openE l = 50 ∧ openB l = []) := Lib.hid ⟨openE_torn HL.out (fun q => hab (HR.out.1 q).1), openB_bad (by rw [openE_torn HL.out (fun q => hab (HR.out.1 q).1)]; omega)⟩
      rw [E.out.1, E.out.2]
      clear E HR HL
      go_enter Try.func17, Try.ntmps17
      go_wp2_with fail
      go_quiet (fail)
      go_wp2_with fail
      go_ret2
      exact ⟨none, 0, 0, rfl, Byt.nil _, below_drewN (Below.refl _ _) _⟩
  · have E : Hid (openE l = 12 ∧ openB l = []) := Lib.hid ⟨openE_len (by omega), openB_bad (by rw [openE_len (by omega)]; omega)⟩
    have hd : ((n : Int) != 256) = true := by simp; omega
    rw [E.out.1, E.out.2]
    clear h hl E
    go_enter Try.func17, Try.ntmps17
    go_wp2_with fail
    go_ret2
    exact ⟨none, 0, 0, rfl, Byt.nil _, Below.refl _ _⟩

/-- What refWrap gathers: k bytes. -/
def gathL (m : Int) (p : List Int) (k : Nat) : List Int := m :: (p ++ List.replicate (k - 1 - p.length) 0)
theorem gathL_rng {m : Int} {p : List Int} (hm : 0 ≤ m ∧ m < 256) (hp : ∀ x ∈ p, 0 ≤ x ∧ x < 256) (k : Nat) : ∀ x ∈ gathL m p k, 0 ≤ x ∧ x < 256 := by
  intro x hx
  rcases List.mem_cons.1 hx with q | q
  · rw [q]; exact hm
  · rcases List.mem_append.1 q with q | q
    · exact hp x q
    · obtain ⟨_, rfl⟩ := List.mem_replicate.1 q
      omega
theorem gathL_next {m : Int} {p : List Int} {k : Nat} (h : 1 + p.length ≤ k) : gathL m p k ++ [0] = gathL m p (k + 1) := by
  unfold gathL
  rw [show k + 1 - 1 - p.length = (k - 1 - p.length) + 1 from by omega, List.replicate_succ']
  simp
theorem gathL_full {m : Int} {p : List Int} (h : p.length ≤ 254) : gathL m p 255 ++ [m] = wrapL m p := by
  unfold gathL wrapL padL
  simp

theorem byt_one (W : World) (x : Int) (hx : 0 ≤ x ∧ x < 256) : Byt (W.alloc (.cells #[.int .u8 x] 5)) (some ⟨W.heap.size, 0, none⟩) 1 1 [x] :=
  Byt.lit W 5 [x] 1 rfl (by unfold maxLen; omega) (fun y hy => by simp at hy; rw [hy]; exact hx)

set_option maxRecDepth 100000 in
set_option maxHeartbeats 4000000 in
theorem rwrap_any (m : Int) (hm : 0 ≤ m ∧ m < 256) (A : Option Addr) (n c : Nat) (p : List Int) (w : World) (h : Byt w A n c p) :
    Calls Try.prog 12 #[.int .u8 m, .slice A n c] w (RetByt2 (wrapB m p) .i64 (wrapE m p) w) := by
  have hcap := h.cap
  have hmax := h.max
  unfold maxLen at hmax
  have hpl := h.len
  by_cases h1 : m < 1
  · have E : Hid (wrapE m p = 1 ∧ wrapB m p = []) := Lib.hid ⟨wrapE_arg (.inl h1), wrapB_bad (by rw [wrapE_arg (.inl h1)]; omega)⟩
    rw [E.out.1, E.out.2]
    clear h E
    go_enter Try.func12, Try.ntmps12
    go_wp2_with fail
    go_ret2
    exact ⟨none, 0, 0, rfl, Byt.nil _, Below.refl _ _⟩
  · by_cases h3 : 3 < m
    · have E : Hid (wrapE m p = 1 ∧ wrapB m p = []) := Lib.hid ⟨wrapE_arg (.inr h3), wrapB_bad (by rw [wrapE_arg (.inr h3)]; omega)⟩
      rw [E.out.1, E.out.2]
      clear h E
      go_enter Try.func12, Try.ntmps12
      go_wp2_with fail
      go_ret2
      exact ⟨none, 0, 0, rfl, Byt.nil _, Below.refl _ _⟩
    · have hc1 : ¬ (m < 1 ∨ 3 < m) := by omega
      by_cases h2 : 254 < n
      · have E : Hid (wrapE m p = 12 ∧ wrapB m p = []) := Lib.hid ⟨wrapE_long hc1 (by omega), wrapB_bad (by rw [wrapE_long hc1 (by omega)]; omega)⟩
        rw [E.out.1, E.out.2]
        clear h E hc1
        go_enter Try.func12, Try.ntmps12
        go_wp2_with fail
        go_ret2
        exact ⟨none, 0, 0, rfl, Byt.nil _, Below.refl _ _⟩
      · have E : Hid (wrapE m p = 0 ∧ wrapB m p = wrapL m p) := Lib.hid ⟨wrapE_ok hc1 (by omega), wrapB_ok hc1 (by omega)⟩
        rw [E.out.1, E.out.2]
        obtain ⟨i0, hi, hz0, hz1, hz2⟩ := info_parts info_u8
        have hown0 := own_one w w.heap.size 5 m (Nat.le_refl _)
        have hB0 : Below w.heap.size w (w.alloc (.cells #[.int .u8 m] 5)) := (Below.refl _ _).alloc (Nat.le_refl _) _
        have HP := Lib.hid h
        have HPL := Lib.hid hpl
        clear h E hc1 hpl
        go_enter Try.func12, Try.ntmps12
        go_wp2_with (at_builtin; refine wpList_append_byt rfl _ _ 22 rfl w.heap.size 5 i0 Try.underlying22 hi hz0 hz1 hz2 _ 1 [m] rfl (by exact hown0) A n c p rfl (HP.out.below hB0) (by omega) (by simp) ?_)
        intro A' c' w' h1' h2'
        have R0 : Hid (w'.ownsRow w.heap.size 5 1 (.slice A' (1 + n) c') (1 + n) ((gathL m p (1 + n)).map (Value.int .u8)) ∧ Below w.heap.size w w') := Lib.hid ⟨by
          have e : gathL m p (1 + n) = [m] ++ p := by unfold gathL; rw [HPL.out, show 1 + n - 1 - n = 0 from by omega]; simp
          rw [e]; exact h1', hB0.grown h2' (by simp) (by intro k hk; simp [Value.ownBlock] at hk; omega)⟩
        clear h1' h2' hown0 hB0
        go_wp2_with fail
        go_loopw [6] (fun v wr => ∃ (B : Option Addr) (k d : Nat), 1 + n ≤ k ∧ k ≤ 255 ∧ v = .slice B k d ∧ wr.ownsRow w.heap.size 5 1 (.slice B k d) k ((gathL m p k).map (Value.int .u8)) ∧ Below w.heap.size w wr) (fun v _ => 255 - (match v with | .slice _ k _ => k | _ => 0))
        case atStart => exact ⟨A', 1 + n, c', Nat.le_refl _, by omega, rfl, R0.out⟩
        case round =>
          obtain ⟨B, k, d, hk1, hk2, rfl, ho, hb⟩ := hrel
          have HO := Lib.hid ho
          have HB := Lib.hid hb
          have HK1 := Lib.hid hk1
          clear ho hb hk1
          by_cases hlt : k < 255
          · have ho2 := HO.out.alloc (.cells #[.int .u8 0] 5)
            have hb2 := byt_one wr 0 (by omega)
            go_wp2_with (at_builtin; refine wpList_append_byt rfl _ _ 22 rfl w.heap.size 5 i0 Try.underlying22 hi hz0 hz1 hz2 _ k (gathL m p k) rfl (by exact ho2) _ 1 1 [0] rfl (by exact hb2) (by omega) (by have := HB.out.size; simp; omega) ?_)
            intro A2 c2 w2 h1' h2'
            have R : Hid (w2.ownsRow w.heap.size 5 1 (.slice A2 (k + 1) c2) (k + 1) ((gathL m p (k + 1)).map (Value.int .u8)) ∧ Below w.heap.size w w2) := Lib.hid ⟨by
              rw [← gathL_next (by have := HK1.out; rw [HPL.out]; omega), List.map_append]; exact h1', (HB.out.alloc HB.out.size _).grown h2' (by have := HB.out.size; simp; omega) (fun q hq => (HO.out.lt q hq).1)⟩
            clear h1' h2' ho2 hb2
            go_wp2_with fail
            go_roundw
            case rel => exact ⟨A2, k + 1, c2, by have := HK1.out; omega, by omega, rfl, R.out⟩
            case measure => simp; omega
          · obtain rfl : k = 255 := by omega
            have ho2 := HO.out.alloc (.cells #[.int .u8 m] 5)
            have hb2 := byt_one wr m hm
            go_wp2_with (at_builtin; refine wpList_append_byt rfl _ _ 22 rfl w.heap.size 5 i0 Try.underlying22 hi hz0 hz1 hz2 _ 255 (gathL m p 255) rfl (by exact ho2) _ 1 1 [m] rfl (by exact hb2) (by omega) (by have := HB.out.size; simp; omega) ?_)
            intro A2 c2 w2 h1' h2'
            have R : Hid (Byt w2 A2 (255 + 1) c2 (wrapL m p) ∧ Below w.heap.size w w2) := Lib.hid ⟨by
              rw [← gathL_full (by rw [HPL.out]; omega)]; exact app_byt h1' (gathL_rng hm HP.out.rng 255) (fun y hy => by simp at hy; rw [hy]; exact hm), (HB.out.alloc HB.out.size _).grown h2' (by have := HB.out.size; simp; omega) (fun q hq => (HO.out.lt q hq).1)⟩
            clear h1' h2' ho2 hb2
            go_wp2_with fail
            go_ret2
            exact ⟨_, _, _, rfl, R.out.1, R.out.2⟩
end Go.Proofs.Ytlchikllgmkokab
