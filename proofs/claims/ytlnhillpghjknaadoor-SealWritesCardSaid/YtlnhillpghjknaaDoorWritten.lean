/- What it says: the statements' written() hands back the bytes of its parts, in new memory. -/
import Derived.Test.YtlnhillpghjknaaDoorParts
import Derived.Test.YtlnhillpghjknaaDoorBytes
import Derived.Test.YtlnhillpghjknaaDoorSeal
namespace Go.Proofs.YtlnhillpghjknaaDoor
open Go.RowKit

/-- A part's bytes. -/
def partL (x : Prt) : List Int := if x.1 = 0 then numL x.2.1 else if x.1 = 1 then [x.2.1 % 256] else if x.1 = 2 then flagL (decide (0 < x.2.1)) else textL (nums x.2.2)
def partsL (ps : List Prt) : List Int := ps.flatMap partL

theorem partL_rng (x : Prt) : ∀ y ∈ partL x, 0 ≤ y ∧ y < 256 := by
  unfold partL
  split
  · exact numL_rng _
  · split
    · intro y hy; simp at hy; omega
    · split
      · exact flagL_rng _
      · exact textL_rng (nums_rng _)

theorem partL_len (x : Prt) (h1 : x.2.1 ≤ 9223372036854775807) (h2 : x.2.2.size ≤ 300) : (partL x).length ≤ 310 := by
  unfold partL
  split
  · have := numL_len x.2.1 h1; omega
  · split
    · simp
    · split
      · simp [flagL]
      · have := textL_len (nums x.2.2) (by rw [nums_len]; omega)
        rw [nums_len] at this; omega

theorem partL_pos (x : Prt) : 0 < (partL x).length := by
  unfold partL
  split
  · exact shortL_pos _
  · split
    · simp
    · split
      · simp [flagL]
      · have := shortL_pos (nums x.2.2).length
        simp [textL]; omega

theorem partsL_rng (ps : List Prt) : ∀ y ∈ partsL ps, 0 ≤ y ∧ y < 256 := by
  intro y hy
  obtain ⟨x, _, hx⟩ := List.mem_flatMap.1 hy
  exact partL_rng x y hx

theorem partsL_next (ps : List Prt) (i : Nat) (hi : i < ps.length) : partsL (ps.take (i + 1)) = partsL (ps.take i) ++ partL (ps.getD i prt0) := by
  unfold partsL
  rw [List.take_succ_eq_append_getElem hi, List.flatMap_append]
  congr 1
  simp [List.getD, List.getElem?_eq_getElem hi]

theorem partsL_len (ps : List Prt) (h : ∀ i, i < ps.length → (ps.getD i prt0).2.1 ≤ 9223372036854775807 ∧ (ps.getD i prt0).2.2.size ≤ 300) (i : Nat) (hi : i ≤ ps.length) : (partsL (ps.take i)).length ≤ 310 * i := by
  induction i with
  | zero => simp [partsL]
  | succ i ih =>
    rw [partsL_next ps i (by omega), List.length_append]
    have := ih (by omega)
    have := partL_len _ (h i (by omega)).1 (h i (by omega)).2
    omega

theorem partsL_more (ps : List Prt) (i : Nat) (hi : i ≤ ps.length) : i ≤ (partsL (ps.take i)).length := by
  induction i with
  | zero => simp
  | succ i ih =>
    rw [partsL_next ps i (by omega), List.length_append]
    have := ih (by omega)
    have := partL_pos (ps.getD i prt0)
    omega

set_option maxHeartbeats 2000000 in
theorem written_own (A : Option Addr) (n c : Nat) (ps : List Prt) (w : World) (h : Prts w A n c ps) (hl : longP ps = false) :
    Calls Tryd.prog 16 #[.slice A n c] w (RetOwn (partsL ps) w) := by
  have hlen := h.len
  have hcap := h.cap
  have hmax := h.max
  unfold maxLen at hmax
  obtain ⟨h60, h300⟩ := longP_no hl
  have HP := Lib.hid h
  have hrng := h.rng
  have W0 := Lib.hid (Wrt.new w)
  have bel0 : Below w.heap.size w (w.alloc (.cells #[.slice none 0 0] 60)) := (Below.refl _ _).alloc (Nat.le_refl _) _
  have B0 := Lib.hid bel0
  have HLEN := Lib.hid (partsL_len ps (fun i hi => ⟨(hrng i (by omega)).2.1.2, h300 i hi⟩))
  have HNEXT := Lib.hid (partsL_next ps)
  have hn60 : (n : Int) ≤ 60 := by omega
  have H300 := Lib.hid h300
  have HRNG := Lib.hid hrng
  clear h hl bel0 h300 hrng
  go_enter Tryd.func16, Tryd.ntmps16
  go_wp2_with fail
  go_loopw [4] (fun q wr => ∃ i : Nat, i ≤ n ∧ q = .int .i64 i ∧ Wrt wr w.heap.size w.heap.size (partsL (ps.take i)) ∧ Below w.heap.size w wr) (fun q _ => n - (intOf q).toNat)
  case atStart => exact ⟨0, Nat.zero_le _, rfl, W0.out, B0.out⟩
  case round =>
    obtain ⟨i, hin, rfl, hW, hB⟩ := hrel
    have HW := Lib.hid hW
    have HB := Lib.hid hB
    clear hW hB
    by_cases hlt : i < n
    · obtain ⟨g, off, rfl, hc⟩ := (HP.out.below HB.out).at_ (by omega)
      obtain ⟨x0, x1, x2⟩ := hc i hlt
      have hle := HLEN.out i (by omega)
      have hr := HRNG.out i hlt
      have h3 := H300.out i (by omega)
      have hnx := HNEXT.out i (by omega)
      obtain ⟨⟨k, z, s⟩, ex⟩ : ∃ x, ps.getD i prt0 = x := ⟨_, rfl⟩
      rw [ex] at x0 x1 x2 hr h3 hnx
      simp only at x0 x1 x2 hr h3
      obtain ⟨_, hz, _⟩ := hr
      have HZ := Lib.hid hz
      have HX := Lib.hid hnx
      clear hc ex hnx
      by_cases hk0 : k = 0
      · subst hk0
        rw [show partL (0, z, s) = numL z from rfl] at HX
        have C := Lib.hid (wNum_any w.heap.size w.heap.size _ z wr HW.out HZ.out (by omega))
        go_wp2_with fail
        refine C.out.mono ?_
        rintro e w1 ⟨rfl, R, b1⟩
        rw [← HX.out] at R
        have R := Lib.hid R
        have L1 := Lib.hid (HB.out.trans b1)
        clear b1 C
        go_wp2_with fail
        refine ⟨⟨i + 1, by omega, rfl, R.out, L1.out⟩, ?_⟩
        simp [intOf]; omega
      · by_cases hk1 : k = 1
        · subst hk1
          rw [show partL (1, z, s) = [z % 256] from rfl] at HX
          have C := Lib.hid (wByte_any w.heap.size w.heap.size _ (z % 256) wr HW.out (by omega) (by omega))
          go_wp2_with fail
          refine C.out.mono ?_
          rintro e w1 ⟨rfl, R, b1⟩
          rw [← HX.out] at R
          have R := Lib.hid R
          have L1 := Lib.hid (HB.out.trans b1)
          clear b1 C
          go_wp2_with fail
          refine ⟨⟨i + 1, by omega, rfl, R.out, L1.out⟩, ?_⟩
          simp [intOf]; omega
        · by_cases hk2 : k = 2
          · subst hk2
            rw [show partL (2, z, s) = flagL (decide (0 < z)) from rfl] at HX
            have C := Lib.hid (wFlag_any w.heap.size w.heap.size _ (decide (0 < z)) wr HW.out (by omega))
            go_wp2_with fail
            refine C.out.mono ?_
            rintro e w1 ⟨rfl, R, b1⟩
            rw [← HX.out] at R
            have R := Lib.hid R
            have L1 := Lib.hid (HB.out.trans b1)
            clear b1 C
            go_wp2_with fail
            refine ⟨⟨i + 1, by omega, rfl, R.out, L1.out⟩, ?_⟩
            simp [intOf]; omega
          · have q0 : (k == 0) = false := by simp; exact hk0
            have q1 : (k == 1) = false := by simp; exact hk1
            have q2 : (k == 2) = false := by simp; exact hk2
            have hpl : partL (k, z, s) = textL (nums s) := by unfold partL; rw [if_neg hk0, if_neg hk1, if_neg hk2]
            clear hk0 hk1 hk2
            rw [show partL (k, z, s) = textL (nums s) from hpl] at HX
            have C := Lib.hid (wText_any w.heap.size w.heap.size _ s wr HW.out (by omega))
            go_wp2_with fail
            refine C.out.mono ?_
            rintro e w1 ⟨rfl, R, b1⟩
            rw [← HX.out] at R
            have R := Lib.hid R
            have L1 := Lib.hid (HB.out.trans b1)
            clear b1 C
            go_wp2_with fail
            refine ⟨⟨i + 1, by omega, rfl, R.out, L1.out⟩, ?_⟩
            simp [intOf]; omega
    · have hin' : i = n := by omega
      have hle := HLEN.out i (by omega)
      have hall : ps.take i = ps := List.take_of_length_le (by omega)
      have C := wBytes_own w.heap.size w.heap.size _ wr HW.out (by omega)
      rw [hall] at C
      have C := Lib.hid C
      clear hin' hle hall
      go_wp2_with fail
      refine C.out.mono ?_
      intro e w1 hR
      obtain ⟨A1, n1, c1, rfl, R2⟩ := RetOwn.rebase HB.out hR
      have R := Lib.hid R2
      clear C hR R2
      go_wp2_with fail
      go_ret
      exact ⟨A1, n1, c1, rfl, R.out⟩

theorem written_any (A : Option Addr) (n c : Nat) (ps : List Prt) (w : World) (h : Prts w A n c ps) (hl : longP ps = false) :
    Calls Tryd.prog 16 #[.slice A n c] w (RetByt (partsL ps) w) := (written_own A n c ps w h hl).mono fun _ _ h => h.byt
end Go.Proofs.YtlnhillpghjknaaDoor
