/- What it says: the statements' long() tells whether there is more than is played. -/
import Derived.Test.YtlchikllgmkokaaCalls
namespace Go.Proofs.Ytlchikllgmkokaa
open Go.RowKit

/-- Is there more than is played? -/
def longC (cs : List Cal) : Bool := decide (60 < cs.length) || cs.any fun x => decide (300 < x.dn) || decide (60 < x.kn)

theorem getD_mem {cs : List Cal} {i : Nat} (hi : i < cs.length) : cs.getD i default ∈ cs := by
  have e : cs.getD i default = cs[i] := by simp [List.getD, List.getElem?_eq_getElem hi]
  rw [e]
  exact List.getElem_mem hi

theorem longC_no {cs : List Cal} (h : longC cs = false) : cs.length ≤ 60 ∧ ∀ i, i < cs.length → (cs.getD i default).dn ≤ 300 ∧ (cs.getD i default).kn ≤ 60 := by
  unfold longC at h
  simp only [Bool.or_eq_false_iff, decide_eq_false_iff_not, List.any_eq_false, Bool.not_eq_true, Nat.not_lt] at h
  refine ⟨h.1, fun i hi => ?_⟩
  have := h.2 _ (getD_mem hi)
  simpa using this

theorem longC_yes {cs : List Cal} {i : Nat} (hi : i < cs.length) (h : 300 < (cs.getD i default).dn ∨ 60 < (cs.getD i default).kn) : longC cs = true := by
  unfold longC
  simp only [Bool.or_eq_true, List.any_eq_true, decide_eq_true_eq]
  exact .inr ⟨_, getD_mem hi, h⟩

set_option maxHeartbeats 1000000 in
theorem long_any (A : Option Addr) (n c : Nat) (cs : List Cal) (w : World) (h : Cls w A n c cs) :
    Calls Try.prog 9 #[.slice A n c] w (fun e w' => e = .returned (.bool (longC cs)) ∧ w = w') := by
  have hlen := h.len
  have hcap := h.cap
  have hmax := h.max
  unfold maxLen at hmax
  by_cases h60 : (60 : Int) < (n : Int)
  · have hl : longC cs = true := by unfold longC; simp; left; omega
    rw [hl]
    clear h hl
    go_enter Try.func9, Try.ntmps9
    go_wp2_with fail
    go_ret
    exact ⟨rfl, rfl⟩
  · have HX := Lib.hid h
    have HLN := Lib.hid hlen
    clear h hlen
    go_enter Try.func9, Try.ntmps9
    go_wp2_with fail
    go_loop [3] (fun q => ∃ i : Nat, i ≤ n ∧ q = .int .i64 i ∧ ∀ j, j < i → (cs.getD j default).dn ≤ 300 ∧ (cs.getD j default).kn ≤ 60) (fun q => n - (intOf q).toNat)
    case atStart => exact ⟨0, Nat.zero_le _, rfl, fun j hj => absurd hj (by omega)⟩
    case round =>
      obtain ⟨i, hin, rfl, hall⟩ := hrel
      have HA := Lib.hid hall
      clear hall
      by_cases hlt : i < n
      · obtain ⟨g, off, rfl, hc⟩ := HX.out.at_ (by omega)
        have hx3 : w.cell? ⟨g, off + i * 7 + 3, none⟩ = some (.slice (cs.getD i default).dA (cs.getD i default).dn (cs.getD i default).dc) := hc i hlt 3 _ rfl
        have hx4 : w.cell? ⟨g, off + i * 7 + 4, none⟩ = some (.slice (cs.getD i default).kA (cs.getD i default).kn (cs.getD i default).kc) := hc i hlt 4 _ rfl
        have HI : Hid (i < cs.length) := Lib.hid (by rw [HLN.out]; exact hlt)
        have HL := Lib.hid (longC_yes (cs := cs) (i := i) HI.out)
        clear hc
        obtain ⟨x, ex⟩ : ∃ x, cs.getD i default = x := ⟨_, rfl⟩
        rw [ex] at hx3 hx4 HL
        have EX := Lib.hid ex
        clear ex
        by_cases h3 : (300 : Int) < (x.dn : Int)
        · have hl := Lib.hid (HL.out (.inl (by omega)))
          have hd : decide ((300 : Int) < (x.dn : Int)) = true := by simpa using h3
          go_wp2_with fail
          go_ret
          exact ⟨by rw [hl.out]; rfl, rfl⟩
        · have hd : decide ((300 : Int) < (x.dn : Int)) = false := by simpa using h3
          by_cases h4 : (60 : Int) < (x.kn : Int)
          · have hl := Lib.hid (HL.out (.inr (by omega)))
            go_wp2_with fail
            go_ret
            exact ⟨by rw [hl.out]; rfl, rfl⟩
          · have HN : Hid (∀ j, j < i + 1 → (cs.getD j default).dn ≤ 300 ∧ (cs.getD j default).kn ≤ 60) := Lib.hid (fun j hj => by
              by_cases he : j < i
              · exact HA.out j he
              · obtain rfl : j = i := by omega
                rw [EX.out]; omega)
            go_wp2_with fail
            go_round
            case rel => exact ⟨i + 1, by omega, by go_num, HN.out⟩
            case measure => simp [intOf]; omega
      · have hl : longC cs = false := by
          unfold longC
          simp only [Bool.or_eq_false_iff, decide_eq_false_iff_not, List.any_eq_false, Bool.not_eq_true, Nat.not_lt]
          refine ⟨by rw [HLN.out]; omega, fun x hx => ?_⟩
          obtain ⟨j, hj, rfl⟩ := List.getElem_of_mem hx
          have hjn : j < n := by rw [← HLN.out]; exact hj
          have := HA.out j (by omega)
          simpa [List.getD, List.getElem?_eq_getElem hj] using this
        have HL := Lib.hid hl
        clear hl
        go_wp2_with fail
        go_ret
        exact ⟨by rw [HL.out]; rfl, rfl⟩
end Go.Proofs.Ytlchikllgmkokaa
