/- What it says: seal.Open answers the body at the beginning of bytes, how many bytes it has with its sum, or the first error. -/
import Derived.Test.YtlnhillpghjknaaDoorFirst
import Derived.Test.YtlnhillpghjknaaDoorBytes
import Derived.Deep.QuietTactic
import Derived.BigQuiet
import Derived.RegionTactic
import Derived.BigRegion
import Derived.Deep.RegionHeld3
namespace Go.Proofs.YtlnhillpghjknaaDoor
open Go.RowKit

theorem textF_ok {l : List Int} (hr : ∀ x ∈ l, 0 ≤ x ∧ x < 256) {most : Int} (h : (textF l most).2.2 = 0) :
    (textF l most).2.1 ≤ l.length ∧ l.take (textF l most).2.1 = textL (textF l most).1 ∧ ((textF l most).1.length : Int) ≤ most := by
  unfold textF at h ⊢
  split at h
  · rename_i h0; exact absurd h h0
  · rename_i h0
    split at h
    · simp at h
    · rename_i h1
      rw [if_neg h0, if_neg h1]
      obtain ⟨hx, hk, hs⟩ := numF_ok hr (l := l) (most := most) (by omega)
      have hl : ((l.drop (numF l most).2.1).take (numF l most).1).length = (numF l most).1 := by rw [List.length_take, List.length_drop]; omega
      refine ⟨by simp only; omega, ?_, by simp only; rw [hl]; exact hx⟩
      simp only
      unfold textL
      rw [hl, hs, List.take_add]

/-- What Open answers. -/
def openF (l : List Int) : List Int × Nat × Nat :=
  if (textF l 4096).2.2 ≠ 0 then ([], 0, (textF l 4096).2.2) else if l.length - (textF l 4096).2.1 < 4 then ([], 0, 10) else
    if (l.drop (textF l 4096).2.1).take 4 = sumL (l.take (textF l 4096).2.1) then ((textF l 4096).1, (textF l 4096).2.1 + 4, 0) else ([], 0, 30)

theorem triple {α β γ : Type} {a a' : α} {b b' : β} {c c' : γ} (h : (a, b, c) = (a', b', c')) : a = a' ∧ b = b' ∧ c = c' := by
  injection h with e1 e2
  injection e2 with e2 e3
  exact ⟨e1, e2, e3⟩

/-- A row of the call's own, a number and an error. -/
def Ret3O (l : List Int) (u e0 : Nat) (w : World) (e : Ending) (w' : World) : Prop :=
  ∃ A n c, e = .returned (.tuple #[.slice A n c, .int .i64 u, .int .i64 e0]) ∧ w'.ownsRow w.heap.size 5 1 (.slice A n c) n (l.map (Value.int .u8)) ∧ (∀ x ∈ l, 0 ≤ x ∧ x < 256) ∧ Below w.heap.size w w'

theorem Ret3O.nil {w w' : World} (u e0 : Nat) (hb : Below w.heap.size w w') : Ret3O [] u e0 w (.returned (.tuple #[.slice none 0 0, .int .i64 u, .int .i64 e0])) w' := ⟨none, 0, 0, rfl, World.ownsRow_nil _ _ _ _, by simp, hb⟩

theorem own_base {w : World} {b b' n : Nat} {v : Value} {xs : List Value} (h : w.ownsRow b 5 1 v n xs) (hb : b' ≤ b) : w.ownsRow b' 5 1 v n xs := by
  refine ⟨h.1, ?_⟩
  rcases h.2 with h | ⟨g, cap, cur, h1, h2, h3⟩
  · exact .inl h
  · exact .inr ⟨g, cap, cur, h1, Nat.le_trans hb h2, h3⟩

set_option maxHeartbeats 2000000 in
theorem open_own (A : Option Addr) (n c : Nat) (l : List Int) (w : World) (h : Byt w A n c l) (hn : n ≤ 140737488351232) (hT : Tab w) (b : List Int) (u e : Nat) (hF : openF l = (b, u, e)) :
    Calls Tryd.prog 33 #[.slice A n c] w (Ret3O b u e w) := by
  obtain ⟨b0, u0, e0, ht⟩ : ∃ b u e, textF l 4096 = (b, u, e) := ⟨_, _, _, rfl⟩
  have hok := fun e => textF_ok h.rng (most := 4096) e
  rw [ht] at hok
  have C := Lib.hid (firstText_any A n c l 4096 w h (by omega) b0 u0 e0 ht)
  have hF' : (if e0 ≠ 0 then ([], 0, e0) else if l.length - u0 < 4 then ([], 0, 10) else if (l.drop u0).take 4 = sumL (l.take u0) then (b0, u0 + 4, 0) else ([], 0, 30)) = (b, u, e) := by
    rw [← hF]; unfold openF; rw [ht]
  have hlen := h.len
  have hcap := h.cap
  have hmax := h.max
  unfold maxLen at hmax
  clear ht hF
  by_cases h0 : e0 = 0
  · subst h0
    obtain ⟨hu, hbt, hb4⟩ := hok rfl
    simp only at hu hb4
    clear hbt
    rw [if_neg (by simp)] at hF'
    clear hok
    have hun : u0 ≤ n := by omega
    obtain ⟨B1, d1, hs1, hb1⟩ := cut_h h u0 hun (u0 : Int) rfl
    obtain ⟨B2, m2, d2, hs2, hm2, hb2⟩ := cut_l h u0 hun (u0 : Int) rfl
    have HB := Lib.hid h
    have HB1 := Lib.hid hb1
    by_cases h2 : m2 < 4
    · rw [if_pos (by omega)] at hF'
      obtain ⟨rfl, rfl, rfl⟩ := triple hF'
      clear h hb1 hb2 hm2 hun
      have h4 : (m2 : Int) < 4 := by omega
      go_enter Tryd.func33, Tryd.ntmps33
      go_wp2_with fail
      refine C.out.mono ?_
      rintro e w1 ⟨A1, n1, c1, rfl, hbb, bel1⟩
      have L1 := Lib.hid bel1
      clear hbb bel1
      go_wp2_with fail
      go_quiet (fail)
      go_wp2_with fail
      go_ret3
      exact Ret3O.nil _ _ (below_drewN L1.out _)
    · rw [if_neg (by omega)] at hF'
      obtain ⟨B3, d3, hs3, hb3⟩ := cut_h hb2 4 (by omega) (4 : Int) rfl
      have HB3 := Lib.hid hb3
      have h4 : ¬ (m2 : Int) < 4 := by omega
      have HT := Lib.hid hT
      have hb4' : b0.length ≤ 4096 := by omega
      have HB4 := Lib.hid hb4'
      clear h hb1 hb2 hb3 hm2 h2 hT hb4 hb4'
      by_cases hq : (l.drop u0).take 4 = sumL (l.take u0)
      · rw [if_pos hq] at hF'
        have HQ := Lib.hid hq
        obtain ⟨rfl, rfl, rfl⟩ := triple hF'
        clear hF' hq
        go_enter Tryd.func33, Tryd.ntmps33
        go_wp2_with fail
        refine C.out.mono ?_
        rintro e w1 ⟨A1, n1, c1, rfl, hbb, bel1⟩
        have L1 := Lib.hid bel1
        have HBB := Lib.hid hbb
        clear hbb bel1
        go_wp2_with fail
        go_quiet (fail)
        go_wp2_with fail
        have LD := Lib.hid (Below.drew (below_drewN L1.out nq))
        have HBD := Lib.hid ((HBB.out.drewN nq).drew)
        clear L1 HBB
        go_region_held3 (fun w' => True) (trivial) (first | (go_at_call 54; refine (sumOf_any _ _ _ _ _ (HB1.out.below LD.out) (HT.out.ret LD.out)).mono ?_; rintro e w2 ⟨A2, n2, c2, rfl, hb2, b2⟩) | (go_at_call 56; refine (equal_yes _ _ _ _ _ _ _ _ _ (HB3.out.below (Below.then LD.out b2)) hb2 HQ.out).mono ?_; rintro e w3 ⟨rfl, rfl⟩))
        have C2 := Lib.hid (clone_all_own A1 n1 c1 b0 w2 (HBD.out.below b2) (by have := HBD.out.len; have := HB4.out; omega))
        have L2 := Lib.hid (Below.then LD.out b2)
        clear hb2 b2 LD HBD
        go_wp2_with fail
        refine C2.out.mono ?_
        rintro e w3 ⟨A3, n3, c3, rfl, ho3, hr3, b3⟩
        have HO3 := Lib.hid (own_base ho3 L2.out.size)
        have HR3 := Lib.hid hr3
        have L3 := Lib.hid (Below.then L2.out b3)
        clear ho3 hr3 b3
        go_wp2_with fail
        go_ret3
        exact ⟨A3, n3, c3, rfl, HO3.out, HR3.out, L3.out⟩
      · rw [if_neg hq] at hF'
        have HQ := Lib.hid hq
        obtain ⟨rfl, rfl, rfl⟩ := triple hF'
        clear hF' hq
        go_enter Tryd.func33, Tryd.ntmps33
        go_wp2_with fail
        refine C.out.mono ?_
        rintro e w1 ⟨A1, n1, c1, rfl, hbb, bel1⟩
        have L1 := Lib.hid bel1
        have HBB := Lib.hid hbb
        clear hbb bel1
        go_wp2_with fail
        go_quiet (fail)
        go_wp2_with fail
        have LD := Lib.hid (Below.drew (below_drewN L1.out nq))
        have HBD := Lib.hid ((HBB.out.drewN nq).drew)
        clear L1 HBB
        go_region_held3 (fun w' => True) (trivial) (first | (go_at_call 54; refine (sumOf_any _ _ _ _ _ (HB1.out.below LD.out) (HT.out.ret LD.out)).mono ?_; rintro e w2 ⟨A2, n2, c2, rfl, hb2, b2⟩) | (go_at_call 56; refine (equal_no _ _ _ _ _ _ _ _ _ (HB3.out.below (Below.then LD.out b2)) hb2 HQ.out).mono ?_; rintro e w3 ⟨rfl, rfl⟩))
        have L2 := Lib.hid (Below.then LD.out b2)
        clear hb2 b2 LD HBD
        go_wp2_with fail
        go_ret3
        exact Ret3O.nil _ _ L2.out
  · rw [if_pos h0] at hF'
    obtain ⟨rfl, rfl, rfl⟩ := triple hF'
    have hne : ((e0 : Int) != 0) = true := by simp; omega
    clear h0 hok h hT
    go_enter Tryd.func33, Tryd.ntmps33
    go_wp2_with fail
    refine C.out.mono ?_
    rintro e w1 ⟨A1, n1, c1, rfl, hbb, bel1⟩
    have L1 := Lib.hid bel1
    clear hbb bel1
    go_wp2_with fail
    go_ret3
    exact Ret3O.nil _ _ L1.out

theorem open_any (A : Option Addr) (n c : Nat) (l : List Int) (w : World) (h : Byt w A n c l) (hn : n ≤ 140737488351232) (hT : Tab w) (b : List Int) (u e : Nat) (hF : openF l = (b, u, e)) :
    Calls Tryd.prog 33 #[.slice A n c] w (Ret3 b u e w) :=
  (open_own A n c l w h hn hT b u e hF).mono fun _ _ ⟨A', n', c', he, ho, hr, hb⟩ => ⟨A', n', c', he, Byt.of_own ho hr, hb⟩
end Go.Proofs.YtlnhillpghjknaaDoor
