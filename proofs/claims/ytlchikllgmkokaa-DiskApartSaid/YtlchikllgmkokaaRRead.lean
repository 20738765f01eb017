/- What it says: the document's Now and Read answer what is there of a sector, in new memory. -/
import Derived.Test.YtlchikllgmkokaaRWrite
import Derived.Test.YtlchikllgmkokaaHasD
namespace Go.Proofs.Ytlchikllgmkokaa
open Go.RowKit

section
variable {w : World} {F : Nat → Prop} {g : Nat} {SA LA : Option Addr} {sc lc : Nat} {sl : List Value} {rl : List (Nat × Value)} {s : St}

theorem Dat.form {v : Value} {l : List Int} (h : Dat w F v l) : ∃ vg vc, v = .slice (some ⟨vg, 0, none⟩) 256 vc ∧ 256 ≤ vc ∧ vc ≤ maxLen := by
  rcases h.1.2 with ⟨_, h0⟩ | ⟨g, cap, cur, rfl, _, _, h1, h2, _⟩
  · omega
  · exact ⟨g, cap, rfl, h1, h2⟩
theorem Dat.byt {A : Option Addr} {c : Nat} {l : List Int} (h : Dat w F (.slice A 256 c) l) (hl : Sec l) : Byt w A 256 c l := Byt.of_own h.1 hl.2

theorem cell_row {w : World} {base e size n : Nat} {g c : Nat} {xs : List Value} (h : w.ownsRow base e size (.slice (some ⟨g, 0, none⟩) n c) n xs) {j : Nat} {u : Value} (hu : xs[j]? = some u) : w.cell? ⟨g, j, none⟩ = some u := by
  have := h.cells (g := g) rfl j u hu
  have hadd : (⟨g, 0, none⟩ : Addr).add j = ⟨g, j, none⟩ := by unfold Addr.add; split <;> simp_all
  rwa [hadd] at this

theorem RfdB.list_at (h : RfdB w F g SA sc LA lc sl rl s) (i : Nat) (hi : i < s.pend.length) :
    ∃ lb vg vc, LA = some ⟨lb, 0, none⟩ ∧ s.pend.length ≤ lc ∧ lc ≤ maxLen ∧ w.cell? ⟨lb, i * 2, none⟩ = some (.int .i64 (s.at_ i).1) ∧ w.cell? ⟨lb, i * 2 + 1, none⟩ = some (.slice (some ⟨vg, 0, none⟩) 256 vc) ∧ Dat w F (.slice (some ⟨vg, 0, none⟩) 256 vc) (s.at_ i).2 := by
  obtain ⟨v, a1, a2⟩ := h.pnd i hi
  obtain ⟨vg, vc, rfl, _, _⟩ := a2.form
  have hr := h.lrow
  rcases hr.2 with ⟨_, h0⟩ | ⟨lb, cap, cur, hv, _, _, h1, h2, _⟩
  · omega
  · injection hv with e1 e2 e3
    subst e1 e3
    obtain ⟨c1, c2⟩ := rlC_at a1
    exact ⟨lb, vg, vc, rfl, h1, h2, cell_row hr c1, cell_row hr c2, a2⟩

theorem RfdB.syn_at (h : RfdB w F g SA sc LA lc sl rl s) (n : Nat) (hn : n < s.num) :
    ∃ sb vg vc, SA = some ⟨sb, 0, none⟩ ∧ s.num ≤ sc ∧ sc ≤ maxLen ∧ w.cell? ⟨sb, n, none⟩ = some (.slice (some ⟨vg, 0, none⟩) 256 vc) ∧ Dat w F (.slice (some ⟨vg, 0, none⟩) 256 vc) (s.syn n) := by
  obtain ⟨v, a1, a2⟩ := h.syn n hn
  obtain ⟨vg, vc, rfl, _, _⟩ := a2.form
  have hr := h.srow
  rcases hr.2 with ⟨_, h0⟩ | ⟨sb, cap, cur, hv, _, _, h1, h2, _⟩
  · omega
  · injection hv with e1 e2 e3
    subst e1 e3
    exact ⟨sb, vg, vc, rfl, h1, h2, cell_row hr a1, a2⟩

theorem RfdB.lcap (h : RfdB w F g SA sc LA lc sl rl s) : s.pend.length ≤ lc ∧ lc ≤ 9223372036854775807 := by
  rcases h.lrow.2 with ⟨hv, h0⟩ | ⟨lb, cap, cur, hv, _, _, h1, h2, _⟩
  · injection hv with _ _ e3; omega
  · injection hv with _ _ e3; unfold maxLen at h2; omega
end

/-- A call hands back a sector's bytes, in new memory. -/
def RetOwnB (l : List Int) (w : World) (e : Ending) (w' : World) : Prop :=
  ∃ A c, e = .returned (.slice A 256 c) ∧ w'.ownsRow w.heap.size 5 1 (.slice A 256 c) 256 (byC l) ∧ Below w.heap.size w w'

theorem ownB_end {w w' : World} {A' : Option Addr} {c' : Nat} {l : List Int}
    (h1 : w'.ownsRow w.heap.size 5 1 (.slice A' 256 c') 256 (l.map (Value.int .u8))) (h2 : (w.alloc (.cells #[] 5)).grownBy w' (Value.ownBlock (.slice (some ⟨w.heap.size, 0, none⟩) 0 0))) :
    RetOwnB l w (.returned (.slice A' 256 c')) w' :=
  ⟨A', c', rfl, h1, ((Below.refl _ _).alloc (Nat.le_refl _) _).grown h2 (by simp) (by intro k hk; simp [Value.ownBlock] at hk; omega)⟩

set_option maxRecDepth 100000 in
set_option maxHeartbeats 2000000 in
theorem rnow_any {w : World} {F : Nat → Prop} {g : Nat} {SA LA : Option Addr} {sc lc : Nat} {sl : List Value} {rl : List (Nat × Value)} {s : St} (h : RfdB w F g SA sc LA lc sl rl s) (n : Nat) (hn : n < s.num) :
    Calls Try.prog 31 #[.pointer (some ⟨g, 0, none⟩), .int .i64 n] w (RetOwnB (s.now n) w) := by
  obtain ⟨i0, hi, hz0, hz1, hz2⟩ := info_parts info_u8r
  have c0 : w.cell? ⟨g, 0, none⟩ = some (.slice SA s.num sc) := h.blk.cell 0
  have c1 : w.cell? ⟨g, 1, none⟩ = some (.slice LA s.pend.length lc) := h.blk.cell 1
  obtain ⟨sb, sg, sv, rfl, hs1, hs2, hsc, hsd⟩ := h.syn_at n hn
  have hpl := h.lim.1
  obtain ⟨hl1, hl2⟩ := h.lcap
  have HL := Lib.hid (fun i hi => h.list_at i hi)
  have HOK := Lib.hid h.ok
  have hn0 : (0 : Int) ≤ (n : Int) := Int.natCast_nonneg _
  have hn1 : (n : Int) < (s.num : Int) := by omega
  have R0 := Lib.hid hsd
  unfold maxLen at hs2
  clear h hsd
  go_enter Try.func31, Try.ntmps31
  go_wp2_with fail
  go_loop [6, 5] (fun q o => ∃ k og oc : Nat, k ≤ s.pend.length ∧ q = .int .i64 k ∧ o = .slice (some ⟨og, 0, none⟩) 256 oc ∧ Dat w F (.slice (some ⟨og, 0, none⟩) 256 oc) (s.upTo k n)) (fun q _ => s.pend.length - (intOf q).toNat)
  case atStart => exact ⟨0, _, _, Nat.zero_le _, rfl, rfl, R0.out⟩
  case round =>
    obtain ⟨k, og, oc, hk, rfl, rfl, hd⟩ := hrel
    by_cases hlt : k < s.pend.length
    · obtain ⟨lb, vg, vc, rfl, _, _, x0, x1, xd⟩ := HL.out k hlt
      have hk0 : (0 : Int) ≤ (k : Int) := Int.natCast_nonneg _
      have hk1 : (k : Int) < (s.pend.length : Int) := by omega
      by_cases he : (s.at_ k).1 = n
      · have HD : Hid (Dat w F (.slice (some ⟨vg, 0, none⟩) 256 vc) (s.upTo (k + 1) n)) := Lib.hid (by
          have : s.upTo (k + 1) n = (s.at_ k).2 := by
            show upd (s.upTo k) (s.at_ k).1 (s.at_ k).2 n = _
            unfold upd
            rw [if_pos he.symm]
          rw [this]; exact xd)
        rw [he] at x0
        clear hd xd he
        go_wp2_with fail
        go_round
        case rel => exact ⟨k + 1, vg, vc, by omega, by go_num, rfl, HD.out⟩
        case measure => simp [intOf]; omega
      · have HD : Hid (Dat w F (.slice (some ⟨og, 0, none⟩) 256 oc) (s.upTo (k + 1) n)) := Lib.hid (by
          have : s.upTo (k + 1) n = s.upTo k n := by
            show upd (s.upTo k) (s.at_ k).1 (s.at_ k).2 n = _
            unfold upd
            rw [if_neg (fun q => he q.symm)]
          rw [this]; exact hd)
        obtain ⟨m, hm⟩ : ∃ m, (s.at_ k).1 = m := ⟨_, rfl⟩
        rw [hm] at x0 he
        have hdd : ((m : Int) == (n : Int)) = false := by simp; omega
        clear hd xd he hm
        go_wp2_with fail
        go_round
        case rel => exact ⟨k + 1, og, oc, by omega, by go_num, rfl, HD.out⟩
        case measure => simp [intOf]; omega
    · obtain rfl : k = s.pend.length := by omega
      have hby : Byt w (some ⟨og, 0, none⟩) 256 oc (s.now n) := Dat.byt hd (HOK.out.now n)
      have hown0 := World.ownsRow_made (base := w.heap.size) (e := 5) (size := 1) w #[] 0 (Nat.le_refl _) (Nat.zero_le _) rfl
      clear hd
      go_wp2_with (at_builtin; refine wpList_append_byt rfl _ _ 32 rfl w.heap.size 5 i0 Try.underlying32 hi hz0 hz1 hz2 _ 0 [] rfl (by exact hown0) (some ⟨og, 0, none⟩) 256 oc (s.now n) rfl (hby.alloc _) (by omega) (by simp) ?_)
      intro A' c' w' h1 h2
      have R := Lib.hid (ownB_end h1 h2)
      clear h1 h2 hby hown0
      go_wp2
      go_ret
      exact R.out

section
variable {w : World} {F : Nat → Prop} {g : Nat} {SA LA : Option Addr} {sc lc : Nat} {sl : List Value} {rl : List (Nat × Value)} {s : St}

theorem RetOwnB.byt {l : List Int} {w w' : World} {A : Option Addr} {c : Nat} (h : w'.ownsRow w.heap.size 5 1 (.slice A 256 c) 256 (byC l)) (hl : Sec l) :
    Byt w' A 256 c l ∧ ∀ q off, A = some ⟨q, off, none⟩ → w.heap.size ≤ q ∧ w'.frozen? ⟨q, off, none⟩ = false := by
  refine ⟨Byt.of_own h hl.2, fun q off e => ?_⟩
  rcases h.2 with ⟨_, h0⟩ | ⟨q', cap, cur, hv, hb, hg, _⟩
  · omega
  · injection hv with e1
    rw [e] at e1
    injection e1 with e1
    injection e1 with e1 e2
    subst e1 e2
    exact ⟨hb, by simp [World.frozen?, hg]⟩

set_option maxHeartbeats 1000000 in
theorem rread_any (h : RfdB w F g SA sc LA lc sl rl s) (n : Int) : Calls Try.prog 19 #[.pointer (some ⟨g, 0, none⟩), .int .i64 n] w (RetRd (s.rBytes n) (s.rErr n) w) := by
  by_cases h1 : n < 0 ∨ (s.num : Int) ≤ n
  · have e1 : s.rErr n = 1 := by unfold St.rErr; rw [if_pos h1]
    have e2 : s.rBytes n = [] := by unfold St.rBytes; rw [e1]; rfl
    rw [e1, e2]
    have C := Lib.hid (ris_bad h n h1)
    clear h h1 e1 e2
    go_enter Try.func19, Try.ntmps19
    go_wp2_with fail
    refine C.out.mono ?_
    rintro e w' ⟨rfl, rfl⟩
    go_wp2_with fail
    go_ret2
    exact ⟨none, 0, 0, rfl, Byt.nil _, (fun _ _ q => nomatch q), Below.refl _ _⟩
  · obtain ⟨j, rfl⟩ := Int.eq_ofNat_of_zero_le (show 0 ≤ n by omega)
    have hj : j < s.num := by omega
    have C := Lib.hid (ris_ok h j hj)
    have c3 : w.cell? ⟨g, 3, none⟩ = some (.bool s.gone) := h.blk.cell 3
    by_cases h2 : s.gone = true
    · have e1 : s.rErr j = 40 := by unfold St.rErr; rw [if_neg h1, if_pos h2]
      have e2 : s.rBytes j = [] := by unfold St.rBytes; rw [e1]; rfl
      rw [e1, e2]
      rw [h2] at c3
      clear h h1 e1 e2 h2
      go_enter Try.func19, Try.ntmps19
      go_wp2_with fail
      refine C.out.mono ?_
      rintro e w' ⟨rfl, rfl⟩
      go_wp2_with fail
      go_ret2
      exact ⟨none, 0, 0, rfl, Byt.nil _, (fun _ _ q => nomatch q), Below.refl _ _⟩
    · have h2' : s.gone = false := by simpa using h2
      have e1 : s.rErr j = 0 := by unfold St.rErr; rw [if_neg h1, if_neg h2]
      have e2 : s.rBytes j = s.now j := by unfold St.rBytes; rw [if_pos e1]; rfl
      rw [e1, e2]
      rw [h2'] at c3
      have C2 := Lib.hid (rnow_any h j hj)
      have HS := Lib.hid (h.ok.now j)
      clear h h1 e1 e2 h2 h2'
      go_enter Try.func19, Try.ntmps19
      go_wp2_with fail
      refine C.out.mono ?_
      rintro e w' ⟨rfl, rfl⟩
      go_wp2_with fail
      refine C2.out.mono ?_
      rintro e w2 ⟨A2, c2, rfl, ho, hb⟩
      have hR := RetOwnB.byt ho HS.out
      have R : Hid (RetRd (s.now j) 0 w (.returned (.tuple #[.slice A2 256 c2, .int .i64 0])) w2) := Lib.hid ⟨A2, 256, c2, rfl, hR.1, hR.2, hb⟩
      clear hR ho hb C2
      go_wp2_with fail
      go_ret2
      exact R.out
end
end Go.Proofs.Ytlchikllgmkokaa
