/- What it says: seal.Read lays a reader in new memory; Left, Err, End; a nil reader's methods. -/
import Derived.Test.YtlnhillpghjknaaDoorReader
import Derived.Test.YtlnhillpghjknaaDoorBytes
namespace Go.Proofs.YtlnhillpghjknaaDoor
open Go.RowKit

/-- Behind the end: what End makes of a reader's error. -/
def endE (l : List Int) (e : Nat) : Nat := if e = 0 ∧ 0 < l.length then 13 else e

theorem rErr_any (b g : Nat) (l : List Int) (e0 : Nat) (w : World) (h : Rd w 72 b g l e0) :
    Calls Tryd.prog 29 #[.pointer (some ⟨b, 0, none⟩)] w (fun e w' => e = .returned (.int .i64 e0) ∧ w = w') := by
  obtain ⟨A, n, c, _, _, h1, _⟩ := h.byt
  clear h
  go_enter Tryd.func29, Tryd.ntmps29
  go_wp2_with fail
  go_ret
  exact ⟨rfl, rfl⟩

theorem rLeft_any (b g : Nat) (l : List Int) (e0 : Nat) (w : World) (h : Rd w 72 b g l e0) :
    Calls Tryd.prog 30 #[.pointer (some ⟨b, 0, none⟩)] w (fun e w' => e = .returned (.int .i64 l.length) ∧ w = w') := by
  obtain ⟨A, n, c, _, h0, _, hn⟩ := h.byt
  subst hn
  clear h
  go_enter Tryd.func30, Tryd.ntmps30
  go_wp2_with fail
  go_ret
  exact ⟨rfl, rfl⟩

set_option maxHeartbeats 1000000 in
theorem rEnd_any (b g : Nat) (l : List Int) (e0 : Nat) (w : World) (h : Rd w 72 b g l e0) :
    Calls Tryd.prog 27 #[.pointer (some ⟨b, 0, none⟩)] w (RdPost 72 b g l (endE l e0) (.int .i64 (endE l e0)) w) := by
  have hf : w.frozen? ⟨b, 1, none⟩ = false := by obtain ⟨A, n, c, h1, _⟩ := h.ex; exact h1.frz 1
  obtain ⟨A, n, c, _, h0, h1, hn⟩ := h.byt
  have H := Lib.hid h
  have HN := Lib.hid hn
  clear h hn
  by_cases he : e0 = 0
  · subst he
    by_cases hl : 0 < n
    · have hl' : (0 : Int) < (n : Int) := by omega
      have E : Hid (endE l 0 = 13) := Lib.hid (if_pos ⟨rfl, by have := HN.out; omega⟩)
      have R := H.out.fail 0 13
      have R := Lib.hid R
      clear hl
      go_enter Tryd.func27, Tryd.ntmps27
      go_wp2_with fail
      go_ret
      rw [E.out]
      exact ⟨rfl, R.out⟩
    · have hl' : ¬ (0 : Int) < (n : Int) := by omega
      have E : Hid (endE l 0 = 0) := Lib.hid (if_neg (by have := HN.out; omega))
      clear hl
      go_enter Tryd.func27, Tryd.ntmps27
      go_wp2_with fail
      go_ret
      rw [E.out]
      exact ⟨rfl, H.out, grown_drewN w 0 _⟩
  · have hne : ((e0 : Int) == 0) = false := by simp; omega
    have E : Hid (endE l e0 = e0) := Lib.hid (if_neg (by omega))
    clear he
    go_enter Tryd.func27, Tryd.ntmps27
    go_wp2_with fail
    go_ret
    rw [E.out]
    exact ⟨rfl, H.out, grown_drewN w 0 _⟩

/-- A new struct of a slice and a number is a reader. -/
theorem Rd.new {w1 : World} (t : TypeId) {A : Option Addr} {n c : Nat} {l : List Int} (h : Byt w1 A n c l) (h0 : 0 < w1.heap.size) : ∃ g, g < w1.heap.size ∧ Rd (w1.alloc (.cells #[.slice A n c, .int .i64 0] t)) t w1.heap.size g l 0 := by
  by_cases hn : 0 < n
  · obtain ⟨g, off, rfl, hc⟩ := h.at_ hn
    have hg : g < w1.heap.size := World.block_lt_of_cell? w1 _ (hc 0 hn)
    exact ⟨g, hg, by omega, _, n, c, Bk.new _ _ _, h.alloc _, fun _ a ha => by injection ha with ha; rw [← ha]⟩
  · exact ⟨0, h0, by omega, A, n, c, Bk.new _ _ _, h.alloc _, fun h => absurd h hn⟩

set_option maxHeartbeats 1000000 in
theorem read_any (A : Option Addr) (n c : Nat) (l : List Int) (w : World) (h : Byt w A n c l) (hn : n ≤ 140737488355328) (h0 : 0 < w.heap.size) :
    Calls Tryd.prog 17 #[.slice A n c] w (fun e w' => ∃ b g, e = .returned (.pointer (some ⟨b, 0, none⟩)) ∧ w.heap.size ≤ b ∧ g < b ∧ Rd w' 72 b g l 0 ∧ Below w.heap.size w w') := by
  have C := Lib.hid (clone_all A n c l w h hn)
  clear h
  go_enter Tryd.func17, Tryd.ntmps17
  go_wp2_with fail
  refine C.out.mono ?_
  rintro e w1 ⟨A1, n1, c1, rfl, hb, b1⟩
  obtain ⟨g, hg, R⟩ := Rd.new 72 hb (by have := b1.size; omega)
  have R := Lib.hid R
  have G := Lib.hid hg
  have L := Lib.hid b1
  clear hb b1 hg
  go_wp2_with fail
  go_ret
  exact ⟨w1.heap.size, g, rfl, L.out.size, G.out, R.out, L.out.alloc L.out.size _⟩

/-- The same, and that the bytes lie in new memory. -/
theorem read_own (A : Option Addr) (n c : Nat) (l : List Int) (w : World) (h : Byt w A n c l) (hn : n ≤ 140737488355328) (h0 : 0 < l.length) :
    Calls Tryd.prog 17 #[.slice A n c] w (fun e w' => ∃ b g, e = .returned (.pointer (some ⟨b, 0, none⟩)) ∧ w.heap.size ≤ b ∧ w.heap.size ≤ g ∧ g < b ∧ Rd w' 72 b g l 0 ∧ Below w.heap.size w w') := by
  have C := Lib.hid (clone_all_own A n c l w h hn)
  clear h
  go_enter Tryd.func17, Tryd.ntmps17
  go_wp2_with fail
  refine C.out.mono ?_
  rintro e w1 ⟨A1, n1, c1, rfl, ho, hr, b1⟩
  have hb := Byt.of_own ho hr
  have hl1 : n1 = l.length := hb.len.symm
  obtain ⟨g, hg, hgl, R⟩ : ∃ g, w.heap.size ≤ g ∧ g < w1.heap.size ∧ Rd (w1.alloc (.cells #[.slice A1 n1 c1, .int .i64 0] 72)) 72 w1.heap.size g l 0 := by
    obtain ⟨g, off, rfl, hc⟩ := hb.at_ (by omega)
    have hlt := ho.lt g rfl
    exact ⟨g, hlt.1, hlt.2, by omega, _, n1, c1, Bk.new _ _ _, hb.alloc _, fun _ a ha => by injection ha with ha; rw [← ha]⟩
  have R := Lib.hid R
  have G := Lib.hid (And.intro hg hgl)
  have L := Lib.hid b1
  clear ho hr hb b1 hg hgl hl1
  go_wp2_with fail
  go_ret
  exact ⟨w1.heap.size, g, rfl, L.out.size, G.out.1, G.out.2, R.out, L.out.alloc L.out.size _⟩

theorem rNum_nil (most : Int) (w : World) :
    Calls Tryd.prog 19 #[.pointer none, .int .i64 most] w (Ret (.int .i64 0) w) := by
  go_enter Tryd.func19, Tryd.ntmps19
  go_wp2_with fail
  refine (takeInt_nil _ _).mono ?_
  rintro e w1 ⟨rfl, rfl⟩
  go_wp2_with fail
  go_ret
  exact ⟨rfl, (Below.refl _ _).alloc (Nat.le_refl _) _⟩

theorem rText_nil (most : Int) (w : World) :
    Calls Tryd.prog 25 #[.pointer none, .int .i64 most] w (Ret (.string ByteArray.empty) w) := by
  go_enter Tryd.func25, Tryd.ntmps25
  go_wp2_with fail
  refine (takeStr_nil _ _).mono ?_
  rintro e w1 ⟨rfl, rfl⟩
  go_wp2_with fail
  go_ret
  exact ⟨rfl, (Below.refl _ _).alloc (Nat.le_refl _) _⟩

theorem rByte_nil (w : World) :
    Calls Tryd.prog 21 #[.pointer none] w (Ret (.int .u8 0) w) := by
  go_enter Tryd.func21, Tryd.ntmps21
  go_wp2_with fail
  refine (takeByte_nil _).mono ?_
  rintro e w1 ⟨rfl, rfl⟩
  go_wp2_with fail
  go_ret
  exact ⟨rfl, Below.refl _ _⟩

theorem rFlag_nil (w : World) :
    Calls Tryd.prog 23 #[.pointer none] w (Ret (.bool false) w) := by
  go_enter Tryd.func23, Tryd.ntmps23
  go_wp2_with fail
  refine (takeBool_nil _).mono ?_
  rintro e w1 ⟨rfl, rfl⟩
  go_wp2_with fail
  go_ret
  exact ⟨rfl, Below.refl _ _⟩

theorem rLeft_nil (w : World) : Calls Tryd.prog 30 #[.pointer none] w (Ret (.int .i64 0) w) := by
  go_enter Tryd.func30, Tryd.ntmps30
  go_wp2_with fail
  go_ret
  exact ⟨rfl, Below.refl _ _⟩

theorem rErr_nil (w : World) : Calls Tryd.prog 29 #[.pointer none] w (Ret (.int .i64 2) w) := by
  go_enter Tryd.func29, Tryd.ntmps29
  go_wp2_with fail
  go_ret
  exact ⟨rfl, Below.refl _ _⟩

theorem rEnd_nil (w : World) : Calls Tryd.prog 27 #[.pointer none] w (Ret (.int .i64 2) w) := by
  go_enter Tryd.func27, Tryd.ntmps27
  go_wp2_with fail
  go_ret
  exact ⟨rfl, Below.refl _ _⟩
end Go.Proofs.YtlnhillpghjknaaDoor
