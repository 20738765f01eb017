/- What it says: the statements' awake() answers true: the document's example. -/
import Derived.Test.YtlchikllgmkokaaHasD
namespace Go.Proofs.Ytlchikllgmkokaa
open Go.RowKit

def aw1 : St := (St.new 2).write 0 (fullL 1)
def aw2 : St := aw1.sync
def aw3 : St := aw2.write 0 (fullL 2)
def awC : Crs := ⟨[], true, 3⟩
theorem aw1_eq : aw1 = (St.new 2).wrote 0 (fullL 1) := by
  unfold aw1 St.write
  rw [if_neg (by decide), if_neg (by rw [(fullL_sec (x := 1) (by omega)).1]; decide), if_pos (by rfl)]
  rfl
theorem aw2_eq : aw2 = aw1.synced := by
  unfold aw2 St.sync
  rw [if_pos (by rw [aw1_eq]; rfl)]
theorem aw3_eq : aw3 = aw2.wrote 0 (fullL 2) := by
  unfold aw3 St.write
  rw [if_neg (by rw [aw2_eq, aw1_eq]; decide), if_neg (by rw [(fullL_sec (x := 2) (by omega)).1]; decide), if_pos (by rw [aw2_eq, aw1_eq]; rfl)]
  rfl
theorem aw_e1 : (St.new 2).wErr 0 (fullL 1) = 0 := by
  unfold St.wErr
  rw [if_neg (by decide), if_neg (by rw [(fullL_sec (x := 1) (by omega)).1]; decide), if_pos (by rfl)]
theorem aw_e2 : aw1.sErr = 0 := by
  unfold St.sErr
  rw [if_pos (by rw [aw1_eq]; rfl)]
theorem aw_e3 : aw2.wErr 0 (fullL 2) = 0 := by
  unfold St.wErr
  rw [if_neg (by rw [aw2_eq, aw1_eq]; decide), if_neg (by rw [(fullL_sec (x := 2) (by omega)).1]; decide), if_pos (by rw [aw2_eq, aw1_eq]; rfl)]
theorem aw_p1 : (St.new 2).pend.length = 0 := rfl
theorem aw_p2 : aw2.pend.length = 0 := by rw [aw2_eq]; rfl
theorem aw_s1 : aw1.syncs = 0 := by rw [aw1_eq]; rfl
theorem aw_p3 : aw3.pend.length = 1 := by rw [aw3_eq]; show (aw2.pend ++ [_]).length = 1; rw [List.length_append, aw_p2]; rfl
theorem aw_r : (aw3.crash awC).rErr 0 = 0 := by
  unfold St.rErr
  rw [if_neg (by rw [aw3_eq, aw2_eq, aw1_eq]; decide)]
  rfl
theorem aw_now : (aw3.crash awC).now 0 = over (fullL 2) (fullL 1) 3 := by
  rw [aw3_eq, aw2_eq, aw1_eq]
  rfl
theorem aw_b : (aw3.crash awC).rBytes 0 = over (fullL 2) (fullL 1) 3 := by
  unfold St.rBytes
  rw [if_pos aw_r]
  exact aw_now
theorem full_at (x : Int) (i : Nat) (hi : i < 256) : (fullL x)[i]? = some x := by
  unfold fullL
  rw [List.getElem?_replicate, if_pos hi]
theorem over_left {l m : List Int} (hl : Sec l) (k i : Nat) (hk : k ≤ 256) (h : i < k) : (over l m k)[i]? = l[i]? := by
  unfold over
  have : (l.take k).length = k := by rw [List.length_take, hl.1]; omega
  rw [List.getElem?_append_left (by omega), List.getElem?_take, if_pos h]
theorem over_right {l m : List Int} (hl : Sec l) (k i : Nat) (hk : k ≤ 256) (h : k ≤ i) : (over l m k)[i]? = m[i]? := by
  unfold over
  have : (l.take k).length = k := by rw [List.length_take, hl.1]; omega
  rw [List.getElem?_append_right (by omega), List.getElem?_drop, this]
  congr 1
  omega
theorem over_at1 : (over (fullL 2) (fullL 1) 3).getD 2 0 = 2 := by
  rw [List.getD_eq_getElem?_getD, over_left (fullL_sec (x := 2) (by omega)) 3 2 (by omega) (by omega), full_at 2 2 (by omega)]
  rfl
theorem over_at2 : (over (fullL 2) (fullL 1) 3).getD 3 0 = 1 := by
  rw [List.getD_eq_getElem?_getD, over_right (fullL_sec (x := 2) (by omega)) 3 3 (by omega) (by omega), full_at 1 3 (by omega)]
  rfl

theorem new_two (w : World) : Calls Try.prog 11 #[.int .i64 2] w (fun e w' => ∃ b, e = .returned (.tuple #[.pointer (some ⟨b, 0, none⟩), .int .i64 0]) ∧ Has w.heap.size ((dsk b (St.new 2)).star emp) w' ∧ Below w.heap.size w w') :=
  hasD_new (Has.emp _ _) (Nat.le_refl _) 2 (by omega)

theorem nts_nil (w : World) : Nts w none 0 0 [] := ⟨rfl, Nat.le_refl _, Nat.zero_le _, fun i hi => absurd hi (by omega), fun h => absurd h (by omega)⟩

set_option maxRecDepth 100000 in
set_option maxHeartbeats 2000000 in
theorem awake_any (w : World) : Calls Try.prog 10 #[] w (Ret (.bool true) w) := by
  go_enter Try.func10, Try.ntmps10
  go_wp2_with fail
  refine (new_two w).mono ?_
  rintro e w1 ⟨b, rfl, h1, b1⟩
  have H1 := Lib.hid h1
  have B1 := Lib.hid b1
  clear h1 b1
  go_wp2_with fail
  refine (full_any 1 w1).mono ?_
  rintro e w2 ⟨g, hg, rfl, hbk, b2⟩
  have C2 := Lib.hid (hasD_write H1.out b2 B1.out.size (Byt.sec hbk (fullL_sec (x := 1) (by omega))) (fun k hk => by
    have : g = k := by simpa [Value.ownBlock] using hk
    omega) 0 (by omega) (by rw [aw_p1]; omega))
  rw [aw_e1] at C2
  have B2 := Lib.hid (B1.out.trans (b2.mono B1.out.size))
  clear hbk b2 hg
  go_wp2_with fail
  refine C2.out.mono ?_
  rintro e w3 ⟨rfl, h3, b3⟩
  have B3 := Lib.hid (B2.out.trans b3)
  have C3 := Lib.hid (hasD_sync h3 (by exact B3.out.size) (by show aw1.syncs < _; rw [aw_s1]; omega))
  rw [show ((St.new 2).write 0 (fullL 1)).sErr = 0 from aw_e2] at C3
  clear h3 b3 C2 H1
  go_wp2_with fail
  refine C3.out.mono ?_
  rintro e w4 ⟨rfl, h4, b4⟩
  have B4 := Lib.hid (B3.out.trans b4)
  have H4 := Lib.hid h4
  clear h4 b4 C3
  go_wp2_with fail
  refine (full_any 2 w4).mono ?_
  rintro e w5 ⟨g, hg, rfl, hbk, b5⟩
  have C5 := Lib.hid (hasD_write H4.out b5 B4.out.size (Byt.sec hbk (fullL_sec (x := 2) (by omega))) (fun k hk => by
    have : g = k := by simpa [Value.ownBlock] using hk
    omega) 0 (by omega) (by show aw2.pend.length < _; rw [aw_p2]; omega))
  rw [show (((St.new 2).write 0 (fullL 1)).sync).wErr 0 (fullL 2) = 0 from aw_e3] at C5
  have B5 := Lib.hid (B4.out.trans (b5.mono B4.out.size))
  clear hbk b5 hg
  go_wp2_with fail
  refine C5.out.mono ?_
  rintro e w6 ⟨rfl, h6, b6⟩
  have B6 := Lib.hid (B5.out.trans b6)
  have C6 := Lib.hid (hasD_pending h6)
  rw [show ((((St.new 2).write 0 (fullL 1)).sync).write 0 (fullL 2)).pend.length = 1 from aw_p3] at C6
  have C7 := Lib.hid (hasD_crash h6 (Has.emp _ _) B6.out.size none 0 0 awC (nts_nil _) (by show _ ≤ (3 : Int) ∧ (3 : Int) ≤ _; omega))
  clear h6 b6 C5 H4
  go_wp2_with fail
  refine C6.out.mono ?_
  rintro e w7 ⟨rfl, rfl⟩
  go_wp2_with fail
  unfold crsV awC at C7
  refine C7.out.mono ?_
  rintro e w8 ⟨b', rfl, h8, b8⟩
  have B8 := Lib.hid (B6.out.trans (b8.mono B6.out.size))
  have C8 := Lib.hid (hasD_read h8 0)
  rw [show (((((St.new 2).write 0 (fullL 1)).sync).write 0 (fullL 2)).crash ⟨[], true, 3⟩).rErr 0 = 0 from aw_r, show (((((St.new 2).write 0 (fullL 1)).sync).write 0 (fullL 2)).crash ⟨[], true, 3⟩).rBytes 0 = _ from aw_b] at C8
  clear h8 b8 C7 C6
  go_wp2_with fail
  refine C8.out.mono ?_
  rintro e w9 ⟨A, n, c, rfl, hb9, hf9, b9⟩
  have B9 := Lib.hid (B8.out.trans (b9.mono B8.out.size))
  have hn : n = 256 := by have := hb9.len; rw [(over_sec (fullL_sec (x := 2) (by omega)) (fullL_sec (x := 1) (by omega)) 3 (by omega)).1] at this; omega
  subst hn
  obtain ⟨g, off, rfl, hc9⟩ := hb9.at_ (by omega)
  have x2 := hc9 2 (by omega)
  have x3 := hc9 3 (by omega)
  rw [over_at1] at x2
  rw [over_at2] at x3
  have hcap := hb9.cap
  have hmax := hb9.max
  unfold maxLen at hmax
  clear hc9 hb9 hf9 b9 C8
  go_wp2_with fail
  go_ret
  exact ⟨rfl, B9.out⟩
end Go.Proofs.Ytlchikllgmkokaa
