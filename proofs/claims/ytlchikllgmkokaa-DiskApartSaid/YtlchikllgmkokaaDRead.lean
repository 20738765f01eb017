/- What it says: disk.content and disk.Read answer what is there of a sector, in new memory. -/
import Derived.Test.YtlchikllgmkokaaDSync
namespace Go.Proofs.Ytlchikllgmkokaa
open Go.RowKit

/-- A call hands back a sector by value; what was there reads as before. -/
def RetSec (l : List Int) (w : World) (e : Ending) (w' : World) : Prop := e = .returned (secV l) ∧ Below w.heap.size w w'

theorem sec_end (l : List Int) (w : World) : (w.alloc (.cells (byC l).toArray 73)).heap[w.heap.size]? = some (.cells (byC l).toArray 73 (0, 0)) ∧ RetSec l w (.returned (secV l)) (w.alloc (.cells (byC l).toArray 73)) :=
  ⟨heap_alloc_new _ _, rfl, (Below.refl _ _).alloc (Nat.le_refl _) _⟩

theorem zeros_size : (byC zeros).toArray.size = 256 := secV_size zeros_sec
theorem zero_secA (w : World) : (zeroValue 73).run Try.prog w = .ok (.agg (byC zeros).toArray) w := zero_sec w

theorem range_tail {w : World} {b o : Nat} {v : Value} {cs : List Value} (h : w.rangeAt b o (v :: cs)) : w.rangeAt b (o + 1) cs := fun j u hu => by
  have := h (j + 1) u (by simpa using hu)
  rwa [show o + 1 + j = o + (j + 1) from by omega]

set_option maxRecDepth 100000 in
set_option maxHeartbeats 2000000 in
theorem content_any (w : World) (F : Nat → Prop) (b mb : Nat) (A : Option Addr) (c : Nat) (s : St) (h : DskB w F b mb A c s) (n : Nat) (hn : n < s.num) :
    Calls Try.prog 37 #[.pointer (some ⟨b, 0, none⟩), .int .i64 n] w (RetSec (s.now n) w) := by
  have hus := Try.underlying73
  have huw := Try.underlying67
  have hui := Try.underlying3
  have hpl1 := h.lim.1
  have hcmax : c ≤ 9223372036854775807 := by
    rcases h.row.2 with ⟨hv, _⟩ | ⟨g, cap, cur, hv, _, _, _, hm, _⟩
    · injection hv with _ _ e3; omega
    · injection hv with _ _ e3; unfold maxLen at hm; omega
  have hsyn := h.ok.syn n
  have hZ := Lib.hid (fun w => zero_secA w)
  have hbl : ∀ l, Sec l → (Try.prog.info? 73).map (·.size) = some (byC l).toArray.size := fun l hl => by rw [secV_size hl]; exact size_sec
  have hbl2 : ∀ l, Sec l → (byC zeros).toArray.size = (byC l).toArray.size := fun l hl => by rw [secV_size hl, zeros_size]
  have h1l : ∀ l, (byC l).toArray.all (·.oneCell') = true := fun l => all_oneCell_toArray (byC_one l)
  have HBL := Lib.hid hbl
  have HBL2 := Lib.hid hbl2
  have H1L := Lib.hid h1l
  have HOK := Lib.hid h.ok
  have hb1 : Below w.heap.size w (w.alloc (.cells (byC zeros).toArray 73)) := (Below.refl _ _).alloc (Nat.le_refl _) _
  have HM := Lib.hid (h.map.eq (hb1.block mb h.map.lt))
  have HROW := Lib.hid (owns_keep h.row (fun k hk => hb1.block k (h.row.lt k hk).2))
  have hblt := h.blk.lt
  have hcell1 : (w.alloc (.cells (byC zeros).toArray 73)).cell? ⟨b, 1, none⟩ = some (.map (some mb)) := (hb1.cell (p := ⟨b, 1, none⟩) hblt).trans (h.blk.cell 1)
  have hcell2 : (w.alloc (.cells (byC zeros).toArray 73)).cell? ⟨b, 2, none⟩ = some (.slice A s.pend.length c) := (hb1.cell (p := ⟨b, 2, none⟩) hblt).trans (h.blk.cell 2)
  clear h hbl hbl2 h1l hb1
  go_enter Try.func37, Try.ntmps37
  go_wp2_with (refine wpList_run rfl (exec_allocA rfl hZ.out) ?_)
  obtain ⟨W1, hW1⟩ : ∃ W1, W1 = w.alloc (.cells (byC zeros).toArray 73) := ⟨_, rfl⟩
  rw [← hW1] at hcell1 hcell2 HM HROW ⊢
  have HW1 := Lib.hid hW1
  clear hW1
  go_wp2_with fail
  go_loop [5] (fun q => ∃ i : Int, -1 ≤ i ∧ i < s.pend.length ∧ q = .int .i64 i ∧ ∀ j : Nat, i < j → j < s.pend.length → (s.at_ j).1 ≠ n) (fun q => (intOf q + 1).toNat)
  case atStart => exact ⟨(s.pend.length : Int) - 1, by omega, by omega, by go_num, fun j h1 h2 => by omega⟩
  case round =>
    obtain ⟨i, hi1, hi2, rfl, hall⟩ := hrel
    by_cases hi0 : i < 0
    · have hnow : s.now n = s.syn n := St.now_none s n (fun j hj => hall j (by omega) hj)
      have E := Lib.hid (sec_end (s.syn n) w)
      have HN := Lib.hid hnow
      clear hall hnow
      go_wp2_with (first
        | (refine wpList_lookup_fn rfl _ _ rfl huw hui mb _ _ (hZ.out _) HM.out (by rfl) n (by rfl) ?_)
        | (refine wpList_store_new rfl rfl (W := w) HW1.out (by rfl) (by rfl) (HBL.out _ hsyn) (HBL2.out _ hsyn) (H1L.out _) ?_))
      exact bodyPost_ret (v := secV (s.syn n)) (results_cell_row (p := 4) (ty := 73) Try.results37 _ _ w.heap.size 73 (byC (s.syn n)).toArray (0, 0) _ rfl E.out.1 hus rfl (HBL.out _ hsyn)) rfl (by rw [HN.out]; exact E.out.2)
    · obtain ⟨j, rfl⟩ := Int.eq_ofNat_of_zero_le (Int.not_lt.1 hi0)
      have hjl : j < s.pend.length := by omega
      obtain ⟨pb, rfl, hpc, hpm, hat⟩ := pend_at HOK.out HROW.out (by omega)
      have hrg := hat j hjl
      have hx0 : W1.cell? ⟨pb, j * 257, none⟩ = some (.int .i64 (s.at_ j).1) := by have := hrg 0 _ (show (wrC (s.at_ j))[0]? = some (.int .i64 (s.at_ j).1) from rfl); simpa using this
      have hrg1 := range_tail hrg
      have hsj := (HOK.out.at_ j hjl).2
      clear hat hrg
      have hk0 : (0 : Int) ≤ (j : Int) := Int.natCast_nonneg _
      by_cases he : (s.at_ j).1 = n
      · have hnow : s.now n = (s.at_ j).2 := St.now_last s n j hjl he (fun q h1 h2 => hall q (by omega) h2)
        have E := Lib.hid (sec_end (s.at_ j).2 w)
        have HN := Lib.hid hnow
        rw [he] at hx0
        clear hall hnow he
        obtain ⟨l, hl⟩ : ∃ l, (s.at_ j).2 = l := ⟨_, rfl⟩
        rw [hl] at E HN hrg1 hsj
        have hbl : (byC l).length = 256 := by rw [byC_len, hsj.1]
        clear hl
        go_wp2_with (first
          | (refine wpList_run rfl (exec_load rfl (by rfl) (by exact hrg1) hus rfl (by rw [hbl]; exact size_sec)) ?_)
          | (refine wpList_store_new rfl rfl (W := w) HW1.out (by rfl) (by rfl) (HBL.out _ hsj) (HBL2.out _ hsj) (H1L.out _) ?_))
        exact bodyPost_ret (v := secV l) (results_cell_row (p := 4) (ty := 73) Try.results37 _ _ w.heap.size 73 (byC l).toArray (0, 0) _ rfl E.out.1 hus rfl (HBL.out _ hsj)) rfl (by rw [HN.out]; exact E.out.2)
      · have HA : Hid (∀ q : Nat, (j : Int) - 1 < q → q < s.pend.length → (s.at_ q).1 ≠ n) := Lib.hid (fun q h1 h2 => by
          by_cases e : q = j
          · subst e; exact he
          · exact hall q (by omega) h2)
        obtain ⟨m, hm⟩ : ∃ m, (s.at_ j).1 = m := ⟨_, rfl⟩
        rw [hm] at hx0 he
        have hd : ((m : Int) == (n : Int)) = false := by simp; omega
        clear hall hrg1 hm he
        go_wp2_with fail
        go_round
        case rel => exact ⟨(j : Int) - 1, by omega, by omega, by go_num, HA.out⟩
        case measure => simp [intOf]

/-- What Read hands back: bytes in new memory. -/
def RetRead (l : List Int) (w : World) (e : Ending) (w' : World) : Prop :=
  ∃ g, w.heap.size ≤ g ∧ e = .returned (.tuple #[.slice (some ⟨g, 0, none⟩) 256 256, .int .i64 0]) ∧ Bk w' g 73 (byC l).toArray ∧ Below w.heap.size w w'
/-- Read's errors. -/
def RetErr (e0 : Int) (w : World) (e : Ending) (w' : World) : Prop := e = .returned (.tuple #[.slice none 0 0, .int .i64 e0]) ∧ w = w'

theorem Byt.sec {w : World} {g : Nat} {t : TypeId} {l : List Int} (h : Bk w g t (byC l).toArray) (hl : Sec l) : Byt w (some ⟨g, 0, none⟩) 256 256 l :=
  Byt.of_bk h 0 256 256 l hl.1 (Nat.le_refl _) (by unfold maxLen; omega) hl.2 (fun i hi => by
    have : i < l.length := by rw [hl.1]; exact hi
    simp [byC, List.getElem?_eq_getElem this])

set_option maxHeartbeats 1000000 in
theorem read_bad (w : World) (F : Nat → Prop) (b mb : Nat) (A : Option Addr) (c : Nat) (s : St) (h : DskB w F b mb A c s) (n : Int) (hn : n < 0 ∨ (s.num : Int) ≤ n) :
    Calls Try.prog 18 #[.pointer (some ⟨b, 0, none⟩), .int .i64 n] w (RetErr 1 w) := by
  have C := Lib.hid (find_bad h n hn)
  clear h hn
  go_enter Try.func18, Try.ntmps18
  go_wp2_with fail
  refine C.out.mono ?_
  rintro e w' ⟨rfl, rfl⟩
  go_wp2_with fail
  go_ret2
  exact ⟨rfl, rfl⟩

set_option maxHeartbeats 1000000 in
theorem read_down (w : World) (F : Nat → Prop) (b mb : Nat) (A : Option Addr) (c : Nat) (s : St) (h : DskB w F b mb A c s) (n : Nat) (hn : n < s.num) (hg : s.gone = true) :
    Calls Try.prog 18 #[.pointer (some ⟨b, 0, none⟩), .int .i64 n] w (RetErr 40 w) := by
  have C := Lib.hid (find_ok h n hn)
  have c4 : w.cell? ⟨b, 4, none⟩ = some (.bool true) := by rw [← hg]; exact h.blk.cell 4
  clear h hn hg
  go_enter Try.func18, Try.ntmps18
  go_wp2_with fail
  refine C.out.mono ?_
  rintro e w' ⟨rfl, rfl⟩
  go_wp2_with fail
  go_ret2
  exact ⟨rfl, rfl⟩

set_option maxRecDepth 100000 in
set_option maxHeartbeats 1000000 in
theorem read_ok (w : World) (F : Nat → Prop) (b mb : Nat) (A : Option Addr) (c : Nat) (s : St) (h : DskB w F b mb A c s) (n : Nat) (hn : n < s.num) (hg : s.gone = false) :
    Calls Try.prog 18 #[.pointer (some ⟨b, 0, none⟩), .int .i64 n] w (RetRead (s.now n) w) := by
  have C := Lib.hid (find_ok h n hn)
  have C2 := Lib.hid (content_any w F b mb A c s h n hn)
  have c4 : w.cell? ⟨b, 4, none⟩ = some (.bool false) := by rw [← hg]; exact h.blk.cell 4
  have hsec := h.ok.now n
  have hZ := Lib.hid (fun w => zero_secA w)
  obtain ⟨l, hl⟩ : ∃ l, s.now n = l := ⟨_, rfl⟩
  rw [hl] at C2 hsec ⊢
  have HI : Hid ((Try.prog.info? 73).map (·.size) = some (byC l).toArray.size) := Lib.hid (by rw [secV_size hsec]; exact size_sec)
  have HS : Hid ((byC zeros).toArray.size = (byC l).toArray.size) := Lib.hid (by rw [secV_size hsec, zeros_size])
  have H1 : Hid ((byC l).toArray.all (·.oneCell') = true) := Lib.hid (all_oneCell_toArray (byC_one l))
  clear h hn hg hl
  go_enter Try.func18, Try.ntmps18
  go_wp2_with fail
  refine C.out.mono ?_
  rintro e w' ⟨rfl, rfl⟩
  go_wp2_with fail
  refine C2.out.mono ?_
  rintro e w1 ⟨rfl, hb⟩
  have R : Hid (RetRead l w (.returned (.tuple #[.slice (some ⟨w1.heap.size, 0, none⟩) 256 256, .int .i64 0])) (w1.alloc (.cells (byC l).toArray 73))) :=
    Lib.hid ⟨w1.heap.size, hb.size, rfl, heap_alloc_new _ _, hb.alloc hb.size _⟩
  clear hb
  go_wp2_with (first
    | (refine wpList_run rfl (exec_allocA rfl hZ.out) ?_)
    | (refine wpList_store_new rfl rfl (W := w1) rfl (by rfl) (by rfl) HI.out HS.out H1.out ?_))
  go_ret2
  exact R.out
end Go.Proofs.Ytlchikllgmkokaa
