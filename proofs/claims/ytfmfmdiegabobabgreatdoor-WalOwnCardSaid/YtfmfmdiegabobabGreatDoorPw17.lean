/- What it says: contracts and plain mathematics that the laws' walks use, 17 of 33: each part's own remark says what; no condition. -/
import Derived.Test.YtfmfmdiegabobabGreatDoorPw3
import Derived.Test.YtfmfmdiegabobabGreatDoorPw4
import Derived.Test.YtfmfmdiegabobabGreatDoorPw13
import Derived.Test.YtfmfmdiegabobabGreatDoorPw14
import Derived.Test.YtfmfmdiegabobabGreatDoorPw15
import Derived.Test.YtfmfmdiegabobabGreatDoorPw16
import Derived.Shelf.SlMaps.Clone
import Derived.Laws.CopyOwn

set_option linter.unusedSimpArgs false
set_option linter.unusedVariables false
set_option linter.deprecated false
set_option linter.unusedSectionVars false
set_option linter.all false
set_option maxRecDepth 100000
set_option maxHeartbeats 16000000
namespace Go.Proofs.YtfmfmdiegabobabGreatDoor

/- disk.content and disk.Read answer what is there of a sector, in new memory. -/
section
open Go.RowKit
def RetSec (l : List Int) (w : World) (e : Ending) (w' : World) : Prop := e = .returned (secV l) ∧ Below w.heap.size w w'
theorem sec_end (l : List Int) (w : World) : (w.alloc (.cells (byC l).toArray 142)).heap[w.heap.size]? = some (.cells (byC l).toArray 142 (0, 0)) ∧ RetSec l w (.returned (secV l)) (w.alloc (.cells (byC l).toArray 142)) :=
 ⟨heap_alloc_new _ _, rfl, (Below.refl _ _).alloc (Nat.le_refl _) _⟩
theorem zeros_size : (byC zeros).toArray.size = 256 := secV_size zeros_sec
theorem zero_secA (w : World) : (zeroValue 142).run Tryz.prog w = .ok (.agg (byC zeros).toArray) w := zero_sec w
theorem range_tail {w : World} {b o : Nat} {v : Value} {cs : List Value} (h : w.rangeAt b o (v :: cs)) : w.rangeAt b (o + 1) cs := fun j u hu => by
 have := h (j + 1) u (by simpa using hu)
 rwa [show o + 1 + j = o + (j + 1) from by omega]
theorem content_any (w : World) (F : Nat → Prop) (b mb : Nat) (A : Option Addr) (c : Nat) (s : St) (h : DskB w F b mb A c s) (n : Nat) (hn : n < s.num) :
  Calls Tryz.prog 84 #[.pointer (some ⟨b, 0, none⟩), .int .i64 n] w (RetSec (s.now n) w) := by
 have hus := Tryz.underlying142
 have huw := Tryz.underlying81
 have hui := Tryz.underlying3
 have hpl1 := h.lim.1
 have hcmax : c ≤ 9223372036854775807 := by
  rcases h.row.2 with ⟨hv, _⟩ | ⟨g, cap, cur, hv, _, _, _, hm, _⟩
  ·injection hv with _ _ e3; omega
  ·injection hv with _ _ e3; unfold maxLen at hm; omega
 have hsyn := h.ok.syn n
 have hZ := Lib.hid (fun w => zero_secA w)
 have hbl : ∀ l, Sec l → (Tryz.prog.info? 142).map (·.size) = some (byC l).toArray.size := fun l hl => by rw [secV_size hl]; exact size_sec
 have hbl2 : ∀ l, Sec l → (byC zeros).toArray.size = (byC l).toArray.size := fun l hl => by rw [secV_size hl, zeros_size]
 have h1l : ∀ l, (byC l).toArray.all (·.oneCell') = true := fun l => all_oneCell_toArray (byC_one l)
 have HBL := Lib.hid hbl
 have HBL2 := Lib.hid hbl2
 have H1L := Lib.hid h1l
 have HOK := Lib.hid h.ok
 have hb1 : Below w.heap.size w (w.alloc (.cells (byC zeros).toArray 142)) := (Below.refl _ _).alloc (Nat.le_refl _) _
 have HM := Lib.hid (h.map.eq (hb1.block mb h.map.lt))
 have HROW := Lib.hid (owns_keep h.row (fun k hk => hb1.block k (h.row.lt k hk).2))
 have hblt := h.blk.lt
 have hcell1 : (w.alloc (.cells (byC zeros).toArray 142)).cell? ⟨b, 1, none⟩ = some (.map (some mb)) := (hb1.cell (p := ⟨b, 1, none⟩) hblt).trans (h.blk.cell 1)
 have hcell2 : (w.alloc (.cells (byC zeros).toArray 142)).cell? ⟨b, 2, none⟩ = some (.slice A s.pend.length c) := (hb1.cell (p := ⟨b, 2, none⟩) hblt).trans (h.blk.cell 2)
 clear h hbl hbl2 h1l hb1
 go_enter Tryz.func84, Tryz.ntmps84
 go_wp2_with (refine wpList_run rfl (exec_allocA rfl hZ.out) ?_)
 obtain ⟨W1, hW1⟩ : ∃ W1, W1 = w.alloc (.cells (byC zeros).toArray 142) := ⟨_, rfl⟩
 rw [← hW1] at hcell1 hcell2 HM HROW ⊢
 have HW1 := Lib.hid hW1
 clear hW1
 go_wp2_with fail
 go_loop [5] (fun q => ∃ i : Int, -1 ≤ i ∧ i < s.pend.length ∧ q = .int .i64 i ∧ ∀ j : Nat, i < j → j < s.pend.length → (s.at_ j).1 ≠ n) (fun q => (intOf q + 1).toNat)
 case atStart => exact ⟨(s.pend.length : Int) - 1, by omega, by omega, by go_num, fun j h1 h2 => by omega⟩
 case round =>
  obtain ⟨i, hi1, hi2, rfl, hall⟩ := hrel
  by_cases hi0 : i < 0
  ·have hnow : s.now n = s.syn n := St.now_none s n (fun j hj => hall j (by omega) hj)
   have E := Lib.hid (sec_end (s.syn n) w)
   have HN := Lib.hid hnow
   clear hall hnow
   go_wp2_with (first
    | (refine wpList_lookup_fn rfl _ _ rfl huw hui mb _ _ (hZ.out _) HM.out (by rfl) n (by rfl) ?_)
    | (refine wpList_store_new rfl rfl (W := w) HW1.out (by rfl) (by rfl) (HBL.out _ hsyn) (HBL2.out _ hsyn) (H1L.out _) ?_))
   exact bodyPost_ret (v := secV (s.syn n)) (results_cell_row (p := 4) (ty := 142) Tryz.results84 _ _ w.heap.size 142 (byC (s.syn n)).toArray (0, 0) _ rfl E.out.1 hus rfl (HBL.out _ hsyn)) rfl (by rw [HN.out]; exact E.out.2)
  ·obtain ⟨j, rfl⟩ := Int.eq_ofNat_of_zero_le (Int.not_lt.1 hi0)
   have hjl : j < s.pend.length := by omega
   obtain ⟨pb, rfl, hpc, hpm, hat⟩ := pend_at HOK.out HROW.out (by omega)
   have hrg := hat j hjl
   have hx0 : W1.cell? ⟨pb, j * 257, none⟩ = some (.int .i64 (s.at_ j).1) := by have := hrg 0 _ (show (wrC (s.at_ j))[0]? = some (.int .i64 (s.at_ j).1) from rfl); simpa using this
   have hrg1 := range_tail hrg
   have hsj := (HOK.out.at_ j hjl).2
   clear hat hrg
   have hk0 : (0 : Int) ≤ (j : Int) := Int.natCast_nonneg _
   by_cases he : (s.at_ j).1 = n
   ·have hnow : s.now n = (s.at_ j).2 := St.now_last s n j hjl he (fun q h1 h2 => hall q (by omega) h2)
    have E := Lib.hid (sec_end (s.at_ j).2 w)
    have HN := Lib.hid hnow
    rw [he] at hx0
    clear hall hnow he
    obtain ⟨l, hl⟩ : ∃ l, (s.at_ j).2 = l := ⟨_, rfl⟩
    rw [hl] at E HN hrg1 hsj
    have hbl : (byC l).length = 256 := by rw [byC_len, hsj.1]
    clear hl
    go_wp2_with (first
     | (refine wpList_run rfl (exec_load rfl (by rfl) (by exact hrg1) hus rfl (by rw [hbl]; exact size_sec)) ?_)
     | (refine wpList_store_new rfl rfl (W := w) HW1.out (by rfl) (by rfl) (HBL.out _ hsj) (HBL2.out _ hsj) (H1L.out _) ?_))
    exact bodyPost_ret (v := secV l) (results_cell_row (p := 4) (ty := 142) Tryz.results84 _ _ w.heap.size 142 (byC l).toArray (0, 0) _ rfl E.out.1 hus rfl (HBL.out _ hsj)) rfl (by rw [HN.out]; exact E.out.2)
   ·have HA : Hid (∀ q : Nat, (j : Int) - 1 < q → q < s.pend.length → (s.at_ q).1 ≠ n) := Lib.hid (fun q h1 h2 => by
     by_cases e : q = j
     ·subst e; exact he
     ·exact hall q (by omega) h2)
    obtain ⟨m, hm⟩ : ∃ m, (s.at_ j).1 = m := ⟨_, rfl⟩
    rw [hm] at hx0 he
    have hd : ((m : Int) == (n : Int)) = false := by simp; omega
    clear hall hrg1 hm he
    go_wp2_with fail
    go_round
    case rel => exact ⟨(j : Int) - 1, by omega, by omega, by go_num, HA.out⟩
    case measure => simp [intOf]
def RetRead (l : List Int) (w : World) (e : Ending) (w' : World) : Prop :=
 ∃ g, w.heap.size ≤ g ∧ e = .returned (.tuple #[.slice (some ⟨g, 0, none⟩) 256 256, .int .i64 0]) ∧ Bk w' g 142 (byC l).toArray ∧ Below w.heap.size w w'
def RetErr (e0 : Int) (w : World) (e : Ending) (w' : World) : Prop := e = .returned (.tuple #[.slice none 0 0, .int .i64 e0]) ∧ w = w'
theorem Byt.sec {w : World} {g : Nat} {t : TypeId} {l : List Int} (h : Bk w g t (byC l).toArray) (hl : Sec l) : Byt w (some ⟨g, 0, none⟩) 256 256 l :=
 Byt.of_bk h 0 256 256 l hl.1 (Nat.le_refl _) (by unfold maxLen; omega) hl.2 (fun i hi => by
  have : i < l.length := by rw [hl.1]; exact hi
  simp [byC, List.getElem?_eq_getElem this])
theorem read_bad (w : World) (F : Nat → Prop) (b mb : Nat) (A : Option Addr) (c : Nat) (s : St) (h : DskB w F b mb A c s) (n : Int) (hn : n < 0 ∨ (s.num : Int) ≤ n) :
  Calls Tryz.prog 60 #[.pointer (some ⟨b, 0, none⟩), .int .i64 n] w (RetErr 1 w) := by
 have C := Lib.hid (find_bad h n hn)
 clear h hn
 go_enter Tryz.func60, Tryz.ntmps60
 go_wp2_with fail
 refine C.out.mono ?_
 rintro e w' ⟨rfl, rfl⟩
 go_wp2_with fail
 go_ret2
 exact ⟨rfl, rfl⟩
theorem read_down (w : World) (F : Nat → Prop) (b mb : Nat) (A : Option Addr) (c : Nat) (s : St) (h : DskB w F b mb A c s) (n : Nat) (hn : n < s.num) (hg : s.gone = true) :
  Calls Tryz.prog 60 #[.pointer (some ⟨b, 0, none⟩), .int .i64 n] w (RetErr 40 w) := by
 have C := Lib.hid (find_ok h n hn)
 have c4 : w.cell? ⟨b, 4, none⟩ = some (.bool true) := by rw [← hg]; exact h.blk.cell 4
 clear h hn hg
 go_enter Tryz.func60, Tryz.ntmps60
 go_wp2_with fail
 refine C.out.mono ?_
 rintro e w' ⟨rfl, rfl⟩
 go_wp2_with fail
 go_ret2
 exact ⟨rfl, rfl⟩
theorem read_ok (w : World) (F : Nat → Prop) (b mb : Nat) (A : Option Addr) (c : Nat) (s : St) (h : DskB w F b mb A c s) (n : Nat) (hn : n < s.num) (hg : s.gone = false) :
  Calls Tryz.prog 60 #[.pointer (some ⟨b, 0, none⟩), .int .i64 n] w (RetRead (s.now n) w) := by
 have C := Lib.hid (find_ok h n hn)
 have C2 := Lib.hid (content_any w F b mb A c s h n hn)
 have c4 : w.cell? ⟨b, 4, none⟩ = some (.bool false) := by rw [← hg]; exact h.blk.cell 4
 have hsec := h.ok.now n
 have hZ := Lib.hid (fun w => zero_secA w)
 obtain ⟨l, hl⟩ : ∃ l, s.now n = l := ⟨_, rfl⟩
 rw [hl] at C2 hsec ⊢
 have HI : Hid ((Tryz.prog.info? 142).map (·.size) = some (byC l).toArray.size) := Lib.hid (by rw [secV_size hsec]; exact size_sec)
 have HS : Hid ((byC zeros).toArray.size = (byC l).toArray.size) := Lib.hid (by rw [secV_size hsec, zeros_size])
 have H1 : Hid ((byC l).toArray.all (·.oneCell') = true) := Lib.hid (all_oneCell_toArray (byC_one l))
 clear h hn hg hl
 go_enter Tryz.func60, Tryz.ntmps60
 go_wp2_with fail
 refine C.out.mono ?_
 rintro e w' ⟨rfl, rfl⟩
 go_wp2_with fail
 refine C2.out.mono ?_
 rintro e w1 ⟨rfl, hb⟩
 have R : Hid (RetRead l w (.returned (.tuple #[.slice (some ⟨w1.heap.size, 0, none⟩) 256 256, .int .i64 0])) (w1.alloc (.cells (byC l).toArray 142))) :=
  Lib.hid ⟨w1.heap.size, hb.size, rfl, heap_alloc_new _ _, hb.alloc hb.size _⟩
 clear hb
 go_wp2_with (first
  | (refine wpList_run rfl (exec_allocA rfl hZ.out) ?_)
  | (refine wpList_store_new rfl rfl (W := w1) rfl (by rfl) (by rfl) HI.out HS.out H1.out ?_))
 go_ret2
 exact R.out
end

/- disk.New hands back a new disk of noughts, or the error. -/
section
open Go.RowKit
def newC (n : Int) (mb : Nat) : Array Value := #[.int .i64 n, .map (some mb), .slice none 0 0, .int .i64 (-1), .bool false, .int .i64 0]
theorem newDisk_any (n : Int) (mb : Nat) (w : World) :
  Calls Tryz.prog 36 #[.int .i64 n, .map (some mb)] w (fun e w' => e = .returned (.pointer (some ⟨w.heap.size, 0, none⟩)) ∧ w' = w.alloc (.cells (newC n mb) 108)) := by
 unfold newC
 go_enter Tryz.func36, Tryz.ntmps36
 go_wp2_with fail
 go_ret
 exact ⟨rfl, rfl⟩
def St.still (s : St) : Prop := s.pend = [] ∧ s.left = -1 ∧ s.gone = false ∧ s.syncs = 0
theorem new_dsk {w w1 : World} {mb : Nat} {s : St} (hs : s.still) (ok : s.Ok) (hm : MapFn w1 mb (secV zeros) (fun n => secV (s.syn n))) (hlow : w.heap.size ≤ mb) (hb : Below w.heap.size w w1) :
  (dsk w1.heap.size s).is (w1.alloc (.cells (newC s.num mb) 108)) (fresh w (w1.alloc (.cells (newC s.num mb) 108))) ∧ Below w.heap.size w (w1.alloc (.cells (newC s.num mb) 108)) := by
 obtain ⟨h1, h2, h3, h4⟩ := hs
 have hsz : (w1.alloc (.cells (newC s.num mb) 108)).heap.size = w1.heap.size + 1 := by simp
 refine ⟨⟨mb, none, 0, ?_, ?_, ?_, ⟨hb.size, by omega⟩, ⟨hlow, by have := hm.lt; omega⟩, ?_, fun k f => f.2, ok, ?_⟩, hb.alloc hb.size _⟩
 ·rw [h1, h2, h3, h4]
  exact heap_alloc_new _ _
 ·exact hm.eq (Below.heap_alloc _ _ _ hm.lt)
 ·rw [h1]
  exact World.ownsRow_nil _ _ _ _
 ·intro k hk
  simp [Value.ownBlock] at hk
 ·rw [h1, h4]
  simp
def RetNew (s : St) (w : World) (e : Ending) (w' : World) : Prop := ∃ b, e = .returned (.tuple #[.pointer (some ⟨b, 0, none⟩), .int .i64 0]) ∧ (dsk b s).is w' (fresh w w') ∧ Below w.heap.size w w'
theorem new_any (n : Nat) (hn : 1 ≤ n ∧ n ≤ 4096) (w : World) : Calls Tryz.prog 17 #[.int .i64 n] w (RetNew (St.new n) w) := by
 have hR := (new_dsk (w := w) (w1 := w.alloc (.map #[] 0)) (mb := w.heap.size) (s := St.new n) ⟨rfl, rfl, rfl, rfl⟩ (St.new_ok hn) (MapFn.new w _) (Nat.le_refl _) ((Below.refl _ _).alloc (Nat.le_refl _) _))
 rw [show (w.alloc (.map #[] 0)).heap.size = w.heap.size + 1 from by simp] at hR
 have R := Lib.hid hR
 obtain ⟨h1, h2⟩ := hn
 have hmm := @run_makeMap Tryz.prog
 clear hR
 go_enter Tryz.func17, Tryz.ntmps17
 go_wp2_with fail
 refine (newDisk_any n _ _).mono ?_
 rintro e w' ⟨rfl, rfl⟩
 go_wp2_with fail
 go_ret2
 exact ⟨_, rfl, R.out⟩
end

/- disk.lastingBytes tells how much a crash leaves of each pending write. -/
section
open Go.RowKit
end

/- maps.Clone of a map of sectors: a new map with the same entries. -/
section
open Go.RowKit
end

/- disk.Crash hands back the disk that the plain one's crash leaves, all of it new memory. -/
section
open Go.RowKit
end

/- the statements' Full hands back a sector of one byte, in new memory. -/
section
open Go.RowKit
def u8C (f : Nat → Int) : Array Value := ((List.range 256).map fun i => Value.int .u8 (f i)).toArray
theorem u8C_size (f : Nat → Int) : (u8C f).size = 256 := by unfold u8C; rw [List.size_toArray, List.length_map, List.length_range]
theorem u8C_at (f : Nat → Int) (i : Nat) (h : i < 256) : (u8C f)[i]? = some (.int .u8 (f i)) := by
 unfold u8C
 rw [List.getElem?_toArray, List.getElem?_map, List.getElem?_range h]
 rfl
theorem u8C_set (f : Nat → Int) (j : Nat) (v : Int) : (u8C f).setIfInBounds j (.int .u8 v) = u8C (fun i => if i = j then v else f i) := by
 apply Array.ext_getElem?
 intro i
 rw [Array.getElem?_setIfInBounds]
 by_cases hi : i < 256
 ·rw [u8C_at _ i hi, u8C_at _ i hi, u8C_size]
  by_cases e : j = i
  ·subst e; rw [if_pos rfl, if_pos hi, if_pos rfl]
  ·rw [if_neg e, if_neg (fun q => e q.symm)]
 ·have h1 : (u8C f)[i]? = none := Array.getElem?_eq_none (by rw [u8C_size]; omega)
  have h2 : (u8C (fun i => if i = j then v else f i))[i]? = none := Array.getElem?_eq_none (by rw [u8C_size]; omega)
  rw [h1, h2]
  split <;> (try rfl)
  rw [if_neg (by rw [u8C_size]; omega)]
theorem info_u8f : (Tryz.prog.info? 5).map (fun i => (i.zero, i.size, i.bytes)) = some (some (.int .u8 0), 1, 1) := by kernel_rfl
theorem make_256 (W : World) : (Instr.makeSlice 59 (.int .i64 256) (.int .i64 256)).run Tryz.prog W =
  .ok (.slice (some ⟨W.heap.size, 0, none⟩) 256 256) (W.alloc (.cells (u8C (fun _ => 0)) 5)) := by
 obtain ⟨i0, hi, hz0, hz1, hz2⟩ := info_parts info_u8f
 have := run_make (P := Tryz.prog) W 59 5 i0 (.int .u8 0) Tryz.underlying59 hi hz0 .i64 .i64 256 256 (by omega) (by omega) (by rw [hz2]; omega) (by omega)
 rw [this, hz1]
 show Result.ok _ (W.alloc (.cells (madeCells #[.int .u8 0] 256) _)) = _
 have e : madeCells #[.int .u8 0] 256 = u8C (fun _ => 0) := by
  apply Array.toList_inj.1
  rw [toList_madeCells_one]
  unfold u8C
  show _ = (List.range 256).map fun _ => Value.int .u8 0
  rw [List.map_const', List.length_range]
 rw [e]
 rfl
def RetFull (l : List Int) (w : World) (e : Ending) (w' : World) : Prop :=
 ∃ g, w.heap.size ≤ g ∧ e = .returned (.slice (some ⟨g, 0, none⟩) 256 256) ∧ Bk w' g 5 (byC l).toArray ∧ Below w.heap.size w w'
end

/- a disk among other things in memory: what each call answers, what becomes of the disk, and that the other things stay. -/
section
open Go.RowKit
def emp : Res where
 is w F := ∀ k, F k → k < w.heap.size
 lt _ _ h := h
 keep _ _ _ h hs _ := fun k f => Nat.lt_of_lt_of_le (h k f) hs
theorem Has.emp (B : Nat) (w : World) : Has B emp w := ⟨fun _ => False, fun _ f => f.elim, fun _ f => f.elim⟩
theorem Has.sw {B : Nat} {R S T : Res} {w : World} (h : Has B (R.star (S.star T)) w) : Has B (S.star (T.star R)) w := h.comm.assoc
theorem Has.map2 {B : Nat} {R S S' : Res} {w : World} (h : Has B (R.star S) w) (hm : ∀ F, S.is w F → S'.is w F) : Has B (R.star S') w := by
 obtain ⟨F, ⟨F1, F2, h1, h2, h3, h4, h5, h6⟩, h7⟩ := h
 exact ⟨F, ⟨F1, F2, h1, hm F2 h2, h3, h4, h5, h6⟩, h7⟩
theorem Has.swap {B : Nat} {R S T : Res} {w : World} (h : Has B (R.star (S.star T)) w) : Has B (S.star (R.star T)) w := h.sw.map2 (fun _ => Res.star_comm)
def blkR (g : Nat) (t : TypeId) (cs : Array Value) : Res where
 is w F := Bk w g t cs ∧ F g ∧ ∀ k, F k → k < w.heap.size
 lt _ _ h := h.2.2
 keep w w' F := fun h hs hk => ⟨h.1.eq (hk g h.2.1), h.2.1, fun k f => Nat.lt_of_lt_of_le (h.2.2 k f) hs⟩
theorem blkR_new {B : Nat} {S : Res} {w : World} (t : TypeId) (cs : Array Value) (h : Has B S w) (hB : B ≤ w.heap.size) : Has B ((blkR w.heap.size t cs).star S) (w.alloc (.cells cs t)) :=
 h.new hB ((Below.refl _ _).alloc (Nat.le_refl _) _) ⟨Bk.new w t cs, ⟨Nat.le_refl _, (Bk.new w t cs).lt⟩, fun _ f => f.2⟩
def RetHas (v : Value) (B : Nat) (R : Res) (w : World) (e : Ending) (w' : World) : Prop := e = .returned v ∧ Has B R w' ∧ Below B w w'
section
variable {B : Nat} {R : Res} {w0 w : World} {b : Nat} {s : St}
theorem hasD_writeO (h : Has B ((dsk b s).star R) w0) (hb : Below w0.heap.size w0 w) (hB : B ≤ w0.heap.size) {A : Option Addr} {m c : Nat} {l : List Int} (hl : Byt w A m c l) (hA : ∀ k, (Value.slice A m c).ownBlock = some k → w0.heap.size ≤ k ∨ k < B)
  (n : Int) (hn : -9223372036854775808 ≤ n ∧ n ≤ 9223372036854775807) (hlim : s.pend.length < 999999) :
  Calls Tryz.prog 77 #[.pointer (some ⟨b, 0, none⟩), .int .i64 n, .slice A m c] w (RetHas (.int .i64 (s.wErr n l)) B ((dsk b (s.write n l)).star R) w) := by
 have hBw : B ≤ w.heap.size := Nat.le_trans hB hb.size
 have hlen := hl.len
 have hw := h.below hb
 obtain ⟨F0, hF0, hF0B⟩ := h
 obtain ⟨F, hF, hturn⟩ := Res.star_turn hF0
 have hF' : (dsk b s).is w F := (dsk b s).keep w0 w F hF hb.size (fun k f => hb.block k ((dsk b s).lt w0 F hF k f))
 have hkeep : ((dsk b s).star R).is w F0 := ((dsk b s).star R).keep w0 w F0 hF0 hb.size (fun k f => hb.block k (((dsk b s).star R).lt w0 F0 hF0 k f))
 clear hturn
 obtain ⟨F1, F2, a1, a2, a3, a4, a5, a6⟩ := hkeep
 have hF1 : ∀ k, F1 k → k < w0.heap.size := fun k f => ((dsk b s).star R).lt w0 F0 hF0 k (a4 k f)
 have hnot : ∀ k, (Value.slice A m c).ownBlock = some k → ¬ F1 k := fun k hk f => by have := hA k hk; have := hF1 k f; have := hF0B k (a4 k f); omega
 have done : ∀ s' w', Turn (dsk b s') F1 w w' → Has B ((dsk b s').star R) w' ∧ Below B w w' := by
  intro s' w' t
  have hh : ((dsk b s).star R).is w F0 := ⟨F1, F2, a1, a2, a3, a4, a5, a6⟩
  have key : Turn ((dsk b s').star R) F0 w w' := by
   obtain ⟨t1, t2⟩ := t
   refine ⟨⟨grow F1 w w', F2, t1, R.keep w w' F2 a2 t2.size (fun k f => t2.block k (R.lt w F2 a2 k f) (fun g => a3 k g f)), ?_, ?_, fun k f => .inl (a5 k f), ?_⟩, t2.mono a4⟩
   ·intro k f g
    rcases f with f | f
    ·exact a3 k f g
    ·have := R.lt w F2 a2 k g; omega
   ·intro k f
    rcases f with f | f
    ·exact .inl (a4 k f)
    ·exact .inr f
   ·intro k f
    rcases f with f | f
    ·exact Nat.lt_of_lt_of_le (a6 k f) t2.size
    ·exact f.2
  refine ⟨⟨_, key.1, fun k f => ?_⟩, key.2.below hBw hF0B⟩
  rcases f with f | f
  ·exact hF0B k f
  ·omega
 obtain ⟨mb, A1, c1, hd⟩ := a1
 by_cases h1 : n < 0 ∨ (s.num : Int) ≤ n
 ·have e1 : s.wErr n l = 1 := by unfold St.wErr; rw [if_pos h1]
  have e2 : s.write n l = s := by unfold St.write; rw [if_pos h1]
  rw [e1, e2]
  exact (write_bad w F1 b mb A1 c1 s hd n h1 _).mono fun e w' ⟨he, ht⟩ => ⟨he, done s w' ht⟩
 ·obtain ⟨j, rfl⟩ := Int.eq_ofNat_of_zero_le (show 0 ≤ n by omega)
  have hj : j < s.num := by omega
  by_cases h2 : m = 256
  ·subst h2
   by_cases h3 : s.can = true
   ·have e1 : s.wErr j l = 0 := by unfold St.wErr; rw [if_neg h1, if_neg (by omega), if_pos h3]
    have e2 : s.write j l = s.wrote j l := by unfold St.write; rw [if_neg h1, if_neg (by omega), if_pos h3]; rfl
    rw [e1, e2]
    exact (write_made w F1 b mb A1 c1 s hd j hj A c l hl hnot h3 hlim).mono fun e w' ⟨he, ht⟩ => ⟨he, done _ w' ht⟩
   ·have h3' : s.can = false := by simpa using h3
    have e1 : s.wErr j l = 40 := by unfold St.wErr; rw [if_neg h1, if_neg (by omega), if_neg h3]
    have e2 : s.write j l = s.step := by unfold St.write; rw [if_neg h1, if_neg (by omega), if_neg h3]
    rw [e1, e2]
    exact (write_down w F1 b mb A1 c1 s hd j hj A c h3').mono fun e w' ⟨he, ht⟩ => ⟨he, done _ w' ht⟩
  ·have e1 : s.wErr j l = 12 := by unfold St.wErr; rw [if_neg h1, if_pos (by omega)]
   have e2 : s.write j l = s := by unfold St.write; rw [if_neg h1, if_pos (by omega)]
   rw [e1, e2]
   exact (write_len w F1 b mb A1 c1 s hd j hj A m c h2).mono fun e w' ⟨he, ht⟩ => ⟨he, done s w' ht⟩
theorem hasD_write (h : Has B ((dsk b s).star R) w0) (hb : Below w0.heap.size w0 w) (hB : B ≤ w0.heap.size) {A : Option Addr} {m c : Nat} {l : List Int} (hl : Byt w A m c l) (hA : ∀ k, (Value.slice A m c).ownBlock = some k → w0.heap.size ≤ k)
  (n : Int) (hn : -9223372036854775808 ≤ n ∧ n ≤ 9223372036854775807) (hlim : s.pend.length < 999999) :
  Calls Tryz.prog 77 #[.pointer (some ⟨b, 0, none⟩), .int .i64 n, .slice A m c] w (RetHas (.int .i64 (s.wErr n l)) B ((dsk b (s.write n l)).star R) w) :=
 hasD_writeO h hb hB hl (fun k hk => .inl (hA k hk)) n hn hlim
theorem hasD_sync (h : Has B ((dsk b s).star R) w) (hB : B ≤ w.heap.size) (hlim : s.syncs < 999999) :
  Calls Tryz.prog 53 #[.pointer (some ⟨b, 0, none⟩)] w (RetHas (.int .i64 s.sErr) B ((dsk b s.sync).star R) w) := by
 obtain ⟨F, ⟨mb, A1, c1, hd⟩, hturn⟩ := h.turn1 hB
 by_cases h3 : s.can = true
 ·have e1 : s.sErr = 0 := by unfold St.sErr; rw [if_pos h3]
  have e2 : s.sync = s.synced := by unfold St.sync; rw [if_pos h3]
  rw [e1, e2]
  exact (sync_made w F b mb A1 c1 s hd h3 hlim).mono fun e w' ⟨he, ht⟩ => ⟨he, hturn _ w' ht⟩
 ·have h3' : s.can = false := by simpa using h3
  have e1 : s.sErr = 40 := by unfold St.sErr; rw [if_neg h3]
  have e2 : s.sync = s.step := by unfold St.sync; rw [if_neg h3]
  rw [e1, e2]
  exact (sync_down w F b mb A1 c1 s hd h3').mono fun e w' ⟨he, ht⟩ => ⟨he, hturn _ w' ht⟩
theorem Has.one (h : Has B ((dsk b s).star R) w) : ∃ F mb A c, DskB w F b mb A c s := by
 obtain ⟨F, mb, A, c, hd⟩ := h.fst.ex
 exact ⟨F, mb, A, c, hd⟩
theorem hasD_sectors (h : Has B ((dsk b s).star R) w) : Calls Tryz.prog 55 #[.pointer (some ⟨b, 0, none⟩)] w (Same (.int .i64 s.num) w) := by
 obtain ⟨F, mb, A, c, hd⟩ := h.one
 exact sectors_any hd
theorem hasD_ok (h : Has B ((dsk b s).star R) w) : s.Ok := by
 obtain ⟨F, mb, A, c, hd⟩ := h.one
 exact hd.ok
def St.rBytes (s : St) (n : Int) : List Int := if s.rErr n = 0 then s.now n.toNat else []
def RetRd (l : List Int) (e0 : Int) (w : World) (e : Ending) (w' : World) : Prop :=
 ∃ A n c, e = .returned (.tuple #[.slice A n c, .int .i64 e0]) ∧ Byt w' A n c l ∧ (∀ g off, A = some ⟨g, off, none⟩ → w.heap.size ≤ g ∧ w'.frozen? ⟨g, off, none⟩ = false) ∧ Below w.heap.size w w'
theorem hasD_read (h : Has B ((dsk b s).star R) w) (n : Int) : Calls Tryz.prog 60 #[.pointer (some ⟨b, 0, none⟩), .int .i64 n] w (RetRd (s.rBytes n) (s.rErr n) w) := by
 obtain ⟨F, mb, A, c, hd⟩ := h.one
 by_cases h1 : n < 0 ∨ (s.num : Int) ≤ n
 ·have e1 : s.rErr n = 1 := by unfold St.rErr; rw [if_pos h1]
  have e2 : s.rBytes n = [] := by unfold St.rBytes; rw [e1]; rfl
  rw [e1, e2]
  exact (read_bad w F b mb A c s hd n h1).mono fun e w' ⟨he, hw⟩ => ⟨none, 0, 0, he, Byt.nil _, (fun _ _ q => nomatch q), by rw [← hw]; exact Below.refl _ _⟩
 ·obtain ⟨j, rfl⟩ := Int.eq_ofNat_of_zero_le (show 0 ≤ n by omega)
  have hj : j < s.num := by omega
  by_cases h2 : s.gone = true
  ·have e1 : s.rErr j = 40 := by unfold St.rErr; rw [if_neg h1, if_pos h2]
   have e2 : s.rBytes j = [] := by unfold St.rBytes; rw [e1]; rfl
   rw [e1, e2]
   exact (read_down w F b mb A c s hd j hj h2).mono fun e w' ⟨he, hw⟩ => ⟨none, 0, 0, he, Byt.nil _, (fun _ _ q => nomatch q), by rw [← hw]; exact Below.refl _ _⟩
  ·have h2' : s.gone = false := by simpa using h2
   have e1 : s.rErr j = 0 := by unfold St.rErr; rw [if_neg h1, if_neg h2]
   have e2 : s.rBytes j = s.now j := by unfold St.rBytes; rw [if_pos e1]; rfl
   rw [e1, e2]
   refine (read_ok w F b mb A c s hd j hj h2').mono fun e w' ⟨g, hg, he, hb, hbel⟩ => ⟨some ⟨g, 0, none⟩, 256, 256, he, Byt.sec hb (hd.ok.now j), fun g' off' q => ?_, hbel⟩
   injection q with q
   injection q with q1 q2
   subst q1 q2
   exact ⟨hg, hb.frz 0⟩
theorem hasD_new (hS : Has B R w) (hB : B ≤ w.heap.size) (n : Nat) (hn : 1 ≤ n ∧ n ≤ 4096) :
  Calls Tryz.prog 17 #[.int .i64 n] w (fun e w' => ∃ b, e = .returned (.tuple #[.pointer (some ⟨b, 0, none⟩), .int .i64 0]) ∧ Has B ((dsk b (St.new n)).star R) w' ∧ Below w.heap.size w w') :=
 (new_any n hn w).mono fun e w' ⟨b', he, his, hbel⟩ => ⟨b', he, hS.new hB hbel his, hbel⟩
end
end

/- a log as a thing in memory: its blocks, what reads where, and how it stands where these do. -/
section
open Go.RowKit
def rcC (x : Xr × Int) : List Value := x.1.cells.toList ++ [.int .i64 x.2]
theorem rcC_len (x : Xr × Int) : (rcC x).length = 17 := by simp [rcC, Xr.cells]
def rcR (x : Xr × Int) : Rc × Int := (x.1.read, x.2)
structure LgAt (w : World) (F : Nat → Prop) (b d : Nat) (L : Lg) (A : Option Addr) (n c : Nat) (xs : List (Xr × Int)) (Q : Option Addr) (p q : Nat) (vs : List (Option Addr × Nat × Nat)) (G : Nat → Prop) : Prop where
 bk : Bk w b 67 (lgC d L (.slice A n c) (.slice Q p q))
 recs : w.ownsRow 0 72 17 (.slice A n c) n (xs.flatMap rcC)
 read : xs.map rcR = L.recs
 len : xs.length = n
 each : ∀ x ∈ xs, XrIn w.heap.size w x.1 ∧ (∀ k, x.1.owns k → G k) ∧ (-9223372036854775808 ≤ x.2 ∧ x.2 ≤ 9223372036854775807)
 wait : w.ownsRow 0 59 1 (.slice Q p q) p (vs.flatMap slV)
 wlen : vs.length = p
 llen : L.wait.length = p
 weach : ∀ i, i < p → Bty w (vs.getD i sl0).1 (vs.getD i sl0).2.1 (vs.getD i sl0).2.2 (L.wait.getD i []) ∧ ∀ a, (vs.getD i sl0).1 = some a → G a.block
 sub : ∀ k, G k → F k
 fb : F b
 fr : ∀ k, (Value.slice A n c).ownBlock = some k → F k
 fw : ∀ k, (Value.slice Q p q).ownBlock = some k → F k
 gb : ¬ G b
 gr : ∀ k, (Value.slice A n c).ownBlock = some k → ¬ G k
 gw : ∀ k, (Value.slice Q p q).ownBlock = some k → ¬ G k
 lt : ∀ k, F k → k < w.heap.size
section
variable {w w' w0 w1 w2 : World} {F F' G : Nat → Prop} {b d n c p q : Nat} {L L' : Lg} {A Q : Option Addr} {xs : List (Xr × Int)} {vs : List (Option Addr × Nat × Nat)}
theorem LgAt.mono (h : LgAt w F b d L A n c xs Q p q vs G) (hF : ∀ k, F k → F' k) (hl : ∀ k, F' k → k < w.heap.size) : LgAt w F' b d L A n c xs Q p q vs G :=
 ⟨h.bk, h.recs, h.read, h.len, h.each, h.wait, h.wlen, h.llen, h.weach, fun k g => hF k (h.sub k g), hF _ h.fb, fun k e => hF k (h.fr k e), fun k e => hF k (h.fw k e), h.gb, h.gr, h.gw, hl⟩
theorem LgAt.keep (h : LgAt w F b d L A n c xs Q p q vs G) (hs : w.heap.size ≤ w'.heap.size) (hk : ∀ k, F k → w'.heap[k]? = w.heap[k]?) : LgAt w' F b d L A n c xs Q p q vs G :=
 ⟨h.bk.eq (hk b h.fb), owns_keep h.recs (fun k e => hk k (h.fr k e)), h.read, h.len, fun x hx => by
  obtain ⟨h1, h2, h3⟩ := h.each x hx
  exact ⟨h1.same hs (fun k q => hk k (h.sub k (h2 k q))), h2, h3⟩, owns_keep h.wait (fun k e => hk k (h.fw k e)), h.wlen, h.llen, fun i hi => by
  obtain ⟨h1, h2⟩ := h.weach i hi
  exact ⟨h1.stay (fun a ha => hk _ (h.sub _ (h2 a ha))), h2⟩, h.sub, h.fb, h.fr, h.fw, h.gb, h.gr, h.gw, fun k f => Nat.lt_of_lt_of_le (h.lt k f) hs⟩
theorem LgAt.rb (h : LgAt w F b d L A n c xs Q p q vs G) (k : Nat) (e : (Value.slice A n c).ownBlock = some k) : k ≠ b := fun q' => by
 obtain ⟨cur, hc⟩ := own_ty h.recs e
 have hb := h.bk
 unfold Bk at hb
 rw [q', hb] at hc
 injection hc with hc
 injection hc with _ hc
 cases hc
theorem LgAt.wb (h : LgAt w F b d L A n c xs Q p q vs G) (k : Nat) (e : (Value.slice Q p q).ownBlock = some k) : k ≠ b := fun q' => by
 obtain ⟨cur, hc⟩ := own_ty h.wait e
 have hb := h.bk
 unfold Bk at hb
 rw [q', hb] at hc
 injection hc with hc
 injection hc with _ hc
 cases hc
theorem LgAt.rw_ (h : LgAt w F b d L A n c xs Q p q vs G) (k : Nat) (e : (Value.slice A n c).ownBlock = some k) : (Value.slice Q p q).ownBlock ≠ some k := fun e' => by
 obtain ⟨cur, hc⟩ := own_ty h.recs e
 obtain ⟨cur', hc'⟩ := own_ty h.wait e'
 rw [hc] at hc'
 injection hc' with hc'
 injection hc' with _ hc'
 cases hc'
theorem LgAt.cells (h : LgAt w F b d L A n c xs Q p q vs G) (hb : Bk w' b 67 (lgC d L' (.slice A n c) (.slice Q p q))) (hs : w'.heap.size = w.heap.size) (hk : ∀ k, k ≠ b → w'.heap[k]? = w.heap[k]?) (hr : L'.recs = L.recs) (hw : L'.wait = L.wait) :
  LgAt w' F b d L' A n c xs Q p q vs G :=
 ⟨hb, owns_keep h.recs (fun k e => hk k (h.rb k e)), by rw [hr]; exact h.read, h.len, fun x hx => by
  obtain ⟨h1, h2, h3⟩ := h.each x hx
  exact ⟨h1.same (by omega) (fun k q => hk k (fun e => h.gb (e ▸ h2 k q))), h2, h3⟩, owns_keep h.wait (fun k e => hk k (h.wb k e)), h.wlen, by rw [hw]; exact h.llen, fun i hi => by
  obtain ⟨h1, h2⟩ := h.weach i hi
  rw [hw]
  exact ⟨h1.stay (fun a ha => hk _ (fun e => h.gb (e ▸ h2 a ha))), h2⟩, h.sub, h.fb, h.fr, h.fw, h.gb, h.gr, h.gw, fun k f => by rw [hs]; exact h.lt k f⟩
theorem LgAt.done (h : LgAt w F b d L A n c xs Q p q vs G) (hb : Bk w' b 67 (lgC d L' (.slice A n c) (.slice none 0 0))) (hs : w'.heap.size = w.heap.size) (hk : ∀ k, k ≠ b → w'.heap[k]? = w.heap[k]?) (hr : L'.recs = L.recs) (hw : L'.wait = []) :
  LgAt w' F b d L' A n c xs none 0 0 [] G :=
 ⟨hb, owns_keep h.recs (fun k e => hk k (h.rb k e)), by rw [hr]; exact h.read, h.len, fun x hx => by
  obtain ⟨h1, h2, h3⟩ := h.each x hx
  exact ⟨h1.same (by omega) (fun k q => hk k (fun e => h.gb (e ▸ h2 k q))), h2, h3⟩, World.ownsRow_nil _ _ _ _, rfl, by rw [hw]; rfl, fun i hi => absurd hi (by omega), h.sub, h.fb, h.fr, (fun k e => by cases e), h.gb, h.gr, (fun k e => by cases e), fun k f => by rw [hs]; exact h.lt k f⟩
end
def lgR (b d : Nat) (L : Lg) : Res where
 is w F := ∃ A n c xs Q p q vs G, LgAt w F b d L A n c xs Q p q vs G
 lt _ _ := fun ⟨_, _, _, _, _, _, _, _, _, h⟩ => h.lt
 keep _ _ _ := fun ⟨A, n, c, xs, Q, p, q, vs, G, h⟩ hs hk => ⟨A, n, c, xs, Q, p, q, vs, G, h.keep hs hk⟩
section
variable {B : Nat} {R : Res} {w : World} {b d : Nat} {L : Lg}
theorem lgR_open (h : Has B ((lgR b d L).star R) w) (hB : B ≤ w.heap.size) : ∃ F A n c xs Q p q vs G, LgAt w F b d L A n c xs Q p q vs G ∧ ∀ L' w', Turn (lgR b d L') F w w' → Has B ((lgR b d L').star R) w' ∧ Below B w w' := by
 obtain ⟨F0, h1, h2⟩ := h.turn hB
 obtain ⟨F, h3, h4⟩ := Res.star_turn h1
 have h5 := h3
 obtain ⟨A, n, c, xs, Q, p, q, vs, G, ha⟩ := h5
 exact ⟨F, A, n, c, xs, Q, p, q, vs, G, ha, fun L' w' t => h2 _ _ (h4 _ w' t)⟩
theorem lgR_at (h : Has B ((lgR b d L).star R) w) : ∃ F A n c xs Q p q vs G, LgAt w F b d L A n c xs Q p q vs G := by
 obtain ⟨F, hF⟩ := h.fst.ex
 exact ⟨F, hF⟩
end
end
end Go.Proofs.YtfmfmdiegabobabGreatDoor
