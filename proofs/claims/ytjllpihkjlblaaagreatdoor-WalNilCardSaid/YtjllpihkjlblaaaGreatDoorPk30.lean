/- What it says: contracts and plain mathematics that the laws' walks use, 30 of 32: each part's own remark says what; no condition. -/
import Derived.Test.YtjllpihkjlblaaaGreatDoorPk1
import Derived.Test.YtjllpihkjlblaaaGreatDoorPk15
import Derived.Test.YtjllpihkjlblaaaGreatDoorPk18
import Derived.Test.YtjllpihkjlblaaaGreatDoorPk26
import Derived.Test.YtjllpihkjlblaaaGreatDoorPk27
import Derived.Deep.AppendLies

set_option linter.unusedSimpArgs false
set_option linter.unusedVariables false
set_option linter.deprecated false
set_option linter.unusedSectionVars false
set_option linter.all false
namespace Go.Proofs.YtjllpihkjlblaaaGreatDoor

/- master.recordIn answers the record that a sector has, and whether it has one. -/
section
open Go.RowKit
def isM (n : Int) (l : List Int) : Bool := decide (openE l = 0 ∧ decE (openB l) = 0 ∧ (decR (openB l)).ok ∧ (decR (openB l)).gen % 2 = n)
set_option maxRecDepth 100000 in
set_option maxHeartbeats 4000000 in
theorem recordIn_any (z : Int) (A : Option Addr) (n c : Nat) (l : List Int) (w : World) (h : Byt w A n c l) :
    Calls Tryz.prog 87 #[.int .i64 z, .slice A n c] w (Ret (.tuple #[msV (recM z l), .bool (isM z l)]) w) := by
  obtain ⟨W0, hW0⟩ : ∃ W0, W0 = w.alloc (.cells #[.int .i64 0, .int .i64 0, .int .i64 0, .int .i64 0, .int .i64 0] 93) := ⟨_, rfl⟩
  have HZ0 : Hid (Bk W0 w.heap.size 93 #[.int .i64 0, .int .i64 0, .int .i64 0, .int .i64 0, .int .i64 0]) := Lib.hid (by rw [hW0]; exact Bk.new w _ _)
  have HB0 : Hid (Below w.heap.size w W0) := Lib.hid (by rw [hW0]; exact (Below.refl _ _).alloc (Nat.le_refl _) _)
  have CO := Lib.hid (stOpen_any A n c l W0 (h.below HB0.out))
  have HW0 := Lib.hid hW0
  have HLB : Hid (openE l = 0 → (openB l).length = 254) := Lib.hid (fun e => by
    by_cases hl : l.length = 256
    · unfold openB; rw [if_pos e]; exact bodyL_len hl
    · rw [openE_len hl] at e; omega)
  obtain ⟨r, hr⟩ : ∃ r, w.heap.size = r := ⟨_, rfl⟩
  rw [hr] at HZ0
  have HR := Lib.hid hr
  clear h hW0 hr
  by_cases h1 : openE l = 0
  · have HOE := Lib.hid h1
    by_cases h2 : decE (openB l) = 0
    · by_cases h3 : (decR (openB l)).ok
      · by_cases h4 : (decR (openB l)).gen % 2 = z
        · have E : Hid (recM z l = decR (openB l) ∧ isM z l = true) := Lib.hid ⟨recM_yes ⟨h1, h2, h3, h4⟩, decide_eq_true ⟨h1, h2, h3, h4⟩⟩
          rw [h1] at CO
          go_enter Tryz.func87, Tryz.ntmps87
          go_wp2_with fail
          rw [← HW0.out, HR.out]
          refine CO.out.mono ?_
          rintro e W1 ⟨A1, n1, c1, rfl, hb, hbel⟩
          have HBY := Lib.hid hb
          have HB1 := Lib.hid hbel
          have Z1 : Hid (Bk W1 r 93 #[.int .i64 0, .int .i64 0, .int .i64 0, .int .i64 0, .int .i64 0]) := Lib.hid (HZ0.out.later HB1.out)
          have L1 : Hid (Below r w W1) := Lib.hid (by rw [← HR.out]; exact HB0.out.trans (HB1.out.mono HB0.out.size))
          clear hb hbel CO HW0 HZ0 HB0 HB1
          have CD := Lib.hid (decode_any A1 n1 c1 (openB l) W1 HBY.out (by have := HLB.out HOE.out; omega) (by have := HBY.out.len; have := HLB.out HOE.out; omega))
          obtain ⟨m, hm⟩ : ∃ m, decM (openB l) = m := ⟨_, rfl⟩
          obtain ⟨x, hx⟩ : ∃ x, decE (openB l) = x := ⟨_, rfl⟩
          rw [hm, hx, show msV m = .agg #[.int .i64 m.gen, .int .i64 m.inc, .int .i64 m.first, .int .i64 m.lsn, .int .i64 m.chk] from rfl] at CD
          have HMM := Lib.hid hm
          have HX := Lib.hid hx
          clear hm hx
          go_wp2_with fail
          refine CD.out.mono ?_
          rintro e W2 ⟨rfl, hbel⟩
          obtain ⟨W3, hW3⟩ : ∃ W3, W3 = W2.alloc (.cells #[.int .i64 m.gen, .int .i64 m.inc, .int .i64 m.first, .int .i64 m.lsn, .int .i64 m.chk] 93) := ⟨_, rfl⟩
          have Z3 : Hid (Bk W3 r 93 #[.int .i64 0, .int .i64 0, .int .i64 0, .int .i64 0, .int .i64 0]) := Lib.hid (by rw [hW3]; exact (Z1.out.later hbel).bel ((Below.refl W2.heap.size _).alloc (Nat.le_refl _) _) (Z1.out.later hbel).lt)
          have L3 : Hid (Below r w W3) := Lib.hid (by rw [hW3]; exact (L1.out.trans (hbel.mono (Nat.le_of_lt Z1.out.lt))).alloc (Nat.le_trans (Nat.le_of_lt Z1.out.lt) hbel.size) _)
          have K3 : Hid (Bk W3 W2.heap.size 93 #[.int .i64 m.gen, .int .i64 m.inc, .int .i64 m.first, .int .i64 m.lsn, .int .i64 m.chk]) := Lib.hid (by rw [hW3]; exact Bk.new _ _ _)
          have HW3 := Lib.hid hW3
          obtain ⟨q, hq⟩ : ∃ q, W2.heap.size = q := ⟨_, rfl⟩
          rw [hq] at K3
          have HQ := Lib.hid hq
          have HRQ : Hid (r < q) := Lib.hid (by rw [← hq]; exact Nat.lt_of_lt_of_le Z1.out.lt hbel.size)
          clear hW3 hbel CD Z1 L1 HBY hq
          obtain rfl : x = 0 := by rw [← HX.out]; exact h2
          have HMD : Hid (m = decR (openB l)) := Lib.hid (by rw [← HMM.out]; unfold decM; rw [if_neg (by rw [h2]; simp)])
          have CV := Lib.hid (isValid_any m W3)
          rw [show msV m = .agg #[.int .i64 m.gen, .int .i64 m.inc, .int .i64 m.first, .int .i64 m.lsn, .int .i64 m.chk] from rfl] at CV
          have HOK : Hid m.ok := Lib.hid (by rw [HMD.out]; exact h3)
          rw [decide_eq_true HOK.out] at CV
          go_wp2_with fail
          rw [← HW3.out, HQ.out]
          clear HW3
          go_wp2_with (refine wpList_load_row rfl 93 _ rfl q rfl 93 #[.int .i64 m.gen, .int .i64 m.inc, .int .i64 m.first, .int .i64 m.lsn, .int .i64 m.chk] (0, 0) _ K3.out Tryz.underlying93 rfl ms_info ?_)
          refine CV.out.mono ?_
          rintro e W4 ⟨rfl, hbel⟩
          have Z4 : Hid (Bk W4 r 93 #[.int .i64 0, .int .i64 0, .int .i64 0, .int .i64 0, .int .i64 0]) := Lib.hid (Z3.out.later hbel)
          have K4 : Hid (Bk W4 q 93 #[.int .i64 m.gen, .int .i64 m.inc, .int .i64 m.first, .int .i64 m.lsn, .int .i64 m.chk]) := Lib.hid (K3.out.later hbel)
          have L4 : Hid (Below r w W4) := Lib.hid (L3.out.trans (hbel.mono (Nat.le_of_lt Z3.out.lt)))
          clear hbel CV Z3 K3 L3
          have CS := Lib.hid (sectorOf_any m W4 (by have := HOK.out.gen; omega))
          rw [show msV m = .agg #[.int .i64 m.gen, .int .i64 m.inc, .int .i64 m.first, .int .i64 m.lsn, .int .i64 m.chk] from rfl] at CS
          rw [show m.gen % 2 = z from by rw [HMD.out]; exact h4] at CS
          clear h1 h2 h3 h4
          have c0 : W4.cell? ⟨q, 0, none⟩ = some (.int .i64 m.gen) := K4.out.cell 0
          have c1 : W4.cell? ⟨q, 1, none⟩ = some (.int .i64 m.inc) := K4.out.cell 1
          have c2 : W4.cell? ⟨q, 2, none⟩ = some (.int .i64 m.first) := K4.out.cell 2
          have c3 : W4.cell? ⟨q, 3, none⟩ = some (.int .i64 m.lsn) := K4.out.cell 3
          have c4 : W4.cell? ⟨q, 4, none⟩ = some (.int .i64 m.chk) := K4.out.cell 4
          go_wp2_with fail
          refine CS.out.mono ?_
          rintro e W5 ⟨rfl, hbel⟩
          have Z5 : Hid (Bk W5 r 93 #[.int .i64 0, .int .i64 0, .int .i64 0, .int .i64 0, .int .i64 0]) := Lib.hid (Z4.out.later hbel)
          have K5 : Hid (Bk W5 q 93 #[.int .i64 m.gen, .int .i64 m.inc, .int .i64 m.first, .int .i64 m.lsn, .int .i64 m.chk]) := Lib.hid (K4.out.later hbel)
          have L5 : Hid (Below r w W5) := Lib.hid (L4.out.trans (hbel.mono (Nat.le_of_lt Z4.out.lt)))
          clear hbel CS Z4 K4 L4 c0 c1 c2 c3 c4
          go_wp2_with (first | (refine wpList_load_row rfl 93 _ rfl q rfl 93 #[.int .i64 m.gen, .int .i64 m.inc, .int .i64 m.first, .int .i64 m.lsn, .int .i64 m.chk] (0, 0) _ K5.out Tryz.underlying93 rfl ms_info ?_) | (refine wpList_store_row rfl 93 _ _ rfl r #[.int .i64 m.gen, .int .i64 m.inc, .int .i64 m.first, .int .i64 m.lsn, .int .i64 m.chk] rfl rfl 93 _ Z5.out ms_info rfl (ms_one _ _ _ _ _) ?_; simp only [Act.put]))
          (try simp only [Exit.inBlock, Exit.then])
          refine bodyPost_ret (results_cellT rfl _ _ r 93 #[.int .i64 m.gen, .int .i64 m.inc, .int .i64 m.first, .int .i64 m.lsn, .int .i64 m.chk] _ rfl (Z5.out.row _) Tryz.underlying93 rfl ms_info) rfl ?_
          rw [E.out.1, E.out.2, ← HMD.out]
          refine ⟨rfl, ?_⟩
          rw [HR.out]
          exact below_setRow L5.out (Nat.le_refl r) _
        · have E : Hid (recM z l = ms0 ∧ isM z l = false) := Lib.hid ⟨recM_no (fun q => h4 q.2.2.2), decide_eq_false (fun q => h4 q.2.2.2)⟩
          rw [h1] at CO
          go_enter Tryz.func87, Tryz.ntmps87
          go_wp2_with fail
          rw [← HW0.out, HR.out]
          refine CO.out.mono ?_
          rintro e W1 ⟨A1, n1, c1, rfl, hb, hbel⟩
          have HBY := Lib.hid hb
          have HB1 := Lib.hid hbel
          have Z1 : Hid (Bk W1 r 93 #[.int .i64 0, .int .i64 0, .int .i64 0, .int .i64 0, .int .i64 0]) := Lib.hid (HZ0.out.later HB1.out)
          have L1 : Hid (Below r w W1) := Lib.hid (by rw [← HR.out]; exact HB0.out.trans (HB1.out.mono HB0.out.size))
          clear hb hbel CO HW0 HZ0 HB0 HB1
          have CD := Lib.hid (decode_any A1 n1 c1 (openB l) W1 HBY.out (by have := HLB.out HOE.out; omega) (by have := HBY.out.len; have := HLB.out HOE.out; omega))
          obtain ⟨m, hm⟩ : ∃ m, decM (openB l) = m := ⟨_, rfl⟩
          obtain ⟨x, hx⟩ : ∃ x, decE (openB l) = x := ⟨_, rfl⟩
          rw [hm, hx, show msV m = .agg #[.int .i64 m.gen, .int .i64 m.inc, .int .i64 m.first, .int .i64 m.lsn, .int .i64 m.chk] from rfl] at CD
          have HMM := Lib.hid hm
          have HX := Lib.hid hx
          clear hm hx
          go_wp2_with fail
          refine CD.out.mono ?_
          rintro e W2 ⟨rfl, hbel⟩
          obtain ⟨W3, hW3⟩ : ∃ W3, W3 = W2.alloc (.cells #[.int .i64 m.gen, .int .i64 m.inc, .int .i64 m.first, .int .i64 m.lsn, .int .i64 m.chk] 93) := ⟨_, rfl⟩
          have Z3 : Hid (Bk W3 r 93 #[.int .i64 0, .int .i64 0, .int .i64 0, .int .i64 0, .int .i64 0]) := Lib.hid (by rw [hW3]; exact (Z1.out.later hbel).bel ((Below.refl W2.heap.size _).alloc (Nat.le_refl _) _) (Z1.out.later hbel).lt)
          have L3 : Hid (Below r w W3) := Lib.hid (by rw [hW3]; exact (L1.out.trans (hbel.mono (Nat.le_of_lt Z1.out.lt))).alloc (Nat.le_trans (Nat.le_of_lt Z1.out.lt) hbel.size) _)
          have K3 : Hid (Bk W3 W2.heap.size 93 #[.int .i64 m.gen, .int .i64 m.inc, .int .i64 m.first, .int .i64 m.lsn, .int .i64 m.chk]) := Lib.hid (by rw [hW3]; exact Bk.new _ _ _)
          have HW3 := Lib.hid hW3
          obtain ⟨q, hq⟩ : ∃ q, W2.heap.size = q := ⟨_, rfl⟩
          rw [hq] at K3
          have HQ := Lib.hid hq
          have HRQ : Hid (r < q) := Lib.hid (by rw [← hq]; exact Nat.lt_of_lt_of_le Z1.out.lt hbel.size)
          clear hW3 hbel CD Z1 L1 HBY hq
          obtain rfl : x = 0 := by rw [← HX.out]; exact h2
          have HMD : Hid (m = decR (openB l)) := Lib.hid (by rw [← HMM.out]; unfold decM; rw [if_neg (by rw [h2]; simp)])
          have CV := Lib.hid (isValid_any m W3)
          rw [show msV m = .agg #[.int .i64 m.gen, .int .i64 m.inc, .int .i64 m.first, .int .i64 m.lsn, .int .i64 m.chk] from rfl] at CV
          have HOK : Hid m.ok := Lib.hid (by rw [HMD.out]; exact h3)
          rw [decide_eq_true HOK.out] at CV
          go_wp2_with fail
          rw [← HW3.out, HQ.out]
          clear HW3
          go_wp2_with (refine wpList_load_row rfl 93 _ rfl q rfl 93 #[.int .i64 m.gen, .int .i64 m.inc, .int .i64 m.first, .int .i64 m.lsn, .int .i64 m.chk] (0, 0) _ K3.out Tryz.underlying93 rfl ms_info ?_)
          refine CV.out.mono ?_
          rintro e W4 ⟨rfl, hbel⟩
          have Z4 : Hid (Bk W4 r 93 #[.int .i64 0, .int .i64 0, .int .i64 0, .int .i64 0, .int .i64 0]) := Lib.hid (Z3.out.later hbel)
          have K4 : Hid (Bk W4 q 93 #[.int .i64 m.gen, .int .i64 m.inc, .int .i64 m.first, .int .i64 m.lsn, .int .i64 m.chk]) := Lib.hid (K3.out.later hbel)
          have L4 : Hid (Below r w W4) := Lib.hid (L3.out.trans (hbel.mono (Nat.le_of_lt Z3.out.lt)))
          clear hbel CV Z3 K3 L3
          have CS := Lib.hid (sectorOf_any m W4 (by have := HOK.out.gen; omega))
          rw [show msV m = .agg #[.int .i64 m.gen, .int .i64 m.inc, .int .i64 m.first, .int .i64 m.lsn, .int .i64 m.chk] from rfl] at CS
          have HNE : Hid (m.gen % 2 ≠ z) := Lib.hid (by rw [HMD.out]; exact h4)
          obtain ⟨y, hy⟩ : ∃ y, m.gen % 2 = y := ⟨_, rfl⟩
          rw [hy] at CS
          have hd : (y != z) = true := by have := HNE.out; rw [hy] at this; simpa using this
          clear h1 h2 h3 h4
          have c0 : W4.cell? ⟨q, 0, none⟩ = some (.int .i64 m.gen) := K4.out.cell 0
          have c1 : W4.cell? ⟨q, 1, none⟩ = some (.int .i64 m.inc) := K4.out.cell 1
          have c2 : W4.cell? ⟨q, 2, none⟩ = some (.int .i64 m.first) := K4.out.cell 2
          have c3 : W4.cell? ⟨q, 3, none⟩ = some (.int .i64 m.lsn) := K4.out.cell 3
          have c4 : W4.cell? ⟨q, 4, none⟩ = some (.int .i64 m.chk) := K4.out.cell 4
          go_wp2_with fail
          refine CS.out.mono ?_
          rintro e W5 ⟨rfl, hbel⟩
          have Z5 : Hid (Bk W5 r 93 #[.int .i64 0, .int .i64 0, .int .i64 0, .int .i64 0, .int .i64 0]) := Lib.hid (Z4.out.later hbel)
          have K5 : Hid (Bk W5 q 93 #[.int .i64 m.gen, .int .i64 m.inc, .int .i64 m.first, .int .i64 m.lsn, .int .i64 m.chk]) := Lib.hid (K4.out.later hbel)
          have L5 : Hid (Below r w W5) := Lib.hid (L4.out.trans (hbel.mono (Nat.le_of_lt Z4.out.lt)))
          clear hbel CS Z4 K4 L4 c0 c1 c2 c3 c4
          go_wp2_with (refine wpList_store_row rfl 93 _ _ rfl r #[.int .i64 0, .int .i64 0, .int .i64 0, .int .i64 0, .int .i64 0] rfl rfl 93 _ Z5.out ms_info rfl (ms_one _ _ _ _ _) ?_; simp only [Act.put])
          (try simp only [Exit.inBlock, Exit.then])
          refine bodyPost_ret (results_cellT rfl _ _ r 93 #[.int .i64 0, .int .i64 0, .int .i64 0, .int .i64 0, .int .i64 0] _ rfl (Z5.out.row _) Tryz.underlying93 rfl ms_info) rfl ?_
          rw [E.out.1, E.out.2]
          refine ⟨rfl, ?_⟩
          rw [HR.out]
          exact below_setRow L5.out (Nat.le_refl r) _
      · have E : Hid (recM z l = ms0 ∧ isM z l = false) := Lib.hid ⟨recM_no (fun q => h3 q.2.2.1), decide_eq_false (fun q => h3 q.2.2.1)⟩
        rw [h1] at CO
        go_enter Tryz.func87, Tryz.ntmps87
        go_wp2_with fail
        rw [← HW0.out, HR.out]
        refine CO.out.mono ?_
        rintro e W1 ⟨A1, n1, c1, rfl, hb, hbel⟩
        have HBY := Lib.hid hb
        have HB1 := Lib.hid hbel
        have Z1 : Hid (Bk W1 r 93 #[.int .i64 0, .int .i64 0, .int .i64 0, .int .i64 0, .int .i64 0]) := Lib.hid (HZ0.out.later HB1.out)
        have L1 : Hid (Below r w W1) := Lib.hid (by rw [← HR.out]; exact HB0.out.trans (HB1.out.mono HB0.out.size))
        clear hb hbel CO HW0 HZ0 HB0 HB1
        have CD := Lib.hid (decode_any A1 n1 c1 (openB l) W1 HBY.out (by have := HLB.out HOE.out; omega) (by have := HBY.out.len; have := HLB.out HOE.out; omega))
        obtain ⟨m, hm⟩ : ∃ m, decM (openB l) = m := ⟨_, rfl⟩
        obtain ⟨x, hx⟩ : ∃ x, decE (openB l) = x := ⟨_, rfl⟩
        rw [hm, hx, show msV m = .agg #[.int .i64 m.gen, .int .i64 m.inc, .int .i64 m.first, .int .i64 m.lsn, .int .i64 m.chk] from rfl] at CD
        have HMM := Lib.hid hm
        have HX := Lib.hid hx
        clear hm hx
        go_wp2_with fail
        refine CD.out.mono ?_
        rintro e W2 ⟨rfl, hbel⟩
        obtain ⟨W3, hW3⟩ : ∃ W3, W3 = W2.alloc (.cells #[.int .i64 m.gen, .int .i64 m.inc, .int .i64 m.first, .int .i64 m.lsn, .int .i64 m.chk] 93) := ⟨_, rfl⟩
        have Z3 : Hid (Bk W3 r 93 #[.int .i64 0, .int .i64 0, .int .i64 0, .int .i64 0, .int .i64 0]) := Lib.hid (by rw [hW3]; exact (Z1.out.later hbel).bel ((Below.refl W2.heap.size _).alloc (Nat.le_refl _) _) (Z1.out.later hbel).lt)
        have L3 : Hid (Below r w W3) := Lib.hid (by rw [hW3]; exact (L1.out.trans (hbel.mono (Nat.le_of_lt Z1.out.lt))).alloc (Nat.le_trans (Nat.le_of_lt Z1.out.lt) hbel.size) _)
        have K3 : Hid (Bk W3 W2.heap.size 93 #[.int .i64 m.gen, .int .i64 m.inc, .int .i64 m.first, .int .i64 m.lsn, .int .i64 m.chk]) := Lib.hid (by rw [hW3]; exact Bk.new _ _ _)
        have HW3 := Lib.hid hW3
        obtain ⟨q, hq⟩ : ∃ q, W2.heap.size = q := ⟨_, rfl⟩
        rw [hq] at K3
        have HQ := Lib.hid hq
        have HRQ : Hid (r < q) := Lib.hid (by rw [← hq]; exact Nat.lt_of_lt_of_le Z1.out.lt hbel.size)
        clear hW3 hbel CD Z1 L1 HBY hq
        obtain rfl : x = 0 := by rw [← HX.out]; exact h2
        have HMD : Hid (m = decR (openB l)) := Lib.hid (by rw [← HMM.out]; unfold decM; rw [if_neg (by rw [h2]; simp)])
        have CV := Lib.hid (isValid_any m W3)
        rw [show msV m = .agg #[.int .i64 m.gen, .int .i64 m.inc, .int .i64 m.first, .int .i64 m.lsn, .int .i64 m.chk] from rfl] at CV
        rw [decide_eq_false (by rw [HMD.out]; exact h3)] at CV
        go_wp2_with fail
        rw [← HW3.out, HQ.out]
        clear HW3
        go_wp2_with (refine wpList_load_row rfl 93 _ rfl q rfl 93 #[.int .i64 m.gen, .int .i64 m.inc, .int .i64 m.first, .int .i64 m.lsn, .int .i64 m.chk] (0, 0) _ K3.out Tryz.underlying93 rfl ms_info ?_)
        refine CV.out.mono ?_
        rintro e W4 ⟨rfl, hbel⟩
        have Z4 : Hid (Bk W4 r 93 #[.int .i64 0, .int .i64 0, .int .i64 0, .int .i64 0, .int .i64 0]) := Lib.hid (Z3.out.later hbel)
        have K4 : Hid (Bk W4 q 93 #[.int .i64 m.gen, .int .i64 m.inc, .int .i64 m.first, .int .i64 m.lsn, .int .i64 m.chk]) := Lib.hid (K3.out.later hbel)
        have L4 : Hid (Below r w W4) := Lib.hid (L3.out.trans (hbel.mono (Nat.le_of_lt Z3.out.lt)))
        clear hbel CV Z3 K3 L3
        go_wp2_with (refine wpList_store_row rfl 93 _ _ rfl r #[.int .i64 0, .int .i64 0, .int .i64 0, .int .i64 0, .int .i64 0] rfl rfl 93 _ Z4.out ms_info rfl (ms_one _ _ _ _ _) ?_; simp only [Act.put])
        (try simp only [Exit.inBlock, Exit.then])
        refine bodyPost_ret (results_cellT rfl _ _ r 93 #[.int .i64 0, .int .i64 0, .int .i64 0, .int .i64 0, .int .i64 0] _ rfl (Z4.out.row _) Tryz.underlying93 rfl ms_info) rfl ?_
        rw [E.out.1, E.out.2]
        refine ⟨rfl, ?_⟩
        rw [HR.out]
        exact below_setRow L4.out (Nat.le_refl r) _
    · have E : Hid (recM z l = ms0 ∧ isM z l = false) := Lib.hid ⟨recM_no (fun q => h2 q.2.1), decide_eq_false (fun q => h2 q.2.1)⟩
      rw [h1] at CO
      go_enter Tryz.func87, Tryz.ntmps87
      go_wp2_with fail
      rw [← HW0.out, HR.out]
      refine CO.out.mono ?_
      rintro e W1 ⟨A1, n1, c1, rfl, hb, hbel⟩
      have HBY := Lib.hid hb
      have HB1 := Lib.hid hbel
      have Z1 : Hid (Bk W1 r 93 #[.int .i64 0, .int .i64 0, .int .i64 0, .int .i64 0, .int .i64 0]) := Lib.hid (HZ0.out.later HB1.out)
      have L1 : Hid (Below r w W1) := Lib.hid (by rw [← HR.out]; exact HB0.out.trans (HB1.out.mono HB0.out.size))
      clear hb hbel CO HW0 HZ0 HB0 HB1
      have CD := Lib.hid (decode_any A1 n1 c1 (openB l) W1 HBY.out (by have := HLB.out HOE.out; omega) (by have := HBY.out.len; have := HLB.out HOE.out; omega))
      obtain ⟨m, hm⟩ : ∃ m, decM (openB l) = m := ⟨_, rfl⟩
      obtain ⟨x, hx⟩ : ∃ x, decE (openB l) = x := ⟨_, rfl⟩
      rw [hm, hx, show msV m = .agg #[.int .i64 m.gen, .int .i64 m.inc, .int .i64 m.first, .int .i64 m.lsn, .int .i64 m.chk] from rfl] at CD
      have HMM := Lib.hid hm
      have HX := Lib.hid hx
      clear hm hx
      go_wp2_with fail
      refine CD.out.mono ?_
      rintro e W2 ⟨rfl, hbel⟩
      obtain ⟨W3, hW3⟩ : ∃ W3, W3 = W2.alloc (.cells #[.int .i64 m.gen, .int .i64 m.inc, .int .i64 m.first, .int .i64 m.lsn, .int .i64 m.chk] 93) := ⟨_, rfl⟩
      have Z3 : Hid (Bk W3 r 93 #[.int .i64 0, .int .i64 0, .int .i64 0, .int .i64 0, .int .i64 0]) := Lib.hid (by rw [hW3]; exact (Z1.out.later hbel).bel ((Below.refl W2.heap.size _).alloc (Nat.le_refl _) _) (Z1.out.later hbel).lt)
      have L3 : Hid (Below r w W3) := Lib.hid (by rw [hW3]; exact (L1.out.trans (hbel.mono (Nat.le_of_lt Z1.out.lt))).alloc (Nat.le_trans (Nat.le_of_lt Z1.out.lt) hbel.size) _)
      have K3 : Hid (Bk W3 W2.heap.size 93 #[.int .i64 m.gen, .int .i64 m.inc, .int .i64 m.first, .int .i64 m.lsn, .int .i64 m.chk]) := Lib.hid (by rw [hW3]; exact Bk.new _ _ _)
      have HW3 := Lib.hid hW3
      obtain ⟨q, hq⟩ : ∃ q, W2.heap.size = q := ⟨_, rfl⟩
      rw [hq] at K3
      have HQ := Lib.hid hq
      have HRQ : Hid (r < q) := Lib.hid (by rw [← hq]; exact Nat.lt_of_lt_of_le Z1.out.lt hbel.size)
      clear hW3 hbel CD Z1 L1 HBY hq
      have hd : ((x : Int) != 0) = true := by have := HX.out; simp; omega
      clear h2
      have Z3L : Hid (Bk (W2.alloc (.cells #[.int .i64 m.gen, .int .i64 m.inc, .int .i64 m.first, .int .i64 m.lsn, .int .i64 m.chk] 93)) r 93 #[.int .i64 0, .int .i64 0, .int .i64 0, .int .i64 0, .int .i64 0]) := Lib.hid (by rw [← HW3.out]; exact Z3.out)
      go_wp2_with (refine wpList_store_row rfl 93 _ _ rfl r #[.int .i64 0, .int .i64 0, .int .i64 0, .int .i64 0, .int .i64 0] rfl rfl 93 _ Z3L.out ms_info rfl (ms_one _ _ _ _ _) ?_; simp only [Act.put])
      rw [← HW3.out]
      (try simp only [Exit.inBlock, Exit.then])
      refine bodyPost_ret (results_cellT rfl _ _ r 93 #[.int .i64 0, .int .i64 0, .int .i64 0, .int .i64 0, .int .i64 0] _ rfl (Z3.out.row _) Tryz.underlying93 rfl ms_info) rfl ?_
      rw [E.out.1, E.out.2]
      refine ⟨rfl, ?_⟩
      rw [HR.out]
      exact below_setRow L3.out (Nat.le_refl r) _
  · have E : Hid (recM z l = ms0 ∧ isM z l = false) := Lib.hid ⟨recM_no (fun q => h1 q.1), decide_eq_false (fun q => h1 q.1)⟩
    obtain ⟨oe, hoe⟩ : ∃ oe, openE l = oe := ⟨_, rfl⟩
    rw [hoe] at CO h1
    have hd : (oe != 0) = true := by simpa using h1
    clear hoe h1
    go_enter Tryz.func87, Tryz.ntmps87
    go_wp2_with fail
    rw [← HW0.out, HR.out]
    refine CO.out.mono ?_
    rintro e W1 ⟨A1, n1, c1, rfl, hb, hbel⟩
    have HBY := Lib.hid hb
    have HB1 := Lib.hid hbel
    have Z1 : Hid (Bk W1 r 93 #[.int .i64 0, .int .i64 0, .int .i64 0, .int .i64 0, .int .i64 0]) := Lib.hid (HZ0.out.later HB1.out)
    have L1 : Hid (Below r w W1) := Lib.hid (by rw [← HR.out]; exact HB0.out.trans (HB1.out.mono HB0.out.size))
    clear hb hbel CO HW0 HZ0 HB0 HB1
    go_wp2_with (refine wpList_store_row rfl 93 _ _ rfl r #[.int .i64 0, .int .i64 0, .int .i64 0, .int .i64 0, .int .i64 0] rfl rfl 93 _ Z1.out ms_info rfl (ms_one _ _ _ _ _) ?_; simp only [Act.put])
    (try simp only [Exit.inBlock, Exit.then])
    refine bodyPost_ret (results_cellT rfl _ _ r 93 #[.int .i64 0, .int .i64 0, .int .i64 0, .int .i64 0, .int .i64 0] _ rfl (Z1.out.row _) Tryz.underlying93 rfl ms_info) rfl ?_
    rw [E.out.1, E.out.2]
    refine ⟨rfl, ?_⟩
    rw [HR.out]
    exact below_setRow L1.out (Nat.le_refl r) _
end

/- master.Load, where reads answer known bytes or errors: the record that counts, or the error; nothing that was there is turned. -/
section
open Go.RowKit
def better (best x : Ms) : Ms := if best.gen < x.gen then x else best
theorem isM_no {z : Int} {l : List Int} (h : isM z l = false) : recM z l = ms0 := recM_no (of_decide_eq_false h)
theorem better_no {best : Ms} {z : Int} {l : List Int} (h : isM z l = false) (hb : 0 ≤ best.gen) : better best (recM z l) = best := by
  unfold better
  rw [if_neg]
  rw [isM_no h]
  show ¬ best.gen < 0
  omega
def RetEx (er : Int) (qb : Nat) (best : Ms) (w : World) (e : Ending) (w' : World) : Prop := e = .returned (.int .i64 er) ∧ Bk w' qb 93 (msC best) ∧ w.grownBy w' (some qb)
set_option maxRecDepth 100000 in
set_option maxHeartbeats 4000000 in
theorem examine_any (d : Option Addr) (qd qb : Nat) (best : Ms) (z : Int) (l : List Int) (er : Int) (w : World) (hd : Bk w qd 25 #[.pointer d]) (hb : Bk w qb 93 (msC best)) (h0 : 0 ≤ best.gen)
    (hR : Calls Tryz.prog 86 #[.pointer d, .int .i64 z] w (RetRd l er w)) :
    Calls Tryz.prog 85 #[.int .i64 z, .pointer (some ⟨qd, 0, none⟩), .pointer (some ⟨qb, 0, none⟩)] w (RetEx er qb (if er ≠ 0 then best else better best (recM z l)) w) := by
  have HR := Lib.hid hR
  have HB := Lib.hid hb
  have HP := Lib.hid h0
  have cd : w.cell? ⟨qd, 0, none⟩ = some (.pointer d) := hd.cell 0
  clear hd hb hR h0
  by_cases he : er = 0
  · subst he
    rw [if_neg (by simp)]
    obtain ⟨i, hi⟩ : ∃ i, isM z l = i := ⟨_, rfl⟩
    have HI := Lib.hid hi
    obtain ⟨m, hm⟩ : ∃ m, recM z l = m := ⟨_, rfl⟩
    have HM := Lib.hid hm
    rw [hm]
    clear hi hm
    cases i with
    | false =>
        go_enter Tryz.func85, Tryz.ntmps85
        go_wp2_with fail
        refine HR.out.mono ?_
        rintro e W1 ⟨A, n, c, rfl, hy, _, hbel⟩
        have CI := Lib.hid (recordIn_any z A n c l W1 hy)
        rw [HM.out, HI.out, show msV m = .agg #[.int .i64 m.gen, .int .i64 m.inc, .int .i64 m.first, .int .i64 m.lsn, .int .i64 m.chk] from rfl] at CI
        have HB1 := Lib.hid hbel
        clear hy hbel HR
        go_wp2_with fail
        refine CI.out.mono ?_
        rintro e W2 ⟨rfl, hbel⟩
        have K2 : Hid (Bk W2 qb 93 (msC best)) := Lib.hid ((HB.out.later HB1.out).later hbel)
        have G2 : Hid (w.grownBy W2 (some qb)) := Lib.hid (grown_below (HB1.out.trans (hbel.mono HB1.out.size)))
        have K3 : Hid (Bk (W2.alloc (.cells #[.int .i64 m.gen, .int .i64 m.inc, .int .i64 m.first, .int .i64 m.lsn, .int .i64 m.chk] 93)) qb 93 (msC best)) := Lib.hid (K2.out.later ((Below.refl _ _).alloc (Nat.le_refl _) _))
        have G3 : Hid (w.grownBy (W2.alloc (.cells #[.int .i64 m.gen, .int .i64 m.inc, .int .i64 m.first, .int .i64 m.lsn, .int .i64 m.chk] 93)) (some qb)) := Lib.hid (grown_trans G2.out (World.grownBy_alloc W2 _ _))
        clear hbel CI HB HB1
        go_wp2_with fail
        go_ret
        refine ⟨rfl, ?_, G3.out⟩
        have hbt := better_no HI.out HP.out
        rw [HM.out] at hbt
        rw [hbt]
        exact K3.out
    | true =>
        by_cases hlt : best.gen < m.gen
        · go_enter Tryz.func85, Tryz.ntmps85
          go_wp2_with fail
          refine HR.out.mono ?_
          rintro e W1 ⟨A, n, c, rfl, hy, _, hbel⟩
          have CI := Lib.hid (recordIn_any z A n c l W1 hy)
          rw [HM.out, HI.out, show msV m = .agg #[.int .i64 m.gen, .int .i64 m.inc, .int .i64 m.first, .int .i64 m.lsn, .int .i64 m.chk] from rfl] at CI
          have HB1 := Lib.hid hbel
          clear hy hbel HR
          go_wp2_with fail
          refine CI.out.mono ?_
          rintro e W2 ⟨rfl, hbel⟩
          have K2 : Hid (Bk W2 qb 93 (msC best)) := Lib.hid ((HB.out.later HB1.out).later hbel)
          have G2 : Hid (w.grownBy W2 (some qb)) := Lib.hid (grown_below (HB1.out.trans (hbel.mono HB1.out.size)))
          have K3 : Hid (Bk (W2.alloc (.cells #[.int .i64 m.gen, .int .i64 m.inc, .int .i64 m.first, .int .i64 m.lsn, .int .i64 m.chk] 93)) qb 93 (msC best)) := Lib.hid (K2.out.later ((Below.refl _ _).alloc (Nat.le_refl _) _))
          have G3 : Hid (w.grownBy (W2.alloc (.cells #[.int .i64 m.gen, .int .i64 m.inc, .int .i64 m.first, .int .i64 m.lsn, .int .i64 m.chk] 93)) (some qb)) := Lib.hid (grown_trans G2.out (World.grownBy_alloc W2 _ _))
          clear hbel CI HB HB1
          have cb : (W2.alloc (.cells #[.int .i64 m.gen, .int .i64 m.inc, .int .i64 m.first, .int .i64 m.lsn, .int .i64 m.chk] 93)).cell? ⟨qb, 0, none⟩ = some (.int .i64 best.gen) := K3.out.cell 0
          have HLT := Lib.hid hlt
          go_wp2_with (refine wpList_store_row rfl 93 _ _ rfl qb #[.int .i64 m.gen, .int .i64 m.inc, .int .i64 m.first, .int .i64 m.lsn, .int .i64 m.chk] rfl rfl 93 _ K3.out ms_info rfl (ms_one _ _ _ _ _) ?_; simp only [Act.put])
          go_ret
          refine ⟨rfl, ?_, grown_trans G3.out ⟨rfl, rfl, rfl, by simp, fun k _ hk => setRow_other _ _ _ _ (by simpa using hk)⟩⟩
          unfold better
          rw [if_pos HLT.out]
          exact K3.out.row _
        · go_enter Tryz.func85, Tryz.ntmps85
          go_wp2_with fail
          refine HR.out.mono ?_
          rintro e W1 ⟨A, n, c, rfl, hy, _, hbel⟩
          have CI := Lib.hid (recordIn_any z A n c l W1 hy)
          rw [HM.out, HI.out, show msV m = .agg #[.int .i64 m.gen, .int .i64 m.inc, .int .i64 m.first, .int .i64 m.lsn, .int .i64 m.chk] from rfl] at CI
          have HB1 := Lib.hid hbel
          clear hy hbel HR
          go_wp2_with fail
          refine CI.out.mono ?_
          rintro e W2 ⟨rfl, hbel⟩
          have K2 : Hid (Bk W2 qb 93 (msC best)) := Lib.hid ((HB.out.later HB1.out).later hbel)
          have G2 : Hid (w.grownBy W2 (some qb)) := Lib.hid (grown_below (HB1.out.trans (hbel.mono HB1.out.size)))
          have K3 : Hid (Bk (W2.alloc (.cells #[.int .i64 m.gen, .int .i64 m.inc, .int .i64 m.first, .int .i64 m.lsn, .int .i64 m.chk] 93)) qb 93 (msC best)) := Lib.hid (K2.out.later ((Below.refl _ _).alloc (Nat.le_refl _) _))
          have G3 : Hid (w.grownBy (W2.alloc (.cells #[.int .i64 m.gen, .int .i64 m.inc, .int .i64 m.first, .int .i64 m.lsn, .int .i64 m.chk] 93)) (some qb)) := Lib.hid (grown_trans G2.out (World.grownBy_alloc W2 _ _))
          clear hbel CI HB HB1
          have cb : (W2.alloc (.cells #[.int .i64 m.gen, .int .i64 m.inc, .int .i64 m.first, .int .i64 m.lsn, .int .i64 m.chk] 93)).cell? ⟨qb, 0, none⟩ = some (.int .i64 best.gen) := K3.out.cell 0
          have HLT := Lib.hid hlt
          go_wp2_with fail
          go_ret
          refine ⟨rfl, ?_, G3.out⟩
          unfold better
          rw [if_neg (by have := HLT.out; omega)]
          exact K3.out
  · rw [if_pos he]
    have hq : (er != 0) = true := by simpa using he
    go_enter Tryz.func85, Tryz.ntmps85
    go_wp2_with fail
    refine HR.out.mono ?_
    rintro e W1 ⟨A, n, c, rfl, _, _, hbel⟩
    have HB1 := Lib.hid hbel
    clear hbel HR
    go_wp2_with fail
    go_ret
    exact ⟨rfl, HB.out.later HB1.out, grown_below HB1.out⟩
def loadE0 (L : Int → List Int) (E : Int → Int) : Int := if E 0 ≠ 0 then E 0 else if E 1 ≠ 0 then E 1 else lostE (loadM (L 0) (L 1))
def loadR0 (L : Int → List Int) (E : Int → Int) : Ms := if E 0 ≠ 0 then ms0 else if E 1 ≠ 0 then ms0 else loadM (L 0) (L 1)
theorem better_load (a b : List Int) : better (better ms0 (recM 0 a)) (recM 1 b) = loadM a b := by
  have h0 := recM_gen 0 a
  have e : better ms0 (recM 0 a) = recM 0 a := by
    unfold better
    split
    · rfl
    · rename_i q
      exact (recM_zero (show (recM 0 a).gen = 0 from by have : ms0.gen = 0 := rfl; omega)).symm
  rw [e]
  rfl
theorem better_gen {a b : Ms} (h : 0 ≤ a.gen) : 0 ≤ (better a b).gen := by
  unfold better
  split
  · omega
  · exact h
set_option maxRecDepth 100000 in
set_option maxHeartbeats 8000000 in
theorem load_gen (d : Option Addr) (L : Int → List Int) (E : Int → Int) (w : World)
    (hR : ∀ z w', Below w.heap.size w w' → Calls Tryz.prog 86 #[.pointer d, .int .i64 z] w' (RetRd (L z) (E z) w')) :
    Calls Tryz.prog 46 #[.pointer d] w (Ret (.tuple #[msV (loadR0 L E), .int .i64 (loadE0 L E)]) w) := by
  obtain ⟨r, hr⟩ : ∃ r, w.heap.size = r := ⟨_, rfl⟩
  obtain ⟨W0, hW0⟩ : ∃ W0, W0 = ((w.alloc (.cells #[.pointer d] 25)).alloc (.cells #[.int .i64 0, .int .i64 0, .int .i64 0, .int .i64 0, .int .i64 0] 93)).alloc (.cells #[.int .i64 0, .int .i64 0, .int .i64 0, .int .i64 0, .int .i64 0] 93) := ⟨_, rfl⟩
  have D0 : Hid (Bk W0 r 25 #[.pointer d]) := Lib.hid (by rw [hW0, ← hr]; exact ((Bk.new w _ _).later ((Below.refl _ _).alloc (Nat.le_refl _) _)).later ((Below.refl _ _).alloc (Nat.le_refl _) _))
  have Z0 : Hid (Bk W0 (r + 1) 93 #[.int .i64 0, .int .i64 0, .int .i64 0, .int .i64 0, .int .i64 0]) := Lib.hid (by
    have := Bk.new (w.alloc (.cells #[.pointer d] 25)) 93 #[.int .i64 0, .int .i64 0, .int .i64 0, .int .i64 0, .int .i64 0]
    rw [World.size_alloc, hr] at this
    rw [hW0]
    exact this.later ((Below.refl _ _).alloc (Nat.le_refl _) _))
  have M0 : Hid (Bk W0 (r + 2) 93 (msC ms0)) := Lib.hid (by
    have := Bk.new ((w.alloc (.cells #[.pointer d] 25)).alloc (.cells #[.int .i64 0, .int .i64 0, .int .i64 0, .int .i64 0, .int .i64 0] 93)) 93 #[.int .i64 0, .int .i64 0, .int .i64 0, .int .i64 0, .int .i64 0]
    rw [World.size_alloc, World.size_alloc, hr] at this
    rw [hW0]
    exact this)
  have L0 : Hid (Below r w W0) := Lib.hid (by rw [hW0, ← hr]; exact (((Below.refl _ _).alloc (Nat.le_refl _) _).alloc (by simp) _).alloc (by simp only [World.size_alloc]; omega) _)
  have RD : Hid (∀ z w', Below r w w' → Calls Tryz.prog 86 #[.pointer d, .int .i64 z] w' (RetRd (L z) (E z) w')) := Lib.hid (by rw [← hr]; exact hR)
  have HW0 := Lib.hid hW0
  have HR := Lib.hid hr
  have C0 := Lib.hid (examine_any d r (r + 2) ms0 0 (L 0) (E 0) W0 D0.out M0.out (Int.le_refl _) (RD.out 0 W0 L0.out))
  clear hR hW0 hr
  by_cases h0 : E 0 = 0
  · by_cases h1 : E 1 = 0
    · obtain ⟨m, hm⟩ : ∃ m, loadM (L 0) (L 1) = m := ⟨_, rfl⟩
      by_cases hg : m.gen = 0
      · have EQ : Hid (loadR0 L E = m ∧ loadE0 L E = 60) := Lib.hid ⟨by unfold loadR0; rw [if_neg (by omega), if_neg (by omega)]; exact hm, by unfold loadE0; rw [if_neg (by omega), if_neg (by omega), hm]; unfold lostE; rw [if_pos hg]⟩
        have HM := Lib.hid hm
        clear hm
        rw [h0, if_neg (by simp)] at C0
        have HMQ : Hid (m = ms0) := Lib.hid (by rw [← HM.out]; exact loadM_zero (by rw [HM.out]; exact hg))
        go_enter Tryz.func46, Tryz.ntmps46
        go_wp2_with fail
        rw [← HW0.out, HR.out]
        refine wp_loop_rounds 3 ?_
        rw [rounds_succ]
        go_wp2_with fail
        refine C0.out.mono ?_
        rintro e W1 ⟨rfl, hm, hg⟩
        have Z1 : Hid (Bk W1 (r + 1) 93 #[.int .i64 0, .int .i64 0, .int .i64 0, .int .i64 0, .int .i64 0]) := Lib.hid ((hg.block _ Z0.out.lt (by simp)).trans Z0.out)
        have D1 : Hid (Bk W1 r 25 #[.pointer d]) := Lib.hid ((hg.block _ D0.out.lt (by simp)).trans D0.out)
        have L1 : Hid (Below r w W1) := Lib.hid (L0.out.grown hg (Nat.le_of_lt D0.out.lt) (fun q hq => by injection hq with hq; omega))
        have M1 := Lib.hid hm
        clear hm hg C0 HW0 Z0 D0 L0 M0
        have C1 := examine_any d r (r + 2) (better ms0 (recM 0 (L 0))) 1 (L 1) (E 1) W1 D1.out M1.out (better_gen (Int.le_refl _)) (RD.out 1 W1 L1.out)
        rw [h1, if_neg (by simp), better_load, HM.out] at C1
        have C1 := Lib.hid C1
        go_wp2_with fail
        rw [rounds_succ]
        go_wp2_with fail
        refine C1.out.mono ?_
        rintro e W2 ⟨rfl, hm, hg⟩
        have Z2 : Hid (Bk W2 (r + 1) 93 #[.int .i64 0, .int .i64 0, .int .i64 0, .int .i64 0, .int .i64 0]) := Lib.hid ((hg.block _ Z1.out.lt (by simp)).trans Z1.out)
        have L2 : Hid (Below r w W2) := Lib.hid (L1.out.grown hg (Nat.le_of_lt D1.out.lt) (fun q hq => by injection hq with hq; omega))
        have M2 := Lib.hid hm
        clear hm hg C1 Z1 D1 L1 M1
        go_wp2_with fail
        rw [rounds_succ]
        have c0 : W2.cell? ⟨r + 2, 0, none⟩ = some (.int .i64 m.gen) := M2.out.cell 0
        go_wp2_with (refine wpList_store_row rfl 93 _ _ rfl (r + 1) #[.int .i64 0, .int .i64 0, .int .i64 0, .int .i64 0, .int .i64 0] rfl rfl 93 _ Z2.out ms_info rfl (ms_one _ _ _ _ _) ?_; simp only [Act.put])
        (try simp only [Exit.inBlock, Exit.then])
        refine bodyPost_ret (results_cellT rfl _ _ (r + 1) 93 #[.int .i64 0, .int .i64 0, .int .i64 0, .int .i64 0, .int .i64 0] _ rfl (Z2.out.row _) Tryz.underlying93 rfl ms_info) rfl ?_
        rw [EQ.out.1, EQ.out.2, HMQ.out]
        refine ⟨rfl, ?_⟩
        rw [HR.out]
        exact below_setRow L2.out (by omega) _
      · have EQ : Hid (loadR0 L E = m ∧ loadE0 L E = 0) := Lib.hid ⟨by unfold loadR0; rw [if_neg (by omega), if_neg (by omega)]; exact hm, by unfold loadE0; rw [if_neg (by omega), if_neg (by omega), hm]; unfold lostE; rw [if_neg hg]⟩
        have HM := Lib.hid hm
        clear hm
        rw [h0, if_neg (by simp)] at C0
        go_enter Tryz.func46, Tryz.ntmps46
        go_wp2_with fail
        rw [← HW0.out, HR.out]
        refine wp_loop_rounds 3 ?_
        rw [rounds_succ]
        go_wp2_with fail
        refine C0.out.mono ?_
        rintro e W1 ⟨rfl, hm, hg⟩
        have Z1 : Hid (Bk W1 (r + 1) 93 #[.int .i64 0, .int .i64 0, .int .i64 0, .int .i64 0, .int .i64 0]) := Lib.hid ((hg.block _ Z0.out.lt (by simp)).trans Z0.out)
        have D1 : Hid (Bk W1 r 25 #[.pointer d]) := Lib.hid ((hg.block _ D0.out.lt (by simp)).trans D0.out)
        have L1 : Hid (Below r w W1) := Lib.hid (L0.out.grown hg (Nat.le_of_lt D0.out.lt) (fun q hq => by injection hq with hq; omega))
        have M1 := Lib.hid hm
        clear hm hg C0 HW0 Z0 D0 L0 M0
        have C1 := examine_any d r (r + 2) (better ms0 (recM 0 (L 0))) 1 (L 1) (E 1) W1 D1.out M1.out (better_gen (Int.le_refl _)) (RD.out 1 W1 L1.out)
        rw [h1, if_neg (by simp), better_load, HM.out] at C1
        have C1 := Lib.hid C1
        go_wp2_with fail
        rw [rounds_succ]
        go_wp2_with fail
        refine C1.out.mono ?_
        rintro e W2 ⟨rfl, hm, hg⟩
        have Z2 : Hid (Bk W2 (r + 1) 93 #[.int .i64 0, .int .i64 0, .int .i64 0, .int .i64 0, .int .i64 0]) := Lib.hid ((hg.block _ Z1.out.lt (by simp)).trans Z1.out)
        have L2 : Hid (Below r w W2) := Lib.hid (L1.out.grown hg (Nat.le_of_lt D1.out.lt) (fun q hq => by injection hq with hq; omega))
        have M2 := Lib.hid hm
        clear hm hg C1 Z1 D1 L1 M1
        go_wp2_with fail
        rw [rounds_succ]
        have c0 : W2.cell? ⟨r + 2, 0, none⟩ = some (.int .i64 m.gen) := M2.out.cell 0
        go_wp2_with (first | (refine wpList_load_row rfl 93 _ rfl (r + 2) rfl 93 #[.int .i64 m.gen, .int .i64 m.inc, .int .i64 m.first, .int .i64 m.lsn, .int .i64 m.chk] (0, 0) _ M2.out Tryz.underlying93 rfl ms_info ?_) | (refine wpList_store_row rfl 93 _ _ rfl (r + 1) #[.int .i64 m.gen, .int .i64 m.inc, .int .i64 m.first, .int .i64 m.lsn, .int .i64 m.chk] rfl rfl 93 _ Z2.out ms_info rfl (ms_one _ _ _ _ _) ?_; simp only [Act.put]))
        (try simp only [Exit.inBlock, Exit.then])
        refine bodyPost_ret (results_cellT rfl _ _ (r + 1) 93 #[.int .i64 m.gen, .int .i64 m.inc, .int .i64 m.first, .int .i64 m.lsn, .int .i64 m.chk] _ rfl (Z2.out.row _) Tryz.underlying93 rfl ms_info) rfl ?_
        rw [EQ.out.1, EQ.out.2]
        refine ⟨rfl, ?_⟩
        rw [HR.out]
        exact below_setRow L2.out (by omega) _
    · have EQ : Hid (loadR0 L E = ms0 ∧ loadE0 L E = E 1) := Lib.hid ⟨by unfold loadR0; rw [if_neg (by omega), if_pos h1], by unfold loadE0; rw [if_neg (by omega), if_pos h1]⟩
      obtain ⟨x, hx⟩ : ∃ x, E 1 = x := ⟨_, rfl⟩
      rw [hx] at EQ h1
      have hd : (x != 0) = true := by simpa using h1
      have HX := Lib.hid hx
      clear hx h1
      rw [h0, if_neg (by simp)] at C0
      go_enter Tryz.func46, Tryz.ntmps46
      go_wp2_with fail
      rw [← HW0.out, HR.out]
      refine wp_loop_rounds 3 ?_
      rw [rounds_succ]
      go_wp2_with fail
      refine C0.out.mono ?_
      rintro e W1 ⟨rfl, hm, hg⟩
      have Z1 : Hid (Bk W1 (r + 1) 93 #[.int .i64 0, .int .i64 0, .int .i64 0, .int .i64 0, .int .i64 0]) := Lib.hid ((hg.block _ Z0.out.lt (by simp)).trans Z0.out)
      have D1 : Hid (Bk W1 r 25 #[.pointer d]) := Lib.hid ((hg.block _ D0.out.lt (by simp)).trans D0.out)
      have L1 : Hid (Below r w W1) := Lib.hid (L0.out.grown hg (Nat.le_of_lt D0.out.lt) (fun q hq => by injection hq with hq; omega))
      have M1 := Lib.hid hm
      clear hm hg C0 HW0 Z0 D0 L0 M0
      have C1 := examine_any d r (r + 2) (better ms0 (recM 0 (L 0))) 1 (L 1) (E 1) W1 D1.out M1.out (better_gen (Int.le_refl _)) (RD.out 1 W1 L1.out)
      rw [HX.out] at C1
      have C1 := Lib.hid C1
      go_wp2_with fail
      rw [rounds_succ]
      go_wp2_with fail
      refine C1.out.mono ?_
      rintro e W2 ⟨rfl, hm, hg⟩
      have Z2 : Hid (Bk W2 (r + 1) 93 #[.int .i64 0, .int .i64 0, .int .i64 0, .int .i64 0, .int .i64 0]) := Lib.hid ((hg.block _ Z1.out.lt (by simp)).trans Z1.out)
      have L2 : Hid (Below r w W2) := Lib.hid (L1.out.grown hg (Nat.le_of_lt D1.out.lt) (fun q hq => by injection hq with hq; omega))
      have M2 := Lib.hid hm
      clear hm hg C1 Z1 D1 L1 M1
      go_wp2_with (refine wpList_store_row rfl 93 _ _ rfl (r + 1) #[.int .i64 0, .int .i64 0, .int .i64 0, .int .i64 0, .int .i64 0] rfl rfl 93 _ Z2.out ms_info rfl (ms_one _ _ _ _ _) ?_; simp only [Act.put])
      (try simp only [Exit.inBlock, Exit.then])
      refine bodyPost_ret (results_cellT rfl _ _ (r + 1) 93 #[.int .i64 0, .int .i64 0, .int .i64 0, .int .i64 0, .int .i64 0] _ rfl (Z2.out.row _) Tryz.underlying93 rfl ms_info) rfl ?_
      rw [EQ.out.1, EQ.out.2]
      refine ⟨rfl, ?_⟩
      rw [HR.out]
      exact below_setRow L2.out (by omega) _
  · have EQ : Hid (loadR0 L E = ms0 ∧ loadE0 L E = E 0) := Lib.hid ⟨by unfold loadR0; rw [if_pos h0], by unfold loadE0; rw [if_pos h0]⟩
    have HE := Lib.hid h0
    obtain ⟨x, hx⟩ : ∃ x, E 0 = x := ⟨_, rfl⟩
    rw [hx] at C0 EQ h0
    have hd : (x != 0) = true := by simpa using h0
    clear hx h0 HE
    go_enter Tryz.func46, Tryz.ntmps46
    go_wp2_with fail
    rw [← HW0.out, HR.out]
    refine wp_loop_rounds 3 ?_
    rw [rounds_succ]
    go_wp2_with fail
    refine C0.out.mono ?_
    rintro e W1 ⟨rfl, hm, hg⟩
    have Z1 : Hid (Bk W1 (r + 1) 93 #[.int .i64 0, .int .i64 0, .int .i64 0, .int .i64 0, .int .i64 0]) := Lib.hid ((hg.block _ Z0.out.lt (by simp)).trans Z0.out)
    have D1 : Hid (Bk W1 r 25 #[.pointer d]) := Lib.hid ((hg.block _ D0.out.lt (by simp)).trans D0.out)
    have L1 : Hid (Below r w W1) := Lib.hid (L0.out.grown hg (Nat.le_of_lt D0.out.lt) (fun q hq => by injection hq with hq; omega))
    have M1 := Lib.hid hm
    clear hm hg C0 HW0 Z0 D0 L0 M0
    go_wp2_with (refine wpList_store_row rfl 93 _ _ rfl (r + 1) #[.int .i64 0, .int .i64 0, .int .i64 0, .int .i64 0, .int .i64 0] rfl rfl 93 _ Z1.out ms_info rfl (ms_one _ _ _ _ _) ?_; simp only [Act.put])
    (try simp only [Exit.inBlock, Exit.then])
    refine bodyPost_ret (results_cellT rfl _ _ (r + 1) 93 #[.int .i64 0, .int .i64 0, .int .i64 0, .int .i64 0, .int .i64 0] _ rfl (Z1.out.row _) Tryz.underlying93 rfl ms_info) rfl ?_
    rw [EQ.out.1, EQ.out.2]
    refine ⟨rfl, ?_⟩
    rw [HR.out]
    exact below_setRow L1.out (by omega) _
end

/- master.Load at a disk among other things and at no disk; master.Save at no disk. -/
section
open Go.RowKit
theorem load_any {B : Nat} {R : Res} {w : World} {b : Nat} {s : St} (h : Has B ((dsk b s).star R) w) :
    Calls Tryz.prog 46 #[.pointer (some ⟨b, 0, none⟩)] w (Ret (.tuple #[msV (loadR0 s.rBytes s.rErr), .int .i64 (loadE0 s.rBytes s.rErr)]) w) :=
  load_gen (some ⟨b, 0, none⟩) s.rBytes s.rErr w (fun z _ hb => hasD_read (h.below hb) z)
end

/- 'append(out, xs...)' of slices of ints onto a row of the call's own. No program's function is named; no condition. -/
section
open Go.RowKit
end

/- what the statements remember of four sectors, and the bytes that are wanted, in memory beside a disk; own2. -/
section
open Go.RowKit
def InF (w : World) (F : Nat → Prop) (v : Value) (l : List Int) : Prop := ∃ A n c, v = .slice A n c ∧ Byt w A n c l ∧ ∀ a, A = some a → F a.block
theorem InF.mono {w : World} {F G : Nat → Prop} {v : Value} {l : List Int} (h : InF w F v l) (hk : ∀ k, F k → G k) : InF w G v l := by
  obtain ⟨A, n, c, e, hb, hf⟩ := h
  exact ⟨A, n, c, e, hb, fun a ha => hk _ (hf a ha)⟩
section
variable {w w' : World} {F : Nat → Prop} {q : Nat} {vs : Nat → Value} {L : Nat → List Int} {v : Value} {l : List Int} {B : Nat} {S : Res}
end
end

/- what the plain disk has behind a write that is made, a synchronization, a crash. No program is named. -/
section
theorem upd_here (f : Nat → List Int) (n : Nat) (l : List Int) : upd f n l n = l := by unfold upd; rw [if_pos rfl]
theorem upd_ne (f : Nat → List Int) {n m : Nat} (l : List Int) (h : m ≠ n) : upd f n l m = f m := by unfold upd; rw [if_neg h]
section
variable {s : St} {n : Nat} {l : List Int}
theorem wrote_len : (s.wrote n l).pend.length = s.pend.length + 1 := by show (s.pend ++ [_]).length = _; simp
theorem wrote_at (i : Nat) (h : i < s.pend.length) : (s.wrote n l).at_ i = s.at_ i := by
  show (s.pend ++ [_]).getD i _ = s.pend.getD i _
  simp [List.getD, List.getElem?_append_left h]
theorem wrote_last : (s.wrote n l).at_ s.pend.length = (n, l) := by
  show (s.pend ++ [_]).getD s.pend.length _ = _
  simp
theorem wrote_syn : (s.wrote n l).syn = s.syn := St.step_syn s
theorem wrote_upTo : ∀ k, k ≤ s.pend.length → (s.wrote n l).upTo k = s.upTo k
  | 0, _ => wrote_syn
  | k + 1, hk => by
    show upd ((s.wrote n l).upTo k) ((s.wrote n l).at_ k).1 ((s.wrote n l).at_ k).2 = upd (s.upTo k) (s.at_ k).1 (s.at_ k).2
    rw [wrote_upTo k (by omega), wrote_at k (by omega)]
theorem wrote_now : (s.wrote n l).now = upd s.now n l := by
  funext m
  show (s.wrote n l).upTo (s.wrote n l).pend.length m = _
  rw [wrote_len]
  show upd ((s.wrote n l).upTo s.pend.length) ((s.wrote n l).at_ s.pend.length).1 ((s.wrote n l).at_ s.pend.length).2 m = _
  rw [wrote_upTo _ (Nat.le_refl _), wrote_last]
  rfl
theorem now_nothing (h : s.pend = []) : s.now = s.syn := by
  funext m
  unfold St.now
  rw [h]
  rfl
theorem crash_one (h : s.pend = []) (c : Crs) : ((s.wrote n l).crash c).syn = upd s.syn n (over l (s.syn n) (c.of 1 0)) := by
  have hl : (s.wrote n l).pend.length = 1 := by rw [wrote_len, h]; rfl
  show (s.wrote n l).left_ (c.of (s.wrote n l).pend.length) (s.wrote n l).pend.length = _
  rw [hl]
  have hat : (s.wrote n l).at_ 0 = (n, l) := by
    have := wrote_last (s := s) (n := n) (l := l)
    rwa [h] at this
  show upd ((s.wrote n l).left_ (c.of 1) 0) ((s.wrote n l).at_ 0).1 (over ((s.wrote n l).at_ 0).2 ((s.wrote n l).left_ (c.of 1) 0 ((s.wrote n l).at_ 0).1) (c.of 1 0)) = _
  rw [hat]
  show upd (s.wrote n l).syn n (over l ((s.wrote n l).syn n) (c.of 1 0)) = _
  rw [wrote_syn]
end
end

/- what a crash leaves of a sector, in the plain disk: what was synchronized, or one of its writes, or a beginning of the last write over one of these. No program is named. -/
section
theorem over_none (l m : List Int) : over l m 0 = m := by simp [over]
theorem over_full {l m : List Int} (hl : Sec l) (hm : Sec m) : over l m 256 = l := by
  unfold over
  rw [List.take_of_length_le (by rw [hl.1]; omega), List.drop_of_length_le (by rw [hm.1]; omega), List.append_nil]
end

/- what Put, a synchronization and a crash behind it, and Get make of the plain disk, where all was synchronized. No program is named. -/
section
open Go.RowKit
structure Pts (s : St) (k : Nat) : Prop where
  num : s.num = 4
  left : s.left = -1
  gone : s.gone = false
  pend : s.pend = []
  syncs : s.syncs ≤ k
section
variable {s : St} {k n : Nat} {p : List Int}
theorem Pts.step (h : Pts s k) : s.step = s := by
  have h1 := h.left
  have h2 := h.gone
  unfold St.step
  rw [if_neg (by rw [h2]; simp), if_neg (by omega), if_neg (by omega)]
theorem Pts.can (h : Pts s k) : s.can = true := by
  have h1 := h.left
  have h2 := h.gone
  unfold St.can
  rw [h1, h2]
  rfl
theorem Pts.next (h : Pts s k) : Pts s (k + 1) := ⟨h.num, h.left, h.gone, h.pend, Nat.le_succ_of_le h.syncs⟩
theorem Pts.rd (h : Pts s k) (hn : n < 4) : s.rErr n = 0 ∧ s.rBytes n = s.syn n := by
  have e : s.rErr n = 0 := by
    unfold St.rErr
    rw [if_neg (by rw [h.num]; omega), if_neg (by rw [h.gone]; simp)]
  refine ⟨e, ?_⟩
  unfold St.rBytes
  rw [if_pos e, now_nothing h.pend]
  rfl
def putL (s : St) (n : Nat) (p : List Int) : List Int := wrapL (nextOf (s.syn n)) p
theorem putL_sec (hp : p.length ≤ 254) (hr : ∀ x ∈ p, 0 ≤ x ∧ x < 256) : Sec (putL s n p) := by
  have := nextOf_rng (s.syn n)
  exact wrapL_sec (by omega) hr hp
theorem putL_right (hp : p.length ≤ 254) : rightL (putL s n p) := right_wrap (nextOf_rng _) hp
theorem Pts.put (h : Pts s k) (hn : n < 4) (hp : p.length ≤ 254) (hr : ∀ x ∈ p, 0 ≤ x ∧ x < 256) : putE s n p = 0 ∧ putS s n p = s.wrote n (putL s n p) := by
  obtain ⟨h1, h2⟩ := h.rd hn
  have hs := putL_sec (s := s) (n := n) hp hr
  have hl : (wrapL (nextOf (s.syn n)) p).length = 256 := hs.1
  have e : ¬ ((n : Int) < 0 ∨ (s.num : Int) ≤ n) := by rw [h.num]; omega
  refine ⟨?_, ?_⟩
  · unfold putE
    rw [if_neg (by omega), if_neg (by rw [h1]; simp), h2]
    unfold St.wErr
    rw [if_neg e, if_neg (by rw [hl]; simp), if_pos h.can]
  · unfold putS
    rw [if_neg (by omega), if_neg (by rw [h1]; simp), h2]
    unfold St.write
    rw [if_neg e, if_neg (by rw [hl]; simp), if_pos h.can]
    rfl
theorem Pts.wrote_can (h : Pts s k) {l : List Int} : (s.wrote n l).can = true := by
  show (_ : Bool) = true
  unfold St.wrote
  rw [h.step]
  exact h.can
theorem Pts.wrote_step (h : Pts s k) {l : List Int} : (s.wrote n l).step = s.wrote n l := by
  have h1 := h.left
  have h2 := h.gone
  have e1 : (s.wrote n l).left = -1 := by unfold St.wrote; rw [h.step]; exact h1
  have e2 : (s.wrote n l).gone = false := by unfold St.wrote; rw [h.step]; exact h2
  unfold St.step
  rw [if_neg (by rw [e2]; simp), if_neg (by omega), if_neg (by omega)]
theorem Pts.sync (h : Pts s k) {l : List Int} : (s.wrote n l).sErr = 0 ∧ Pts (s.wrote n l).sync (k + 1) ∧ (s.wrote n l).sync.syn = upd s.syn n l := by
  have hc := h.wrote_can (n := n) (l := l)
  have e : (s.wrote n l).sync = (s.wrote n l).synced := by unfold St.sync; rw [if_pos hc]
  refine ⟨by unfold St.sErr; rw [if_pos hc], ?_, ?_⟩
  · rw [e]
    unfold St.synced
    rw [h.wrote_step]
    unfold St.wrote
    rw [h.step]
    exact ⟨h.num, h.left, h.gone, rfl, by show s.syncs + 1 ≤ k + 1; have := h.syncs; omega⟩
  · rw [e]
    show (s.wrote n l).now = _
    rw [wrote_now, now_nothing h.pend]
theorem Pts.crash (h : Pts s k) {l : List Int} (c : Crs) : Pts ((s.wrote n l).crash c) (k + 1) ∧ ((s.wrote n l).crash c).syn = upd s.syn n (over l (s.syn n) (c.of 1 0)) := by
  refine ⟨⟨?_, rfl, rfl, rfl, Nat.zero_le _⟩, crash_one h.pend c⟩
  show (s.wrote n l).num = 4
  unfold St.wrote
  rw [h.step]
  exact h.num
theorem torn_over (hp : p.length ≤ 254) (hr : ∀ x ∈ p, 0 ≤ x ∧ x < 256) (ho : Sec (s.syn n)) (j : Nat) (hj : j ≤ 256) :
    over (putL s n p) (s.syn n) j = s.syn n ∨ over (putL s n p) (s.syn n) j = putL s n p ∨ openE (over (putL s n p) (s.syn n) j) = 50 := by
  have hs := putL_sec (s := s) (n := n) hp hr
  by_cases h0 : j = 0
  · subst h0; exact .inl (over_none _ _)
  · by_cases h1 : j = 256
    · subst h1; exact .inr (.inl (over_full hs ho))
    · refine .inr (.inr (openE_torn (over_sec hs ho j hj).1 ?_))
      exact torn_mix hp ho.1 (nextB_ne _ _).2 j (by omega) (by omega)
end
structure PutsRel (L : Nat → List Int) (s : St) (n : Nat) (falls : Bool) (p : List Int) : Prop where
  others : ∀ m, m < 4 → m ≠ n → L m = openB (s.syn m)
  it : L n = openB (s.syn n) ∨ (falls = true ∧ (openE (s.syn n) = 50 ∨ (openE (s.syn n) = 0 ∧ openB (s.syn n) = padL p)))
theorem PutsRel.sync {L : Nat → List Int} {s : St} {k n : Nat} {p : List Int} (h : Pts s k) (hp : p.length ≤ 254) (hr : ∀ x ∈ p, 0 ≤ x ∧ x < 256) (hL : ∀ m, m < 4 → L m = openB (s.syn m)) :
    PutsRel (fun m => if m = n then padL p else L m) (s.wrote n (putL s n p)).sync n false p := by
  obtain ⟨_, _, e⟩ := h.sync (n := n) (l := putL s n p)
  refine ⟨fun m hm hne => ?_, .inl ?_⟩
  · rw [e, upd_ne _ _ hne]
    simp only [if_neg hne]
    exact hL m hm
  · rw [e, upd_here]
    simp only [if_pos]
    rw [openB_right (putL_sec hp hr).1 (putL_right hp)]
    exact (bodyL_wrap hp).symm
theorem PutsRel.crash {L : Nat → List Int} {s : St} {k n : Nat} {p : List Int} (ok : s.Ok) (h : Pts s k) (hp : p.length ≤ 254) (hr : ∀ x ∈ p, 0 ≤ x ∧ x < 256) (hL : ∀ m, m < 4 → L m = openB (s.syn m)) (hn : n < 4) (c : Crs) :
    PutsRel L ((s.wrote n (putL s n p)).crash c) n true p := by
  obtain ⟨_, e⟩ := h.crash (n := n) (l := putL s n p) c
  refine ⟨fun m hm hne => ?_, ?_⟩
  · rw [e, upd_ne _ _ hne]
    exact hL m hm
  · rw [e, upd_here]
    rcases torn_over hp hr (ok.syn n) (c.of 1 0) (c.of_le 1 0) with q | q | q
    · rw [q]; exact .inl (hL n hn)
    · rw [q]
      refine .inr ⟨rfl, .inr ⟨openE_right (putL_sec hp hr).1 (putL_right hp), ?_⟩⟩
      rw [openB_right (putL_sec hp hr).1 (putL_right hp)]
      exact bodyL_wrap hp
    · exact .inr ⟨rfl, .inl q⟩
end
end Go.Proofs.YtjllpihkjlblaaaGreatDoor
