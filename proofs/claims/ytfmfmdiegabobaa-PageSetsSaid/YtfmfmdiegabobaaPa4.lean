/- What it says: contracts and plain mathematics that the laws' walks use, 4 of 5: each part's own remark says what; no condition. -/
import Derived.Test.YtfmfmdiegabobaaPa1
import Derived.Test.YtfmfmdiegabobaaPa3
import Derived.Deep.Slices
import Derived.ChangeArms
import Derived.Shelf.Small.Bits
import Derived.Shelf.Strconv.Itoa0
import Derived.Shelf.Bits.Mul64
import Derived.Laws.Externs
import Derived.Test.YtfmfmdiegabobaaRows
import Derived.Below
import Derived.Deep.QuietTactic
import Derived.BigQuiet
import Derived.Deep.DeepCutAuto
import Derived.Deep.CutBlock
import Derived.Lib.ItoaNum

set_option linter.unusedSimpArgs false
set_option linter.unusedVariables false
set_option linter.deprecated false
set_option linter.unusedSectionVars false
set_option linter.all false
namespace Go.Proofs.Ytfmfmdiegabobaa

/- trothref10.Set answers the page with another value of a key, or the error. -/
section
open Go.RowKit
def outC (l : List Cl) (x : Cl) (i : Nat) : List Cl := if i ≤ atC l x.key then l.take i else l.take (atC l x.key) ++ [x] ++ (l.take i).drop (behC l x.key)
theorem takeC_succ (l : List Cl) (i : Nat) (h : i < l.length) : l.take (i + 1) = l.take i ++ [l.getD i default] := by
  rw [List.take_add_one, List.getElem?_eq_getElem h, List.getD_eq_getElem?_getD, List.getElem?_eq_getElem h]
  rfl
theorem outC_zero (l : List Cl) (x : Cl) : outC l x 0 = [] := by unfold outC; rw [if_pos (Nat.zero_le _)]; rfl
theorem outC_lo {l : List Cl} {x : Cl} {i : Nat} (h : i < atC l x.key) : outC l x (i + 1) = outC l x i ++ [l.getD i default] := by
  have := atC_le l x.key
  unfold outC
  rw [if_pos (by omega), if_pos (by omega), takeC_succ l i (by omega)]
theorem outC_hi {l : List Cl} {x : Cl} {i : Nat} (h : atC l x.key < i) (hi : i < l.length) : outC l x (i + 1) = outC l x i ++ [l.getD i default] := by
  have hb : behC l x.key ≤ i := by unfold behC; split <;> omega
  unfold outC
  rw [if_neg (by omega), if_neg (by omega), takeC_succ l i hi, List.drop_append_of_le_length (by rw [List.length_take]; omega), List.append_assoc (l.take (atC l x.key) ++ [x])]
theorem outC_at {l : List Cl} {x : Cl} (h : atC l x.key < l.length) (ha : isAt l x.key = true) : outC l x (atC l x.key + 1) = outC l x (atC l x.key) ++ [x] := by
  have hb : behC l x.key = atC l x.key + 1 := by unfold behC; rw [if_pos ha]
  unfold outC
  rw [if_neg (by omega), if_pos (Nat.le_refl _), hb, List.drop_eq_nil_of_le (by rw [List.length_take]; omega), List.append_nil]
theorem outC_new {l : List Cl} {x : Cl} (h : atC l x.key < l.length) (ha : isAt l x.key = false) : outC l x (atC l x.key + 1) = (outC l x (atC l x.key) ++ [x]) ++ [l.getD (atC l x.key) default] := by
  have hb : behC l x.key = atC l x.key := by unfold behC; rw [if_neg (by rw [ha]; simp)]
  unfold outC
  rw [if_neg (by omega), if_pos (Nat.le_refl _), hb, takeC_succ l _ h, List.drop_append_of_le_length (by rw [List.length_take]; omega), List.drop_eq_nil_of_le (by rw [List.length_take]; omega), List.nil_append]
theorem outC_fin {l : List Cl} {x : Cl} (h : atC l x.key < l.length) : outC l x l.length = setC l x := by
  unfold outC setC
  rw [if_neg (by omega), List.take_length]
theorem outC_end {l : List Cl} {x : Cl} (h : atC l x.key = l.length) : outC l x l.length ++ [x] = setC l x := by
  have ha : isAt l x.key = false := decide_eq_false (fun q => by omega)
  have hb : behC l x.key = atC l x.key := by unfold behC; rw [if_neg (by rw [ha]; simp)]
  unfold outC setC
  rw [if_pos (by omega), hb, h, List.drop_length, List.append_nil]
theorem outC_len {l : List Cl} {x : Cl} (i : Nat) : (outC l x i).length ≤ l.length + 1 + l.length := by
  unfold outC
  split
  · rw [List.length_take]; omega
  · simp only [List.length_append, List.length_take, List.length_drop, List.length_singleton]; omega
structure RS (Wk wr : World) (lsn : Int) (A1 : Option Addr) (n1 c1 : Nat) (L : List Cl) : Prop where
  below : Below Wk.heap.size Wk wr
  blk : Bk wr Wk.heap.size 24 #[.int .i64 lsn, .slice A1 n1 c1]
  own : OwnP (Wk.heap.size + 1) wr A1 n1 c1 L
theorem RS.up {Wk wr w' : World} {lsn : Int} {A1 : Option Addr} {n1 c1 : Nat} {L : List Cl} (h : RS Wk wr lsn A1 n1 c1 L) (hb : Below wr.heap.size wr w') : RS Wk w' lsn A1 n1 c1 L :=
  ⟨Below.then h.below hb, h.blk.bel hb h.blk.lt, h.own.below hb⟩
theorem RS.app {Wk wr w' : World} {lsn : Int} {A1 A' : Option Addr} {n1 c1 n' c' : Nat} {L L' : List Cl} (h : RS Wk wr lsn A1 n1 c1 L) (ho : OwnP (Wk.heap.size + 1) w' A' n' c' L') (hg : wr.grownBy w' (Value.slice A1 n1 c1).ownBlock) :
    RS Wk (w'.setCell ⟨Wk.heap.size, 1, none⟩ (.slice A' n' c')) lsn A' n' c' L' := by
  have hb : Bk w' Wk.heap.size 24 #[.int .i64 lsn, .slice A1 n1 c1] := bk_apart h.own.own h.blk (by decide) hg
  refine ⟨(h.below.grown hg h.below.size (fun k hk => by have := (h.own.own.lt k hk).1; omega)).setCell (p := ⟨Wk.heap.size, 1, none⟩) (Nat.le_refl _) _, by simpa using hb.setc 1 (.slice A' n' c'), own_set ho.own hb (by decide), ho.len⟩
theorem RS.frz {Wk wr w' : World} {lsn : Int} {A1 : Option Addr} {n1 c1 : Nat} {L : List Cl} (h : RS Wk wr lsn A1 n1 c1 L) (hg : wr.grownBy w' (Value.slice A1 n1 c1).ownBlock) : w'.frozen? ⟨Wk.heap.size, 1, none⟩ = false ∧ w'.cell? ⟨Wk.heap.size, 1, none⟩ = some (.slice A1 n1 c1) :=
  have hb : Bk w' Wk.heap.size 24 #[.int .i64 lsn, .slice A1 n1 c1] := bk_apart h.own.own h.blk (by decide) hg
  ⟨hb.frz 1, hb.cell 1⟩
structure SetR (w : World) (r : Nat) (lsn0 : Int) (A : Option Addr) (n c : Nat) (v : Vl) : Prop where
  pg : Bk w r 24 #[.int .i64 lsn0, .slice A n c]
  vl : Bk w (r + 1) 42 #[.bool v.has, .string v.data]
  out : Bk w (r + 2) 24 #[.int .i64 0, .slice none 0 0]
theorem SetR.below {w w' : World} {r B : Nat} {lsn0 : Int} {A : Option Addr} {n c : Nat} {v : Vl} (h : SetR w r lsn0 A n c v) (hb : Below B w w') (hB : w.heap.size ≤ B) : SetR w' r lsn0 A n c v :=
  ⟨h.pg.bel hb (Nat.lt_of_lt_of_le h.pg.lt hB), h.vl.bel hb (Nat.lt_of_lt_of_le h.vl.lt hB), h.out.bel hb (Nat.lt_of_lt_of_le h.out.lt hB)⟩
theorem SetR.new (w : World) (lsn0 : Int) (A : Option Addr) (n c : Nat) (v : Vl) : SetR (((w.alloc (.cells #[.int .i64 lsn0, .slice A n c] 24)).alloc (.cells #[.bool v.has, .string v.data] 42)).alloc (.cells #[.int .i64 0, .slice none 0 0] 24)) w.heap.size lsn0 A n c v := by
  obtain ⟨w1, h1⟩ : ∃ x, x = w.alloc (.cells #[.int .i64 lsn0, .slice A n c] 24) := ⟨_, rfl⟩
  obtain ⟨w2, h2⟩ : ∃ y, y = w1.alloc (.cells #[.bool v.has, .string v.data] 42) := ⟨_, rfl⟩
  obtain ⟨w3, h3⟩ : ∃ y, y = w2.alloc (.cells #[.int .i64 0, .slice none 0 0] 24) := ⟨_, rfl⟩
  rw [← h1, ← h2, ← h3]
  have s1 : w1.heap.size = w.heap.size + 1 := by rw [h1, World.size_alloc]
  have s2 : w2.heap.size = w.heap.size + 2 := by rw [h2, World.size_alloc, s1]
  have b2 : Below w1.heap.size w1 w2 := by rw [h2]; exact (Below.refl _ _).alloc (Nat.le_refl _) _
  have b3 : Below w2.heap.size w2 w3 := by rw [h3]; exact (Below.refl _ _).alloc (Nat.le_refl _) _
  have k1 : Bk w1 w.heap.size 24 #[.int .i64 lsn0, .slice A n c] := by rw [h1]; exact Bk.new w _ _
  have k2 : Bk w2 (w.heap.size + 1) 42 #[.bool v.has, .string v.data] := by rw [h2, ← s1]; exact Bk.new w1 _ _
  have k3 : Bk w3 (w.heap.size + 2) 24 #[.int .i64 0, .slice none 0 0] := by rw [h3, ← s2]; exact Bk.new w2 _ _
  exact ⟨(k1.bel b2 (by omega)).bel b3 (by omega), k2.bel b3 (by omega), k3⟩
theorem setR_below (w : World) (lsn0 : Int) (A : Option Addr) (n c : Nat) (v : Vl) : Below w.heap.size w (((w.alloc (.cells #[.int .i64 lsn0, .slice A n c] 24)).alloc (.cells #[.bool v.has, .string v.data] 42)).alloc (.cells #[.int .i64 0, .slice none 0 0] 24)) :=
  (((Below.refl _ _).alloc (Nat.le_refl _) _).alloc (by simp) _).alloc (by simp; omega) _
theorem SetR.zero {w w' : World} {lsn0 : Int} {A : Option Addr} {n c : Nat} {v : Vl} (h : SetR w' w.heap.size lsn0 A n c v) (hb : Below w.heap.size w w') (er : Nat) :
    Bk ((w'.setCell ⟨w.heap.size + 2, 0, none⟩ (.int .i64 0)).setCell ⟨w.heap.size + 2, 1, none⟩ (.slice none 0 0)) (w.heap.size + 2) 24 #[.int .i64 0, .slice none 0 0] ∧
    RetPg (pg0, er) w (.returned (.tuple #[pgV 0 none 0 0, .int .i64 er])) ((w'.setCell ⟨w.heap.size + 2, 0, none⟩ (.int .i64 0)).setCell ⟨w.heap.size + 2, 1, none⟩ (.slice none 0 0)) := by
  refine ⟨by simpa using (h.out.setc 0 (.int .i64 0)).setc 1 (.slice none 0 0), none, 0, 0, rfl, OwnP.nil _ _, ?_⟩
  exact (hb.setCell (p := ⟨w.heap.size + 2, 0, none⟩) (by simp) _).setCell (p := ⟨w.heap.size + 2, 1, none⟩) (by simp) _
set_option maxRecDepth 100000 in
set_option maxHeartbeats 4000000 in
theorem refSet_no (lsn0 : Int) (A : Option Addr) (n c : Nat) (l : List Cl) (lsn : Int) (x : Cl) (w : World) (h : Pcs w A n c l) (hno : ¬ ((⟨lsn0, l⟩ : Pg).ok ∧ clOk x ∧ 1 ≤ lsn ∧ lsn ≤ 1099511627776)) :
    Calls Try.prog 18 #[pgV lsn0 A n c, .int .i64 lsn, .string x.key, vlV x.val] w (RetPg (pg0, 1) w) := by
  obtain ⟨key, ⟨hs, d⟩⟩ := x
  obtain ⟨W0, hW0⟩ : ∃ W, W = ((w.alloc (.cells #[.int .i64 lsn0, .slice A n c] 24)).alloc (.cells #[.bool hs, .string d] 42)).alloc (.cells #[.int .i64 0, .slice none 0 0] 24) := ⟨_, rfl⟩
  have HB : Hid (Below w.heap.size w W0) := Lib.hid (by rw [hW0]; exact setR_below w lsn0 A n c ⟨hs, d⟩)
  have SW : Hid (SetR W0 w.heap.size lsn0 A n c ⟨hs, d⟩) := Lib.hid (by rw [hW0]; exact SetR.new w lsn0 A n c ⟨hs, d⟩)
  have HP := Lib.hid (h.below HB.out)
  have p0 : W0.cell? ⟨w.heap.size, 0, none⟩ = some (.int .i64 lsn0) := SW.out.pg.cell 0
  have p1 : W0.cell? ⟨w.heap.size, 1, none⟩ = some (.slice A n c) := SW.out.pg.cell 1
  have C := may10_any lsn0 A n c l W0 HP.out
  have CK := fun W => rKey_any key W
  have CV := fun W => refValue_any ⟨hs, d⟩ W
  have HW := Lib.hid hW0
  clear h hW0
  have FIN : Hid (∀ w', Below W0.heap.size W0 w' → w'.frozen? ⟨w.heap.size + 2, 0, none⟩ = false ∧ w'.frozen? ⟨w.heap.size + 2, 1, none⟩ = false ∧ w'.cell? ⟨w.heap.size + 2, 0, none⟩ = some (.int .i64 0) ∧ w'.cell? ⟨w.heap.size + 2, 1, none⟩ = some (.slice none 0 0)) := Lib.hid (fun w' hb => by
    have s := SW.out.below hb (Nat.le_refl _)
    exact ⟨s.out.frz 0, s.out.frz 1, s.out.cell 0, s.out.cell 1⟩)
  have PGC : Hid (∀ w', Below W0.heap.size W0 w' → w'.cell? ⟨w.heap.size, 0, none⟩ = some (.int .i64 lsn0) ∧ w'.cell? ⟨w.heap.size, 1, none⟩ = some (.slice A n c) ∧ w'.cell? ⟨w.heap.size + 1, 0, none⟩ = some (.bool hs) ∧ w'.cell? ⟨w.heap.size + 1, 1, none⟩ = some (.string d)) := Lib.hid (fun w' hb => by
    have s := SW.out.below hb (Nat.le_refl _)
    exact ⟨s.pg.cell 0, s.pg.cell 1, s.vl.cell 0, s.vl.cell 1⟩)
  have ZE : Hid (∀ w', Below W0.heap.size W0 w' → Bk ((w'.setCell ⟨w.heap.size + 2, 0, none⟩ (.int .i64 0)).setCell ⟨w.heap.size + 2, 1, none⟩ (.slice none 0 0)) (w.heap.size + 2) 24 #[.int .i64 0, .slice none 0 0] ∧
    RetPg (pg0, 1) w (.returned (.tuple #[pgV 0 none 0 0, .int .i64 1])) ((w'.setCell ⟨w.heap.size + 2, 0, none⟩ (.int .i64 0)).setCell ⟨w.heap.size + 2, 1, none⟩ (.slice none 0 0))) := Lib.hid (fun w' hb => (SW.out.below hb (Nat.le_refl _)).zero (Below.then HB.out hb) 1)
  by_cases hp : (⟨lsn0, l⟩ : Pg).ok
  · rw [decide_eq_true hp] at C
    have C := Lib.hid C
    by_cases hk : keyOk key
    · rw [decide_eq_true hk] at CK
      have CK := Lib.hid CK
      by_cases hv : vlOk ⟨hs, d⟩
      · have hl : ¬ (1 ≤ lsn ∧ lsn ≤ 1099511627776) := fun q => hno ⟨hp, ⟨hk, hv⟩, q⟩
        rw [decide_eq_true hv] at CV
        have CV := Lib.hid CV
        clear hno hp hk hv
        by_cases h1 : 1 ≤ lsn
        · have h2 : ¬ lsn ≤ 1099511627776 := fun q => hl ⟨h1, q⟩
          clear hl
          go_enter Try.func18, Try.ntmps18
          go_upto_region 1 with fail
          rw [← HW.out]
          go_wp2_with fail
          refine C.out.mono ?_
          rintro e w1 ⟨rfl, b1⟩
          have B1 := Lib.hid b1
          clear b1 C p0 p1
          go_wp2_with fail
          refine (CK.out _).mono ?_
          rintro e w2 ⟨rfl, b2⟩
          have B2 := Lib.hid (Below.then B1.out b2)
          clear b2 CK
          obtain ⟨_, _, v0, v1⟩ := PGC.out _ B2.out
          go_wp2_with fail
          refine (CV.out _).mono ?_
          rintro e w3 ⟨rfl, b3⟩
          have B3 := Lib.hid (Below.then B2.out b3)
          clear b3 CV v0 v1
          obtain ⟨f0, f1, z0, z1⟩ := FIN.out _ B3.out
          have Z := Lib.hid (ZE.out _ B3.out)
          clear B3
          go_wp2_with fail
          (try simp only [Exit.inBlock, Exit.then])
          refine bodyPost_ret (results_cellT rfl _ _ (w.heap.size + 2) 24 _ _ rfl Z.out.1 Try.underlying24 rfl pg_inf) rfl ?_
          exact Z.out.2
        · clear hl
          go_enter Try.func18, Try.ntmps18
          go_upto_region 1 with fail
          rw [← HW.out]
          go_wp2_with fail
          refine C.out.mono ?_
          rintro e w1 ⟨rfl, b1⟩
          have B1 := Lib.hid b1
          clear b1 C p0 p1
          go_wp2_with fail
          refine (CK.out _).mono ?_
          rintro e w2 ⟨rfl, b2⟩
          have B2 := Lib.hid (Below.then B1.out b2)
          clear b2 CK
          obtain ⟨_, _, v0, v1⟩ := PGC.out _ B2.out
          go_wp2_with fail
          refine (CV.out _).mono ?_
          rintro e w3 ⟨rfl, b3⟩
          have B3 := Lib.hid (Below.then B2.out b3)
          clear b3 CV v0 v1
          obtain ⟨f0, f1, z0, z1⟩ := FIN.out _ B3.out
          have Z := Lib.hid (ZE.out _ B3.out)
          clear B3
          go_wp2_with fail
          (try simp only [Exit.inBlock, Exit.then])
          refine bodyPost_ret (results_cellT rfl _ _ (w.heap.size + 2) 24 _ _ rfl Z.out.1 Try.underlying24 rfl pg_inf) rfl ?_
          exact Z.out.2
      · rw [decide_eq_false hv] at CV
        have CV := Lib.hid CV
        clear hno hp hk hv
        go_enter Try.func18, Try.ntmps18
        go_upto_region 1 with fail
        rw [← HW.out]
        go_wp2_with fail
        refine C.out.mono ?_
        rintro e w1 ⟨rfl, b1⟩
        have B1 := Lib.hid b1
        clear b1 C p0 p1
        go_wp2_with fail
        refine (CK.out _).mono ?_
        rintro e w2 ⟨rfl, b2⟩
        have B2 := Lib.hid (Below.then B1.out b2)
        clear b2 CK
        obtain ⟨_, _, v0, v1⟩ := PGC.out _ B2.out
        go_wp2_with fail
        refine (CV.out _).mono ?_
        rintro e w3 ⟨rfl, b3⟩
        have B3 := Lib.hid (Below.then B2.out b3)
        clear b3 CV v0 v1
        obtain ⟨f0, f1, z0, z1⟩ := FIN.out _ B3.out
        have Z := Lib.hid (ZE.out _ B3.out)
        clear B3
        go_wp2_with fail
        (try simp only [Exit.inBlock, Exit.then])
        refine bodyPost_ret (results_cellT rfl _ _ (w.heap.size + 2) 24 _ _ rfl Z.out.1 Try.underlying24 rfl pg_inf) rfl ?_
        exact Z.out.2
    · rw [decide_eq_false hk] at CK
      have CK := Lib.hid CK
      clear hno hp hk CV
      go_enter Try.func18, Try.ntmps18
      go_upto_region 1 with fail
      rw [← HW.out]
      go_wp2_with fail
      refine C.out.mono ?_
      rintro e w1 ⟨rfl, b1⟩
      have B1 := Lib.hid b1
      clear b1 C p0 p1
      go_wp2_with fail
      refine (CK.out _).mono ?_
      rintro e w2 ⟨rfl, b2⟩
      have B2 := Lib.hid (Below.then B1.out b2)
      clear b2 CK
      obtain ⟨f0, f1, z0, z1⟩ := FIN.out _ B2.out
      have Z := Lib.hid (ZE.out _ B2.out)
      clear B2
      go_wp2_with fail
      (try simp only [Exit.inBlock, Exit.then])
      refine bodyPost_ret (results_cellT rfl _ _ (w.heap.size + 2) 24 _ _ rfl Z.out.1 Try.underlying24 rfl pg_inf) rfl ?_
      exact Z.out.2
  · rw [decide_eq_false hp] at C
    have C := Lib.hid C
    clear hno hp CK CV
    go_enter Try.func18, Try.ntmps18
    go_upto_region 1 with fail
    rw [← HW.out]
    go_wp2_with fail
    refine C.out.mono ?_
    rintro e w1 ⟨rfl, b1⟩
    have B1 := Lib.hid b1
    clear b1 C p0 p1
    obtain ⟨f0, f1, z0, z1⟩ := FIN.out _ B1.out
    have Z := Lib.hid (ZE.out _ B1.out)
    clear B1
    go_wp2_with fail
    (try simp only [Exit.inBlock, Exit.then])
    refine bodyPost_ret (results_cellT rfl _ _ (w.heap.size + 2) 24 _ _ rfl Z.out.1 Try.underlying24 rfl pg_inf) rfl ?_
    exact Z.out.2
set_option maxRecDepth 100000 in
set_option maxHeartbeats 4000000 in
theorem refSet_full (lsn0 : Int) (A : Option Addr) (n c : Nat) (l : List Cl) (lsn : Int) (x : Cl) (w : World) (h : Pcs w A n c l) (hyes : (⟨lsn0, l⟩ : Pg).ok ∧ clOk x ∧ 1 ≤ lsn ∧ lsn ≤ 1099511627776) (hr : roomC l x.key = false) :
    Calls Try.prog 18 #[pgV lsn0 A n c, .int .i64 lsn, .string x.key, vlV x.val] w (RetPg (pg0, 100) w) := by
  obtain ⟨key, ⟨hs, d⟩⟩ := x
  obtain ⟨W0, hW0⟩ : ∃ W, W = ((w.alloc (.cells #[.int .i64 lsn0, .slice A n c] 24)).alloc (.cells #[.bool hs, .string d] 42)).alloc (.cells #[.int .i64 0, .slice none 0 0] 24) := ⟨_, rfl⟩
  have HB : Hid (Below w.heap.size w W0) := Lib.hid (by rw [hW0]; exact setR_below w lsn0 A n c ⟨hs, d⟩)
  have SW : Hid (SetR W0 w.heap.size lsn0 A n c ⟨hs, d⟩) := Lib.hid (by rw [hW0]; exact SetR.new w lsn0 A n c ⟨hs, d⟩)
  have HP := Lib.hid (h.below HB.out)
  have p0 : W0.cell? ⟨w.heap.size, 0, none⟩ = some (.int .i64 lsn0) := SW.out.pg.cell 0
  have p1 : W0.cell? ⟨w.heap.size, 1, none⟩ = some (.slice A n c) := SW.out.pg.cell 1
  have C := may10_any lsn0 A n c l W0 HP.out
  have CK := fun W => rKey_any key W
  have CV := fun W => refValue_any ⟨hs, d⟩ W
  have HW := Lib.hid hW0
  clear h hW0
  have FIN : Hid (∀ w', Below W0.heap.size W0 w' → w'.frozen? ⟨w.heap.size + 2, 0, none⟩ = false ∧ w'.frozen? ⟨w.heap.size + 2, 1, none⟩ = false ∧ w'.cell? ⟨w.heap.size + 2, 0, none⟩ = some (.int .i64 0) ∧ w'.cell? ⟨w.heap.size + 2, 1, none⟩ = some (.slice none 0 0)) := Lib.hid (fun w' hb => by
    have s := SW.out.below hb (Nat.le_refl _)
    exact ⟨s.out.frz 0, s.out.frz 1, s.out.cell 0, s.out.cell 1⟩)
  have PGC : Hid (∀ w', Below W0.heap.size W0 w' → w'.cell? ⟨w.heap.size, 0, none⟩ = some (.int .i64 lsn0) ∧ w'.cell? ⟨w.heap.size, 1, none⟩ = some (.slice A n c) ∧ w'.cell? ⟨w.heap.size + 1, 0, none⟩ = some (.bool hs) ∧ w'.cell? ⟨w.heap.size + 1, 1, none⟩ = some (.string d)) := Lib.hid (fun w' hb => by
    have s := SW.out.below hb (Nat.le_refl _)
    exact ⟨s.pg.cell 0, s.pg.cell 1, s.vl.cell 0, s.vl.cell 1⟩)
  obtain ⟨hp, hc, hl1, hl2⟩ := hyes
  simp only at hr
  rw [decide_eq_true hp] at C
  rw [decide_eq_true hc.1] at CK
  rw [decide_eq_true hc.2] at CV
  have CR := fun W (hW : Pcs W A n c l) => refRoom_any lsn0 A n c l key W hW
  rw [hr] at CR
  have C := Lib.hid C
  have CK := Lib.hid CK
  have CV := Lib.hid CV
  have CR := Lib.hid CR
  have ZE : Hid (∀ w', Below W0.heap.size W0 w' → Bk ((w'.setCell ⟨w.heap.size + 2, 0, none⟩ (.int .i64 0)).setCell ⟨w.heap.size + 2, 1, none⟩ (.slice none 0 0)) (w.heap.size + 2) 24 #[.int .i64 0, .slice none 0 0] ∧
    RetPg (pg0, 100) w (.returned (.tuple #[pgV 0 none 0 0, .int .i64 100])) ((w'.setCell ⟨w.heap.size + 2, 0, none⟩ (.int .i64 0)).setCell ⟨w.heap.size + 2, 1, none⟩ (.slice none 0 0))) := Lib.hid (fun w' hb => (SW.out.below hb (Nat.le_refl _)).zero (Below.then HB.out hb) 100)
  clear hp hc hr
  go_enter Try.func18, Try.ntmps18
  go_upto_region 1 with fail
  rw [← HW.out]
  go_wp2_with fail
  refine C.out.mono ?_
  rintro e w1 ⟨rfl, b1⟩
  have B1 := Lib.hid b1
  clear b1 C p0 p1
  go_wp2_with fail
  refine (CK.out _).mono ?_
  rintro e w2 ⟨rfl, b2⟩
  have B2 := Lib.hid (Below.then B1.out b2)
  clear b2 CK
  obtain ⟨_, _, v0, v1⟩ := PGC.out _ B2.out
  go_wp2_with fail
  refine (CV.out _).mono ?_
  rintro e w3 ⟨rfl, b3⟩
  have B3 := Lib.hid (Below.then B2.out b3)
  clear b3 CV v0 v1
  obtain ⟨p0, p1, _, _⟩ := PGC.out _ B3.out
  go_wp2_with fail
  refine (CR.out _ (HP.out.below B3.out)).mono ?_
  rintro e w4 ⟨rfl, b4⟩
  have B4 := Lib.hid (Below.then B3.out b4)
  clear b4 CR p0 p1
  obtain ⟨f0, f1, z0, z1⟩ := FIN.out _ B4.out
  have Z := Lib.hid (ZE.out _ B4.out)
  clear B4
  go_wp2_with fail
  (try simp only [Exit.inBlock, Exit.then])
  refine bodyPost_ret (results_cellT rfl _ _ (w.heap.size + 2) 24 _ _ rfl Z.out.1 Try.underlying24 rfl pg_inf) rfl ?_
  exact Z.out.2
set_option maxRecDepth 100000 in
set_option maxHeartbeats 4000000 in
theorem refSet_ok (lsn0 : Int) (A : Option Addr) (n c : Nat) (l : List Cl) (lsn : Int) (x : Cl) (w : World) (h : Pcs w A n c l) (hyes : (⟨lsn0, l⟩ : Pg).ok ∧ clOk x ∧ 1 ≤ lsn ∧ lsn ≤ 1099511627776) (hr : roomC l x.key = true) :
    Calls Try.prog 18 #[pgV lsn0 A n c, .int .i64 lsn, .string x.key, vlV x.val] w (RetPg ((⟨lsn, setC l x⟩ : Pg), 0) w) := by
  obtain ⟨key, ⟨hs, d⟩⟩ := x
  obtain ⟨W0, hW0⟩ : ∃ W, W = ((w.alloc (.cells #[.int .i64 lsn0, .slice A n c] 24)).alloc (.cells #[.bool hs, .string d] 42)).alloc (.cells #[.int .i64 0, .slice none 0 0] 24) := ⟨_, rfl⟩
  have HB : Hid (Below w.heap.size w W0) := Lib.hid (by rw [hW0]; exact setR_below w lsn0 A n c ⟨hs, d⟩)
  have SW : Hid (SetR W0 w.heap.size lsn0 A n c ⟨hs, d⟩) := Lib.hid (by rw [hW0]; exact SetR.new w lsn0 A n c ⟨hs, d⟩)
  have HP := Lib.hid (h.below HB.out)
  have p0 : W0.cell? ⟨w.heap.size, 0, none⟩ = some (.int .i64 lsn0) := SW.out.pg.cell 0
  have p1 : W0.cell? ⟨w.heap.size, 1, none⟩ = some (.slice A n c) := SW.out.pg.cell 1
  have C := may10_any lsn0 A n c l W0 HP.out
  have CK := fun W => rKey_any key W
  have CV := fun W => refValue_any ⟨hs, d⟩ W
  have HW := Lib.hid hW0
  clear h hW0
  have FIN : Hid (∀ w', Below W0.heap.size W0 w' → w'.frozen? ⟨w.heap.size + 2, 0, none⟩ = false ∧ w'.frozen? ⟨w.heap.size + 2, 1, none⟩ = false ∧ w'.cell? ⟨w.heap.size + 2, 0, none⟩ = some (.int .i64 0) ∧ w'.cell? ⟨w.heap.size + 2, 1, none⟩ = some (.slice none 0 0)) := Lib.hid (fun w' hb => by
    have s := SW.out.below hb (Nat.le_refl _)
    exact ⟨s.out.frz 0, s.out.frz 1, s.out.cell 0, s.out.cell 1⟩)
  have PGC : Hid (∀ w', Below W0.heap.size W0 w' → w'.cell? ⟨w.heap.size, 0, none⟩ = some (.int .i64 lsn0) ∧ w'.cell? ⟨w.heap.size, 1, none⟩ = some (.slice A n c) ∧ w'.cell? ⟨w.heap.size + 1, 0, none⟩ = some (.bool hs) ∧ w'.cell? ⟨w.heap.size + 1, 1, none⟩ = some (.string d)) := Lib.hid (fun w' hb => by
    have s := SW.out.below hb (Nat.le_refl _)
    exact ⟨s.pg.cell 0, s.pg.cell 1, s.vl.cell 0, s.vl.cell 1⟩)
  obtain ⟨hp, hc, hl1, hl2⟩ := hyes
  simp only at hr
  rw [decide_eq_true hp] at C
  rw [decide_eq_true hc.1] at CK
  rw [decide_eq_true hc.2] at CV
  have CR := fun W (hW : Pcs W A n c l) => refRoom_any lsn0 A n c l key W hW
  rw [hr] at CR
  have C := Lib.hid C
  have CK := Lib.hid CK
  have CV := Lib.hid CV
  have CR := Lib.hid CR
  have hn4 : n ≤ 4 := by rw [← HP.out.len]; exact hp.2.1
  have hcap := HP.out.flt.cap
  have hmax := HP.out.flt.max
  unfold maxLen at hmax
  have hlen := Lib.hid HP.out.len
  have HPW := Lib.hid ((clsOk_pw l).1 hp.2.2).2
  clear hp hc hr
  go_enter Try.func18, Try.ntmps18
  go_upto_region 1 with fail
  rw [← HW.out]
  go_wp2_with fail
  refine C.out.mono ?_
  rintro e w1 ⟨rfl, b1⟩
  have B1 := Lib.hid b1
  clear b1 C p0 p1
  go_wp2_with fail
  refine (CK.out _).mono ?_
  rintro e w2 ⟨rfl, b2⟩
  have B2 := Lib.hid (Below.then B1.out b2)
  clear b2 CK
  obtain ⟨_, _, v0, v1⟩ := PGC.out _ B2.out
  go_wp2_with fail
  refine (CV.out _).mono ?_
  rintro e w3 ⟨rfl, b3⟩
  have B3 := Lib.hid (Below.then B2.out b3)
  clear b3 CV v0 v1
  obtain ⟨p0, p1, _, _⟩ := PGC.out _ B3.out
  go_wp2_with fail
  refine (CR.out _ (HP.out.below B3.out)).mono ?_
  rintro e w4 ⟨rfl, b4⟩
  have B4 := Lib.hid (Below.then B3.out b4)
  clear b4 CR p0 p1
  obtain ⟨p0, p1, v0, v1⟩ := PGC.out _ B4.out
  go_wp2_with fail
  have R0 : Hid (RS w4 (w4.alloc (.cells #[.int .i64 lsn, .slice none 0 0] 24)) lsn none 0 0 (outC l ⟨key, ⟨hs, d⟩⟩ 0)) := Lib.hid (by
    rw [outC_zero]
    exact ⟨(Below.refl _ _).alloc (Nat.le_refl _) _, Bk.new w4 _ _, OwnP.nil _ _⟩)
  go_loopw [11, 12] (fun y z wr => ∃ (i : Nat) (dn : Bool) (A1 : Option Addr) (n1 c1 : Nat), i ≤ n ∧ dn = decide (atC l key < i) ∧ y = .bool dn ∧ z = .int .i64 i ∧ RS w4 wr lsn A1 n1 c1 (outC l ⟨key, ⟨hs, d⟩⟩ i)) (fun _ z _ => n - (intOf z).toNat)
  case atStart => exact ⟨0, false, none, 0, 0, Nat.zero_le _, (decide_eq_false (by omega)).symm, rfl, rfl, R0.out⟩
  case round =>
    obtain ⟨i, dn, A1, n1, c1, hi, hdn, rfl, rfl, hr⟩ := hrel
    have R := Lib.hid hr
    have hn1 : n1 ≤ 100 := by have := hr.own.len; have := outC_len (l := l) (x := ⟨key, ⟨hs, d⟩⟩) i; have := hlen.out; omega
    have hBX := Below.then B4.out hr.below
    obtain ⟨_, q1, u0, u1⟩ := PGC.out _ hBX
    have hoc : wr.cell? ⟨w4.heap.size, 1, none⟩ = some (.slice A1 n1 c1) := hr.blk.cell 1
    clear R0 p0 p1 v0 v1
    by_cases hlt : i < n
    · obtain ⟨g, off, rfl, _, hc⟩ := HP.out.get (by omega)
      have HCP0 := Lib.hid (fun w' (hb : Below W0.heap.size W0 w') => ((HP.out.below hb).flt.at_ (by omega)))
      obtain ⟨xx, hx⟩ : ∃ x, l.getD i default = x := ⟨_, rfl⟩
      have HCP : Hid (∀ w', Below W0.heap.size W0 w' → w'.cell? ⟨g, off + i * 3, none⟩ = some (.string xx.key) ∧ w'.cell? ⟨g, off + i * 3 + 1, none⟩ = some (.bool xx.val.has) ∧ w'.cell? ⟨g, off + i * 3 + 2, none⟩ = some (.string xx.val.data)) := Lib.hid (fun w' hb => by
        obtain ⟨a0, a1, a2⟩ := hc i hlt
        rw [hx] at a0 a1 a2
        exact ⟨(hb.cell (World.block_lt_of_cell? W0 _ a0)).trans a0, (hb.cell (World.block_lt_of_cell? W0 _ a1)).trans a1, (hb.cell (World.block_lt_of_cell? W0 _ a2)).trans a2⟩)
      obtain ⟨ck, ⟨cs, cd⟩⟩ := xx
      simp only at HCP
      obtain ⟨a0, a1, a2⟩ := HCP.out _ hBX
      have HX := Lib.hid hx
      have hal : atC l key ≤ n := by have := atC_le l key; rw [hlen.out] at this; exact this
      clear hc hx hr HCP0 hBX
      rcases Nat.lt_trichotomy i (atC l key) with hia | hia | hia
      · obtain rfl : dn = false := by rw [hdn]; exact decide_eq_false (by omega)
        have hkl : kLt ck key := by have := atC_lo hia; rw [HX.out] at this; exact this
        have hA : Op.bytesLess ck.toList key.toList = true := hkl
        have hB : (ck.toList == key.toList) = false := by rw [beq_key]; exact decide_eq_false (kLt_ne hkl)
        have HN : Hid (outC l ⟨key, ⟨hs, d⟩⟩ (i + 1) = outC l ⟨key, ⟨hs, d⟩⟩ i ++ [⟨ck, ⟨cs, cd⟩⟩]) := Lib.hid (by rw [← HX.out]; exact outC_lo hia)
        have HD : Hid (false = decide (atC l key < i + 1)) := Lib.hid (decide_eq_false (by omega)).symm
        clear hkl hdn HX
        go_wp2_with fail
        have KS : Hid (∀ w', w'.cell? ⟨w4.heap.size, 1, none⟩ = some (.slice A1 n1 c1) → Below w4.heap.size w4 w' → w'.cell? ⟨w4.heap.size, 1, none⟩ = some (.slice A1 n1 c1) ∧ w'.cell? ⟨w.heap.size, 1, none⟩ = some (.slice (some ⟨g, off, none⟩) n c) ∧ w'.cell? ⟨g, off + i * 3, none⟩ = some (.string ck) ∧ w'.cell? ⟨g, off + i * 3 + 1, none⟩ = some (.bool cs) ∧ w'.cell? ⟨g, off + i * 3 + 2, none⟩ = some (.string cd)) := Lib.hid (fun w' hq hb => by
          have hb' := Below.then B4.out hb
          obtain ⟨a0, a1, a2⟩ := HCP.out w' hb'
          exact ⟨hq, (PGC.out w' hb').2.1, a0, a1, a2⟩)
        have hS0 := KS.out wr.drew (R.out.blk.cell 1) (R.out.below.drew)
        refine wp_region_noPanic ?_
        refine upto_start (fun w' => w'.cell? ⟨w4.heap.size, 1, none⟩ = some (.slice A1 n1 c1) ∧ w'.cell? ⟨w.heap.size, 1, none⟩ = some (.slice (some ⟨g, off, none⟩) n c) ∧ w'.cell? ⟨g, off + i * 3, none⟩ = some (.string ck) ∧ w'.cell? ⟨g, off + i * 3 + 1, none⟩ = some (.bool cs) ∧ w'.cell? ⟨g, off + i * 3 + 2, none⟩ = some (.string cd)) 9 (by kernel_rfl) ?_
        change Upto _ _ _ _ _ 11 _ _ _
        refine Upto.take (i := 0) (v := ?_) rfl (by kernel_rfl) (fun _ _ _ h => h) rfl (fun w' hS => ?_) hS0 ?_
        rotate_left
        · (try dsimp only at hS)
          go_split_ands
          go_simp
          (try with_reducible rfl)
        simp only [Act.put, List.setIfInBounds_toArray, List.set_cons_zero, List.set_cons_succ]
        refine Upto.take (i := 1) (v := ?_) rfl (by kernel_rfl) (fun _ _ _ h => h) rfl (fun w' hS => ?_) hS0 ?_
        rotate_left
        · (try dsimp only at hS)
          go_split_ands
          go_simp
          (try with_reducible rfl)
        simp only [Act.put, List.setIfInBounds_toArray, List.set_cons_zero, List.set_cons_succ]
        refine Upto.take (i := 2) (v := ?_) rfl (by kernel_rfl) (fun _ _ _ h => h) rfl (fun w' hS => ?_) hS0 ?_
        rotate_left
        · (try dsimp only at hS)
          go_split_ands
          go_simp
          (try with_reducible rfl)
        simp only [Act.put, List.setIfInBounds_toArray, List.set_cons_zero, List.set_cons_succ]
        refine Upto.take (i := 3) (v := ?_) rfl (by kernel_rfl) (fun _ _ _ h => h) rfl (fun w' hS => ?_) hS0 ?_
        rotate_left
        · (try dsimp only at hS)
          go_split_ands
          go_simp
          (try with_reducible rfl)
        simp only [Act.put, List.setIfInBounds_toArray, List.set_cons_zero, List.set_cons_succ]
        refine Upto.take (i := 4) (v := ?_) rfl (by kernel_rfl) (fun _ _ _ h => h) rfl (fun w' hS => ?_) hS0 ?_
        rotate_left
        · (try dsimp only at hS)
          go_split_ands
          go_simp
          (try with_reducible rfl)
        simp only [Act.put, List.setIfInBounds_toArray, List.set_cons_zero, List.set_cons_succ]
        refine Upto.take (i := 5) (v := ?_) rfl (by kernel_rfl) (fun _ _ _ h => h) rfl (fun w' hS => ?_) hS0 ?_
        rotate_left
        · (try dsimp only at hS)
          go_split_ands
          go_simp
          (try with_reducible rfl)
        simp only [Act.put, List.setIfInBounds_toArray, List.set_cons_zero, List.set_cons_succ]
        refine Upto.take (i := 6) (v := ?_) rfl (by kernel_rfl) (fun _ _ _ h => h) rfl (fun w' hS => ?_) hS0 ?_
        rotate_left
        · (try dsimp only at hS)
          go_split_ands
          go_simp
          (try with_reducible rfl)
        simp only [Act.put, List.setIfInBounds_toArray, List.set_cons_zero, List.set_cons_succ]
        have r5 : RS w4 (wr.drew.alloc (.cells #[.string ck, .bool cs, .string cd] 54)) lsn A1 n1 c1 (outC l ⟨key, ⟨hs, d⟩⟩ i) := R.out.up ((Below.refl _ _).drew.alloc (Nat.le_refl _) _)
        have k5 : Bk (wr.drew.alloc (.cells #[.string ck, .bool cs, .string cd] 54)) wr.heap.size 54 #[.string ck, .bool cs, .string cd] := Bk.new wr.drew _ _
        refine Upto.only (i := 7) rfl (by kernel_rfl) rfl (exec_buildSlice rfl [(0, .agg #[.string ck, .bool cs, .string cd])] (by rfl) (bslice_1 ck cs cd _)) ?_ ?_
        · exact KS.out _ (r5.blk.cell 1) r5.below
        simp only [Act.put, List.setIfInBounds_toArray, List.set_cons_zero, List.set_cons_succ]
        generalize hW5 : wr.drew.alloc (.cells #[.string ck, .bool cs, .string cd] 54) = W5 at r5 k5 ⊢
        have R5 := Lib.hid r5
        have K5 := Lib.hid (one_pcs (x := ⟨ck, ⟨cs, cd⟩⟩) k5)
        clear r5 k5 hW5
        refine Upto.law (i := 8) rfl (by kernel_rfl) rfl (fun K hK => ?_)
        refine wp_app_cells _ _ (by rfl) (w4.heap.size + 1) rfl (by rfl) R5.out.own (by rfl) K5.out (by omega) (by have := R5.out.blk.lt; omega) ?_
        intro A' c' w7 k1 k2
        have hfz := R5.out.frz k2
        have R7 := Lib.hid (R5.out.app k1 k2)
        have hbx : Below w4.heap.size w4 w7 := R5.out.below.grown k2 R5.out.below.size (fun k hk => by have := (R5.out.own.own.lt k hk).1; omega)
        refine hK _ _ (KS.out _ hfz.2 hbx) ?_
        obtain ⟨hf7, hc7⟩ := hfz
        clear hK k1 k2 hbx R5 K5 hS0 KS
        simp only [Act.put, List.setIfInBounds_toArray, List.set_cons_zero, List.set_cons_succ]
        refine Upto.tail rfl (by kernel_rfl) ?_
        simp only [List.drop_succ_cons, List.drop_zero]
        go_wp2_with fail
        refine NoPanic.normal ?_
        go_wp2_with fail
        go_roundw
        case rel => exact ⟨i + 1, decide (atC l key < i + 1), A', n1 + 1, c', by omega, rfl, by first | rfl | (congr 1 <;> exact HD.out), by go_num, by rw [HN.out]; exact R7.out⟩
        case measure => simp [intOf]; omega
      · obtain rfl : dn = false := by rw [hdn]; exact decide_eq_false (by omega)
        have hnk : ¬ kLt ck key := by
          have := atC_at (l := l) (k := key) (by rw [← hia, hlen.out]; exact hlt)
          rw [← hia, HX.out] at this
          exact this
        have hA : Op.bytesLess ck.toList key.toList = false := by unfold kLt at hnk; simpa using hnk
        have HIA := Lib.hid hia
        have HNK := Lib.hid hnk
        clear hnk hdn hia
        have R5 := Lib.hid (R.out.up ((Below.refl wr.heap.size wr).alloc (Nat.le_refl _) (.cells #[.string key, .bool hs, .string d] 54)))
        have K5 := Lib.hid (one_pcs (x := ⟨key, ⟨hs, d⟩⟩) (Bk.new wr 54 #[.string key, .bool hs, .string d]))
        go_wp2_with (at_builtin; refine wpList_app_cells rfl _ _ rfl (w4.heap.size + 1) rfl rfl R5.out.own rfl K5.out (by omega) (by have := R5.out.blk.lt; omega) ?_)
        intro A2 c2 w6 k1 k2
        obtain ⟨hf7, hc7⟩ := R5.out.frz k2
        have R7 := Lib.hid (R5.out.app k1 k2)
        have hBX8 := Below.then B4.out R7.out.below
        obtain ⟨_, q8, _, _⟩ := PGC.out _ hBX8
        obtain ⟨e0, e1, e2⟩ := HCP.out _ hBX8
        have HD : Hid (true = decide (atC l key < i + 1)) := Lib.hid (decide_eq_true (by rw [← HIA.out]; omega)).symm
        have hil : atC l key < l.length := by rw [← HIA.out, hlen.out]; exact hlt
        clear k1 k2 R5 K5 hoc hBX8 a0 a1 a2 q1 u0 u1
        obtain ⟨bb, hbb⟩ : ∃ b, isAt l key = b := ⟨_, rfl⟩
        cases bb with
        | true =>
          have hck : ck = key := by
            have := (of_decide_eq_true hbb).2
            rw [← HIA.out, HX.out] at this
            exact this
          have hB : (ck.toList == key.toList) = true := by rw [beq_key]; exact decide_eq_true hck
          have HN : Hid (outC l ⟨key, ⟨hs, d⟩⟩ (i + 1) = outC l ⟨key, ⟨hs, d⟩⟩ i ++ [⟨key, ⟨hs, d⟩⟩]) := Lib.hid (by rw [HIA.out]; exact outC_at hil hbb)
          clear hck hbb hil HX
          go_wp2_with fail
          go_roundw
          case rel => exact ⟨i + 1, true, A2, n1 + 1, c2, by omega, HD.out, rfl, by go_num, by rw [HN.out]; exact R7.out⟩
          case measure => simp [intOf]; omega
        | false =>
          have hne : ck ≠ key := fun q => by
            have : isAt l key = true := decide_eq_true ⟨hil, by rw [← HIA.out, HX.out]; exact q⟩
            rw [this] at hbb
            cases hbb
          have hB : (ck.toList == key.toList) = false := by rw [beq_key]; exact decide_eq_false hne
          have HN : Hid (outC l ⟨key, ⟨hs, d⟩⟩ (i + 1) = (outC l ⟨key, ⟨hs, d⟩⟩ i ++ [⟨key, ⟨hs, d⟩⟩]) ++ [⟨ck, ⟨cs, cd⟩⟩]) := Lib.hid (by
            have := outC_new (x := ⟨key, ⟨hs, d⟩⟩) hil hbb
            simp only at this
            rw [← HX.out, HIA.out]
            exact this)
          clear hne hbb hil HX
          go_wp2_with fail
          generalize hW8 : w6.setCell ⟨w4.heap.size, 1, none⟩ (.slice A2 (n1 + 1) c2) = W8 at R7 q8 e0 e1 e2 ⊢
          have R8 := R7
          clear hW8 hf7 hc7
          have KS : Hid (∀ w', w'.cell? ⟨w4.heap.size, 1, none⟩ = some (.slice A2 (n1 + 1) c2) → Below w4.heap.size w4 w' → w'.cell? ⟨w4.heap.size, 1, none⟩ = some (.slice A2 (n1 + 1) c2) ∧ w'.cell? ⟨w.heap.size, 1, none⟩ = some (.slice (some ⟨g, off, none⟩) n c) ∧ w'.cell? ⟨g, off + i * 3, none⟩ = some (.string ck) ∧ w'.cell? ⟨g, off + i * 3 + 1, none⟩ = some (.bool cs) ∧ w'.cell? ⟨g, off + i * 3 + 2, none⟩ = some (.string cd)) := Lib.hid (fun w' hq hb => by
            have hb' := Below.then B4.out hb
            obtain ⟨a0, a1, a2⟩ := HCP.out w' hb'
            exact ⟨hq, (PGC.out w' hb').2.1, a0, a1, a2⟩)
          have hS0 := KS.out W8.drew (R8.out.blk.cell 1) (R8.out.below.drew)
          refine wp_region_noPanic ?_
          refine upto_start (fun w' => w'.cell? ⟨w4.heap.size, 1, none⟩ = some (.slice A2 (n1 + 1) c2) ∧ w'.cell? ⟨w.heap.size, 1, none⟩ = some (.slice (some ⟨g, off, none⟩) n c) ∧ w'.cell? ⟨g, off + i * 3, none⟩ = some (.string ck) ∧ w'.cell? ⟨g, off + i * 3 + 1, none⟩ = some (.bool cs) ∧ w'.cell? ⟨g, off + i * 3 + 2, none⟩ = some (.string cd)) 9 (by kernel_rfl) ?_
          change Upto _ _ _ _ _ 11 _ _ _
          refine Upto.take (i := 0) (v := ?_) rfl (by kernel_rfl) (fun _ _ _ h => h) rfl (fun w' hS => ?_) hS0 ?_
          rotate_left
          · (try dsimp only at hS)
            go_split_ands
            go_simp
            (try with_reducible rfl)
          simp only [Act.put, List.setIfInBounds_toArray, List.set_cons_zero, List.set_cons_succ]
          refine Upto.take (i := 1) (v := ?_) rfl (by kernel_rfl) (fun _ _ _ h => h) rfl (fun w' hS => ?_) hS0 ?_
          rotate_left
          · (try dsimp only at hS)
            go_split_ands
            go_simp
            (try with_reducible rfl)
          simp only [Act.put, List.setIfInBounds_toArray, List.set_cons_zero, List.set_cons_succ]
          refine Upto.take (i := 2) (v := ?_) rfl (by kernel_rfl) (fun _ _ _ h => h) rfl (fun w' hS => ?_) hS0 ?_
          rotate_left
          · (try dsimp only at hS)
            go_split_ands
            go_simp
            (try with_reducible rfl)
          simp only [Act.put, List.setIfInBounds_toArray, List.set_cons_zero, List.set_cons_succ]
          refine Upto.take (i := 3) (v := ?_) rfl (by kernel_rfl) (fun _ _ _ h => h) rfl (fun w' hS => ?_) hS0 ?_
          rotate_left
          · (try dsimp only at hS)
            go_split_ands
            go_simp
            (try with_reducible rfl)
          simp only [Act.put, List.setIfInBounds_toArray, List.set_cons_zero, List.set_cons_succ]
          refine Upto.take (i := 4) (v := ?_) rfl (by kernel_rfl) (fun _ _ _ h => h) rfl (fun w' hS => ?_) hS0 ?_
          rotate_left
          · (try dsimp only at hS)
            go_split_ands
            go_simp
            (try with_reducible rfl)
          simp only [Act.put, List.setIfInBounds_toArray, List.set_cons_zero, List.set_cons_succ]
          refine Upto.take (i := 5) (v := ?_) rfl (by kernel_rfl) (fun _ _ _ h => h) rfl (fun w' hS => ?_) hS0 ?_
          rotate_left
          · (try dsimp only at hS)
            go_split_ands
            go_simp
            (try with_reducible rfl)
          simp only [Act.put, List.setIfInBounds_toArray, List.set_cons_zero, List.set_cons_succ]
          refine Upto.take (i := 6) (v := ?_) rfl (by kernel_rfl) (fun _ _ _ h => h) rfl (fun w' hS => ?_) hS0 ?_
          rotate_left
          · (try dsimp only at hS)
            go_split_ands
            go_simp
            (try with_reducible rfl)
          simp only [Act.put, List.setIfInBounds_toArray, List.set_cons_zero, List.set_cons_succ]
          have r5 : RS w4 (W8.drew.alloc (.cells #[.string ck, .bool cs, .string cd] 54)) lsn A2 (n1 + 1) c2 (outC l ⟨key, ⟨hs, d⟩⟩ i ++ [⟨key, ⟨hs, d⟩⟩]) := R8.out.up ((Below.refl _ _).drew.alloc (Nat.le_refl _) _)
          have k5 : Bk (W8.drew.alloc (.cells #[.string ck, .bool cs, .string cd] 54)) W8.heap.size 54 #[.string ck, .bool cs, .string cd] := Bk.new W8.drew _ _
          refine Upto.only (i := 7) rfl (by kernel_rfl) rfl (exec_buildSlice rfl [(0, .agg #[.string ck, .bool cs, .string cd])] (by rfl) (bslice_1 ck cs cd _)) ?_ ?_
          · exact KS.out _ (r5.blk.cell 1) r5.below
          simp only [Act.put, List.setIfInBounds_toArray, List.set_cons_zero, List.set_cons_succ]
          generalize hW5 : W8.drew.alloc (.cells #[.string ck, .bool cs, .string cd] 54) = W5 at r5 k5 ⊢
          have R5 := Lib.hid r5
          have K5 := Lib.hid (one_pcs (x := ⟨ck, ⟨cs, cd⟩⟩) k5)
          clear r5 k5 hW5
          refine Upto.law (i := 8) rfl (by kernel_rfl) rfl (fun K hK => ?_)
          refine wp_app_cells _ _ (by rfl) (w4.heap.size + 1) rfl (by rfl) R5.out.own (by rfl) K5.out (by omega) (by have := R5.out.blk.lt; omega) ?_
          intro A' c' w7 k1 k2
          have hfz := R5.out.frz k2
          have R7 := Lib.hid (R5.out.app k1 k2)
          have hbx : Below w4.heap.size w4 w7 := R5.out.below.grown k2 R5.out.below.size (fun k hk => by have := (R5.out.own.own.lt k hk).1; omega)
          refine hK _ _ (KS.out _ hfz.2 hbx) ?_
          obtain ⟨hf7, hc7⟩ := hfz
          clear hK k1 k2 hbx R5 K5 hS0 KS
          simp only [Act.put, List.setIfInBounds_toArray, List.set_cons_zero, List.set_cons_succ]
          refine Upto.tail rfl (by kernel_rfl) ?_
          simp only [List.drop_succ_cons, List.drop_zero]
          go_wp2_with fail
          refine NoPanic.normal ?_
          go_wp2_with fail
          go_roundw
          case rel => exact ⟨i + 1, decide (atC l key < i + 1), A', (n1 + 1) + 1, c', by omega, rfl, by first | rfl | (congr 1 <;> exact HD.out), by go_num, by rw [HN.out]; exact R7.out⟩
          case measure => simp [intOf]; omega
      · obtain rfl : dn = true := by rw [hdn]; exact decide_eq_true (by omega)
        have hne : ck ≠ key := by
          have h1 := pw_get HPW.out hia (by rw [hlen.out]; exact hlt)
          rw [HX.out] at h1
          intro q
          rw [q] at h1
          exact atC_at (by rw [hlen.out]; omega) h1
        have hB : (ck.toList == key.toList) = false := by rw [beq_key]; exact decide_eq_false hne
        have HN : Hid (outC l ⟨key, ⟨hs, d⟩⟩ (i + 1) = outC l ⟨key, ⟨hs, d⟩⟩ i ++ [⟨ck, ⟨cs, cd⟩⟩]) := Lib.hid (by rw [← HX.out]; exact outC_hi hia (by rw [hlen.out]; exact hlt))
        have HD : Hid (true = decide (atC l key < i + 1)) := Lib.hid (decide_eq_true (by omega)).symm
        clear hne hdn HX
        go_wp2_with fail
        have KS : Hid (∀ w', w'.cell? ⟨w4.heap.size, 1, none⟩ = some (.slice A1 n1 c1) → Below w4.heap.size w4 w' → w'.cell? ⟨w4.heap.size, 1, none⟩ = some (.slice A1 n1 c1) ∧ w'.cell? ⟨w.heap.size, 1, none⟩ = some (.slice (some ⟨g, off, none⟩) n c) ∧ w'.cell? ⟨g, off + i * 3, none⟩ = some (.string ck) ∧ w'.cell? ⟨g, off + i * 3 + 1, none⟩ = some (.bool cs) ∧ w'.cell? ⟨g, off + i * 3 + 2, none⟩ = some (.string cd)) := Lib.hid (fun w' hq hb => by
          have hb' := Below.then B4.out hb
          obtain ⟨a0, a1, a2⟩ := HCP.out w' hb'
          exact ⟨hq, (PGC.out w' hb').2.1, a0, a1, a2⟩)
        have hS0 := KS.out wr.drew (R.out.blk.cell 1) (R.out.below.drew)
        refine wp_region_noPanic ?_
        refine upto_start (fun w' => w'.cell? ⟨w4.heap.size, 1, none⟩ = some (.slice A1 n1 c1) ∧ w'.cell? ⟨w.heap.size, 1, none⟩ = some (.slice (some ⟨g, off, none⟩) n c) ∧ w'.cell? ⟨g, off + i * 3, none⟩ = some (.string ck) ∧ w'.cell? ⟨g, off + i * 3 + 1, none⟩ = some (.bool cs) ∧ w'.cell? ⟨g, off + i * 3 + 2, none⟩ = some (.string cd)) 9 (by kernel_rfl) ?_
        change Upto _ _ _ _ _ 11 _ _ _
        refine Upto.take (i := 0) (v := ?_) rfl (by kernel_rfl) (fun _ _ _ h => h) rfl (fun w' hS => ?_) hS0 ?_
        rotate_left
        · (try dsimp only at hS)
          go_split_ands
          go_simp
          (try with_reducible rfl)
        simp only [Act.put, List.setIfInBounds_toArray, List.set_cons_zero, List.set_cons_succ]
        refine Upto.take (i := 1) (v := ?_) rfl (by kernel_rfl) (fun _ _ _ h => h) rfl (fun w' hS => ?_) hS0 ?_
        rotate_left
        · (try dsimp only at hS)
          go_split_ands
          go_simp
          (try with_reducible rfl)
        simp only [Act.put, List.setIfInBounds_toArray, List.set_cons_zero, List.set_cons_succ]
        refine Upto.take (i := 2) (v := ?_) rfl (by kernel_rfl) (fun _ _ _ h => h) rfl (fun w' hS => ?_) hS0 ?_
        rotate_left
        · (try dsimp only at hS)
          go_split_ands
          go_simp
          (try with_reducible rfl)
        simp only [Act.put, List.setIfInBounds_toArray, List.set_cons_zero, List.set_cons_succ]
        refine Upto.take (i := 3) (v := ?_) rfl (by kernel_rfl) (fun _ _ _ h => h) rfl (fun w' hS => ?_) hS0 ?_
        rotate_left
        · (try dsimp only at hS)
          go_split_ands
          go_simp
          (try with_reducible rfl)
        simp only [Act.put, List.setIfInBounds_toArray, List.set_cons_zero, List.set_cons_succ]
        refine Upto.take (i := 4) (v := ?_) rfl (by kernel_rfl) (fun _ _ _ h => h) rfl (fun w' hS => ?_) hS0 ?_
        rotate_left
        · (try dsimp only at hS)
          go_split_ands
          go_simp
          (try with_reducible rfl)
        simp only [Act.put, List.setIfInBounds_toArray, List.set_cons_zero, List.set_cons_succ]
        refine Upto.take (i := 5) (v := ?_) rfl (by kernel_rfl) (fun _ _ _ h => h) rfl (fun w' hS => ?_) hS0 ?_
        rotate_left
        · (try dsimp only at hS)
          go_split_ands
          go_simp
          (try with_reducible rfl)
        simp only [Act.put, List.setIfInBounds_toArray, List.set_cons_zero, List.set_cons_succ]
        refine Upto.take (i := 6) (v := ?_) rfl (by kernel_rfl) (fun _ _ _ h => h) rfl (fun w' hS => ?_) hS0 ?_
        rotate_left
        · (try dsimp only at hS)
          go_split_ands
          go_simp
          (try with_reducible rfl)
        simp only [Act.put, List.setIfInBounds_toArray, List.set_cons_zero, List.set_cons_succ]
        have r5 : RS w4 (wr.drew.alloc (.cells #[.string ck, .bool cs, .string cd] 54)) lsn A1 n1 c1 (outC l ⟨key, ⟨hs, d⟩⟩ i) := R.out.up ((Below.refl _ _).drew.alloc (Nat.le_refl _) _)
        have k5 : Bk (wr.drew.alloc (.cells #[.string ck, .bool cs, .string cd] 54)) wr.heap.size 54 #[.string ck, .bool cs, .string cd] := Bk.new wr.drew _ _
        refine Upto.only (i := 7) rfl (by kernel_rfl) rfl (exec_buildSlice rfl [(0, .agg #[.string ck, .bool cs, .string cd])] (by rfl) (bslice_1 ck cs cd _)) ?_ ?_
        · exact KS.out _ (r5.blk.cell 1) r5.below
        simp only [Act.put, List.setIfInBounds_toArray, List.set_cons_zero, List.set_cons_succ]
        generalize hW5 : wr.drew.alloc (.cells #[.string ck, .bool cs, .string cd] 54) = W5 at r5 k5 ⊢
        have R5 := Lib.hid r5
        have K5 := Lib.hid (one_pcs (x := ⟨ck, ⟨cs, cd⟩⟩) k5)
        clear r5 k5 hW5
        refine Upto.law (i := 8) rfl (by kernel_rfl) rfl (fun K hK => ?_)
        refine wp_app_cells _ _ (by rfl) (w4.heap.size + 1) rfl (by rfl) R5.out.own (by rfl) K5.out (by omega) (by have := R5.out.blk.lt; omega) ?_
        intro A' c' w7 k1 k2
        have hfz := R5.out.frz k2
        have R7 := Lib.hid (R5.out.app k1 k2)
        have hbx : Below w4.heap.size w4 w7 := R5.out.below.grown k2 R5.out.below.size (fun k hk => by have := (R5.out.own.own.lt k hk).1; omega)
        refine hK _ _ (KS.out _ hfz.2 hbx) ?_
        obtain ⟨hf7, hc7⟩ := hfz
        clear hK k1 k2 hbx R5 K5 hS0 KS
        simp only [Act.put, List.setIfInBounds_toArray, List.set_cons_zero, List.set_cons_succ]
        refine Upto.tail rfl (by kernel_rfl) ?_
        simp only [List.drop_succ_cons, List.drop_zero]
        go_wp2_with fail
        refine NoPanic.normal ?_
        go_wp2_with fail
        go_roundw
        case rel => exact ⟨i + 1, decide (atC l key < i + 1), A', n1 + 1, c', by omega, rfl, by first | rfl | (congr 1 <;> exact HD.out), by go_num, by rw [HN.out]; exact R7.out⟩
        case measure => simp [intOf]; omega
    · obtain rfl : i = n := by omega
      have hal : atC l key ≤ i := by have := atC_le l key; rw [hlen.out] at this; exact this
      clear hr hBX
      by_cases hai : atC l key < i
      · obtain rfl : dn = true := by rw [hdn]; exact decide_eq_true hai
        have HS : Hid (outC l ⟨key, ⟨hs, d⟩⟩ i = setC l ⟨key, ⟨hs, d⟩⟩) := Lib.hid (by
          have := outC_fin (l := l) (x := ⟨key, ⟨hs, d⟩⟩) (by rw [hlen.out]; exact hai)
          rw [hlen.out] at this
          exact this)
        clear hdn
        rw [HS.out] at R
        have hBX := Below.then B4.out R.out.below
        obtain ⟨f0, f1, z0, z1⟩ := FIN.out _ hBX
        have S7 := Lib.hid (SW.out.below hBX (Nat.le_refl _))
        have o0 := R.out.blk.cell 0
        have o1 := R.out.blk.cell 1
        simp only [List.getElem?_toArray, List.getElem?_cons_zero, List.getElem?_cons_succ] at o0 o1
        have BW := Lib.hid (Below.then HB.out hBX)
        have HLO : Hid (w.heap.size ≤ w4.heap.size + 1) := Lib.hid (by have := HB.out.size; have := B4.out.size; omega)
        have FB : Hid (Bk ((wr.setCell ⟨w.heap.size + 2, 0, none⟩ (.int .i64 lsn)).setCell ⟨w.heap.size + 2, 1, none⟩ (.slice A1 n1 c1)) (w.heap.size + 2) 24 #[.int .i64 lsn, .slice A1 n1 c1]) := Lib.hid (by simpa using (S7.out.out.setc 0 (.int .i64 lsn)).setc 1 (.slice A1 n1 c1))
        have RR : Hid (RetPg (⟨lsn, setC l ⟨key, ⟨hs, d⟩⟩⟩, 0) w (.returned (.tuple #[pgV lsn A1 n1 c1, .int .i64 0])) ((wr.setCell ⟨w.heap.size + 2, 0, none⟩ (.int .i64 lsn)).setCell ⟨w.heap.size + 2, 1, none⟩ (.slice A1 n1 c1))) := Lib.hid ⟨A1, n1, c1, rfl,
          ⟨own_set (own_set (R.out.own.lo HLO.out).own S7.out.out (by decide)) (S7.out.out.setc 0 _) (by decide), R.out.own.len⟩, (BW.out.setCell (p := ⟨w.heap.size + 2, 0, none⟩) (by simp) _).setCell (p := ⟨w.heap.size + 2, 1, none⟩) (by simp) _⟩
        clear hBX BW S7 HLO
        go_wp2_with fail
        (try simp only [Exit.inBlock, Exit.then])
        refine bodyPost_ret (results_cellT rfl _ _ (w.heap.size + 2) 24 _ _ rfl FB.out Try.underlying24 rfl pg_inf) rfl ?_
        exact RR.out
      · obtain rfl : dn = false := by rw [hdn]; exact decide_eq_false hai
        have HS : Hid (outC l ⟨key, ⟨hs, d⟩⟩ i ++ [⟨key, ⟨hs, d⟩⟩] = setC l ⟨key, ⟨hs, d⟩⟩) := Lib.hid (by
          have := outC_end (l := l) (x := ⟨key, ⟨hs, d⟩⟩) (by rw [hlen.out]; show atC l key = i; omega)
          rw [hlen.out] at this
          exact this)
        clear hdn hai hal
        have R5 := Lib.hid (R.out.up ((Below.refl wr.heap.size wr).alloc (Nat.le_refl _) (.cells #[.string key, .bool hs, .string d] 54)))
        have K5 := Lib.hid (one_pcs (x := ⟨key, ⟨hs, d⟩⟩) (Bk.new wr 54 #[.string key, .bool hs, .string d]))
        go_wp2_with (at_builtin; refine wpList_app_cells rfl _ _ rfl (w4.heap.size + 1) rfl rfl R5.out.own rfl K5.out (by omega) (by have := R5.out.blk.lt; omega) ?_)
        intro A2 c2 w6 k1 k2
        obtain ⟨hf7, hc7⟩ := R5.out.frz k2
        have R7 := Lib.hid (R5.out.app k1 k2)
        rw [HS.out] at R7
        clear k1 k2 R5 K5 hoc u0 u1 q1
        have hBX := Below.then B4.out R7.out.below
        obtain ⟨f0, f1, z0, z1⟩ := FIN.out _ hBX
        have S7 := Lib.hid (SW.out.below hBX (Nat.le_refl _))
        have o0 := R7.out.blk.cell 0
        have o1 := R7.out.blk.cell 1
        simp only [List.getElem?_toArray, List.getElem?_cons_zero, List.getElem?_cons_succ] at o0 o1
        have BW := Lib.hid (Below.then HB.out hBX)
        have HLO : Hid (w.heap.size ≤ w4.heap.size + 1) := Lib.hid (by have := HB.out.size; have := B4.out.size; omega)
        have FB : Hid (Bk (((w6.setCell ⟨w4.heap.size, 1, none⟩ (.slice A2 (n1 + 1) c2)).setCell ⟨w.heap.size + 2, 0, none⟩ (.int .i64 lsn)).setCell ⟨w.heap.size + 2, 1, none⟩ (.slice A2 (n1 + 1) c2)) (w.heap.size + 2) 24 #[.int .i64 lsn, .slice A2 (n1 + 1) c2]) := Lib.hid (by simpa using (S7.out.out.setc 0 (.int .i64 lsn)).setc 1 (.slice A2 (n1 + 1) c2))
        have RR : Hid (RetPg (⟨lsn, setC l ⟨key, ⟨hs, d⟩⟩⟩, 0) w (.returned (.tuple #[pgV lsn A2 (n1 + 1) c2, .int .i64 0])) (((w6.setCell ⟨w4.heap.size, 1, none⟩ (.slice A2 (n1 + 1) c2)).setCell ⟨w.heap.size + 2, 0, none⟩ (.int .i64 lsn)).setCell ⟨w.heap.size + 2, 1, none⟩ (.slice A2 (n1 + 1) c2))) := Lib.hid ⟨A2, (n1 + 1), c2, rfl,
          ⟨own_set (own_set (R7.out.own.lo HLO.out).own S7.out.out (by decide)) (S7.out.out.setc 0 _) (by decide), R7.out.own.len⟩, (BW.out.setCell (p := ⟨w.heap.size + 2, 0, none⟩) (by simp) _).setCell (p := ⟨w.heap.size + 2, 1, none⟩) (by simp) _⟩
        clear hBX BW S7 HLO
        go_wp2_with fail
        (try simp only [Exit.inBlock, Exit.then])
        refine bodyPost_ret (results_cellT rfl _ _ (w.heap.size + 2) 24 _ _ rfl FB.out Try.underlying24 rfl pg_inf) rfl ?_
        exact RR.out
end

/- trothlaw10.awake answers true; what is there stands. -/
section
open Go.RowKit
theorem Pcs.nil (w : World) : Pcs w none 0 0 [] := ⟨Flt.nil w 3, rfl⟩
theorem pg0_ok : (⟨0, []⟩ : Pg).ok := ⟨⟨Int.le_refl 0, by show (0 : Int) ≤ 1099511627776; omega⟩, by simp, fun i hi => absurd hi (by simp)⟩
def clA : Cl := ⟨⟨#[97]⟩, ⟨true, ⟨#[49]⟩⟩⟩
theorem clA_ok : clOk clA := ⟨⟨by decide, by decide⟩, by unfold vlOk clA; decide⟩
theorem setC_nil (x : Cl) : setC [] x = [x] := by
  unfold setC
  simp [atC, behC, isAt]
set_option maxRecDepth 100000 in
set_option maxHeartbeats 4000000 in
theorem awake10 (w : World) : Calls Try.prog 9 #[] w (Ret (.bool true) w) := by
  obtain ⟨W0, hW0⟩ : ∃ W, W = w.alloc (.cells #[.bool true, .string ⟨#[49]⟩] 42) := ⟨_, rfl⟩
  have HB : Hid (Below w.heap.size w W0) := Lib.hid (by rw [hW0]; exact (Below.refl _ _).alloc (Nat.le_refl _) _)
  have BV : Hid (Bk W0 w.heap.size 42 #[.bool true, .string ⟨#[49]⟩]) := Lib.hid (by rw [hW0]; exact Bk.new w _ _)
  have v0 : W0.cell? ⟨w.heap.size, 0, none⟩ = some (.bool true) := BV.out.cell 0
  have v1 : W0.cell? ⟨w.heap.size, 1, none⟩ = some (.string ⟨#[49]⟩) := BV.out.cell 1
  have C := Lib.hid (set_ok 0 none 0 0 [] 7 clA W0 (Pcs.nil _) ⟨pg0_ok, clA_ok, by omega, by omega⟩ rfl)
  have HW := Lib.hid hW0
  clear hW0
  go_enter Try.func9, Try.ntmps9
  go_upto_region 2 with fail
  rw [← HW.out]
  go_wp2_with fail
  refine C.out.mono ?_
  rintro e w1 ⟨A, n, c, rfl, ho, b1⟩
  have ho' : OwnP W0.heap.size w1 A n c [clA] := by have := ho; simp only [setC_nil] at this; exact this
  obtain rfl : n = 1 := by rw [← ho'.len]; rfl
  have HO := Lib.hid ho'.pcs
  have B1 := Lib.hid b1
  clear ho ho' b1 C v0 v1
  go_wp2_with fail
  obtain ⟨W1, hW1⟩ : ∃ W, W = w1.alloc (.cells #[.int .i64 7, .slice A 1 c] 24) := ⟨_, rfl⟩
  have b2 : Below w1.heap.size w1 W1 := by rw [hW1]; exact (Below.refl _ _).alloc (Nat.le_refl _) _
  have kp : Bk W1 w1.heap.size 24 #[.int .i64 7, .slice A 1 c] := by rw [hW1]; exact Bk.new w1 _ _
  have kv := BV.out.bel (Below.then B1.out b2) BV.out.lt
  have f0 : ∀ d' os, (Go.Sort.grow (redrawn W1 d') os).cell? ⟨w1.heap.size, 0, none⟩ = some (.int .i64 7) := cell_regrown (kp.cell 0)
  have f1 : ∀ d' os, (Go.Sort.grow (redrawn W1 d') os).cell? ⟨w1.heap.size, 1, none⟩ = some (.slice A 1 c) := cell_regrown (kp.cell 1)
  have f2 : ∀ d' os, (Go.Sort.grow (redrawn W1 d') os).cell? ⟨w.heap.size, 0, none⟩ = some (.bool true) := cell_regrown (kv.cell 0)
  have f3 : ∀ d' os, (Go.Sort.grow (redrawn W1 d') os).cell? ⟨w.heap.size, 1, none⟩ = some (.string ⟨#[49]⟩) := cell_regrown (kv.cell 1)
  have CG : Hid (∀ d' os, Calls Try.prog 19 #[pgV 7 A 1 c, .string ⟨#[97]⟩] (Go.Sort.grow (redrawn W1 d') os) (Ret (.agg #[.bool true, .string ⟨#[49]⟩]) (Go.Sort.grow (redrawn W1 d') os))) := Lib.hid (fun d' os => by
    have := get_any 7 A 1 c [clA] ⟨#[97]⟩ (Go.Sort.grow (redrawn W1 d') os) ((HO.out.below b2).below (below_regrown W1 d' os))
    rw [show getV [clA] ⟨#[97]⟩ = ⟨true, ⟨#[49]⟩⟩ by simp [getV, getC, clA]] at this
    exact this)
  have BW := Lib.hid (Below.then HB.out (Below.then B1.out b2))
  rw [← hW1]
  clear hW1 b2 kp kv HO B1 HB BV
  refine wp_region_quiet_below (by kernel_rfl) (by kernel_rfl) ?_
  repeat (any_goals (first | go_big_quiet_step ((go_at_call 19; exact Calls.regrown_of (CG.out _ _))) | quiet_step ((go_at_call 19; exact Calls.regrown_of (CG.out _ _)))))
  refine wpQuiet_nil ?_
  intro _ hw'
  obtain ⟨⟨dq, osq⟩, hw''⟩ := hw'
  subst hw''
  have L11 := Lib.hid (Below.then BW.out (below_regrown W1 dq osq))
  clear BW f0 f1 f2 f3 CG
  go_wp2_with fail
  go_ret
  exact ⟨by simp, L11.out⟩
end

/- pages and values as they come in: what they read as. -/
section
open Go.RowKit Go.ChangeShapes Go.WideShapes Go.ChangeAt
structure Xp where
  lsn : Int
  A : Option Addr
  n : Nat
  c : Nat
  l : List Cl
abbrev Xp.val (x : Xp) : Value := pgV x.lsn x.A x.n x.c
structure XpIn (w : World) (x : Xp) : Prop where
  lsn : -9223372036854775808 ≤ x.lsn ∧ x.lsn ≤ 9223372036854775807
  pcs : Pcs w x.A x.n x.c x.l
section
variable {H : Type} {enc : TypeId × Value → H} {W : World}
theorem coP_int : Try.prog.cellsOf 3 = 1 := by kernel_rfl
theorem coP_str : Try.prog.cellsOf 9 = 1 := by kernel_rfl
theorem coP_bool : Try.prog.cellsOf 4 = 1 := by kernel_rfl
theorem coP_cls : Try.prog.cellsOf 22 = 1 := by kernel_rfl
theorem coP_vl : Try.prog.cellsOf 42 = 2 := by kernel_rfl
theorem coP_cl : Try.prog.cellsOf 54 = 3 := by kernel_rfl
theorem coP_pg : Try.prog.cellsOf 24 = 2 := by kernel_rfl
theorem open_vl2 {k : Nat} {v0 v1 : Value} {x : DataW H × List MemPlace} (hf : DataW.trod enc Try.prog W 0 (fun _ => true) true k 42 [v0, v1] = some x) : ∃ m : Vl, [v0, v1] = [.bool m.has, .string m.data] := by
  obtain ⟨xs, k', _, _, _, hxl, hfld⟩ := DataW.trod_struct Try.underlying42 hf
  match xs, hxl with
  | [x0, x1], _ =>
    have f0 : DataW.trod enc Try.prog W 0 (fun _ => true) true k' 4 (List.take (Try.prog.cellsOf 4) [v0, v1]) = some x0 := hfld 0 _ rfl
    have f1 : DataW.trod enc Try.prog W 0 (fun _ => true) true k' 9 (List.take (Try.prog.cellsOf 9) [v1]) = some x1 := hfld 1 _ rfl
    rw [coP_bool] at f0
    rw [coP_str] at f1
    obtain ⟨k0, e0, _⟩ := DataW.trod_bool Try.underlying4 f0
    obtain ⟨k1, e1, _⟩ := DataW.trod_string Try.underlying9 f1
    simp at e0 e1
    subst e0 e1
    exact ⟨⟨k0, k1⟩, rfl⟩
theorem open_cl3 {k : Nat} {v0 v1 v2 : Value} {x : DataW H × List MemPlace} (hf : DataW.trod enc Try.prog W 0 (fun _ => true) true k 54 [v0, v1, v2] = some x) : ∃ m : Cl, [v0, v1, v2] = m.cells := by
  obtain ⟨xs, k', _, _, _, hxl, hfld⟩ := DataW.trod_struct Try.underlying54 hf
  match xs, hxl with
  | [x0, x1], _ =>
    have f0 : DataW.trod enc Try.prog W 0 (fun _ => true) true k' 9 (List.take (Try.prog.cellsOf 9) [v0, v1, v2]) = some x0 := hfld 0 _ rfl
    have f1 : DataW.trod enc Try.prog W 0 (fun _ => true) true k' 42 (List.take (Try.prog.cellsOf 42) [v1, v2]) = some x1 := hfld 1 _ rfl
    rw [coP_str] at f0
    rw [coP_vl] at f1
    obtain ⟨k0, e0, _⟩ := DataW.trod_string Try.underlying9 f0
    obtain ⟨m, e1⟩ := open_vl2 f1
    simp at e0 e1
    obtain ⟨e1, e2⟩ := e1
    subst e0 e1 e2
    exact ⟨⟨k0, m⟩, rfl⟩
theorem addrP {g off : Nat} (i j : Nat) : ((⟨g, off, none⟩ : Addr).add i).add j = ⟨g, off + i + j, none⟩ := by
  by_cases hi : i = 0 <;> by_cases hj : j = 0 <;> simp [Addr.add, hi, hj]
theorem lstP {α : Type} (d : α) (P : Nat → α → Prop) : ∀ n : Nat, (∀ i, i < n → ∃ x, P i x) → ∃ l : List α, l.length = n ∧ ∀ i, i < n → P i (l.getD i d)
  | 0, _ => ⟨[], rfl, fun i hi => absurd hi (by omega)⟩
  | n + 1, h => by
    obtain ⟨l, hl, hp⟩ := lstP d P n (fun i hi => h i (by omega))
    obtain ⟨x, hx⟩ := h n (by omega)
    refine ⟨l ++ [x], by simp [hl], fun i hi => ?_⟩
    by_cases he : i < n
    · have := hp i he
      have e : (l ++ [x]).getD i d = l.getD i d := by simp [List.getD, List.getElem?_append_left (show i < l.length by omega)]
      rwa [e]
    · obtain rfl : i = n := by omega
      have : (l ++ [x]).getD l.length d = x := by simp
      rw [hl] at this
      rw [this]
      exact hx
theorem open_pcs {k : Nat} {v : Value} {x : DataW H × List MemPlace} (hf : DataW.trod enc Try.prog W 0 (fun _ => true) true k 22 [v] = some x) : ∃ A n c l, v = .slice A n c ∧ Pcs W A n c l := by
  rcases Go.Deep.open_slice Try.underlying22 hf with ⟨hcs, _⟩ | ⟨a, n, c, m, k, D, Pl, hcs, _, hl, hm, hmm, _, hx⟩
  · obtain rfl : v = .slice none 0 0 := by simpa using hcs
    exact ⟨none, 0, 0, [], rfl, Pcs.nil W⟩
  · obtain rfl : v = .slice (some a) n c := by simpa using hcs
    have hmc : m = c := by simpa using hmm
    subst hmc
    have each : ∀ i, i < n → ∃ x : Cl, ∀ j v, x.cells[j]? = some v → W.cell? ((a.add (i * 3)).add j) = some v := by
      intro i hi
      obtain ⟨cs', hc, ht⟩ := hx i (by omega)
      rw [coP_cl] at hc
      obtain ⟨_, hcl, hat⟩ := World.cells?_some hc
      match cs', hcl with
      | [v0, v1, v2], _ =>
        obtain ⟨x, e⟩ := open_cl3 ht
        refine ⟨x, fun j v hv => ?_⟩
        rw [← e] at hv
        have hj : j < 3 := (List.getElem?_eq_some_iff.1 hv).1
        rw [hat j hj]
        exact hv
    obtain ⟨xs, hlen, hxs⟩ := lstP (default : Cl) _ n each
    refine ⟨some a, n, m, xs, rfl, ⟨by rw [flatL_len Cl.cells 3 Cl.cells_len, hlen], hl, hm, (fun h => nomatch h), fun hn => ?_⟩, hlen⟩
    obtain ⟨g, off, spot⟩ := a
    have hspot : spot = none := by
      have := (hxs 0 hn) 0 _ rfl
      have h2 := World.cell?_spot this
      simpa [Addr.add] using h2
    subst hspot
    refine ⟨g, off, rfl, fun j v hv => ?_⟩
    have hj : j < xs.length * 3 := by
      have := (List.getElem?_eq_some_iff.1 hv).1
      rwa [flatL_len Cl.cells 3 Cl.cells_len] at this
    have e : j = (j / 3) * 3 + j % 3 := by omega
    rw [e, flatL_get (default : Cl) Cl.cells 3 Cl.cells_len xs (j / 3) (j % 3) (by omega) (by omega)] at hv
    have := (hxs (j / 3) (by omega)) (j % 3) v hv
    rw [addrP] at this
    rw [e, ← Nat.add_assoc]
    exact this
set_option maxRecDepth 100000 in
theorem open_pg {r : Reach} {b0 : Nat} {v : Value} {d : DataW H} {p : List MemPlace} (hv : Value.okWide Try.prog W r b0 24 v) (h : DataW.Trod enc Try.prog W 0 (fun _ => true) true 24 v d p) :
    ∃ m : Xp, v = m.val ∧ XpIn W m := by
  obtain ⟨cs, rfl, hsz⟩ := okWide_struct Try.underlying24 hv
  rw [coP_pg] at hsz
  obtain ⟨fuel, hf⟩ := h
  obtain ⟨l⟩ := cs
  match l, hsz with
  | [v0, v1], _ =>
    have hf' : DataW.trod enc Try.prog W 0 (fun _ => true) true fuel 24 [v0, v1] = some (d, p) := hf
    obtain ⟨xs, k', _, _, _, hxl, hfld⟩ := DataW.trod_struct Try.underlying24 hf'
    match xs, hxl with
    | [x0, x1], _ =>
      have f0 : DataW.trod enc Try.prog W 0 (fun _ => true) true k' 3 (List.take (Try.prog.cellsOf 3) [v0, v1]) = some x0 := hfld 0 _ rfl
      have f1 : DataW.trod enc Try.prog W 0 (fun _ => true) true k' 22 (List.take (Try.prog.cellsOf 22) [v1]) = some x1 := hfld 1 _ rfl
      rw [coP_int] at f0
      rw [coP_cls] at f1
      obtain ⟨k0, e0, _, w0⟩ := DataW.trod_int Try.underlying3 f0
      obtain ⟨A, n, c, l, e1, hp⟩ := open_pcs f1
      simp at e0
      subst e0 e1
      exact ⟨⟨k0, A, n, c, l⟩, rfl, i64_bd w0, hp⟩
set_option maxRecDepth 100000 in
theorem open_value {r : Reach} {b0 : Nat} {v : Value} {d : DataW H} {p : List MemPlace} (hv : Value.okWide Try.prog W r b0 42 v) (h : DataW.Trod enc Try.prog W 0 (fun _ => true) true 42 v d p) :
    ∃ m : Vl, v = vlV m ∧ True := by
  obtain ⟨cs, rfl, hsz⟩ := okWide_struct Try.underlying42 hv
  rw [coP_vl] at hsz
  obtain ⟨fuel, hf⟩ := h
  obtain ⟨l⟩ := cs
  match l, hsz with
  | [v0, v1], _ =>
    have hf' : DataW.trod enc Try.prog W 0 (fun _ => true) true fuel 42 [v0, v1] = some (d, p) := hf
    obtain ⟨m, e⟩ := open_vl2 hf'
    simp at e
    obtain ⟨e0, e1⟩ := e
    subst e0 e1
    exact ⟨m, rfl, trivial⟩
end
end

/- contracts of the library's shelf for math/bits, laid at this translation: Len64, LeadingZeros64, Mul64; and Add64, by the model's own entry. Every input. -/
section
open Go.Shelf
def laysLz_ren : Go.Shelf.Ren := ⟨fun | 134 => 81 | 129 => 82 | n => n, fun | 53 => 82 | 3 => 3 | 4 => 4 | 46 => 95 | 5 => 5 | 9 => 9 | n => n, fun | n => n⟩
theorem laysLz : Go.Proofs.Lays.n134 Try.prog laysLz_ren := {
  mixed := by kernel_rfl
  f129 := Try.func82.trans (congrArg some (by kernel_rfl))
  f134 := Try.func81.trans (congrArg some (by kernel_rfl))
  t3 := Try.underlying3
  a3 := Try.isAgg3
  z3 := Try.sizeOf3
  v3 := Try.zeroValue3
  t4 := Try.underlying4
  a4 := Try.isAgg4
  z4 := Try.sizeOf4
  v4 := Try.zeroValue4
  t5 := Try.underlying5
  a5 := Try.isAgg5
  z5 := Try.sizeOf5
  v5 := Try.zeroValue5
  t9 := Try.underlying9
  a9 := Try.isAgg9
  z9 := Try.sizeOf9
  v9 := Try.zeroValue9
  t46 := Try.underlying95
  a46 := Try.isAgg95
  z46 := Try.sizeOf95
  v46 := Try.zeroValue95
  t53 := Try.underlying82
  a53 := Try.isAgg82
  z53 := Try.sizeOf82
  v53 := Try.zeroValue82 }
def laysMul_ren : Go.Shelf.Ren := ⟨fun | 264 => 68 | n => n, fun | 53 => 82 | 46 => 95 | n => n, fun | n => n⟩
theorem laysMul : Go.Proofs.Lays.n264 Try.prog laysMul_ren := {
  mixed := by kernel_rfl
  f264 := Try.func68.trans (congrArg some (by kernel_rfl))
  t46 := Try.underlying95
  a46 := Try.isAgg95
  z46 := Try.sizeOf95
  v46 := Try.zeroValue95
  t53 := Try.underlying82
  a53 := Try.isAgg82
  z53 := Try.sizeOf82
  v53 := Try.zeroValue82 }
theorem lz64 (x : Int) (w : World) (h0 : 0 ≤ x) (h1 : x ≤ 18446744073709551615) :
    Calls Try.prog 81 #[.int .u64 x] w fun e w' => e = .returned (.int .i64 (64 - (Lib.bitLen x.toNat : Int))) ∧ w' = w := Any.bits_LeadingZeros64 laysLz x w h0 h1
theorem mul64 (x y : Nat) (hx : x < 18446744073709551616) (hy : y < 18446744073709551616) (w : World) :
    Calls Try.prog 68 #[.int .u64 x, .int .u64 y] w fun e w' => e = .returned (.tuple #[.int .u64 ((x * y / 18446744073709551616 : Nat) : Int), .int .u64 ((x * y % 18446744073709551616 : Nat) : Int)]) ∧ w' = w :=
  Any.bits_Mul64 laysMul x y hx hy w
theorem add64 (x y : Int) (hx : 0 ≤ x) (hy : 0 ≤ y) (w : World) : (callFunc 69 #[.int .u64 x, .int .u64 y, .int .u64 0]).run Try.prog w =
    .ok (.value (.tuple #[.int .u64 ((x + y) % 18446744073709551616), .int .u64 ((x + y) / 18446744073709551616)])) w := by
  rw [run_callFunc_extern Try.func69 (by kernel_rfl) (by kernel_rfl) (by kernel_rfl) (e := add64Entry) (by kernel_rfl), run_add64 x y 0 hx hy (by omega) (by omega)]
  simp [Result.andThen]
end

/- plain mathematics of a division of two words by one (Knuth's algorithm D at two digits). No program is named; no condition. -/
section
structure Guess (a b U v Q q r : Nat) : Prop where
  sum : q * a + r = U
  low : Q ≤ q
  high : q ≤ 4294967297
  rest : r < 4294967296
section
variable {a b U v : Nat}
theorem digit_lt (hU : U < a * 4294967296 + b) (hv : v < 4294967296) : (U * 4294967296 + v) / (a * 4294967296 + b) < 4294967296 := by
  have hp : 0 < a * 4294967296 + b := by omega
  rw [Nat.div_lt_iff_lt_mul hp]
  have : (U + 1) * 4294967296 ≤ (a * 4294967296 + b) * 4294967296 := Nat.mul_le_mul_right _ (by omega)
  rw [Nat.mul_comm 4294967296]
  omega
theorem Guess.start (ha : 2147483648 ≤ a) (ha2 : a < 4294967296) (hb : b < 4294967296) (hU : U < a * 4294967296 + b) (hv : v < 4294967296) : Guess a b U v ((U * 4294967296 + v) / (a * 4294967296 + b)) (U / a) (U % a) := by
  have h0 : 0 < a := by omega
  refine ⟨by rw [Nat.mul_comm]; exact Nat.div_add_mod U a, ?_, ?_, by have := Nat.mod_lt U h0; omega⟩
  · rw [Nat.le_div_iff_mul_le h0]
    have h1 := Nat.div_mul_le_self (U * 4294967296 + v) (a * 4294967296 + b)
    rw [Nat.mul_add, ← Nat.mul_assoc] at h1
    omega
  · have h1 : U < 4294967298 * a := by omega
    have := (Nat.div_lt_iff_lt_mul h0).2 h1
    omega
theorem Guess.exact {Q q r : Nat} (h : Guess a b U v Q q r) (hQ : Q = (U * 4294967296 + v) / (a * 4294967296 + b)) (hp : 0 < a * 4294967296 + b) (hle : q * b ≤ 4294967296 * r + v) : q = Q := by
  have h1 : q ≤ Q := by
    rw [hQ, Nat.le_div_iff_mul_le hp, Nat.mul_add, ← Nat.mul_assoc]
    have := h.sum
    have e : U * 4294967296 = (q * a) * 4294967296 + r * 4294967296 := by rw [← this, Nat.add_mul]
    omega
  have := h.low
  omega
theorem Guess.less {Q q r : Nat} (h : Guess a b U v Q q r) (hQ : Q = (U * 4294967296 + v) / (a * 4294967296 + b)) (hp : 0 < a * 4294967296 + b) (hQ2 : Q < 4294967296) (hc : 4294967296 ≤ q ∨ 4294967296 * r + v < q * b) :
    1 ≤ q ∧ Q ≤ q - 1 ∧ (q - 1) * a + (r + a) = U ∧ q - 1 ≤ 4294967296 := by
  have hh := h.high
  have hlt : Q < q := by
    rcases hc with hc | hc
    · omega
    · rw [hQ, Nat.div_lt_iff_lt_mul hp, Nat.mul_add, ← Nat.mul_assoc]
      have := h.sum
      have e : U * 4294967296 = (q * a) * 4294967296 + r * 4294967296 := by rw [← this, Nat.add_mul]
      omega
  refine ⟨by omega, by omega, ?_, by omega⟩
  have := h.sum
  obtain ⟨k, rfl⟩ : ∃ k, q = k + 1 := ⟨q - 1, by omega⟩
  rw [Nat.add_sub_cancel]
  rw [Nat.add_mul, Nat.one_mul] at this
  omega
theorem Guess.done {Q q r : Nat} (hb : b < 4294967296) (hs : q * a + r = U) (hlo : Q ≤ q) (hq : q ≤ 4294967296) (hr : 4294967296 ≤ r) (hQ : Q = (U * 4294967296 + v) / (a * 4294967296 + b)) (hp : 0 < a * 4294967296 + b) : q = Q := by
  have h1 : q ≤ Q := by
    rw [hQ, Nat.le_div_iff_mul_le hp, Nat.mul_add, ← Nat.mul_assoc]
    have e : U * 4294967296 = (q * a) * 4294967296 + r * 4294967296 := by rw [← hs, Nat.add_mul]
    have h2 : q * b ≤ 4294967296 * b := Nat.mul_le_mul_right _ hq
    have h3 : 4294967296 * b ≤ 4294967296 * 4294967296 := Nat.mul_le_mul_left _ (by omega)
    have h4 : 4294967296 * 4294967296 ≤ r * 4294967296 := Nat.mul_le_mul_right _ hr
    omega
  omega
end
theorem digit_left (U v Y : Nat) (hY : 0 < Y) : (U * 4294967296 + v) - (U * 4294967296 + v) / Y * Y = (U * 4294967296 + v) % Y ∧ (U * 4294967296 + v) / Y * Y ≤ U * 4294967296 + v ∧ (U * 4294967296 + v) % Y < Y := by
  have h1 := Nat.div_add_mod (U * 4294967296 + v) Y
  rw [Nat.mul_comm] at h1
  exact ⟨by omega, by omega, Nat.mod_lt _ hY⟩
theorem two_digits (U v1 v0 Y : Nat) : ((U * 4294967296 + v1) % Y * 4294967296 + v0) % Y = (U * 18446744073709551616 + (v1 * 4294967296 + v0)) % Y := by
  have e : U * 18446744073709551616 + (v1 * 4294967296 + v0) = (U * 4294967296 + v1) * 4294967296 + v0 := by omega
  rw [e, Nat.add_mod, Nat.mul_mod, Nat.mod_mod, ← Nat.mul_mod, ← Nat.add_mod]
theorem shift_back (N y p : Nat) (hp : 0 < p) : (N * p) % (y * p) / p = N % y := by
  rw [Nat.mul_mod_mul_right, Nat.mul_div_cancel _ hp]
end

/- math/bits.Div64 answers the remainder. -/
section
open Go.RowKit
def DivPost (r : Int) (w : World) (e : Ending) (w' : World) : Prop := ∃ q : Int, e = .returned (.tuple #[.int .u64 q, .int .u64 r]) ∧ ∃ k, w' = w.drewN k
set_option maxHeartbeats 1000000 in
theorem div_zero (lo y : Nat) (hl : lo < 18446744073709551616) (h0 : 0 < y) (hy : y < 18446744073709551616) (w : World) :
    Calls Try.prog 80 #[.int .u64 0, .int .u64 lo, .int .u64 y] w (DivPost ((lo % y : Nat) : Int) w) := by
  have hy0 : (0 : Int) < (y : Int) := by omega
  go_enter Try.func80, Try.ntmps80
  go_wp2
  go_quiet (fail)
  go_wp2
  go_ret2
  exact ⟨_, rfl, _, rfl⟩
set_option maxHeartbeats 8000000 in
theorem div_main (hi lo y s Y H T a b L U V v1 v0 q0 p0 Q1 R1 q2 p2 Q2 R2 : Nat) (hh : 0 < hi) (hhy : hi < y) (_hl : lo < 18446744073709551616) (hy : y < 18446744073709551616) (w : World)
    (hs : Hid ((64 - (Lib.bitLen (y : Int).toNat : Int)) = (s : Int))) (hs1 : s ≤ 63) (hY : (y : Int) * 2 ^ s = (Y : Int)) (hY1 : 9223372036854775808 ≤ (Y : Int)) (hY2 : Y < 18446744073709551616) (hH : (hi : Int) * 2 ^ s = (H : Int)) (hHY : H < Y) (hT : (lo : Int) * 2 ^ s = (T : Int))
    (ha : (Y : Int) / 4294967296 = (a : Int)) (hb : bits .and .u64 (Y : Int) 4294967295 = (b : Int)) (hL : (lo : Int) / 2 ^ (64 - s) = (L : Int)) (hU : bits .or .u64 (H : Int) (L : Int) = (U : Int)) (hV : IntKind.u64.wrap (T : Int) = (V : Int))
    (hv1 : (V : Int) / 4294967296 = (v1 : Int)) (hv0 : bits .and .u64 (V : Int) 4294967295 = (v0 : Int))
    (a1 : 2147483648 ≤ a) (a2 : a < 4294967296) (b2 : b < 4294967296) (hUY : U < Y) (v1b : v1 < 4294967296) (v0b : v0 < 4294967296)
    (hq0 : (U : Int) / (a : Int) = (q0 : Int)) (hp0 : (q0 : Int) * (a : Int) = (p0 : Int)) (hpU : p0 ≤ U) (hq1 : q0 ≤ 4294967297)
    (G1 : Hid (Guess a b U v1 Q1 q0 (U - p0))) (hQ1 : Hid (Q1 = (U * 4294967296 + v1) / (a * 4294967296 + b))) (hQ1b : Q1 < 4294967296)
    (hR1 : IntKind.u64.wrap (IntKind.u64.wrap (IntKind.u64.wrap ((U : Int) * 4294967296) + (v1 : Int)) - IntKind.u64.wrap ((Q1 : Int) * (Y : Int))) = (R1 : Int)) (hR1Y : R1 < Y)
    (hq2 : (R1 : Int) / (a : Int) = (q2 : Int)) (hp2 : (q2 : Int) * (a : Int) = (p2 : Int)) (hpR : p2 ≤ R1) (hq3 : q2 ≤ 4294967297)
    (G2 : Hid (Guess a b R1 v0 Q2 q2 (R1 - p2))) (hQ2 : Hid (Q2 = (R1 * 4294967296 + v0) / (a * 4294967296 + b))) (hQ2b : Q2 < 4294967296)
    (hR2 : IntKind.u64.wrap (IntKind.u64.wrap (IntKind.u64.wrap ((R1 : Int) * 4294967296) + (v0 : Int)) - IntKind.u64.wrap ((Q2 : Int) * (Y : Int))) = (R2 : Int)) (_hR2Y : R2 < Y) :
    Calls Try.prog 80 #[.int .u64 hi, .int .u64 lo, .int .u64 y] w (DivPost ((R2 : Int) / 2 ^ s) w) := by
  have y0 : ((y : Int) == 0) = false := by simp; omega
  have h0 : ((hi : Int) == 0) = false := by simp; omega
  have hle : ¬ y ≤ hi := by omega
  have a0 : ((a : Int) == 0) = false := by simp; omega
  have apos : (0 : Int) < (a : Int) := by omega
  go_enter Try.func80, Try.ntmps80
  go_wp2_with fail
  refine (lz64 _ _ (by omega) (by omega)).mono ?_
  rintro e w1 ⟨rfl, rfl⟩
  rw [hs.out]
  go_upto_block 0 with (fail)
  go_cut [15, 16] (fun q _ wx => q = .int .u64 Q1 ∧ wx = w1)
  case first =>
    go_wp2_with fail
    go_loop [15, 16] (fun q r => ∃ q' r' : Nat, q = .int .u64 q' ∧ r = .int .u64 r' ∧ Guess a b U v1 Q1 q' r') (fun q _ => (intOf q).toNat)
    case atStart => exact ⟨q0, U - p0, rfl, by congr 1; omega, G1.out⟩
    case round =>
      obtain ⟨q, r, rfl, rfl, G⟩ := hrel
      have HG := Lib.hid G
      have g1 := G.high
      have g2 := G.rest
      clear G
      have step : (4294967296 ≤ q ∨ 4294967296 * r + v1 < q * b) → Hid (1 ≤ q ∧ Q1 ≤ q - 1 ∧ (q - 1) * a + (r + a) = U ∧ q - 1 ≤ 4294967296) :=
        fun hc => HG.out.less hQ1.out (by omega) hQ1b hc
      by_cases c1 : 4294967296 ≤ q
      · have S := step (.inl c1)
        clear step
        have q1 : (1 : Int) ≤ (q : Int) := by have := S.out.1; omega
        have c1' : (4294967296 : Int) ≤ (q : Int) := by omega
        clear c1
        by_cases c2 : (4294967296 : Int) ≤ (r : Int) + (a : Int)
        · have D := Lib.hid (Guess.done (v := v1) b2 S.out.2.2.1 S.out.2.1 S.out.2.2.2 (by omega) hQ1.out (by omega))
          go_wp2_with fail
          go_meet
          exact ⟨by have := D.out; congr 1; omega, rfl⟩
        · have c2' : ¬ (4294967296 : Int) ≤ (r : Int) + (a : Int) := c2
          have G' : Hid (Guess a b U v1 Q1 (q - 1) (r + a)) := ⟨S.out.2.2.1, S.out.2.1, by have := S.out.2.2.2; omega, by omega⟩
          go_wp2_with fail
          go_round
          case rel => exact ⟨q - 1, r + a, by congr 1; omega, by go_num, G'.out⟩
          case measure => simp [intOf]; omega
      · obtain ⟨P, hPn⟩ : ∃ P, q * b = P := ⟨_, rfl⟩
        have hP : (q : Int) * (b : Int) = (P : Int) := by rw [← hPn]; simp
        have hPb : (P : Int) ≤ 18446744073709551615 := by
          have h1 : q * b ≤ 4294967295 * b := Nat.mul_le_mul_right _ (by omega)
          have h2 : 4294967295 * b ≤ 4294967295 * 4294967295 := Nat.mul_le_mul_left _ (by omega)
          omega
        have c1' : ¬ (4294967296 : Int) ≤ (q : Int) := by omega
        clear c1
        by_cases c3 : 4294967296 * r + v1 < P
        · have S := step (.inr (by rw [hPn]; exact c3))
          clear step hPn
          have q1 : (1 : Int) ≤ (q : Int) := by have := S.out.1; omega
          have c3' : (4294967296 : Int) * (r : Int) + (v1 : Int) < (P : Int) := by omega
          clear c3
          by_cases c2 : (4294967296 : Int) ≤ (r : Int) + (a : Int)
          · have D := Lib.hid (Guess.done (v := v1) b2 S.out.2.2.1 S.out.2.1 S.out.2.2.2 (by omega) hQ1.out (by omega))
            go_wp2_with fail
            go_meet
            exact ⟨by have := D.out; congr 1; omega, rfl⟩
          · have c2' : ¬ (4294967296 : Int) ≤ (r : Int) + (a : Int) := c2
            have G' : Hid (Guess a b U v1 Q1 (q - 1) (r + a)) := ⟨S.out.2.2.1, S.out.2.1, by have := S.out.2.2.2; omega, by omega⟩
            go_wp2_with fail
            go_round
            case rel => exact ⟨q - 1, r + a, by congr 1; omega, by go_num, G'.out⟩
            case measure => simp [intOf]; omega
        · have E := Lib.hid (HG.out.exact hQ1.out (by omega) (by rw [hPn]; omega))
          have c3' : ¬ (4294967296 : Int) * (r : Int) + (v1 : Int) < (P : Int) := by omega
          clear step hPn c3
          go_wp2_with fail
          go_meet
          exact ⟨by rw [E.out], rfl⟩
  case rest =>
    obtain ⟨rfl, rfl⟩ := hcut
    go_upto_block 2 with (fail)
    go_cut [18, 16] (fun q _ wx => q = .int .u64 Q2 ∧ wx = wc)
    case first =>
      go_wp2_with fail
      go_loop [18, 16] (fun q r => ∃ q' r' : Nat, q = .int .u64 q' ∧ r = .int .u64 r' ∧ Guess a b R1 v0 Q2 q' r') (fun q _ => (intOf q).toNat)
      case atStart => exact ⟨q2, R1 - p2, rfl, by congr 1; omega, G2.out⟩
      case round =>
        obtain ⟨q, r, rfl, rfl, G⟩ := hrel
        have HG := Lib.hid G
        have g1 := G.high
        have g2 := G.rest
        clear G
        have step : (4294967296 ≤ q ∨ 4294967296 * r + v0 < q * b) → Hid (1 ≤ q ∧ Q2 ≤ q - 1 ∧ (q - 1) * a + (r + a) = R1 ∧ q - 1 ≤ 4294967296) :=
          fun hc => HG.out.less hQ2.out (by omega) hQ2b hc
        by_cases c1 : 4294967296 ≤ q
        · have S := step (.inl c1)
          clear step
          have q1 : (1 : Int) ≤ (q : Int) := by have := S.out.1; omega
          have c1' : (4294967296 : Int) ≤ (q : Int) := by omega
          clear c1
          by_cases c2 : (4294967296 : Int) ≤ (r : Int) + (a : Int)
          · have D := Lib.hid (Guess.done (v := v0) b2 S.out.2.2.1 S.out.2.1 S.out.2.2.2 (by omega) hQ2.out (by omega))
            go_wp2_with fail
            go_meet
            exact ⟨by have := D.out; congr 1; omega, rfl⟩
          · have c2' : ¬ (4294967296 : Int) ≤ (r : Int) + (a : Int) := c2
            have G' : Hid (Guess a b R1 v0 Q2 (q - 1) (r + a)) := ⟨S.out.2.2.1, S.out.2.1, by have := S.out.2.2.2; omega, by omega⟩
            go_wp2_with fail
            go_round
            case rel => exact ⟨q - 1, r + a, by congr 1; omega, by go_num, G'.out⟩
            case measure => simp [intOf]; omega
        · obtain ⟨P, hPn⟩ : ∃ P, q * b = P := ⟨_, rfl⟩
          have hP : (q : Int) * (b : Int) = (P : Int) := by rw [← hPn]; simp
          have hPb : (P : Int) ≤ 18446744073709551615 := by
            have h1 : q * b ≤ 4294967295 * b := Nat.mul_le_mul_right _ (by omega)
            have h2 : 4294967295 * b ≤ 4294967295 * 4294967295 := Nat.mul_le_mul_left _ (by omega)
            omega
          have c1' : ¬ (4294967296 : Int) ≤ (q : Int) := by omega
          clear c1
          by_cases c3 : 4294967296 * r + v0 < P
          · have S := step (.inr (by rw [hPn]; exact c3))
            clear step hPn
            have q1 : (1 : Int) ≤ (q : Int) := by have := S.out.1; omega
            have c3' : (4294967296 : Int) * (r : Int) + (v0 : Int) < (P : Int) := by omega
            clear c3
            by_cases c2 : (4294967296 : Int) ≤ (r : Int) + (a : Int)
            · have D := Lib.hid (Guess.done (v := v0) b2 S.out.2.2.1 S.out.2.1 S.out.2.2.2 (by omega) hQ2.out (by omega))
              go_wp2_with fail
              go_meet
              exact ⟨by have := D.out; congr 1; omega, rfl⟩
            · have c2' : ¬ (4294967296 : Int) ≤ (r : Int) + (a : Int) := c2
              have G' : Hid (Guess a b R1 v0 Q2 (q - 1) (r + a)) := ⟨S.out.2.2.1, S.out.2.1, by have := S.out.2.2.2; omega, by omega⟩
              go_wp2_with fail
              go_round
              case rel => exact ⟨q - 1, r + a, by congr 1; omega, by go_num, G'.out⟩
              case measure => simp [intOf]; omega
          · have E := Lib.hid (HG.out.exact hQ2.out (by omega) (by rw [hPn]; omega))
            have c3' : ¬ (4294967296 : Int) * (r : Int) + (v0 : Int) < (P : Int) := by omega
            clear step hPn c3
            go_wp2_with fail
            go_meet
            exact ⟨by rw [E.out], rfl⟩
    case rest =>
      obtain ⟨rfl, rfl⟩ := hcut
      go_wp2_with fail
      go_ret2
      exact ⟨_, rfl, 0, rfl⟩
end

/- math/bits.Rem64 answers the rest of two words divided by one, for every divisor but nought. -/
section
open Go.RowKit
theorem bitLen_bounds (y : Nat) (h0 : 0 < y) (hy : y < 18446744073709551616) : 1 ≤ Lib.bitLen y ∧ Lib.bitLen y ≤ 64 ∧ 2 ^ (Lib.bitLen y - 1) ≤ y ∧ y < 2 ^ Lib.bitLen y := by
  obtain ⟨h1, h2, h3⟩ := Lib.bitLenAux_bounds 64 y hy (by omega)
  exact ⟨h1, Lib.bitLen_le y 64 (Nat.le_refl _) hy, h2, h3⟩
theorem and_low (x : Nat) (hx : x < 18446744073709551616) : bits .and .u64 (x : Int) 4294967295 = ((x % 4294967296 : Nat) : Int) := by
  have := u64_and_nat x 4294967295 hx (by omega)
  have e : x &&& 4294967295 = x % 4294967296 := Nat.and_two_pow_sub_one_eq_mod x 32
  rw [e] at this
  exact this
theorem shifted (hi lo y s : Nat) (hs : s ≤ 63) (hhy : hi < y) (hl : lo < 18446744073709551616) :
    lo / 2 ^ (64 - s) = lo * 2 ^ s / 18446744073709551616 ∧ lo * 2 ^ s / 18446744073709551616 < 2 ^ s ∧ hi * 2 ^ s + lo * 2 ^ s / 18446744073709551616 < y * 2 ^ s ∧
      (hi * 2 ^ s + lo * 2 ^ s / 18446744073709551616) * 18446744073709551616 + lo * 2 ^ s % 18446744073709551616 = (hi * 18446744073709551616 + lo) * 2 ^ s := by
  have e64 : (18446744073709551616 : Nat) = 2 ^ (64 - s) * 2 ^ s := by rw [← Nat.pow_add, show 64 - s + s = 64 from by omega]
  have hp : 0 < 2 ^ s := Nat.pow_pos (by decide)
  have h1 : lo / 2 ^ (64 - s) = lo * 2 ^ s / 18446744073709551616 := by rw [e64, Nat.mul_div_mul_right _ _ hp]
  have h2 : lo * 2 ^ s / 18446744073709551616 < 2 ^ s := by
    rw [Nat.div_lt_iff_lt_mul (by omega), Nat.mul_comm (2 ^ s)]
    exact Nat.mul_lt_mul_of_pos_right hl hp
  refine ⟨h1, h2, ?_, ?_⟩
  · have : (hi + 1) * 2 ^ s ≤ y * 2 ^ s := Nat.mul_le_mul_right _ hhy
    rw [Nat.add_mul, Nat.one_mul] at this
    omega
  · have := Nat.div_add_mod (lo * 2 ^ s) 18446744073709551616
    rw [Nat.add_mul, Nat.add_mul, Nat.mul_right_comm]
    omega
theorem or_join (H L s : Nat) (hH : H < 18446744073709551616) (hL : L < 2 ^ s) (hs : s ≤ 63) (hm : H % 2 ^ s = 0) : bits .or .u64 (H : Int) (L : Int) = ((H + L : Nat) : Int) := by
  have h64 : (2 : Nat) ^ s ≤ 2 ^ 63 := Nat.pow_le_pow_right (by decide) hs
  rw [u64_or_nat _ _ hH (by omega), nat_join s H L hm hL]
theorem wrap_back (U v Q Y R : Nat) (h : Q * Y + R = U * 4294967296 + v) (hR : R < 18446744073709551616) :
    IntKind.u64.wrap (IntKind.u64.wrap (IntKind.u64.wrap ((U : Int) * 4294967296) + (v : Int)) - IntKind.u64.wrap ((Q : Int) * (Y : Int))) = (R : Int) := by
  have h' : (Q : Int) * (Y : Int) + (R : Int) = (U : Int) * 4294967296 + (v : Int) := by
    have := congrArg (Nat.cast (R := Int)) h
    simpa using this
  simp only [IntKind.wrap_u64]
  generalize (Q : Int) * (Y : Int) = P at h' ⊢
  omega
theorem div_pos (hi lo y : Nat) (hh : 0 < hi) (hhy : hi < y) (hl : lo < 18446744073709551616) (hy : y < 18446744073709551616) (w : World) :
    Calls Try.prog 80 #[.int .u64 hi, .int .u64 lo, .int .u64 y] w (DivPost (((hi * 18446744073709551616 + lo) % y : Nat) : Int) w) := by
  obtain ⟨l1, l2, l3, l4⟩ := bitLen_bounds y (by omega) hy
  obtain ⟨s, hs⟩ : ∃ s, s = 64 - Lib.bitLen y := ⟨_, rfl⟩
  have hs63 : s ≤ 63 := by omega
  obtain ⟨c1, c2, c3, c4⟩ := shifted hi lo y s hs63 hhy hl
  have hp : 0 < 2 ^ s := Nat.pow_pos (by decide)
  obtain ⟨p, ep⟩ : ∃ p, p = 2 ^ s := ⟨_, rfl⟩
  have Y1 : 9223372036854775808 ≤ y * 2 ^ s := by
    have h1 : 2 ^ (Lib.bitLen y - 1) * 2 ^ s ≤ y * 2 ^ s := Nat.mul_le_mul_right _ l3
    rw [← Nat.pow_add, show Lib.bitLen y - 1 + s = 63 from by omega] at h1
    exact h1
  have Y2 : y * 2 ^ s < 18446744073709551616 := by
    have h1 : y * 2 ^ s < 2 ^ Lib.bitLen y * 2 ^ s := Nat.mul_lt_mul_of_pos_right l4 hp
    rw [← Nat.pow_add, show Lib.bitLen y + s = 64 from by omega] at h1
    exact h1
  have HY : hi * 2 ^ s < y * 2 ^ s := Nat.mul_lt_mul_of_pos_right hhy hp
  have pI : ∀ x : Nat, (x : Int) * 2 ^ s = ((x * 2 ^ s : Nat) : Int) := fun x => by simp
  obtain ⟨Y, eY⟩ : ∃ Y, Y = y * 2 ^ s := ⟨_, rfl⟩
  obtain ⟨H, eH⟩ : ∃ H, H = hi * 2 ^ s := ⟨_, rfl⟩
  obtain ⟨T, eT⟩ : ∃ T, T = lo * 2 ^ s := ⟨_, rfl⟩
  obtain ⟨L, eL⟩ : ∃ L, L = T / 18446744073709551616 := ⟨_, rfl⟩
  obtain ⟨U, eU⟩ : ∃ U, U = H + L := ⟨_, rfl⟩
  obtain ⟨V, eV⟩ : ∃ V, V = T % 18446744073709551616 := ⟨_, rfl⟩
  rw [← eY] at Y1 Y2 HY c3
  rw [← eH] at HY c3 c4
  rw [← eT] at c1 c2 c3 c4
  rw [← eL] at c1 c2 c3 c4
  rw [← eV] at c4
  rw [← eU] at c3 c4
  obtain ⟨a, ea⟩ : ∃ a, a = Y / 4294967296 := ⟨_, rfl⟩
  obtain ⟨b, eb⟩ : ∃ b, b = Y % 4294967296 := ⟨_, rfl⟩
  obtain ⟨v1, ev1⟩ : ∃ v1, v1 = V / 4294967296 := ⟨_, rfl⟩
  obtain ⟨v0, ev0⟩ : ∃ v0, v0 = V % 4294967296 := ⟨_, rfl⟩
  have hab : Y = a * 4294967296 + b := by omega
  have a1 : 2147483648 ≤ a := by omega
  have a2 : a < 4294967296 := by omega
  have b2 : b < 4294967296 := by omega
  have v1b : v1 < 4294967296 := by omega
  have v0b : v0 < 4294967296 := by omega
  have hYp : 0 < Y := by omega
  have hVs : v1 * 4294967296 + v0 = V := by rw [ev1, ev0, Nat.mul_comm]; exact Nat.div_add_mod V 4294967296
  have gen : ∀ W v, W < Y → v < 4294967296 → ∃ q p Q R : Nat, (W : Int) / (a : Int) = (q : Int) ∧ (q : Int) * (a : Int) = (p : Int) ∧ p ≤ W ∧ q ≤ 4294967297 ∧ Hid (Guess a b W v Q q (W - p)) ∧ Hid (Q = (W * 4294967296 + v) / (a * 4294967296 + b)) ∧ Q < 4294967296 ∧
      IntKind.u64.wrap (IntKind.u64.wrap (IntKind.u64.wrap ((W : Int) * 4294967296) + (v : Int)) - IntKind.u64.wrap ((Q : Int) * (Y : Int))) = (R : Int) ∧ R < Y ∧ R = (W * 4294967296 + v) % Y := by
    intro W v hW hv
    obtain ⟨d1, d2, d3⟩ := digit_left W v Y hYp
    have G := Guess.start a1 a2 b2 (U := W) (v := v) (by omega) hv
    have hWp : W / a * a ≤ W := Nat.div_mul_le_self W a
    have hmod : W - W / a * a = W % a := by have := Nat.div_add_mod W a; rw [Nat.mul_comm] at this; omega
    refine ⟨W / a, W / a * a, (W * 4294967296 + v) / (a * 4294967296 + b), (W * 4294967296 + v) % Y, by simp, by simp, hWp, G.high, ?_, rfl, digit_lt (by omega) hv, ?_, d3, rfl⟩
    · rw [hmod]; exact G
    · refine wrap_back W v _ Y _ ?_ (by omega)
      rw [← hab]
      omega
  obtain ⟨q0, p0, Q1, R1, x1, x2, x3, x4, x5, x6, x7, x8, x9, x10⟩ := gen U v1 c3 v1b
  obtain ⟨q2, p2, Q2, R2, z1, z2, z3, z4, z5, z6, z7, z8, z9, z10⟩ := gen R1 v0 x9 v0b
  have hUH : H < 18446744073709551616 := by omega
  have D0 := div_main hi lo y s Y H T a b L U V v1 v0 q0 p0 Q1 R1 q2 p2 Q2 R2 hh hhy hl hy w (by show (64 - (Lib.bitLen (y : Int).toNat : Int)) = (s : Int); rw [Int.toNat_natCast]; omega) hs63
    (by rw [pI, eY]) (by omega) Y2 (by rw [pI, eH]) HY (by rw [pI, eT])
    (by rw [ea]; simp) (by rw [and_low Y Y2, eb]) (by rw [← c1]; simp) (by rw [or_join H L s hUH c2 hs63 (by rw [eH]; exact Nat.mul_mod_left _ _), eU]) (by rw [IntKind.wrap_u64, eV]; simp)
    (by rw [ev1]; simp) (by rw [and_low V (by omega), ev0]) a1 a2 b2 c3 v1b v0b x1 x2 x3 x4 x5 x6 x7 x8 x9 z1 z2 z3 z4 z5 z6 z7 z8 z9
  have D := Lib.hid D0
  clear D0
  have e1 : R2 = ((hi * 18446744073709551616 + lo) * 2 ^ s) % (y * 2 ^ s) := by
    rw [z10, x10, two_digits, hVs, c4, ← eY]
  have e2 : (R2 : Int) / 2 ^ s = (((hi * 18446744073709551616 + lo) % y : Nat) : Int) := by
    rw [← shift_back (hi * 18446744073709551616 + lo) y (2 ^ s) hp, ← e1]
    simp
  rw [← e2]
  exact D.out
theorem div_any (hi lo y : Nat) (hhy : hi < y) (hl : lo < 18446744073709551616) (hy : y < 18446744073709551616) (w : World) :
    Calls Try.prog 80 #[.int .u64 hi, .int .u64 lo, .int .u64 y] w (DivPost (((hi * 18446744073709551616 + lo) % y : Nat) : Int) w) := by
  by_cases h0 : hi = 0
  · subst h0
    have := div_zero lo y hl hhy hy w
    rw [Nat.zero_mul, Nat.zero_add]
    exact this
  · exact div_pos hi lo y (by omega) hhy hl hy w
set_option maxHeartbeats 1000000 in
theorem rem_any (hi lo y : Nat) (hh : hi < 18446744073709551616) (hl : lo < 18446744073709551616) (h0 : 0 < y) (hy : y < 18446744073709551616) (w : World) :
    Calls Try.prog 70 #[.int .u64 hi, .int .u64 lo, .int .u64 y] w (Quiet (.int .u64 (((hi * 18446744073709551616 + lo) % y : Nat) : Int)) w) := by
  have e : (hi * 18446744073709551616 + lo) % y = ((hi % y) * 18446744073709551616 + lo) % y := by
    rw [Nat.add_mod, Nat.mul_mod, ← Nat.mod_mod hi y, ← Nat.mul_mod, ← Nat.add_mod, Nat.mod_mod]
  have D := Lib.hid (fun w => div_any (hi % y) lo y (Nat.mod_lt _ h0) hl hy w)
  rw [e]
  clear e
  obtain ⟨r, er⟩ : ∃ r : Nat, r = ((hi % y) * 18446744073709551616 + lo) % y := ⟨_, rfl⟩
  rw [← er]
  have D' : Hid (∀ w, Calls Try.prog 80 #[.int .u64 ((hi % y : Nat) : Int), .int .u64 lo, .int .u64 y] w (DivPost (r : Int) w)) := by
    intro w
    rw [er]
    exact D.out w
  clear D er
  obtain ⟨m, em⟩ : ∃ m : Nat, hi % y = m := ⟨_, rfl⟩
  rw [em] at D'
  have hm : (hi : Int) % (y : Int) = (m : Int) := by rw [← em]; simp
  have y0 : ((y : Int) == 0) = false := by simp; omega
  have ypos : (0 : Int) < (y : Int) := by omega
  clear em
  go_enter Try.func70, Try.ntmps70
  go_wp2_with fail
  refine (D'.out _).mono ?_
  rintro e w1 ⟨q, rfl, k, rfl⟩
  go_wp2_with fail
  go_ret
  exact ⟨rfl, _, rfl⟩
end
end Go.Proofs.Ytfmfmdiegabobaa
