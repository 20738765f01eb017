/- What it says: contracts and plain mathematics that the laws' walks use, 7 of 8: each part's own remark says what; no condition. -/
import Derived.Test.YtfmfmdiegabobaaPc5
import Derived.Test.YtfmfmdiegabobaaPc6
import Derived.Deep.Slices
import Derived.ChangeArms
import Derived.Laws.Tables
import Derived.Deep.CutRange

set_option linter.unusedSimpArgs false
set_option linter.unusedVariables false
set_option linter.deprecated false
set_option linter.unusedSectionVars false
set_option linter.all false

/- trothref10.Set answers the page with another value of a key, or the error. -/
namespace Go.Proofs.Ytfmfmdiegabobaa
open Go.RowKit

/-- What is out behind i cells. -/
def outC (l : List Cl) (x : Cl) (i : Nat) : List Cl := if i ≤ atC l x.key then l.take i else l.take (atC l x.key) ++ [x] ++ (l.take i).drop (behC l x.key)
theorem takeC_succ (l : List Cl) (i : Nat) (h : i < l.length) : l.take (i + 1) = l.take i ++ [l.getD i default] := by
  rw [List.take_add_one, List.getElem?_eq_getElem h, List.getD_eq_getElem?_getD, List.getElem?_eq_getElem h]
  rfl
theorem outC_zero (l : List Cl) (x : Cl) : outC l x 0 = [] := by unfold outC; rw [if_pos (Nat.zero_le _)]; rfl
theorem outC_lo {l : List Cl} {x : Cl} {i : Nat} (h : i < atC l x.key) : outC l x (i + 1) = outC l x i ++ [l.getD i default] := by
  have := atC_le l x.key
  unfold outC
  rw [if_pos (by omega), if_pos (by omega), takeC_succ l i (by omega)]
theorem outC_hi {l : List Cl} {x : Cl} {i : Nat} (h : atC l x.key < i) (hi : i < l.length) : outC l x (i + 1) = outC l x i ++ [l.getD i default] := by
  have hb : behC l x.key ≤ i := by unfold behC; split <;> omega
  unfold outC
  rw [if_neg (by omega), if_neg (by omega), takeC_succ l i hi, List.drop_append_of_le_length (by rw [List.length_take]; omega), List.append_assoc (l.take (atC l x.key) ++ [x])]
theorem outC_at {l : List Cl} {x : Cl} (h : atC l x.key < l.length) (ha : isAt l x.key = true) : outC l x (atC l x.key + 1) = outC l x (atC l x.key) ++ [x] := by
  have hb : behC l x.key = atC l x.key + 1 := by unfold behC; rw [if_pos ha]
  unfold outC
  rw [if_neg (by omega), if_pos (Nat.le_refl _), hb, List.drop_eq_nil_of_le (by rw [List.length_take]; omega), List.append_nil]
theorem outC_new {l : List Cl} {x : Cl} (h : atC l x.key < l.length) (ha : isAt l x.key = false) : outC l x (atC l x.key + 1) = (outC l x (atC l x.key) ++ [x]) ++ [l.getD (atC l x.key) default] := by
  have hb : behC l x.key = atC l x.key := by unfold behC; rw [if_neg (by rw [ha]; simp)]
  unfold outC
  rw [if_neg (by omega), if_pos (Nat.le_refl _), hb, takeC_succ l _ h, List.drop_append_of_le_length (by rw [List.length_take]; omega), List.drop_eq_nil_of_le (by rw [List.length_take]; omega), List.nil_append]
theorem outC_fin {l : List Cl} {x : Cl} (h : atC l x.key < l.length) : outC l x l.length = setC l x := by
  unfold outC setC
  rw [if_neg (by omega), List.take_length]
theorem outC_end {l : List Cl} {x : Cl} (h : atC l x.key = l.length) : outC l x l.length ++ [x] = setC l x := by
  have ha : isAt l x.key = false := decide_eq_false (fun q => by omega)
  have hb : behC l x.key = atC l x.key := by unfold behC; rw [if_neg (by rw [ha]; simp)]
  unfold outC setC
  rw [if_pos (by omega), hb, h, List.drop_length, List.append_nil]
theorem outC_len {l : List Cl} {x : Cl} (i : Nat) : (outC l x i).length ≤ l.length + 1 + l.length := by
  unfold outC
  split
  · rw [List.length_take]; omega
  · simp only [List.length_append, List.length_take, List.length_drop, List.length_singleton]; omega

/-- Where the loop stands: nothing below has turned; the page that is gathered. -/
structure RS (Wk wr : World) (lsn : Int) (A1 : Option Addr) (n1 c1 : Nat) (L : List Cl) : Prop where
  below : Below Wk.heap.size Wk wr
  blk : Bk wr Wk.heap.size 24 #[.int .i64 lsn, .slice A1 n1 c1]
  own : OwnP (Wk.heap.size + 1) wr A1 n1 c1 L
theorem RS.up {Wk wr w' : World} {lsn : Int} {A1 : Option Addr} {n1 c1 : Nat} {L : List Cl} (h : RS Wk wr lsn A1 n1 c1 L) (hb : Below wr.heap.size wr w') : RS Wk w' lsn A1 n1 c1 L :=
  ⟨Below.then h.below hb, h.blk.bel hb h.blk.lt, h.own.below hb⟩
theorem RS.app {Wk wr w' : World} {lsn : Int} {A1 A' : Option Addr} {n1 c1 n' c' : Nat} {L L' : List Cl} (h : RS Wk wr lsn A1 n1 c1 L) (ho : OwnP (Wk.heap.size + 1) w' A' n' c' L') (hg : wr.grownBy w' (Value.slice A1 n1 c1).ownBlock) :
    RS Wk (w'.setCell ⟨Wk.heap.size, 1, none⟩ (.slice A' n' c')) lsn A' n' c' L' := by
  have hb : Bk w' Wk.heap.size 24 #[.int .i64 lsn, .slice A1 n1 c1] := bk_apart h.own.own h.blk (by decide) hg
  refine ⟨(h.below.grown hg h.below.size (fun k hk => by have := (h.own.own.lt k hk).1; omega)).setCell (p := ⟨Wk.heap.size, 1, none⟩) (Nat.le_refl _) _, by simpa using hb.setc 1 (.slice A' n' c'), own_set ho.own hb (by decide), ho.len⟩
theorem RS.frz {Wk wr w' : World} {lsn : Int} {A1 : Option Addr} {n1 c1 : Nat} {L : List Cl} (h : RS Wk wr lsn A1 n1 c1 L) (hg : wr.grownBy w' (Value.slice A1 n1 c1).ownBlock) : w'.frozen? ⟨Wk.heap.size, 1, none⟩ = false ∧ w'.cell? ⟨Wk.heap.size, 1, none⟩ = some (.slice A1 n1 c1) :=
  have hb : Bk w' Wk.heap.size 24 #[.int .i64 lsn, .slice A1 n1 c1] := bk_apart h.own.own h.blk (by decide) hg
  ⟨hb.frz 1, hb.cell 1⟩

/-- What Set has in memory: the page, the value, what it answers. -/
structure SetR (w : World) (r : Nat) (lsn0 : Int) (A : Option Addr) (n c : Nat) (v : Vl) : Prop where
  pg : Bk w r 24 #[.int .i64 lsn0, .slice A n c]
  vl : Bk w (r + 1) 42 #[.bool v.has, .string v.data]
  out : Bk w (r + 2) 24 #[.int .i64 0, .slice none 0 0]
theorem SetR.below {w w' : World} {r B : Nat} {lsn0 : Int} {A : Option Addr} {n c : Nat} {v : Vl} (h : SetR w r lsn0 A n c v) (hb : Below B w w') (hB : w.heap.size ≤ B) : SetR w' r lsn0 A n c v :=
  ⟨h.pg.bel hb (Nat.lt_of_lt_of_le h.pg.lt hB), h.vl.bel hb (Nat.lt_of_lt_of_le h.vl.lt hB), h.out.bel hb (Nat.lt_of_lt_of_le h.out.lt hB)⟩
theorem SetR.new (w : World) (lsn0 : Int) (A : Option Addr) (n c : Nat) (v : Vl) : SetR (((w.alloc (.cells #[.int .i64 lsn0, .slice A n c] 24)).alloc (.cells #[.bool v.has, .string v.data] 42)).alloc (.cells #[.int .i64 0, .slice none 0 0] 24)) w.heap.size lsn0 A n c v := by
  obtain ⟨w1, h1⟩ : ∃ x, x = w.alloc (.cells #[.int .i64 lsn0, .slice A n c] 24) := ⟨_, rfl⟩
  obtain ⟨w2, h2⟩ : ∃ y, y = w1.alloc (.cells #[.bool v.has, .string v.data] 42) := ⟨_, rfl⟩
  obtain ⟨w3, h3⟩ : ∃ y, y = w2.alloc (.cells #[.int .i64 0, .slice none 0 0] 24) := ⟨_, rfl⟩
  rw [← h1, ← h2, ← h3]
  have s1 : w1.heap.size = w.heap.size + 1 := by rw [h1, World.size_alloc]
  have s2 : w2.heap.size = w.heap.size + 2 := by rw [h2, World.size_alloc, s1]
  have b2 : Below w1.heap.size w1 w2 := by rw [h2]; exact (Below.refl _ _).alloc (Nat.le_refl _) _
  have b3 : Below w2.heap.size w2 w3 := by rw [h3]; exact (Below.refl _ _).alloc (Nat.le_refl _) _
  have k1 : Bk w1 w.heap.size 24 #[.int .i64 lsn0, .slice A n c] := by rw [h1]; exact Bk.new w _ _
  have k2 : Bk w2 (w.heap.size + 1) 42 #[.bool v.has, .string v.data] := by rw [h2, ← s1]; exact Bk.new w1 _ _
  have k3 : Bk w3 (w.heap.size + 2) 24 #[.int .i64 0, .slice none 0 0] := by rw [h3, ← s2]; exact Bk.new w2 _ _
  exact ⟨(k1.bel b2 (by omega)).bel b3 (by omega), k2.bel b3 (by omega), k3⟩
theorem setR_below (w : World) (lsn0 : Int) (A : Option Addr) (n c : Nat) (v : Vl) : Below w.heap.size w (((w.alloc (.cells #[.int .i64 lsn0, .slice A n c] 24)).alloc (.cells #[.bool v.has, .string v.data] 42)).alloc (.cells #[.int .i64 0, .slice none 0 0] 24)) :=
  (((Below.refl _ _).alloc (Nat.le_refl _) _).alloc (by simp) _).alloc (by simp; omega) _
theorem SetR.zero {w w' : World} {lsn0 : Int} {A : Option Addr} {n c : Nat} {v : Vl} (h : SetR w' w.heap.size lsn0 A n c v) (hb : Below w.heap.size w w') (er : Nat) :
    Bk ((w'.setCell ⟨w.heap.size + 2, 0, none⟩ (.int .i64 0)).setCell ⟨w.heap.size + 2, 1, none⟩ (.slice none 0 0)) (w.heap.size + 2) 24 #[.int .i64 0, .slice none 0 0] ∧
    RetPg (pg0, er) w (.returned (.tuple #[pgV 0 none 0 0, .int .i64 er])) ((w'.setCell ⟨w.heap.size + 2, 0, none⟩ (.int .i64 0)).setCell ⟨w.heap.size + 2, 1, none⟩ (.slice none 0 0)) := by
  refine ⟨by simpa using (h.out.setc 0 (.int .i64 0)).setc 1 (.slice none 0 0), none, 0, 0, rfl, OwnP.nil _ _, ?_⟩
  exact (hb.setCell (p := ⟨w.heap.size + 2, 0, none⟩) (by simp) _).setCell (p := ⟨w.heap.size + 2, 1, none⟩) (by simp) _

set_option maxRecDepth 100000 in
set_option maxHeartbeats 4000000 in
theorem refSet_no (lsn0 : Int) (A : Option Addr) (n c : Nat) (l : List Cl) (lsn : Int) (x : Cl) (w : World) (h : Pcs w A n c l) (hno : ¬ ((⟨lsn0, l⟩ : Pg).ok ∧ clOk x ∧ 1 ≤ lsn ∧ lsn ≤ 1099511627776)) :
    Calls Try.prog 18 #[pgV lsn0 A n c, .int .i64 lsn, .string x.key, vlV x.val] w (RetPg (pg0, 1) w) := by
  obtain ⟨key, ⟨hs, d⟩⟩ := x
  obtain ⟨W0, hW0⟩ : ∃ W, W = ((w.alloc (.cells #[.int .i64 lsn0, .slice A n c] 24)).alloc (.cells #[.bool hs, .string d] 42)).alloc (.cells #[.int .i64 0, .slice none 0 0] 24) := ⟨_, rfl⟩
  have HB : Hid (Below w.heap.size w W0) := Lib.hid (by rw [hW0]; exact setR_below w lsn0 A n c ⟨hs, d⟩)
  have SW : Hid (SetR W0 w.heap.size lsn0 A n c ⟨hs, d⟩) := Lib.hid (by rw [hW0]; exact SetR.new w lsn0 A n c ⟨hs, d⟩)
  have HP := Lib.hid (h.below HB.out)
  have p0 : W0.cell? ⟨w.heap.size, 0, none⟩ = some (.int .i64 lsn0) := SW.out.pg.cell 0
  have p1 : W0.cell? ⟨w.heap.size, 1, none⟩ = some (.slice A n c) := SW.out.pg.cell 1
  have C := may10_any lsn0 A n c l W0 HP.out
  have CK := fun W => rKey_any key W
  have CV := fun W => refValue_any ⟨hs, d⟩ W
  have HW := Lib.hid hW0
  clear h hW0
  have FIN : Hid (∀ w', Below W0.heap.size W0 w' → w'.frozen? ⟨w.heap.size + 2, 0, none⟩ = false ∧ w'.frozen? ⟨w.heap.size + 2, 1, none⟩ = false ∧ w'.cell? ⟨w.heap.size + 2, 0, none⟩ = some (.int .i64 0) ∧ w'.cell? ⟨w.heap.size + 2, 1, none⟩ = some (.slice none 0 0)) := Lib.hid (fun w' hb => by
    have s := SW.out.below hb (Nat.le_refl _)
    exact ⟨s.out.frz 0, s.out.frz 1, s.out.cell 0, s.out.cell 1⟩)
  have PGC : Hid (∀ w', Below W0.heap.size W0 w' → w'.cell? ⟨w.heap.size, 0, none⟩ = some (.int .i64 lsn0) ∧ w'.cell? ⟨w.heap.size, 1, none⟩ = some (.slice A n c) ∧ w'.cell? ⟨w.heap.size + 1, 0, none⟩ = some (.bool hs) ∧ w'.cell? ⟨w.heap.size + 1, 1, none⟩ = some (.string d)) := Lib.hid (fun w' hb => by
    have s := SW.out.below hb (Nat.le_refl _)
    exact ⟨s.pg.cell 0, s.pg.cell 1, s.vl.cell 0, s.vl.cell 1⟩)
  have ZE : Hid (∀ w', Below W0.heap.size W0 w' → Bk ((w'.setCell ⟨w.heap.size + 2, 0, none⟩ (.int .i64 0)).setCell ⟨w.heap.size + 2, 1, none⟩ (.slice none 0 0)) (w.heap.size + 2) 24 #[.int .i64 0, .slice none 0 0] ∧
    RetPg (pg0, 1) w (.returned (.tuple #[pgV 0 none 0 0, .int .i64 1])) ((w'.setCell ⟨w.heap.size + 2, 0, none⟩ (.int .i64 0)).setCell ⟨w.heap.size + 2, 1, none⟩ (.slice none 0 0))) := Lib.hid (fun w' hb => (SW.out.below hb (Nat.le_refl _)).zero (Below.then HB.out hb) 1)
  by_cases hp : (⟨lsn0, l⟩ : Pg).ok
  · rw [decide_eq_true hp] at C
    have C := Lib.hid C
    by_cases hk : keyOk key
    · rw [decide_eq_true hk] at CK
      have CK := Lib.hid CK
      by_cases hv : vlOk ⟨hs, d⟩
      · have hl : ¬ (1 ≤ lsn ∧ lsn ≤ 1099511627776) := fun q => hno ⟨hp, ⟨hk, hv⟩, q⟩
        rw [decide_eq_true hv] at CV
        have CV := Lib.hid CV
        clear hno hp hk hv
        by_cases h1 : 1 ≤ lsn
        · have h2 : ¬ lsn ≤ 1099511627776 := fun q => hl ⟨h1, q⟩
          clear hl
          go_enter Try.func18, Try.ntmps18
          go_upto_region 1 with fail
          rw [← HW.out]
          go_wp2_with fail
          refine C.out.mono ?_
          rintro e w1 ⟨rfl, b1⟩
          have B1 := Lib.hid b1
          clear b1 C p0 p1
          go_wp2_with fail
          refine (CK.out _).mono ?_
          rintro e w2 ⟨rfl, b2⟩
          have B2 := Lib.hid (Below.then B1.out b2)
          clear b2 CK
          obtain ⟨_, _, v0, v1⟩ := PGC.out _ B2.out
          go_wp2_with fail
          refine (CV.out _).mono ?_
          rintro e w3 ⟨rfl, b3⟩
          have B3 := Lib.hid (Below.then B2.out b3)
          clear b3 CV v0 v1
          obtain ⟨f0, f1, z0, z1⟩ := FIN.out _ B3.out
          have Z := Lib.hid (ZE.out _ B3.out)
          clear B3
          go_wp2_with fail
          (try simp only [Exit.inBlock, Exit.then])
          refine bodyPost_ret (results_cellT rfl _ _ (w.heap.size + 2) 24 _ _ rfl Z.out.1 Try.underlying24 rfl pg_inf) rfl ?_
          exact Z.out.2
        · clear hl
          go_enter Try.func18, Try.ntmps18
          go_upto_region 1 with fail
          rw [← HW.out]
          go_wp2_with fail
          refine C.out.mono ?_
          rintro e w1 ⟨rfl, b1⟩
          have B1 := Lib.hid b1
          clear b1 C p0 p1
          go_wp2_with fail
          refine (CK.out _).mono ?_
          rintro e w2 ⟨rfl, b2⟩
          have B2 := Lib.hid (Below.then B1.out b2)
          clear b2 CK
          obtain ⟨_, _, v0, v1⟩ := PGC.out _ B2.out
          go_wp2_with fail
          refine (CV.out _).mono ?_
          rintro e w3 ⟨rfl, b3⟩
          have B3 := Lib.hid (Below.then B2.out b3)
          clear b3 CV v0 v1
          obtain ⟨f0, f1, z0, z1⟩ := FIN.out _ B3.out
          have Z := Lib.hid (ZE.out _ B3.out)
          clear B3
          go_wp2_with fail
          (try simp only [Exit.inBlock, Exit.then])
          refine bodyPost_ret (results_cellT rfl _ _ (w.heap.size + 2) 24 _ _ rfl Z.out.1 Try.underlying24 rfl pg_inf) rfl ?_
          exact Z.out.2
      · rw [decide_eq_false hv] at CV
        have CV := Lib.hid CV
        clear hno hp hk hv
        go_enter Try.func18, Try.ntmps18
        go_upto_region 1 with fail
        rw [← HW.out]
        go_wp2_with fail
        refine C.out.mono ?_
        rintro e w1 ⟨rfl, b1⟩
        have B1 := Lib.hid b1
        clear b1 C p0 p1
        go_wp2_with fail
        refine (CK.out _).mono ?_
        rintro e w2 ⟨rfl, b2⟩
        have B2 := Lib.hid (Below.then B1.out b2)
        clear b2 CK
        obtain ⟨_, _, v0, v1⟩ := PGC.out _ B2.out
        go_wp2_with fail
        refine (CV.out _).mono ?_
        rintro e w3 ⟨rfl, b3⟩
        have B3 := Lib.hid (Below.then B2.out b3)
        clear b3 CV v0 v1
        obtain ⟨f0, f1, z0, z1⟩ := FIN.out _ B3.out
        have Z := Lib.hid (ZE.out _ B3.out)
        clear B3
        go_wp2_with fail
        (try simp only [Exit.inBlock, Exit.then])
        refine bodyPost_ret (results_cellT rfl _ _ (w.heap.size + 2) 24 _ _ rfl Z.out.1 Try.underlying24 rfl pg_inf) rfl ?_
        exact Z.out.2
    · rw [decide_eq_false hk] at CK
      have CK := Lib.hid CK
      clear hno hp hk CV
      go_enter Try.func18, Try.ntmps18
      go_upto_region 1 with fail
      rw [← HW.out]
      go_wp2_with fail
      refine C.out.mono ?_
      rintro e w1 ⟨rfl, b1⟩
      have B1 := Lib.hid b1
      clear b1 C p0 p1
      go_wp2_with fail
      refine (CK.out _).mono ?_
      rintro e w2 ⟨rfl, b2⟩
      have B2 := Lib.hid (Below.then B1.out b2)
      clear b2 CK
      obtain ⟨f0, f1, z0, z1⟩ := FIN.out _ B2.out
      have Z := Lib.hid (ZE.out _ B2.out)
      clear B2
      go_wp2_with fail
      (try simp only [Exit.inBlock, Exit.then])
      refine bodyPost_ret (results_cellT rfl _ _ (w.heap.size + 2) 24 _ _ rfl Z.out.1 Try.underlying24 rfl pg_inf) rfl ?_
      exact Z.out.2
  · rw [decide_eq_false hp] at C
    have C := Lib.hid C
    clear hno hp CK CV
    go_enter Try.func18, Try.ntmps18
    go_upto_region 1 with fail
    rw [← HW.out]
    go_wp2_with fail
    refine C.out.mono ?_
    rintro e w1 ⟨rfl, b1⟩
    have B1 := Lib.hid b1
    clear b1 C p0 p1
    obtain ⟨f0, f1, z0, z1⟩ := FIN.out _ B1.out
    have Z := Lib.hid (ZE.out _ B1.out)
    clear B1
    go_wp2_with fail
    (try simp only [Exit.inBlock, Exit.then])
    refine bodyPost_ret (results_cellT rfl _ _ (w.heap.size + 2) 24 _ _ rfl Z.out.1 Try.underlying24 rfl pg_inf) rfl ?_
    exact Z.out.2

set_option maxRecDepth 100000 in
set_option maxHeartbeats 4000000 in
theorem refSet_full (lsn0 : Int) (A : Option Addr) (n c : Nat) (l : List Cl) (lsn : Int) (x : Cl) (w : World) (h : Pcs w A n c l) (hyes : (⟨lsn0, l⟩ : Pg).ok ∧ clOk x ∧ 1 ≤ lsn ∧ lsn ≤ 1099511627776) (hr : roomC l x.key = false) :
    Calls Try.prog 18 #[pgV lsn0 A n c, .int .i64 lsn, .string x.key, vlV x.val] w (RetPg (pg0, 100) w) := by
  obtain ⟨key, ⟨hs, d⟩⟩ := x
  obtain ⟨W0, hW0⟩ : ∃ W, W = ((w.alloc (.cells #[.int .i64 lsn0, .slice A n c] 24)).alloc (.cells #[.bool hs, .string d] 42)).alloc (.cells #[.int .i64 0, .slice none 0 0] 24) := ⟨_, rfl⟩
  have HB : Hid (Below w.heap.size w W0) := Lib.hid (by rw [hW0]; exact setR_below w lsn0 A n c ⟨hs, d⟩)
  have SW : Hid (SetR W0 w.heap.size lsn0 A n c ⟨hs, d⟩) := Lib.hid (by rw [hW0]; exact SetR.new w lsn0 A n c ⟨hs, d⟩)
  have HP := Lib.hid (h.below HB.out)
  have p0 : W0.cell? ⟨w.heap.size, 0, none⟩ = some (.int .i64 lsn0) := SW.out.pg.cell 0
  have p1 : W0.cell? ⟨w.heap.size, 1, none⟩ = some (.slice A n c) := SW.out.pg.cell 1
  have C := may10_any lsn0 A n c l W0 HP.out
  have CK := fun W => rKey_any key W
  have CV := fun W => refValue_any ⟨hs, d⟩ W
  have HW := Lib.hid hW0
  clear h hW0
  have FIN : Hid (∀ w', Below W0.heap.size W0 w' → w'.frozen? ⟨w.heap.size + 2, 0, none⟩ = false ∧ w'.frozen? ⟨w.heap.size + 2, 1, none⟩ = false ∧ w'.cell? ⟨w.heap.size + 2, 0, none⟩ = some (.int .i64 0) ∧ w'.cell? ⟨w.heap.size + 2, 1, none⟩ = some (.slice none 0 0)) := Lib.hid (fun w' hb => by
    have s := SW.out.below hb (Nat.le_refl _)
    exact ⟨s.out.frz 0, s.out.frz 1, s.out.cell 0, s.out.cell 1⟩)
  have PGC : Hid (∀ w', Below W0.heap.size W0 w' → w'.cell? ⟨w.heap.size, 0, none⟩ = some (.int .i64 lsn0) ∧ w'.cell? ⟨w.heap.size, 1, none⟩ = some (.slice A n c) ∧ w'.cell? ⟨w.heap.size + 1, 0, none⟩ = some (.bool hs) ∧ w'.cell? ⟨w.heap.size + 1, 1, none⟩ = some (.string d)) := Lib.hid (fun w' hb => by
    have s := SW.out.below hb (Nat.le_refl _)
    exact ⟨s.pg.cell 0, s.pg.cell 1, s.vl.cell 0, s.vl.cell 1⟩)
  obtain ⟨hp, hc, hl1, hl2⟩ := hyes
  simp only at hr
  rw [decide_eq_true hp] at C
  rw [decide_eq_true hc.1] at CK
  rw [decide_eq_true hc.2] at CV
  have CR := fun W (hW : Pcs W A n c l) => refRoom_any lsn0 A n c l key W hW
  rw [hr] at CR
  have C := Lib.hid C
  have CK := Lib.hid CK
  have CV := Lib.hid CV
  have CR := Lib.hid CR
  have ZE : Hid (∀ w', Below W0.heap.size W0 w' → Bk ((w'.setCell ⟨w.heap.size + 2, 0, none⟩ (.int .i64 0)).setCell ⟨w.heap.size + 2, 1, none⟩ (.slice none 0 0)) (w.heap.size + 2) 24 #[.int .i64 0, .slice none 0 0] ∧
    RetPg (pg0, 100) w (.returned (.tuple #[pgV 0 none 0 0, .int .i64 100])) ((w'.setCell ⟨w.heap.size + 2, 0, none⟩ (.int .i64 0)).setCell ⟨w.heap.size + 2, 1, none⟩ (.slice none 0 0))) := Lib.hid (fun w' hb => (SW.out.below hb (Nat.le_refl _)).zero (Below.then HB.out hb) 100)
  clear hp hc hr
  go_enter Try.func18, Try.ntmps18
  go_upto_region 1 with fail
  rw [← HW.out]
  go_wp2_with fail
  refine C.out.mono ?_
  rintro e w1 ⟨rfl, b1⟩
  have B1 := Lib.hid b1
  clear b1 C p0 p1
  go_wp2_with fail
  refine (CK.out _).mono ?_
  rintro e w2 ⟨rfl, b2⟩
  have B2 := Lib.hid (Below.then B1.out b2)
  clear b2 CK
  obtain ⟨_, _, v0, v1⟩ := PGC.out _ B2.out
  go_wp2_with fail
  refine (CV.out _).mono ?_
  rintro e w3 ⟨rfl, b3⟩
  have B3 := Lib.hid (Below.then B2.out b3)
  clear b3 CV v0 v1
  obtain ⟨p0, p1, _, _⟩ := PGC.out _ B3.out
  go_wp2_with fail
  refine (CR.out _ (HP.out.below B3.out)).mono ?_
  rintro e w4 ⟨rfl, b4⟩
  have B4 := Lib.hid (Below.then B3.out b4)
  clear b4 CR p0 p1
  obtain ⟨f0, f1, z0, z1⟩ := FIN.out _ B4.out
  have Z := Lib.hid (ZE.out _ B4.out)
  clear B4
  go_wp2_with fail
  (try simp only [Exit.inBlock, Exit.then])
  refine bodyPost_ret (results_cellT rfl _ _ (w.heap.size + 2) 24 _ _ rfl Z.out.1 Try.underlying24 rfl pg_inf) rfl ?_
  exact Z.out.2

set_option maxRecDepth 100000 in
set_option maxHeartbeats 4000000 in
theorem refSet_ok (lsn0 : Int) (A : Option Addr) (n c : Nat) (l : List Cl) (lsn : Int) (x : Cl) (w : World) (h : Pcs w A n c l) (hyes : (⟨lsn0, l⟩ : Pg).ok ∧ clOk x ∧ 1 ≤ lsn ∧ lsn ≤ 1099511627776) (hr : roomC l x.key = true) :
    Calls Try.prog 18 #[pgV lsn0 A n c, .int .i64 lsn, .string x.key, vlV x.val] w (RetPg ((⟨lsn, setC l x⟩ : Pg), 0) w) := by
  obtain ⟨key, ⟨hs, d⟩⟩ := x
  obtain ⟨W0, hW0⟩ : ∃ W, W = ((w.alloc (.cells #[.int .i64 lsn0, .slice A n c] 24)).alloc (.cells #[.bool hs, .string d] 42)).alloc (.cells #[.int .i64 0, .slice none 0 0] 24) := ⟨_, rfl⟩
  have HB : Hid (Below w.heap.size w W0) := Lib.hid (by rw [hW0]; exact setR_below w lsn0 A n c ⟨hs, d⟩)
  have SW : Hid (SetR W0 w.heap.size lsn0 A n c ⟨hs, d⟩) := Lib.hid (by rw [hW0]; exact SetR.new w lsn0 A n c ⟨hs, d⟩)
  have HP := Lib.hid (h.below HB.out)
  have p0 : W0.cell? ⟨w.heap.size, 0, none⟩ = some (.int .i64 lsn0) := SW.out.pg.cell 0
  have p1 : W0.cell? ⟨w.heap.size, 1, none⟩ = some (.slice A n c) := SW.out.pg.cell 1
  have C := may10_any lsn0 A n c l W0 HP.out
  have CK := fun W => rKey_any key W
  have CV := fun W => refValue_any ⟨hs, d⟩ W
  have HW := Lib.hid hW0
  clear h hW0
  have FIN : Hid (∀ w', Below W0.heap.size W0 w' → w'.frozen? ⟨w.heap.size + 2, 0, none⟩ = false ∧ w'.frozen? ⟨w.heap.size + 2, 1, none⟩ = false ∧ w'.cell? ⟨w.heap.size + 2, 0, none⟩ = some (.int .i64 0) ∧ w'.cell? ⟨w.heap.size + 2, 1, none⟩ = some (.slice none 0 0)) := Lib.hid (fun w' hb => by
    have s := SW.out.below hb (Nat.le_refl _)
    exact ⟨s.out.frz 0, s.out.frz 1, s.out.cell 0, s.out.cell 1⟩)
  have PGC : Hid (∀ w', Below W0.heap.size W0 w' → w'.cell? ⟨w.heap.size, 0, none⟩ = some (.int .i64 lsn0) ∧ w'.cell? ⟨w.heap.size, 1, none⟩ = some (.slice A n c) ∧ w'.cell? ⟨w.heap.size + 1, 0, none⟩ = some (.bool hs) ∧ w'.cell? ⟨w.heap.size + 1, 1, none⟩ = some (.string d)) := Lib.hid (fun w' hb => by
    have s := SW.out.below hb (Nat.le_refl _)
    exact ⟨s.pg.cell 0, s.pg.cell 1, s.vl.cell 0, s.vl.cell 1⟩)
  obtain ⟨hp, hc, hl1, hl2⟩ := hyes
  simp only at hr
  rw [decide_eq_true hp] at C
  rw [decide_eq_true hc.1] at CK
  rw [decide_eq_true hc.2] at CV
  have CR := fun W (hW : Pcs W A n c l) => refRoom_any lsn0 A n c l key W hW
  rw [hr] at CR
  have C := Lib.hid C
  have CK := Lib.hid CK
  have CV := Lib.hid CV
  have CR := Lib.hid CR
  have hn4 : n ≤ 4 := by rw [← HP.out.len]; exact hp.2.1
  have hcap := HP.out.flt.cap
  have hmax := HP.out.flt.max
  unfold maxLen at hmax
  have hlen := Lib.hid HP.out.len
  have HPW := Lib.hid ((clsOk_pw l).1 hp.2.2).2
  clear hp hc hr
  go_enter Try.func18, Try.ntmps18
  go_upto_region 1 with fail
  rw [← HW.out]
  go_wp2_with fail
  refine C.out.mono ?_
  rintro e w1 ⟨rfl, b1⟩
  have B1 := Lib.hid b1
  clear b1 C p0 p1
  go_wp2_with fail
  refine (CK.out _).mono ?_
  rintro e w2 ⟨rfl, b2⟩
  have B2 := Lib.hid (Below.then B1.out b2)
  clear b2 CK
  obtain ⟨_, _, v0, v1⟩ := PGC.out _ B2.out
  go_wp2_with fail
  refine (CV.out _).mono ?_
  rintro e w3 ⟨rfl, b3⟩
  have B3 := Lib.hid (Below.then B2.out b3)
  clear b3 CV v0 v1
  obtain ⟨p0, p1, _, _⟩ := PGC.out _ B3.out
  go_wp2_with fail
  refine (CR.out _ (HP.out.below B3.out)).mono ?_
  rintro e w4 ⟨rfl, b4⟩
  have B4 := Lib.hid (Below.then B3.out b4)
  clear b4 CR p0 p1
  obtain ⟨p0, p1, v0, v1⟩ := PGC.out _ B4.out
  go_wp2_with fail
  have R0 : Hid (RS w4 (w4.alloc (.cells #[.int .i64 lsn, .slice none 0 0] 24)) lsn none 0 0 (outC l ⟨key, ⟨hs, d⟩⟩ 0)) := Lib.hid (by
    rw [outC_zero]
    exact ⟨(Below.refl _ _).alloc (Nat.le_refl _) _, Bk.new w4 _ _, OwnP.nil _ _⟩)
  go_loopw [11, 12] (fun y z wr => ∃ (i : Nat) (dn : Bool) (A1 : Option Addr) (n1 c1 : Nat), i ≤ n ∧ dn = decide (atC l key < i) ∧ y = .bool dn ∧ z = .int .i64 i ∧ RS w4 wr lsn A1 n1 c1 (outC l ⟨key, ⟨hs, d⟩⟩ i)) (fun _ z _ => n - (intOf z).toNat)
  case atStart => exact ⟨0, false, none, 0, 0, Nat.zero_le _, (decide_eq_false (by omega)).symm, rfl, rfl, R0.out⟩
  case round =>
    obtain ⟨i, dn, A1, n1, c1, hi, hdn, rfl, rfl, hr⟩ := hrel
    have R := Lib.hid hr
    have hn1 : n1 ≤ 100 := by have := hr.own.len; have := outC_len (l := l) (x := ⟨key, ⟨hs, d⟩⟩) i; have := hlen.out; omega
    have hBX := Below.then B4.out hr.below
    obtain ⟨_, q1, u0, u1⟩ := PGC.out _ hBX
    have hoc : wr.cell? ⟨w4.heap.size, 1, none⟩ = some (.slice A1 n1 c1) := hr.blk.cell 1
    clear R0 p0 p1 v0 v1
    by_cases hlt : i < n
    · obtain ⟨g, off, rfl, _, hc⟩ := HP.out.get (by omega)
      have HCP0 := Lib.hid (fun w' (hb : Below W0.heap.size W0 w') => ((HP.out.below hb).flt.at_ (by omega)))
      obtain ⟨xx, hx⟩ : ∃ x, l.getD i default = x := ⟨_, rfl⟩
      have HCP : Hid (∀ w', Below W0.heap.size W0 w' → w'.cell? ⟨g, off + i * 3, none⟩ = some (.string xx.key) ∧ w'.cell? ⟨g, off + i * 3 + 1, none⟩ = some (.bool xx.val.has) ∧ w'.cell? ⟨g, off + i * 3 + 2, none⟩ = some (.string xx.val.data)) := Lib.hid (fun w' hb => by
        obtain ⟨a0, a1, a2⟩ := hc i hlt
        rw [hx] at a0 a1 a2
        exact ⟨(hb.cell (World.block_lt_of_cell? W0 _ a0)).trans a0, (hb.cell (World.block_lt_of_cell? W0 _ a1)).trans a1, (hb.cell (World.block_lt_of_cell? W0 _ a2)).trans a2⟩)
      obtain ⟨ck, ⟨cs, cd⟩⟩ := xx
      simp only at HCP
      obtain ⟨a0, a1, a2⟩ := HCP.out _ hBX
      have HX := Lib.hid hx
      have hal : atC l key ≤ n := by have := atC_le l key; rw [hlen.out] at this; exact this
      clear hc hx hr HCP0 hBX
      rcases Nat.lt_trichotomy i (atC l key) with hia | hia | hia
      · obtain rfl : dn = false := by rw [hdn]; exact decide_eq_false (by omega)
        have hkl : kLt ck key := by have := atC_lo hia; rw [HX.out] at this; exact this
        have hA : Op.bytesLess ck.toList key.toList = true := hkl
        have hB : (ck.toList == key.toList) = false := by rw [beq_key]; exact decide_eq_false (kLt_ne hkl)
        have HN : Hid (outC l ⟨key, ⟨hs, d⟩⟩ (i + 1) = outC l ⟨key, ⟨hs, d⟩⟩ i ++ [⟨ck, ⟨cs, cd⟩⟩]) := Lib.hid (by rw [← HX.out]; exact outC_lo hia)
        have HD : Hid (false = decide (atC l key < i + 1)) := Lib.hid (decide_eq_false (by omega)).symm
        clear hkl hdn HX
        go_wp2_with fail
        have KS : Hid (∀ w', w'.cell? ⟨w4.heap.size, 1, none⟩ = some (.slice A1 n1 c1) → Below w4.heap.size w4 w' → w'.cell? ⟨w4.heap.size, 1, none⟩ = some (.slice A1 n1 c1) ∧ w'.cell? ⟨w.heap.size, 1, none⟩ = some (.slice (some ⟨g, off, none⟩) n c) ∧ w'.cell? ⟨g, off + i * 3, none⟩ = some (.string ck) ∧ w'.cell? ⟨g, off + i * 3 + 1, none⟩ = some (.bool cs) ∧ w'.cell? ⟨g, off + i * 3 + 2, none⟩ = some (.string cd)) := Lib.hid (fun w' hq hb => by
          have hb' := Below.then B4.out hb
          obtain ⟨a0, a1, a2⟩ := HCP.out w' hb'
          exact ⟨hq, (PGC.out w' hb').2.1, a0, a1, a2⟩)
        have hS0 := KS.out wr.drew (R.out.blk.cell 1) (R.out.below.drew)
        refine wp_region_noPanic ?_
        refine upto_start (fun w' => w'.cell? ⟨w4.heap.size, 1, none⟩ = some (.slice A1 n1 c1) ∧ w'.cell? ⟨w.heap.size, 1, none⟩ = some (.slice (some ⟨g, off, none⟩) n c) ∧ w'.cell? ⟨g, off + i * 3, none⟩ = some (.string ck) ∧ w'.cell? ⟨g, off + i * 3 + 1, none⟩ = some (.bool cs) ∧ w'.cell? ⟨g, off + i * 3 + 2, none⟩ = some (.string cd)) 9 (by kernel_rfl) ?_
        change Upto _ _ _ _ _ 11 _ _ _
        refine Upto.take (i := 0) (v := ?_) rfl (by kernel_rfl) (fun _ _ _ h => h) rfl (fun w' hS => ?_) hS0 ?_
        rotate_left
        · (try dsimp only at hS)
          go_split_ands
          go_simp
          (try with_reducible rfl)
        simp only [Act.put, List.setIfInBounds_toArray, List.set_cons_zero, List.set_cons_succ]
        refine Upto.take (i := 1) (v := ?_) rfl (by kernel_rfl) (fun _ _ _ h => h) rfl (fun w' hS => ?_) hS0 ?_
        rotate_left
        · (try dsimp only at hS)
          go_split_ands
          go_simp
          (try with_reducible rfl)
        simp only [Act.put, List.setIfInBounds_toArray, List.set_cons_zero, List.set_cons_succ]
        refine Upto.take (i := 2) (v := ?_) rfl (by kernel_rfl) (fun _ _ _ h => h) rfl (fun w' hS => ?_) hS0 ?_
        rotate_left
        · (try dsimp only at hS)
          go_split_ands
          go_simp
          (try with_reducible rfl)
        simp only [Act.put, List.setIfInBounds_toArray, List.set_cons_zero, List.set_cons_succ]
        refine Upto.take (i := 3) (v := ?_) rfl (by kernel_rfl) (fun _ _ _ h => h) rfl (fun w' hS => ?_) hS0 ?_
        rotate_left
        · (try dsimp only at hS)
          go_split_ands
          go_simp
          (try with_reducible rfl)
        simp only [Act.put, List.setIfInBounds_toArray, List.set_cons_zero, List.set_cons_succ]
        refine Upto.take (i := 4) (v := ?_) rfl (by kernel_rfl) (fun _ _ _ h => h) rfl (fun w' hS => ?_) hS0 ?_
        rotate_left
        · (try dsimp only at hS)
          go_split_ands
          go_simp
          (try with_reducible rfl)
        simp only [Act.put, List.setIfInBounds_toArray, List.set_cons_zero, List.set_cons_succ]
        refine Upto.take (i := 5) (v := ?_) rfl (by kernel_rfl) (fun _ _ _ h => h) rfl (fun w' hS => ?_) hS0 ?_
        rotate_left
        · (try dsimp only at hS)
          go_split_ands
          go_simp
          (try with_reducible rfl)
        simp only [Act.put, List.setIfInBounds_toArray, List.set_cons_zero, List.set_cons_succ]
        refine Upto.take (i := 6) (v := ?_) rfl (by kernel_rfl) (fun _ _ _ h => h) rfl (fun w' hS => ?_) hS0 ?_
        rotate_left
        · (try dsimp only at hS)
          go_split_ands
          go_simp
          (try with_reducible rfl)
        simp only [Act.put, List.setIfInBounds_toArray, List.set_cons_zero, List.set_cons_succ]
        have r5 : RS w4 (wr.drew.alloc (.cells #[.string ck, .bool cs, .string cd] 54)) lsn A1 n1 c1 (outC l ⟨key, ⟨hs, d⟩⟩ i) := R.out.up ((Below.refl _ _).drew.alloc (Nat.le_refl _) _)
        have k5 : Bk (wr.drew.alloc (.cells #[.string ck, .bool cs, .string cd] 54)) wr.heap.size 54 #[.string ck, .bool cs, .string cd] := Bk.new wr.drew _ _
        refine Upto.only (i := 7) rfl (by kernel_rfl) rfl (exec_buildSlice rfl [(0, .agg #[.string ck, .bool cs, .string cd])] (by rfl) (bslice_1 ck cs cd _)) ?_ ?_
        · exact KS.out _ (r5.blk.cell 1) r5.below
        simp only [Act.put, List.setIfInBounds_toArray, List.set_cons_zero, List.set_cons_succ]
        generalize hW5 : wr.drew.alloc (.cells #[.string ck, .bool cs, .string cd] 54) = W5 at r5 k5 ⊢
        have R5 := Lib.hid r5
        have K5 := Lib.hid (one_pcs (x := ⟨ck, ⟨cs, cd⟩⟩) k5)
        clear r5 k5 hW5
        refine Upto.law (i := 8) rfl (by kernel_rfl) rfl (fun K hK => ?_)
        refine wp_app_cells _ _ (by rfl) (w4.heap.size + 1) rfl (by rfl) R5.out.own (by rfl) K5.out (by omega) (by have := R5.out.blk.lt; omega) ?_
        intro A' c' w7 k1 k2
        have hfz := R5.out.frz k2
        have R7 := Lib.hid (R5.out.app k1 k2)
        have hbx : Below w4.heap.size w4 w7 := R5.out.below.grown k2 R5.out.below.size (fun k hk => by have := (R5.out.own.own.lt k hk).1; omega)
        refine hK _ _ (KS.out _ hfz.2 hbx) ?_
        obtain ⟨hf7, hc7⟩ := hfz
        clear hK k1 k2 hbx R5 K5 hS0 KS
        simp only [Act.put, List.setIfInBounds_toArray, List.set_cons_zero, List.set_cons_succ]
        refine Upto.tail rfl (by kernel_rfl) ?_
        simp only [List.drop_succ_cons, List.drop_zero]
        go_wp2_with fail
        refine NoPanic.normal ?_
        go_wp2_with fail
        go_roundw
        case rel => exact ⟨i + 1, decide (atC l key < i + 1), A', n1 + 1, c', by omega, rfl, by first | rfl | (congr 1 <;> exact HD.out), by go_num, by rw [HN.out]; exact R7.out⟩
        case measure => simp [intOf]; omega
      · obtain rfl : dn = false := by rw [hdn]; exact decide_eq_false (by omega)
        have hnk : ¬ kLt ck key := by
          have := atC_at (l := l) (k := key) (by rw [← hia, hlen.out]; exact hlt)
          rw [← hia, HX.out] at this
          exact this
        have hA : Op.bytesLess ck.toList key.toList = false := by unfold kLt at hnk; simpa using hnk
        have HIA := Lib.hid hia
        have HNK := Lib.hid hnk
        clear hnk hdn hia
        have R5 := Lib.hid (R.out.up ((Below.refl wr.heap.size wr).alloc (Nat.le_refl _) (.cells #[.string key, .bool hs, .string d] 54)))
        have K5 := Lib.hid (one_pcs (x := ⟨key, ⟨hs, d⟩⟩) (Bk.new wr 54 #[.string key, .bool hs, .string d]))
        go_wp2_with (at_builtin; refine wpList_app_cells rfl _ _ rfl (w4.heap.size + 1) rfl rfl R5.out.own rfl K5.out (by omega) (by have := R5.out.blk.lt; omega) ?_)
        intro A2 c2 w6 k1 k2
        obtain ⟨hf7, hc7⟩ := R5.out.frz k2
        have R7 := Lib.hid (R5.out.app k1 k2)
        have hBX8 := Below.then B4.out R7.out.below
        obtain ⟨_, q8, _, _⟩ := PGC.out _ hBX8
        obtain ⟨e0, e1, e2⟩ := HCP.out _ hBX8
        have HD : Hid (true = decide (atC l key < i + 1)) := Lib.hid (decide_eq_true (by rw [← HIA.out]; omega)).symm
        have hil : atC l key < l.length := by rw [← HIA.out, hlen.out]; exact hlt
        clear k1 k2 R5 K5 hoc hBX8 a0 a1 a2 q1 u0 u1
        obtain ⟨bb, hbb⟩ : ∃ b, isAt l key = b := ⟨_, rfl⟩
        cases bb with
        | true =>
          have hck : ck = key := by
            have := (of_decide_eq_true hbb).2
            rw [← HIA.out, HX.out] at this
            exact this
          have hB : (ck.toList == key.toList) = true := by rw [beq_key]; exact decide_eq_true hck
          have HN : Hid (outC l ⟨key, ⟨hs, d⟩⟩ (i + 1) = outC l ⟨key, ⟨hs, d⟩⟩ i ++ [⟨key, ⟨hs, d⟩⟩]) := Lib.hid (by rw [HIA.out]; exact outC_at hil hbb)
          clear hck hbb hil HX
          go_wp2_with fail
          go_roundw
          case rel => exact ⟨i + 1, true, A2, n1 + 1, c2, by omega, HD.out, rfl, by go_num, by rw [HN.out]; exact R7.out⟩
          case measure => simp [intOf]; omega
        | false =>
          have hne : ck ≠ key := fun q => by
            have : isAt l key = true := decide_eq_true ⟨hil, by rw [← HIA.out, HX.out]; exact q⟩
            rw [this] at hbb
            cases hbb
          have hB : (ck.toList == key.toList) = false := by rw [beq_key]; exact decide_eq_false hne
          have HN : Hid (outC l ⟨key, ⟨hs, d⟩⟩ (i + 1) = (outC l ⟨key, ⟨hs, d⟩⟩ i ++ [⟨key, ⟨hs, d⟩⟩]) ++ [⟨ck, ⟨cs, cd⟩⟩]) := Lib.hid (by
            have := outC_new (x := ⟨key, ⟨hs, d⟩⟩) hil hbb
            simp only at this
            rw [← HX.out, HIA.out]
            exact this)
          clear hne hbb hil HX
          go_wp2_with fail
          generalize hW8 : w6.setCell ⟨w4.heap.size, 1, none⟩ (.slice A2 (n1 + 1) c2) = W8 at R7 q8 e0 e1 e2 ⊢
          have R8 := R7
          clear hW8 hf7 hc7
          have KS : Hid (∀ w', w'.cell? ⟨w4.heap.size, 1, none⟩ = some (.slice A2 (n1 + 1) c2) → Below w4.heap.size w4 w' → w'.cell? ⟨w4.heap.size, 1, none⟩ = some (.slice A2 (n1 + 1) c2) ∧ w'.cell? ⟨w.heap.size, 1, none⟩ = some (.slice (some ⟨g, off, none⟩) n c) ∧ w'.cell? ⟨g, off + i * 3, none⟩ = some (.string ck) ∧ w'.cell? ⟨g, off + i * 3 + 1, none⟩ = some (.bool cs) ∧ w'.cell? ⟨g, off + i * 3 + 2, none⟩ = some (.string cd)) := Lib.hid (fun w' hq hb => by
            have hb' := Below.then B4.out hb
            obtain ⟨a0, a1, a2⟩ := HCP.out w' hb'
            exact ⟨hq, (PGC.out w' hb').2.1, a0, a1, a2⟩)
          have hS0 := KS.out W8.drew (R8.out.blk.cell 1) (R8.out.below.drew)
          refine wp_region_noPanic ?_
          refine upto_start (fun w' => w'.cell? ⟨w4.heap.size, 1, none⟩ = some (.slice A2 (n1 + 1) c2) ∧ w'.cell? ⟨w.heap.size, 1, none⟩ = some (.slice (some ⟨g, off, none⟩) n c) ∧ w'.cell? ⟨g, off + i * 3, none⟩ = some (.string ck) ∧ w'.cell? ⟨g, off + i * 3 + 1, none⟩ = some (.bool cs) ∧ w'.cell? ⟨g, off + i * 3 + 2, none⟩ = some (.string cd)) 9 (by kernel_rfl) ?_
          change Upto _ _ _ _ _ 11 _ _ _
          refine Upto.take (i := 0) (v := ?_) rfl (by kernel_rfl) (fun _ _ _ h => h) rfl (fun w' hS => ?_) hS0 ?_
          rotate_left
          · (try dsimp only at hS)
            go_split_ands
            go_simp
            (try with_reducible rfl)
          simp only [Act.put, List.setIfInBounds_toArray, List.set_cons_zero, List.set_cons_succ]
          refine Upto.take (i := 1) (v := ?_) rfl (by kernel_rfl) (fun _ _ _ h => h) rfl (fun w' hS => ?_) hS0 ?_
          rotate_left
          · (try dsimp only at hS)
            go_split_ands
            go_simp
            (try with_reducible rfl)
          simp only [Act.put, List.setIfInBounds_toArray, List.set_cons_zero, List.set_cons_succ]
          refine Upto.take (i := 2) (v := ?_) rfl (by kernel_rfl) (fun _ _ _ h => h) rfl (fun w' hS => ?_) hS0 ?_
          rotate_left
          · (try dsimp only at hS)
            go_split_ands
            go_simp
            (try with_reducible rfl)
          simp only [Act.put, List.setIfInBounds_toArray, List.set_cons_zero, List.set_cons_succ]
          refine Upto.take (i := 3) (v := ?_) rfl (by kernel_rfl) (fun _ _ _ h => h) rfl (fun w' hS => ?_) hS0 ?_
          rotate_left
          · (try dsimp only at hS)
            go_split_ands
            go_simp
            (try with_reducible rfl)
          simp only [Act.put, List.setIfInBounds_toArray, List.set_cons_zero, List.set_cons_succ]
          refine Upto.take (i := 4) (v := ?_) rfl (by kernel_rfl) (fun _ _ _ h => h) rfl (fun w' hS => ?_) hS0 ?_
          rotate_left
          · (try dsimp only at hS)
            go_split_ands
            go_simp
            (try with_reducible rfl)
          simp only [Act.put, List.setIfInBounds_toArray, List.set_cons_zero, List.set_cons_succ]
          refine Upto.take (i := 5) (v := ?_) rfl (by kernel_rfl) (fun _ _ _ h => h) rfl (fun w' hS => ?_) hS0 ?_
          rotate_left
          · (try dsimp only at hS)
            go_split_ands
            go_simp
            (try with_reducible rfl)
          simp only [Act.put, List.setIfInBounds_toArray, List.set_cons_zero, List.set_cons_succ]
          refine Upto.take (i := 6) (v := ?_) rfl (by kernel_rfl) (fun _ _ _ h => h) rfl (fun w' hS => ?_) hS0 ?_
          rotate_left
          · (try dsimp only at hS)
            go_split_ands
            go_simp
            (try with_reducible rfl)
          simp only [Act.put, List.setIfInBounds_toArray, List.set_cons_zero, List.set_cons_succ]
          have r5 : RS w4 (W8.drew.alloc (.cells #[.string ck, .bool cs, .string cd] 54)) lsn A2 (n1 + 1) c2 (outC l ⟨key, ⟨hs, d⟩⟩ i ++ [⟨key, ⟨hs, d⟩⟩]) := R8.out.up ((Below.refl _ _).drew.alloc (Nat.le_refl _) _)
          have k5 : Bk (W8.drew.alloc (.cells #[.string ck, .bool cs, .string cd] 54)) W8.heap.size 54 #[.string ck, .bool cs, .string cd] := Bk.new W8.drew _ _
          refine Upto.only (i := 7) rfl (by kernel_rfl) rfl (exec_buildSlice rfl [(0, .agg #[.string ck, .bool cs, .string cd])] (by rfl) (bslice_1 ck cs cd _)) ?_ ?_
          · exact KS.out _ (r5.blk.cell 1) r5.below
          simp only [Act.put, List.setIfInBounds_toArray, List.set_cons_zero, List.set_cons_succ]
          generalize hW5 : W8.drew.alloc (.cells #[.string ck, .bool cs, .string cd] 54) = W5 at r5 k5 ⊢
          have R5 := Lib.hid r5
          have K5 := Lib.hid (one_pcs (x := ⟨ck, ⟨cs, cd⟩⟩) k5)
          clear r5 k5 hW5
          refine Upto.law (i := 8) rfl (by kernel_rfl) rfl (fun K hK => ?_)
          refine wp_app_cells _ _ (by rfl) (w4.heap.size + 1) rfl (by rfl) R5.out.own (by rfl) K5.out (by omega) (by have := R5.out.blk.lt; omega) ?_
          intro A' c' w7 k1 k2
          have hfz := R5.out.frz k2
          have R7 := Lib.hid (R5.out.app k1 k2)
          have hbx : Below w4.heap.size w4 w7 := R5.out.below.grown k2 R5.out.below.size (fun k hk => by have := (R5.out.own.own.lt k hk).1; omega)
          refine hK _ _ (KS.out _ hfz.2 hbx) ?_
          obtain ⟨hf7, hc7⟩ := hfz
          clear hK k1 k2 hbx R5 K5 hS0 KS
          simp only [Act.put, List.setIfInBounds_toArray, List.set_cons_zero, List.set_cons_succ]
          refine Upto.tail rfl (by kernel_rfl) ?_
          simp only [List.drop_succ_cons, List.drop_zero]
          go_wp2_with fail
          refine NoPanic.normal ?_
          go_wp2_with fail
          go_roundw
          case rel => exact ⟨i + 1, decide (atC l key < i + 1), A', (n1 + 1) + 1, c', by omega, rfl, by first | rfl | (congr 1 <;> exact HD.out), by go_num, by rw [HN.out]; exact R7.out⟩
          case measure => simp [intOf]; omega
      · obtain rfl : dn = true := by rw [hdn]; exact decide_eq_true (by omega)
        have hne : ck ≠ key := by
          have h1 := pw_get HPW.out hia (by rw [hlen.out]; exact hlt)
          rw [HX.out] at h1
          intro q
          rw [q] at h1
          exact atC_at (by rw [hlen.out]; omega) h1
        have hB : (ck.toList == key.toList) = false := by rw [beq_key]; exact decide_eq_false hne
        have HN : Hid (outC l ⟨key, ⟨hs, d⟩⟩ (i + 1) = outC l ⟨key, ⟨hs, d⟩⟩ i ++ [⟨ck, ⟨cs, cd⟩⟩]) := Lib.hid (by rw [← HX.out]; exact outC_hi hia (by rw [hlen.out]; exact hlt))
        have HD : Hid (true = decide (atC l key < i + 1)) := Lib.hid (decide_eq_true (by omega)).symm
        clear hne hdn HX
        go_wp2_with fail
        have KS : Hid (∀ w', w'.cell? ⟨w4.heap.size, 1, none⟩ = some (.slice A1 n1 c1) → Below w4.heap.size w4 w' → w'.cell? ⟨w4.heap.size, 1, none⟩ = some (.slice A1 n1 c1) ∧ w'.cell? ⟨w.heap.size, 1, none⟩ = some (.slice (some ⟨g, off, none⟩) n c) ∧ w'.cell? ⟨g, off + i * 3, none⟩ = some (.string ck) ∧ w'.cell? ⟨g, off + i * 3 + 1, none⟩ = some (.bool cs) ∧ w'.cell? ⟨g, off + i * 3 + 2, none⟩ = some (.string cd)) := Lib.hid (fun w' hq hb => by
          have hb' := Below.then B4.out hb
          obtain ⟨a0, a1, a2⟩ := HCP.out w' hb'
          exact ⟨hq, (PGC.out w' hb').2.1, a0, a1, a2⟩)
        have hS0 := KS.out wr.drew (R.out.blk.cell 1) (R.out.below.drew)
        refine wp_region_noPanic ?_
        refine upto_start (fun w' => w'.cell? ⟨w4.heap.size, 1, none⟩ = some (.slice A1 n1 c1) ∧ w'.cell? ⟨w.heap.size, 1, none⟩ = some (.slice (some ⟨g, off, none⟩) n c) ∧ w'.cell? ⟨g, off + i * 3, none⟩ = some (.string ck) ∧ w'.cell? ⟨g, off + i * 3 + 1, none⟩ = some (.bool cs) ∧ w'.cell? ⟨g, off + i * 3 + 2, none⟩ = some (.string cd)) 9 (by kernel_rfl) ?_
        change Upto _ _ _ _ _ 11 _ _ _
        refine Upto.take (i := 0) (v := ?_) rfl (by kernel_rfl) (fun _ _ _ h => h) rfl (fun w' hS => ?_) hS0 ?_
        rotate_left
        · (try dsimp only at hS)
          go_split_ands
          go_simp
          (try with_reducible rfl)
        simp only [Act.put, List.setIfInBounds_toArray, List.set_cons_zero, List.set_cons_succ]
        refine Upto.take (i := 1) (v := ?_) rfl (by kernel_rfl) (fun _ _ _ h => h) rfl (fun w' hS => ?_) hS0 ?_
        rotate_left
        · (try dsimp only at hS)
          go_split_ands
          go_simp
          (try with_reducible rfl)
        simp only [Act.put, List.setIfInBounds_toArray, List.set_cons_zero, List.set_cons_succ]
        refine Upto.take (i := 2) (v := ?_) rfl (by kernel_rfl) (fun _ _ _ h => h) rfl (fun w' hS => ?_) hS0 ?_
        rotate_left
        · (try dsimp only at hS)
          go_split_ands
          go_simp
          (try with_reducible rfl)
        simp only [Act.put, List.setIfInBounds_toArray, List.set_cons_zero, List.set_cons_succ]
        refine Upto.take (i := 3) (v := ?_) rfl (by kernel_rfl) (fun _ _ _ h => h) rfl (fun w' hS => ?_) hS0 ?_
        rotate_left
        · (try dsimp only at hS)
          go_split_ands
          go_simp
          (try with_reducible rfl)
        simp only [Act.put, List.setIfInBounds_toArray, List.set_cons_zero, List.set_cons_succ]
        refine Upto.take (i := 4) (v := ?_) rfl (by kernel_rfl) (fun _ _ _ h => h) rfl (fun w' hS => ?_) hS0 ?_
        rotate_left
        · (try dsimp only at hS)
          go_split_ands
          go_simp
          (try with_reducible rfl)
        simp only [Act.put, List.setIfInBounds_toArray, List.set_cons_zero, List.set_cons_succ]
        refine Upto.take (i := 5) (v := ?_) rfl (by kernel_rfl) (fun _ _ _ h => h) rfl (fun w' hS => ?_) hS0 ?_
        rotate_left
        · (try dsimp only at hS)
          go_split_ands
          go_simp
          (try with_reducible rfl)
        simp only [Act.put, List.setIfInBounds_toArray, List.set_cons_zero, List.set_cons_succ]
        refine Upto.take (i := 6) (v := ?_) rfl (by kernel_rfl) (fun _ _ _ h => h) rfl (fun w' hS => ?_) hS0 ?_
        rotate_left
        · (try dsimp only at hS)
          go_split_ands
          go_simp
          (try with_reducible rfl)
        simp only [Act.put, List.setIfInBounds_toArray, List.set_cons_zero, List.set_cons_succ]
        have r5 : RS w4 (wr.drew.alloc (.cells #[.string ck, .bool cs, .string cd] 54)) lsn A1 n1 c1 (outC l ⟨key, ⟨hs, d⟩⟩ i) := R.out.up ((Below.refl _ _).drew.alloc (Nat.le_refl _) _)
        have k5 : Bk (wr.drew.alloc (.cells #[.string ck, .bool cs, .string cd] 54)) wr.heap.size 54 #[.string ck, .bool cs, .string cd] := Bk.new wr.drew _ _
        refine Upto.only (i := 7) rfl (by kernel_rfl) rfl (exec_buildSlice rfl [(0, .agg #[.string ck, .bool cs, .string cd])] (by rfl) (bslice_1 ck cs cd _)) ?_ ?_
        · exact KS.out _ (r5.blk.cell 1) r5.below
        simp only [Act.put, List.setIfInBounds_toArray, List.set_cons_zero, List.set_cons_succ]
        generalize hW5 : wr.drew.alloc (.cells #[.string ck, .bool cs, .string cd] 54) = W5 at r5 k5 ⊢
        have R5 := Lib.hid r5
        have K5 := Lib.hid (one_pcs (x := ⟨ck, ⟨cs, cd⟩⟩) k5)
        clear r5 k5 hW5
        refine Upto.law (i := 8) rfl (by kernel_rfl) rfl (fun K hK => ?_)
        refine wp_app_cells _ _ (by rfl) (w4.heap.size + 1) rfl (by rfl) R5.out.own (by rfl) K5.out (by omega) (by have := R5.out.blk.lt; omega) ?_
        intro A' c' w7 k1 k2
        have hfz := R5.out.frz k2
        have R7 := Lib.hid (R5.out.app k1 k2)
        have hbx : Below w4.heap.size w4 w7 := R5.out.below.grown k2 R5.out.below.size (fun k hk => by have := (R5.out.own.own.lt k hk).1; omega)
        refine hK _ _ (KS.out _ hfz.2 hbx) ?_
        obtain ⟨hf7, hc7⟩ := hfz
        clear hK k1 k2 hbx R5 K5 hS0 KS
        simp only [Act.put, List.setIfInBounds_toArray, List.set_cons_zero, List.set_cons_succ]
        refine Upto.tail rfl (by kernel_rfl) ?_
        simp only [List.drop_succ_cons, List.drop_zero]
        go_wp2_with fail
        refine NoPanic.normal ?_
        go_wp2_with fail
        go_roundw
        case rel => exact ⟨i + 1, decide (atC l key < i + 1), A', n1 + 1, c', by omega, rfl, by first | rfl | (congr 1 <;> exact HD.out), by go_num, by rw [HN.out]; exact R7.out⟩
        case measure => simp [intOf]; omega
    · obtain rfl : i = n := by omega
      have hal : atC l key ≤ i := by have := atC_le l key; rw [hlen.out] at this; exact this
      clear hr hBX
      by_cases hai : atC l key < i
      · obtain rfl : dn = true := by rw [hdn]; exact decide_eq_true hai
        have HS : Hid (outC l ⟨key, ⟨hs, d⟩⟩ i = setC l ⟨key, ⟨hs, d⟩⟩) := Lib.hid (by
          have := outC_fin (l := l) (x := ⟨key, ⟨hs, d⟩⟩) (by rw [hlen.out]; exact hai)
          rw [hlen.out] at this
          exact this)
        clear hdn
        rw [HS.out] at R
        have hBX := Below.then B4.out R.out.below
        obtain ⟨f0, f1, z0, z1⟩ := FIN.out _ hBX
        have S7 := Lib.hid (SW.out.below hBX (Nat.le_refl _))
        have o0 := R.out.blk.cell 0
        have o1 := R.out.blk.cell 1
        simp only [List.getElem?_toArray, List.getElem?_cons_zero, List.getElem?_cons_succ] at o0 o1
        have BW := Lib.hid (Below.then HB.out hBX)
        have HLO : Hid (w.heap.size ≤ w4.heap.size + 1) := Lib.hid (by have := HB.out.size; have := B4.out.size; omega)
        have FB : Hid (Bk ((wr.setCell ⟨w.heap.size + 2, 0, none⟩ (.int .i64 lsn)).setCell ⟨w.heap.size + 2, 1, none⟩ (.slice A1 n1 c1)) (w.heap.size + 2) 24 #[.int .i64 lsn, .slice A1 n1 c1]) := Lib.hid (by simpa using (S7.out.out.setc 0 (.int .i64 lsn)).setc 1 (.slice A1 n1 c1))
        have RR : Hid (RetPg (⟨lsn, setC l ⟨key, ⟨hs, d⟩⟩⟩, 0) w (.returned (.tuple #[pgV lsn A1 n1 c1, .int .i64 0])) ((wr.setCell ⟨w.heap.size + 2, 0, none⟩ (.int .i64 lsn)).setCell ⟨w.heap.size + 2, 1, none⟩ (.slice A1 n1 c1))) := Lib.hid ⟨A1, n1, c1, rfl,
          ⟨own_set (own_set (R.out.own.lo HLO.out).own S7.out.out (by decide)) (S7.out.out.setc 0 _) (by decide), R.out.own.len⟩, (BW.out.setCell (p := ⟨w.heap.size + 2, 0, none⟩) (by simp) _).setCell (p := ⟨w.heap.size + 2, 1, none⟩) (by simp) _⟩
        clear hBX BW S7 HLO
        go_wp2_with fail
        (try simp only [Exit.inBlock, Exit.then])
        refine bodyPost_ret (results_cellT rfl _ _ (w.heap.size + 2) 24 _ _ rfl FB.out Try.underlying24 rfl pg_inf) rfl ?_
        exact RR.out
      · obtain rfl : dn = false := by rw [hdn]; exact decide_eq_false hai
        have HS : Hid (outC l ⟨key, ⟨hs, d⟩⟩ i ++ [⟨key, ⟨hs, d⟩⟩] = setC l ⟨key, ⟨hs, d⟩⟩) := Lib.hid (by
          have := outC_end (l := l) (x := ⟨key, ⟨hs, d⟩⟩) (by rw [hlen.out]; show atC l key = i; omega)
          rw [hlen.out] at this
          exact this)
        clear hdn hai hal
        have R5 := Lib.hid (R.out.up ((Below.refl wr.heap.size wr).alloc (Nat.le_refl _) (.cells #[.string key, .bool hs, .string d] 54)))
        have K5 := Lib.hid (one_pcs (x := ⟨key, ⟨hs, d⟩⟩) (Bk.new wr 54 #[.string key, .bool hs, .string d]))
        go_wp2_with (at_builtin; refine wpList_app_cells rfl _ _ rfl (w4.heap.size + 1) rfl rfl R5.out.own rfl K5.out (by omega) (by have := R5.out.blk.lt; omega) ?_)
        intro A2 c2 w6 k1 k2
        obtain ⟨hf7, hc7⟩ := R5.out.frz k2
        have R7 := Lib.hid (R5.out.app k1 k2)
        rw [HS.out] at R7
        clear k1 k2 R5 K5 hoc u0 u1 q1
        have hBX := Below.then B4.out R7.out.below
        obtain ⟨f0, f1, z0, z1⟩ := FIN.out _ hBX
        have S7 := Lib.hid (SW.out.below hBX (Nat.le_refl _))
        have o0 := R7.out.blk.cell 0
        have o1 := R7.out.blk.cell 1
        simp only [List.getElem?_toArray, List.getElem?_cons_zero, List.getElem?_cons_succ] at o0 o1
        have BW := Lib.hid (Below.then HB.out hBX)
        have HLO : Hid (w.heap.size ≤ w4.heap.size + 1) := Lib.hid (by have := HB.out.size; have := B4.out.size; omega)
        have FB : Hid (Bk (((w6.setCell ⟨w4.heap.size, 1, none⟩ (.slice A2 (n1 + 1) c2)).setCell ⟨w.heap.size + 2, 0, none⟩ (.int .i64 lsn)).setCell ⟨w.heap.size + 2, 1, none⟩ (.slice A2 (n1 + 1) c2)) (w.heap.size + 2) 24 #[.int .i64 lsn, .slice A2 (n1 + 1) c2]) := Lib.hid (by simpa using (S7.out.out.setc 0 (.int .i64 lsn)).setc 1 (.slice A2 (n1 + 1) c2))
        have RR : Hid (RetPg (⟨lsn, setC l ⟨key, ⟨hs, d⟩⟩⟩, 0) w (.returned (.tuple #[pgV lsn A2 (n1 + 1) c2, .int .i64 0])) (((w6.setCell ⟨w4.heap.size, 1, none⟩ (.slice A2 (n1 + 1) c2)).setCell ⟨w.heap.size + 2, 0, none⟩ (.int .i64 lsn)).setCell ⟨w.heap.size + 2, 1, none⟩ (.slice A2 (n1 + 1) c2))) := Lib.hid ⟨A2, (n1 + 1), c2, rfl,
          ⟨own_set (own_set (R7.out.own.lo HLO.out).own S7.out.out (by decide)) (S7.out.out.setc 0 _) (by decide), R7.out.own.len⟩, (BW.out.setCell (p := ⟨w.heap.size + 2, 0, none⟩) (by simp) _).setCell (p := ⟨w.heap.size + 2, 1, none⟩) (by simp) _⟩
        clear hBX BW S7 HLO
        go_wp2_with fail
        (try simp only [Exit.inBlock, Exit.then])
        refine bodyPost_ret (results_cellT rfl _ _ (w.heap.size + 2) 24 _ _ rfl FB.out Try.underlying24 rfl pg_inf) rfl ?_
        exact RR.out

end Go.Proofs.Ytfmfmdiegabobaa

/- page.Decode answers the page of a payload, or the error. -/
namespace Go.Proofs.Ytfmfmdiegabobaa
open Go.RowKit

theorem pNum_rngP (most : Int) (hm : 0 ≤ most) (σ : Sg) : 0 ≤ (pNum most σ).1 ∧ (pNum most σ).1 ≤ most := by
  unfold pNum pPrim numI
  split
  · exact ⟨Int.le_refl _, hm⟩
  · split
    · exact ⟨Int.le_refl _, hm⟩
    · rename_i q
      show (0 : Int) ≤ ((numF σ.1 most).1 : Int) ∧ ((numF σ.1 most).1 : Int) ≤ most
      refine ⟨by omega, ?_⟩
      unfold numF at q ⊢
      split
      · simpa using hm
      · split
        · simpa using hm
        · rename_i h
          simp only [not_or, Int.not_lt] at h
          exact h.2

/-- Where Decode stands: the reader's block, the page's; what it answers; nothing old has turned. -/
structure DW (t : TypeId) (w wr : World) (rb g P : Nat) (lsn : Int) (A1 : Option Addr) (n1 c1 : Nat) (L : List Cl) (σ : Sg) : Prop where
  ord : w.heap.size < rb ∧ g < rb ∧ rb < P
  rd : Rd wr t rb g σ.1 σ.2
  blk : Bk wr P 24 #[.int .i64 lsn, .slice A1 n1 c1]
  own : OwnP (P + 1) wr A1 n1 c1 L
  res : Bk wr w.heap.size 24 #[.int .i64 0, .slice none 0 0]
  below : Below w.heap.size w wr
theorem DW.size {t : TypeId} {w wr : World} {rb g P : Nat} {lsn : Int} {A1 : Option Addr} {n1 c1 : Nat} {L : List Cl} {σ : Sg} (h : DW t w wr rb g P lsn A1 n1 c1 L σ) : P < wr.heap.size := h.blk.lt
/-- A reading. -/
theorem DW.read {t : TypeId} {w wr w' : World} {rb g P : Nat} {lsn : Int} {A1 : Option Addr} {n1 c1 : Nat} {L : List Cl} {σ σ' : Sg} (h : DW t w wr rb g P lsn A1 n1 c1 L σ) (hr : Rd w' t rb g σ'.1 σ'.2) (hg : wr.grownBy w' (some rb)) : DW t w w' rb g P lsn A1 n1 c1 L σ' := by
  obtain ⟨h1, h2, h3⟩ := h.ord
  refine ⟨h.ord, hr, h.blk.grow hg (fun q => by injection q with q; omega), ⟨own_stay h.own.own (fun q hq => hg.block q (h.own.own.lt q hq).2 (fun e => by injection e with e; have := (h.own.own.lt q hq).1; omega)), h.own.len⟩, h.res.grow hg (fun q => by injection q with q; omega), ?_⟩
  exact h.below.grown hg h.below.size (fun k hk => by injection hk with hk; omega)
/-- New blocks. -/
theorem DW.new {t : TypeId} {w wr w' : World} {rb g P : Nat} {lsn : Int} {A1 : Option Addr} {n1 c1 : Nat} {L : List Cl} {σ : Sg} (h : DW t w wr rb g P lsn A1 n1 c1 L σ) (hb : Below wr.heap.size wr w') : DW t w w' rb g P lsn A1 n1 c1 L σ := by
  have hg : wr.grownBy w' none := ⟨hb.os, hb.tape, hb.output, hb.size, fun k hk _ => hb.block k hk⟩
  exact ⟨h.ord, h.rd.grown hg (fun q => nomatch q) (fun q => nomatch q), h.blk.bel hb h.blk.lt, h.own.below hb, h.res.bel hb h.res.lt, Below.then h.below hb⟩
/-- One cell more. -/
theorem DW.app {t : TypeId} {w wr w' : World} {rb g P : Nat} {lsn : Int} {A1 A' : Option Addr} {n1 c1 n' c' : Nat} {L L' : List Cl} {σ : Sg} (h : DW t w wr rb g P lsn A1 n1 c1 L σ) (ho : OwnP (P + 1) w' A' n' c' L') (hg : wr.grownBy w' (Value.slice A1 n1 c1).ownBlock) :
    DW t w (w'.setCell ⟨P, 1, none⟩ (.slice A' n' c')) rb g P lsn A' n' c' L' σ := by
  obtain ⟨h1, h2, h3⟩ := h.ord
  have hlo : ∀ k, (Value.slice A1 n1 c1).ownBlock = some k → P + 1 ≤ k := fun k hk => (h.own.own.lt k hk).1
  have ne : ∀ k, k ≤ P → some k ≠ (Value.slice A1 n1 c1).ownBlock := fun k hk q => by have := hlo k q.symm; omega
  have hb : Bk w' P 24 #[.int .i64 lsn, .slice A1 n1 c1] := h.blk.grow hg (fun q => ne P (Nat.le_refl _) q.symm)
  refine ⟨h.ord, (h.rd.grown hg (ne rb (by omega)) (ne g (by omega))).setNew (by omega) (by omega) _, by simpa using hb.setc 1 (.slice A' n' c'), ⟨own_set ho.own hb (by decide), ho.len⟩, ?_, ?_⟩
  · exact (Below.heap_setCell w' ⟨P, 1, none⟩ _ _ (by show w.heap.size ≠ P; omega)).trans (h.res.grow hg (fun q => ne w.heap.size (by omega) q.symm))
  · exact (h.below.grown hg h.below.size (fun k hk => by have := hlo k hk; omega)).setCell (p := ⟨P, 1, none⟩) (by show w.heap.size ≤ P; omega) _
theorem DW.frz {t : TypeId} {w wr w' : World} {rb g P : Nat} {lsn : Int} {A1 : Option Addr} {n1 c1 : Nat} {L : List Cl} {σ : Sg} (h : DW t w wr rb g P lsn A1 n1 c1 L σ) (hg : wr.grownBy w' (Value.slice A1 n1 c1).ownBlock) : w'.frozen? ⟨P, 1, none⟩ = false ∧ w'.cell? ⟨P, 1, none⟩ = some (.slice A1 n1 c1) := by
  have hb : Bk w' P 24 #[.int .i64 lsn, .slice A1 n1 c1] := h.blk.grow hg (fun q => by have := (h.own.own.lt P q).1; omega)
  exact ⟨hb.frz 1, hb.cell 1⟩
/-- The answers. -/
theorem DW.zero {t : TypeId} {w wr : World} {rb g P : Nat} {lsn : Int} {A1 : Option Addr} {n1 c1 : Nat} {L : List Cl} {σ : Sg} (h : DW t w wr rb g P lsn A1 n1 c1 L σ) (er : Nat) :
    Bk ((wr.setCell ⟨w.heap.size, 0, none⟩ (.int .i64 0)).setCell ⟨w.heap.size, 1, none⟩ (.slice none 0 0)) w.heap.size 24 #[.int .i64 0, .slice none 0 0] ∧
    RetPg (pg0, er) w (.returned (.tuple #[pgV 0 none 0 0, .int .i64 er])) ((wr.setCell ⟨w.heap.size, 0, none⟩ (.int .i64 0)).setCell ⟨w.heap.size, 1, none⟩ (.slice none 0 0)) :=
  ⟨by simpa using (h.res.setc 0 (.int .i64 0)).setc 1 (.slice none 0 0), none, 0, 0, rfl, OwnP.nil _ _, (h.below.setCell (p := ⟨w.heap.size, 0, none⟩) (Nat.le_refl _) _).setCell (p := ⟨w.heap.size, 1, none⟩) (Nat.le_refl _) _⟩
theorem DW.fin {t : TypeId} {w wr : World} {rb g P : Nat} {lsn : Int} {A1 : Option Addr} {n1 c1 : Nat} {L : List Cl} {σ : Sg} (h : DW t w wr rb g P lsn A1 n1 c1 L σ) :
    Bk ((wr.setCell ⟨w.heap.size, 0, none⟩ (.int .i64 lsn)).setCell ⟨w.heap.size, 1, none⟩ (.slice A1 n1 c1)) w.heap.size 24 #[.int .i64 lsn, .slice A1 n1 c1] ∧
    RetPg (⟨lsn, L⟩, 0) w (.returned (.tuple #[pgV lsn A1 n1 c1, .int .i64 0])) ((wr.setCell ⟨w.heap.size, 0, none⟩ (.int .i64 lsn)).setCell ⟨w.heap.size, 1, none⟩ (.slice A1 n1 c1)) := by
  obtain ⟨h1, h2, h3⟩ := h.ord
  exact ⟨by simpa using (h.res.setc 0 (.int .i64 lsn)).setc 1 (.slice A1 n1 c1), A1, n1, c1, rfl, OwnP.lo ⟨own_set (own_set h.own.own h.res (by decide)) (h.res.setc 0 _) (by decide), h.own.len⟩ (by omega), (h.below.setCell (p := ⟨w.heap.size, 0, none⟩) (Nat.le_refl _) _).setCell (p := ⟨w.heap.size, 1, none⟩) (Nat.le_refl _) _⟩

set_option maxRecDepth 100000 in
set_option maxHeartbeats 8000000 in
theorem pgDec_any (A : Option Addr) (n c : Nat) (l : List Int) (w : World) (h : Byt w A n c l) (hn : n ≤ 100000) :
    Calls Try.prog 13 #[.slice A n c] w (RetPg (decPg l) w) := by
  obtain ⟨W1, hW1⟩ : ∃ W, W = w.alloc (.cells #[.int .i64 0, .slice none 0 0] 24) := ⟨_, rfl⟩
  have B1 : Hid (Below w.heap.size w W1) := Lib.hid (by rw [hW1]; exact (Below.refl _ _).alloc (Nat.le_refl _) _)
  have R1 : Hid (Bk W1 w.heap.size 24 #[.int .i64 0, .slice none 0 0]) := Lib.hid (by rw [hW1]; exact Bk.new w _ _)
  have hs1 : W1.heap.size = w.heap.size + 1 := by rw [hW1, World.size_alloc]
  have C := Lib.hid (read_any A n c l W1 (h.below B1.out) (by omega) (by omega))
  have HW := Lib.hid hW1
  obtain ⟨⟨lsn, l1, e1⟩, hN⟩ : ∃ x, pN (l, 0) = x := ⟨_, rfl⟩
  obtain ⟨⟨cnt, l2, e2⟩, hM⟩ : ∃ x, pNum 4 (l1, e1) = x := ⟨_, rfl⟩
  have hcnt := pNum_rngP 4 (by omega) (l1, e1)
  rw [hM] at hcnt
  simp only at hcnt
  obtain ⟨k0, rfl⟩ := Int.eq_ofNat_of_zero_le hcnt.1
  have HP : Hid (pPg (l, 0) = (⟨lsn, (pRep pCl (l2, e2) k0).1⟩, (pRep pCl (l2, e2) k0).2)) := Lib.hid (by
    unfold pPg pList pBind
    rw [hN]
    simp only
    rw [hM]
    rfl)
  have HN := Lib.hid hN
  have HM := Lib.hid hM
  clear h hW1 hN hM
  go_enter Try.func13, Try.ntmps13
  go_upto_region 1 with fail
  rw [← HW.out]
  go_wp2_with fail
  refine C.out.mono ?_
  rintro e w2 ⟨rb, g, rfl, hrb, hg, hrd, b2⟩
  have C2 := sNum 1099511627776 (by omega) hrd
  rw [show pNum 1099511627776 (l, 0) = (lsn, (l1, e1)) from HN.out] at C2
  have C2 := Lib.hid C2
  have B2 := Lib.hid (Below.then B1.out b2)
  have R2 := Lib.hid (R1.out.bel b2 R1.out.lt)
  have hrlt := hrd.lt
  clear hrd b2 C
  go_wp2_with fail
  refine C2.out.mono ?_
  rintro e w3 ⟨rfl, hr3, g3⟩
  have D4 : Hid (DW 87 w (w3.alloc (.cells #[.int .i64 lsn, .slice none 0 0] 24)) rb g w3.heap.size lsn none 0 0 [] (l1, e1)) := Lib.hid (by
    have b3 : Below w.heap.size w w3 := B2.out.grown g3 B2.out.size (fun k hk => by injection hk with hk; omega)
    have ha : Below w3.heap.size w3 (w3.alloc (.cells #[.int .i64 lsn, .slice none 0 0] 24)) := (Below.refl _ _).alloc (Nat.le_refl _) _
    exact ⟨⟨by omega, hg, Nat.lt_of_lt_of_le hrlt g3.size⟩, hr3.alloc _, Bk.new w3 _ _, OwnP.nil _ _, (R2.out.grow g3 (fun q => by injection q with q; omega)).bel ha (by have := R2.out.lt; have := g3.size; omega), Below.then b3 ha⟩)
  obtain ⟨P, hP⟩ : ∃ P, w3.heap.size = P := ⟨_, rfl⟩
  clear hr3 g3 C2 R2
  go_upto_region 3 with fail
  generalize hW4 : w3.alloc (.cells #[.int .i64 lsn, .slice none 0 0] 24) = W4 at D4 ⊢
  rw [hP] at D4
  (try rw [hP])
  clear hW4 hP
  have C4 := sNum 4 (by omega) D4.out.rd
  rw [HM.out] at C4
  have C4 := Lib.hid C4
  go_wp2_with fail
  refine C4.out.mono ?_
  rintro e w5 ⟨rfl, hr5, g5⟩
  have D5 := Lib.hid (D4.out.read (σ' := (l2, e2)) hr5 g5)
  clear hr5 g5 C4 D4
  go_wp2_with fail
  go_loopw [14] (fun y wr => ∃ (k : Nat) (A1 : Option Addr) (n1 c1 : Nat), k ≤ k0 ∧ y = .int .i64 k ∧ DW 87 w wr rb g P lsn A1 n1 c1 (pRep pCl (l2, e2) k).1 (pRep pCl (l2, e2) k).2) (fun y _ => k0 - (intOf y).toNat)
  case atStart => exact ⟨0, none, 0, 0, Nat.zero_le _, rfl, D5.out⟩
  case round =>
    obtain ⟨k, A1, n1, c1, hk, rfl, hd⟩ := hrel
    have D := Lib.hid hd
    have hn1 : n1 ≤ 4 := by rw [← hd.own.len, pRep_len]; omega
    clear hd D5
    by_cases hlt : k < k0
    · have hlt' : (k : Int) < (k0 : Int) := by omega
      go_wp2_with fail
      have hS0 : wr.drew.cell? ⟨P, 1, none⟩ = some (.slice A1 n1 c1) := D.out.blk.cell 1
      refine wp_region_noPanic ?_
      refine upto_start (fun w' => w'.cell? ⟨P, 1, none⟩ = some (.slice A1 n1 c1)) 6 (by kernel_rfl) ?_
      change Upto _ _ _ _ _ 8 _ _ _
      refine Upto.take (i := 0) (v := ?_) rfl (by kernel_rfl) (fun _ _ _ h => h) rfl (fun w' hS => ?_) hS0 ?_
      rotate_left
      · (try dsimp only at hS)
        (try go_split_ands)
        go_simp
        (try with_reducible rfl)
      simp only [Act.put, List.setIfInBounds_toArray, List.set_cons_zero, List.set_cons_succ]
      refine Upto.take (i := 1) (v := ?_) rfl (by kernel_rfl) (fun _ _ _ h => h) rfl (fun w' hS => ?_) hS0 ?_
      rotate_left
      · (try dsimp only at hS)
        (try go_split_ands)
        go_simp
        (try with_reducible rfl)
      simp only [Act.put, List.setIfInBounds_toArray, List.set_cons_zero, List.set_cons_succ]
      refine Upto.take (i := 2) (v := ?_) rfl (by kernel_rfl) (fun _ _ _ h => h) rfl (fun w' hS => ?_) hS0 ?_
      rotate_left
      · (try dsimp only at hS)
        (try go_split_ands)
        go_simp
        (try with_reducible rfl)
      simp only [Act.put, List.setIfInBounds_toArray, List.set_cons_zero, List.set_cons_succ]
      have D1 := D.out.new (w' := wr.drew) (Below.refl _ _).drew
      have CT := takeCell_any rb g (pRep pCl (l2, e2) k).2.1 (pRep pCl (l2, e2) k).2.2 wr.drew D1.rd D1.ord.2.1
      refine Upto.law (i := 3) rfl (by kernel_rfl) rfl (fun K hK => ?_)
      refine wp_enter (f := 36) (args := #[.pointer (some ⟨rb, 0, none⟩)]) (by go_simp) CT ?_
      rintro e w6 ⟨rfl, hr6, g6⟩
      have D6 := D1.read (σ' := (pCl (pRep pCl (l2, e2) k).2).2) hr6 g6
      refine ⟨_, rfl, hK _ _ (D6.blk.cell 1) ?_⟩
      clear hK CT hr6 g6 D1 hS0
      obtain ⟨x, hx⟩ : ∃ x, (pCl (pRep pCl (l2, e2) k).2).1 = x := ⟨_, rfl⟩
      have hpk : pRep pCl (l2, e2) (k + 1) = ((pRep pCl (l2, e2) k).1 ++ [(pCl (pRep pCl (l2, e2) k).2).1], (pCl (pRep pCl (l2, e2) k).2).2) := rfl
      rw [hx] at hpk ⊢
      have HPK := Lib.hid hpk
      obtain ⟨ck, ⟨cs, cd⟩⟩ := x
      clear hx hpk
      simp only [Act.put, List.setIfInBounds_toArray, List.set_cons_zero, List.set_cons_succ]
      refine Upto.only (i := 4) rfl (by kernel_rfl) rfl (exec_buildSlice rfl [(0, .agg #[.string ck, .bool cs, .string cd])] (by rfl) (bslice_1 ck cs cd _)) ?_ ?_
      · exact (D6.new ((Below.refl _ w6).alloc (Nat.le_refl _) _)).blk.cell 1
      simp only [Act.put, List.setIfInBounds_toArray, List.set_cons_zero, List.set_cons_succ]
      have d7 := D6.new ((Below.refl w6.heap.size w6).alloc (Nat.le_refl _) (.cells #[.string ck, .bool cs, .string cd] 54))
      have k7 : Bk (w6.alloc (.cells #[.string ck, .bool cs, .string cd] 54)) w6.heap.size 54 #[.string ck, .bool cs, .string cd] := Bk.new w6 _ _
      generalize hW7 : w6.alloc (.cells #[.string ck, .bool cs, .string cd] 54) = W7 at d7 k7 ⊢
      have D7 := Lib.hid d7
      have K7 := Lib.hid (one_pcs (x := ⟨ck, ⟨cs, cd⟩⟩) k7)
      clear d7 k7 hW7 D6
      refine Upto.law (i := 5) rfl (by kernel_rfl) rfl (fun K hK => ?_)
      refine wp_app_cells _ _ (by rfl) (P + 1) rfl (by rfl) D7.out.own (by rfl) K7.out (by omega) (by have := D7.out.size; omega) ?_
      intro A' c' w8 k1 k2
      obtain ⟨hf8, hc8⟩ := D7.out.frz k2
      have D8 := Lib.hid (D7.out.app k1 k2)
      refine hK _ _ hc8 ?_
      clear hK k1 k2 D7 K7
      simp only [Act.put, List.setIfInBounds_toArray, List.set_cons_zero, List.set_cons_succ]
      refine Upto.tail rfl (by kernel_rfl) ?_
      simp only [List.drop_succ_cons, List.drop_zero]
      go_wp2_with fail
      refine NoPanic.normal ?_
      go_wp2_with fail
      go_roundw
      case rel => exact ⟨k + 1, A', n1 + 1, c', by omega, by go_num, by rw [HPK.out]; exact D8.out⟩
      case measure => simp [intOf]; omega
    · obtain rfl : k = k0 := by omega
      obtain ⟨⟨L, σ1, σ2⟩, hL⟩ : ∃ x, pRep pCl (l2, e2) k = x := ⟨_, rfl⟩
      rw [hL] at D
      simp only at D
      have HPP := HP.out
      rw [hL] at HPP
      simp only at HPP
      have HPP := Lib.hid HPP
      have CE := Lib.hid (rErr_any rb g σ1 σ2 wr D.out.rd)
      clear hL HP
      go_wp2_with fail
      refine CE.out.mono ?_
      rintro e wE ⟨rfl, rfl⟩
      have r0 := D.out.res.frz 0
      have r1 := D.out.res.frz 1
      have z0 := D.out.res.cell 0
      have z1 := D.out.res.cell 1
      have p0 := D.out.blk.cell 0
      have p1 := D.out.blk.cell 1
      simp only [List.getElem?_toArray, List.getElem?_cons_zero, List.getElem?_cons_succ] at z0 z1 p0 p1
      by_cases he : σ2 = 0
      · subst he
        have hpcs := D.out.own.pcs
        have CI := isPage_any lsn A1 n1 c1 L wr hpcs
        clear hpcs CE
        by_cases hok : (⟨lsn, L⟩ : Pg).ok
        · rw [decide_eq_true hok] at CI
          have CI := Lib.hid CI
          have E : Hid (decPg l = (⟨lsn, L⟩, 0)) := Lib.hid (by
            rw [decPg_ok (by rw [HPP.out]) (by rw [HPP.out]; exact hok), HPP.out])
          clear hok z0 z1 r0 r1
          go_wp2_with fail
          refine CI.out.mono ?_
          rintro e w9 ⟨rfl, b9⟩
          have D9 := Lib.hid (D.out.new b9)
          have r0 := D9.out.res.frz 0
          have r1 := D9.out.res.frz 1
          have z0 := D9.out.res.cell 0
          have z1 := D9.out.res.cell 1
          have q0 := D9.out.blk.cell 0
          have q1 := D9.out.blk.cell 1
          simp only [List.getElem?_toArray, List.getElem?_cons_zero, List.getElem?_cons_succ] at z0 z1 q0 q1
          have FN := Lib.hid D9.out.fin
          clear b9 CI p0 p1
          go_wp2_with fail
          (try simp only [Exit.inBlock, Exit.then])
          refine bodyPost_ret (results_cellT rfl _ _ w.heap.size 24 _ _ rfl FN.out.1 Try.underlying24 rfl pg_inf) rfl ?_
          rw [E.out]
          exact FN.out.2
        · rw [decide_eq_false hok] at CI
          have CI := Lib.hid CI
          have E : Hid (decPg l = (pg0, 11)) := Lib.hid (decPg_no (by rw [HPP.out]) (by rw [HPP.out]; exact hok))
          clear hok z0 z1 r0 r1
          go_wp2_with fail
          refine CI.out.mono ?_
          rintro e w9 ⟨rfl, b9⟩
          have D9 := Lib.hid (D.out.new b9)
          have r0 := D9.out.res.frz 0
          have r1 := D9.out.res.frz 1
          have z0 := D9.out.res.cell 0
          have z1 := D9.out.res.cell 1
          simp only [List.getElem?_toArray, List.getElem?_cons_zero, List.getElem?_cons_succ] at z0 z1
          have FN := Lib.hid (D9.out.zero 11)
          clear b9 CI p0 p1
          go_wp2_with fail
          (try simp only [Exit.inBlock, Exit.then])
          refine bodyPost_ret (results_cellT rfl _ _ w.heap.size 24 _ _ rfl FN.out.1 Try.underlying24 rfl pg_inf) rfl ?_
          rw [E.out]
          exact FN.out.2
      · have hz : ((σ2 : Int) != 0) = true := by simp; omega
        have E : Hid (decPg l = (pg0, σ2)) := Lib.hid (by
          rw [decPg_err (by rw [HPP.out]; exact he), HPP.out])
        have FN := Lib.hid (D.out.zero σ2)
        clear CE he p0 p1
        go_wp2_with fail
        (try simp only [Exit.inBlock, Exit.then])
        refine bodyPost_ret (results_cellT rfl _ _ w.heap.size 24 _ _ rfl FN.out.1 Try.underlying24 rfl pg_inf) rfl ?_
        rw [E.out]
        exact FN.out.2
end Go.Proofs.Ytfmfmdiegabobaa

/- trothlaw10.awake answers true; what is there stands. -/
namespace Go.Proofs.Ytfmfmdiegabobaa
open Go.RowKit

theorem Pcs.nil (w : World) : Pcs w none 0 0 [] := ⟨Flt.nil w 3, rfl⟩
theorem pg0_ok : (⟨0, []⟩ : Pg).ok := ⟨⟨Int.le_refl 0, by show (0 : Int) ≤ 1099511627776; omega⟩, by simp, fun i hi => absurd hi (by simp)⟩
def clA : Cl := ⟨⟨#[97]⟩, ⟨true, ⟨#[49]⟩⟩⟩
theorem clA_ok : clOk clA := ⟨⟨by decide, by decide⟩, by unfold vlOk clA; decide⟩
theorem setC_nil (x : Cl) : setC [] x = [x] := by
  unfold setC
  simp [atC, behC, isAt]

set_option maxRecDepth 100000 in
set_option maxHeartbeats 4000000 in
theorem awake10 (w : World) : Calls Try.prog 9 #[] w (Ret (.bool true) w) := by
  obtain ⟨W0, hW0⟩ : ∃ W, W = w.alloc (.cells #[.bool true, .string ⟨#[49]⟩] 42) := ⟨_, rfl⟩
  have HB : Hid (Below w.heap.size w W0) := Lib.hid (by rw [hW0]; exact (Below.refl _ _).alloc (Nat.le_refl _) _)
  have BV : Hid (Bk W0 w.heap.size 42 #[.bool true, .string ⟨#[49]⟩]) := Lib.hid (by rw [hW0]; exact Bk.new w _ _)
  have v0 : W0.cell? ⟨w.heap.size, 0, none⟩ = some (.bool true) := BV.out.cell 0
  have v1 : W0.cell? ⟨w.heap.size, 1, none⟩ = some (.string ⟨#[49]⟩) := BV.out.cell 1
  have C := Lib.hid (set_ok 0 none 0 0 [] 7 clA W0 (Pcs.nil _) ⟨pg0_ok, clA_ok, by omega, by omega⟩ rfl)
  have HW := Lib.hid hW0
  clear hW0
  go_enter Try.func9, Try.ntmps9
  go_upto_region 2 with fail
  rw [← HW.out]
  go_wp2_with fail
  refine C.out.mono ?_
  rintro e w1 ⟨A, n, c, rfl, ho, b1⟩
  have ho' : OwnP W0.heap.size w1 A n c [clA] := by have := ho; simp only [setC_nil] at this; exact this
  obtain rfl : n = 1 := by rw [← ho'.len]; rfl
  have HO := Lib.hid ho'.pcs
  have B1 := Lib.hid b1
  clear ho ho' b1 C v0 v1
  go_wp2_with fail
  obtain ⟨W1, hW1⟩ : ∃ W, W = w1.alloc (.cells #[.int .i64 7, .slice A 1 c] 24) := ⟨_, rfl⟩
  have b2 : Below w1.heap.size w1 W1 := by rw [hW1]; exact (Below.refl _ _).alloc (Nat.le_refl _) _
  have kp : Bk W1 w1.heap.size 24 #[.int .i64 7, .slice A 1 c] := by rw [hW1]; exact Bk.new w1 _ _
  have kv := BV.out.bel (Below.then B1.out b2) BV.out.lt
  have f0 : ∀ d' os, (Go.Sort.grow (redrawn W1 d') os).cell? ⟨w1.heap.size, 0, none⟩ = some (.int .i64 7) := cell_regrown (kp.cell 0)
  have f1 : ∀ d' os, (Go.Sort.grow (redrawn W1 d') os).cell? ⟨w1.heap.size, 1, none⟩ = some (.slice A 1 c) := cell_regrown (kp.cell 1)
  have f2 : ∀ d' os, (Go.Sort.grow (redrawn W1 d') os).cell? ⟨w.heap.size, 0, none⟩ = some (.bool true) := cell_regrown (kv.cell 0)
  have f3 : ∀ d' os, (Go.Sort.grow (redrawn W1 d') os).cell? ⟨w.heap.size, 1, none⟩ = some (.string ⟨#[49]⟩) := cell_regrown (kv.cell 1)
  have CG : Hid (∀ d' os, Calls Try.prog 19 #[pgV 7 A 1 c, .string ⟨#[97]⟩] (Go.Sort.grow (redrawn W1 d') os) (Ret (.agg #[.bool true, .string ⟨#[49]⟩]) (Go.Sort.grow (redrawn W1 d') os))) := Lib.hid (fun d' os => by
    have := get_any 7 A 1 c [clA] ⟨#[97]⟩ (Go.Sort.grow (redrawn W1 d') os) ((HO.out.below b2).below (below_regrown W1 d' os))
    rw [show getV [clA] ⟨#[97]⟩ = ⟨true, ⟨#[49]⟩⟩ by simp [getV, getC, clA]] at this
    exact this)
  have BW := Lib.hid (Below.then HB.out (Below.then B1.out b2))
  rw [← hW1]
  clear hW1 b2 kp kv HO B1 HB BV
  refine wp_region_quiet_below (by kernel_rfl) (by kernel_rfl) ?_
  repeat (any_goals (first | go_big_quiet_step ((go_at_call 19; exact Calls.regrown_of (CG.out _ _))) | quiet_step ((go_at_call 19; exact Calls.regrown_of (CG.out _ _)))))
  refine wpQuiet_nil ?_
  intro _ hw'
  obtain ⟨⟨dq, osq⟩, hw''⟩ := hw'
  subst hw''
  have L11 := Lib.hid (Below.then BW.out (below_regrown W1 dq osq))
  clear BW f0 f1 f2 f3 CG
  go_wp2_with fail
  go_ret
  exact ⟨by simp, L11.out⟩
end Go.Proofs.Ytfmfmdiegabobaa

/- pages and values as they come in: what they read as. -/
namespace Go.Proofs.Ytfmfmdiegabobaa
open Go.RowKit Go.ChangeShapes Go.WideShapes Go.ChangeAt

/-- A page as it comes in. -/
structure Xp where
  lsn : Int
  A : Option Addr
  n : Nat
  c : Nat
  l : List Cl
abbrev Xp.val (x : Xp) : Value := pgV x.lsn x.A x.n x.c
structure XpIn (w : World) (x : Xp) : Prop where
  lsn : -9223372036854775808 ≤ x.lsn ∧ x.lsn ≤ 9223372036854775807
  pcs : Pcs w x.A x.n x.c x.l
def Xp.pg (x : Xp) : Pg := ⟨x.lsn, x.l⟩

section
variable {H : Type} {enc : TypeId × Value → H} {W : World}
theorem coP_int : Try.prog.cellsOf 3 = 1 := by kernel_rfl
theorem coP_str : Try.prog.cellsOf 9 = 1 := by kernel_rfl
theorem coP_bool : Try.prog.cellsOf 4 = 1 := by kernel_rfl
theorem coP_cls : Try.prog.cellsOf 22 = 1 := by kernel_rfl
theorem coP_vl : Try.prog.cellsOf 42 = 2 := by kernel_rfl
theorem coP_cl : Try.prog.cellsOf 54 = 3 := by kernel_rfl
theorem coP_pg : Try.prog.cellsOf 24 = 2 := by kernel_rfl

theorem open_vl2 {k : Nat} {v0 v1 : Value} {x : DataW H × List MemPlace} (hf : DataW.trod enc Try.prog W 0 (fun _ => true) true k 42 [v0, v1] = some x) : ∃ m : Vl, [v0, v1] = [.bool m.has, .string m.data] := by
  obtain ⟨xs, k', _, _, _, hxl, hfld⟩ := DataW.trod_struct Try.underlying42 hf
  match xs, hxl with
  | [x0, x1], _ =>
    have f0 : DataW.trod enc Try.prog W 0 (fun _ => true) true k' 4 (List.take (Try.prog.cellsOf 4) [v0, v1]) = some x0 := hfld 0 _ rfl
    have f1 : DataW.trod enc Try.prog W 0 (fun _ => true) true k' 9 (List.take (Try.prog.cellsOf 9) [v1]) = some x1 := hfld 1 _ rfl
    rw [coP_bool] at f0
    rw [coP_str] at f1
    obtain ⟨k0, e0, _⟩ := DataW.trod_bool Try.underlying4 f0
    obtain ⟨k1, e1, _⟩ := DataW.trod_string Try.underlying9 f1
    simp at e0 e1
    subst e0 e1
    exact ⟨⟨k0, k1⟩, rfl⟩
theorem open_cl3 {k : Nat} {v0 v1 v2 : Value} {x : DataW H × List MemPlace} (hf : DataW.trod enc Try.prog W 0 (fun _ => true) true k 54 [v0, v1, v2] = some x) : ∃ m : Cl, [v0, v1, v2] = m.cells := by
  obtain ⟨xs, k', _, _, _, hxl, hfld⟩ := DataW.trod_struct Try.underlying54 hf
  match xs, hxl with
  | [x0, x1], _ =>
    have f0 : DataW.trod enc Try.prog W 0 (fun _ => true) true k' 9 (List.take (Try.prog.cellsOf 9) [v0, v1, v2]) = some x0 := hfld 0 _ rfl
    have f1 : DataW.trod enc Try.prog W 0 (fun _ => true) true k' 42 (List.take (Try.prog.cellsOf 42) [v1, v2]) = some x1 := hfld 1 _ rfl
    rw [coP_str] at f0
    rw [coP_vl] at f1
    obtain ⟨k0, e0, _⟩ := DataW.trod_string Try.underlying9 f0
    obtain ⟨m, e1⟩ := open_vl2 f1
    simp at e0 e1
    obtain ⟨e1, e2⟩ := e1
    subst e0 e1 e2
    exact ⟨⟨k0, m⟩, rfl⟩
theorem addrP {g off : Nat} (i j : Nat) : ((⟨g, off, none⟩ : Addr).add i).add j = ⟨g, off + i + j, none⟩ := by
  by_cases hi : i = 0 <;> by_cases hj : j = 0 <;> simp [Addr.add, hi, hj]
theorem lstP {α : Type} (d : α) (P : Nat → α → Prop) : ∀ n : Nat, (∀ i, i < n → ∃ x, P i x) → ∃ l : List α, l.length = n ∧ ∀ i, i < n → P i (l.getD i d)
  | 0, _ => ⟨[], rfl, fun i hi => absurd hi (by omega)⟩
  | n + 1, h => by
    obtain ⟨l, hl, hp⟩ := lstP d P n (fun i hi => h i (by omega))
    obtain ⟨x, hx⟩ := h n (by omega)
    refine ⟨l ++ [x], by simp [hl], fun i hi => ?_⟩
    by_cases he : i < n
    · have := hp i he
      have e : (l ++ [x]).getD i d = l.getD i d := by simp [List.getD, List.getElem?_append_left (show i < l.length by omega)]
      rwa [e]
    · obtain rfl : i = n := by omega
      have : (l ++ [x]).getD l.length d = x := by simp
      rw [hl] at this
      rw [this]
      exact hx
theorem open_pcs {k : Nat} {v : Value} {x : DataW H × List MemPlace} (hf : DataW.trod enc Try.prog W 0 (fun _ => true) true k 22 [v] = some x) : ∃ A n c l, v = .slice A n c ∧ Pcs W A n c l := by
  rcases Go.Deep.open_slice Try.underlying22 hf with ⟨hcs, _⟩ | ⟨a, n, c, m, k, D, Pl, hcs, _, hl, hm, hmm, _, hx⟩
  · obtain rfl : v = .slice none 0 0 := by simpa using hcs
    exact ⟨none, 0, 0, [], rfl, Pcs.nil W⟩
  · obtain rfl : v = .slice (some a) n c := by simpa using hcs
    have hmc : m = c := by simpa using hmm
    subst hmc
    have each : ∀ i, i < n → ∃ x : Cl, ∀ j v, x.cells[j]? = some v → W.cell? ((a.add (i * 3)).add j) = some v := by
      intro i hi
      obtain ⟨cs', hc, ht⟩ := hx i (by omega)
      rw [coP_cl] at hc
      obtain ⟨_, hcl, hat⟩ := World.cells?_some hc
      match cs', hcl with
      | [v0, v1, v2], _ =>
        obtain ⟨x, e⟩ := open_cl3 ht
        refine ⟨x, fun j v hv => ?_⟩
        rw [← e] at hv
        have hj : j < 3 := (List.getElem?_eq_some_iff.1 hv).1
        rw [hat j hj]
        exact hv
    obtain ⟨xs, hlen, hxs⟩ := lstP (default : Cl) _ n each
    refine ⟨some a, n, m, xs, rfl, ⟨by rw [flatL_len Cl.cells 3 Cl.cells_len, hlen], hl, hm, (fun h => nomatch h), fun hn => ?_⟩, hlen⟩
    obtain ⟨g, off, spot⟩ := a
    have hspot : spot = none := by
      have := (hxs 0 hn) 0 _ rfl
      have h2 := World.cell?_spot this
      simpa [Addr.add] using h2
    subst hspot
    refine ⟨g, off, rfl, fun j v hv => ?_⟩
    have hj : j < xs.length * 3 := by
      have := (List.getElem?_eq_some_iff.1 hv).1
      rwa [flatL_len Cl.cells 3 Cl.cells_len] at this
    have e : j = (j / 3) * 3 + j % 3 := by omega
    rw [e, flatL_get (default : Cl) Cl.cells 3 Cl.cells_len xs (j / 3) (j % 3) (by omega) (by omega)] at hv
    have := (hxs (j / 3) (by omega)) (j % 3) v hv
    rw [addrP] at this
    rw [e, ← Nat.add_assoc]
    exact this

set_option maxRecDepth 100000 in
theorem open_pg {r : Reach} {b0 : Nat} {v : Value} {d : DataW H} {p : List MemPlace} (hv : Value.okWide Try.prog W r b0 24 v) (h : DataW.Trod enc Try.prog W 0 (fun _ => true) true 24 v d p) :
    ∃ m : Xp, v = m.val ∧ XpIn W m := by
  obtain ⟨cs, rfl, hsz⟩ := okWide_struct Try.underlying24 hv
  rw [coP_pg] at hsz
  obtain ⟨fuel, hf⟩ := h
  obtain ⟨l⟩ := cs
  match l, hsz with
  | [v0, v1], _ =>
    have hf' : DataW.trod enc Try.prog W 0 (fun _ => true) true fuel 24 [v0, v1] = some (d, p) := hf
    obtain ⟨xs, k', _, _, _, hxl, hfld⟩ := DataW.trod_struct Try.underlying24 hf'
    match xs, hxl with
    | [x0, x1], _ =>
      have f0 : DataW.trod enc Try.prog W 0 (fun _ => true) true k' 3 (List.take (Try.prog.cellsOf 3) [v0, v1]) = some x0 := hfld 0 _ rfl
      have f1 : DataW.trod enc Try.prog W 0 (fun _ => true) true k' 22 (List.take (Try.prog.cellsOf 22) [v1]) = some x1 := hfld 1 _ rfl
      rw [coP_int] at f0
      rw [coP_cls] at f1
      obtain ⟨k0, e0, _, w0⟩ := DataW.trod_int Try.underlying3 f0
      obtain ⟨A, n, c, l, e1, hp⟩ := open_pcs f1
      simp at e0
      subst e0 e1
      exact ⟨⟨k0, A, n, c, l⟩, rfl, i64_bd w0, hp⟩
set_option maxRecDepth 100000 in
theorem open_value {r : Reach} {b0 : Nat} {v : Value} {d : DataW H} {p : List MemPlace} (hv : Value.okWide Try.prog W r b0 42 v) (h : DataW.Trod enc Try.prog W 0 (fun _ => true) true 42 v d p) :
    ∃ m : Vl, v = vlV m ∧ True := by
  obtain ⟨cs, rfl, hsz⟩ := okWide_struct Try.underlying42 hv
  rw [coP_vl] at hsz
  obtain ⟨fuel, hf⟩ := h
  obtain ⟨l⟩ := cs
  match l, hsz with
  | [v0, v1], _ =>
    have hf' : DataW.trod enc Try.prog W 0 (fun _ => true) true fuel 42 [v0, v1] = some (d, p) := hf
    obtain ⟨m, e⟩ := open_vl2 hf'
    simp at e
    obtain ⟨e0, e1⟩ := e
    subst e0 e1
    exact ⟨m, rfl, trivial⟩
end
end Go.Proofs.Ytfmfmdiegabobaa

/- page.Set and trothref10.Set answer the same page, or the same error. -/
namespace Go.Proofs.Ytfmfmdiegabobaa
open Go.RowKit

theorem set_any (lsn0 : Int) (A : Option Addr) (n c : Nat) (l : List Cl) (lsn : Int) (x : Cl) (w : World) (h : Pcs w A n c l) :
    Calls Try.prog 17 #[pgV lsn0 A n c, .int .i64 lsn, .string x.key, vlV x.val] w (RetPg (setPg ⟨lsn0, l⟩ lsn x) w) := by
  by_cases hy : (⟨lsn0, l⟩ : Pg).ok ∧ clOk x ∧ 1 ≤ lsn ∧ lsn ≤ 1099511627776
  · cases hr : roomC l x.key with
    | false => rw [setPg_page hy hr]; exact set_full lsn0 A n c l lsn x w h hy hr
    | true => rw [setPg_ok hy hr]; exact set_ok lsn0 A n c l lsn x w h hy hr
  · rw [setPg_arg hy]; exact set_no lsn0 A n c l lsn x w h hy
theorem refSet_any (lsn0 : Int) (A : Option Addr) (n c : Nat) (l : List Cl) (lsn : Int) (x : Cl) (w : World) (h : Pcs w A n c l) :
    Calls Try.prog 18 #[pgV lsn0 A n c, .int .i64 lsn, .string x.key, vlV x.val] w (RetPg (setPg ⟨lsn0, l⟩ lsn x) w) := by
  by_cases hy : (⟨lsn0, l⟩ : Pg).ok ∧ clOk x ∧ 1 ≤ lsn ∧ lsn ≤ 1099511627776
  · cases hr : roomC l x.key with
    | false => rw [setPg_page hy hr]; exact refSet_full lsn0 A n c l lsn x w h hy hr
    | true => rw [setPg_ok hy hr]; exact refSet_ok lsn0 A n c l lsn x w h hy hr
  · rw [setPg_arg hy]; exact refSet_no lsn0 A n c l lsn x w h hy

theorem setPg_len {p : Pg} {lsn : Int} {x : Cl} (h : (setPg p lsn x).2 = 0) : (setPg p lsn x).1.cells.length ≤ 4 := by
  by_cases hy : p.ok ∧ clOk x ∧ 1 ≤ lsn ∧ lsn ≤ 1099511627776
  · cases hr : roomC p.cells x.key with
    | false => rw [setPg_page hy hr] at h; cases h
    | true => rw [setPg_ok hy hr]; exact (setPg_isok hy hr).2.1
  · rw [setPg_arg hy] at h; cases h
theorem setPg_zero {p : Pg} {lsn : Int} {x : Cl} (h : (setPg p lsn x).2 ≠ 0) : (setPg p lsn x).1 = pg0 := by
  by_cases hy : p.ok ∧ clOk x ∧ 1 ≤ lsn ∧ lsn ≤ 1099511627776
  · cases hr : roomC p.cells x.key with
    | false => rw [setPg_page hy hr]
    | true => rw [setPg_ok hy hr] at h; exact absurd rfl h
  · rw [setPg_arg hy]
theorem setPg_small (p : Pg) (lsn : Int) (x : Cl) : (setPg p lsn x).1.cells.length ≤ 4 := by
  by_cases h : (setPg p lsn x).2 = 0
  · exact setPg_len h
  · rw [setPg_zero h]; simp [pg0]
end Go.Proofs.Ytfmfmdiegabobaa

/- a region that draws its order, in which two operations may come up next: both ways; a new variable in memory, and what is stored in it. -/
namespace Go.Proofs.Ytfmfmdiegabobaa
open Go.RowKit

section
variable {P : Program} {Q : Exit → Act → World → Prop} {S : World → Prop} {n : Nat}
/-- One of two operations comes up now. -/
theorem Upto.two {i j : Nat} {oi oj : Oper} {fuel : Nat} {listed : Array Bool} {a : Act} {w : World} {l ri rj : List Oper} (hi : l.drop i = oi :: ri) (hj : l.drop j = oj :: rj) (hc : Region.ready .any l.toArray listed = [i, j]) (hgi : oi.guard = none) (hgj : oj.guard = none)
    (h1 : ∀ K : Act → World → Prop, (∀ a' w', S w' → Upto P l.toArray Q S n fuel (listed.setIfInBounds i true) a' w' → K a' w') → oi.wp P a w K Q)
    (h2 : ∀ K : Act → World → Prop, (∀ a' w', S w' → Upto P l.toArray Q S n fuel (listed.setIfInBounds j true) a' w' → K a' w') → oj.wp P a w K Q) : Upto P l.toArray Q S n (fuel + 1) listed a w := by
  have hi := drop_at hi
  have hj := drop_at hj
  refine ⟨fun h0 => (by rw [h0] at hc; cases hc), fun k hk => ?_⟩
  rw [hc] at hk
  unfold wpOp
  rcases List.mem_cons.1 hk with e | e
  · subst e
    simp only [hi, wanted_plain hgi, if_true]
    exact .inl (h1 _ fun a' w' hS hU => ⟨fun _ => hS, hU⟩)
  · have e : k = j := by simpa using e
    subst e
    simp only [hj, wanted_plain hgj, if_true]
    exact .inl (h2 _ fun a' w' hS hU => ⟨fun _ => hS, hU⟩)
theorem wp_new {o : Oper} {a : Act} {w : World} {K : Act → World → Prop} {t : TypeId} (ho : o.op = .alloc t) {z : Array Value} (hz : ∀ w, (zeroValue t).run P w = .ok (.agg z) w) (h : K (a.put o.dst (.pointer (some ⟨w.heap.size, 0, none⟩))) (w.alloc (.cells z t))) : o.wp P a w K Q := by
  unfold Oper.wp
  rw [exec_allocA ho hz]
  exact h
end
theorem zero_pg (w : World) : (zeroValue 24).run Try.prog w = .ok (.agg #[.int .i64 0, .slice none 0 0]) w := by
  have h : (Try.prog.info? 24).map (fun i => i.zero) = some (some (.agg #[.int .i64 0, .slice none 0 0])) := by kernel_rfl
  cases hi : Try.prog.info? 24 with
  | none => rw [hi] at h; cases h
  | some i =>
    rw [hi] at h
    simp at h
    simp [zeroValue, typeInfo, hi, h]
theorem row_own {w : World} {b k n g : Nat} {e t : TypeId} {v : Value} {xs : List Value} {cs : Array Value} (h : w.ownsRow b e k v n xs) (hb : Bk w g t cs) (he : e ≠ t) (cs' : Array Value) : (w.setRow g cs').ownsRow b e k v n xs :=
  own_stay h (fun q hq => setRow_other w g q cs' (fun eq => by
    obtain ⟨c1, h1⟩ := own_ty h hq
    subst eq
    unfold Bk at hb
    rw [h1] at hb
    injection hb with hb
    injection hb with _ hb
    exact he hb))
theorem row_below {B : Nat} {a w : World} (h : Below B a w) (hB : B ≤ w.heap.size) {g : Nat} (hg : B ≤ g) (cs : Array Value) : Below B a (w.setRow g cs) :=
  h.grown (w' := w.setRow g cs) (row := some g) ⟨rfl, rfl, rfl, by simp [World.setRow], fun k _ hk => setRow_other w g k cs (fun q => hk (by simp [q]))⟩ hB (fun k hk => by simp at hk; omega)
theorem row_bk {w : World} {g : Nat} {t : TypeId} {old : Array Value} (h : Bk w g t old) (cs : Array Value) : Bk (w.setRow g cs) g t cs := setRow_heap w g old cs _ _ h
theorem pg_one (z : Int) (A : Option Addr) (n c : Nat) : (#[Value.int .i64 z, Value.slice A n c] : Array Value).all (·.oneCell') = true := by simp [Value.oneCell']
theorem pg_inf2 (z : Int) (A : Option Addr) (n c : Nat) : (Try.prog.info? 24).map (·.size) = some (#[Value.int .i64 z, Value.slice A n c] : Array Value).size := pg_inf

/-- Behind 'q, e := Set(Copy(p), ..)': the variable's block, and what lies in it. -/
structure GotPg (Wb wx : World) (r : Pg × Nat) (t u : Value) : Prop where
  ex : ∃ X A n c, t = .pointer (some ⟨X, 0, none⟩) ∧ Bk wx X 24 #[.int .i64 r.1.lsn, .slice A n c] ∧ OwnP Wb.heap.size wx A n c r.1.cells ∧ Wb.heap.size ≤ X
  e : u = .int .i64 r.2
  below : Below Wb.heap.size Wb wx
theorem GotPg.of {Wb w6 : World} {r : Pg × Nat} {X n c base : Nat} {A : Option Addr} {old : Array Value} (hb : Bk w6 X 24 old) (ho : OwnP base w6 A n c r.1.cells) (h1 : Wb.heap.size ≤ X) (h2 : Wb.heap.size ≤ base) (h3 : Below Wb.heap.size Wb w6) :
    GotPg Wb (w6.setRow X #[.int .i64 r.1.lsn, .slice A n c]) r (.pointer (some ⟨X, 0, none⟩)) (.int .i64 r.2) :=
  ⟨⟨X, A, n, c, rfl, row_bk hb _, OwnP.lo ⟨row_own ho.own hb (by decide) _, ho.len⟩ h2, h1⟩, rfl, row_below h3 h3.size h1 _⟩
end Go.Proofs.Ytfmfmdiegabobaa

/- trothref10.Decode answers the page of a payload, or the error. -/
namespace Go.Proofs.Ytfmfmdiegabobaa
open Go.RowKit

/-- A block of the call's own behind the page's and its row is written. -/
theorem DW.set {t : TypeId} {w wr : World} {rb g P : Nat} {lsn : Int} {A1 : Option Addr} {n1 c1 : Nat} {L : List Cl} {σ : Sg} (h : DW t w wr rb g P lsn A1 n1 c1 L σ) {C i : Nat} (hC : P < C) (hrow : ∀ q, (Value.slice A1 n1 c1).ownBlock = some q → q ≠ C) (u : Value) : DW t w (wr.setCell ⟨C, i, none⟩ u) rb g P lsn A1 n1 c1 L σ := by
  obtain ⟨h1, h2, h3⟩ := h.ord
  refine ⟨h.ord, h.rd.setNew (by omega) (by omega) _, (Below.heap_setCell wr ⟨C, i, none⟩ _ _ (by show P ≠ C; omega)).trans h.blk, ⟨own_stay h.own.own (fun q hq => Below.heap_setCell wr ⟨C, i, none⟩ _ _ (hrow q hq)), h.own.len⟩, (Below.heap_setCell wr ⟨C, i, none⟩ _ _ (by show w.heap.size ≠ C; omega)).trans h.res, ?_⟩
  exact h.below.setCell (p := ⟨C, i, none⟩) (by show w.heap.size ≤ C; omega) _

theorem DW.zeroR {t : TypeId} {w wr : World} {rb g P : Nat} {lsn : Int} {A1 : Option Addr} {n1 c1 : Nat} {L : List Cl} {σ : Sg} (h : DW t w wr rb g P lsn A1 n1 c1 L σ) (er : Nat) :
    Bk (wr.setRow w.heap.size #[.int .i64 0, .slice none 0 0]) w.heap.size 24 #[.int .i64 0, .slice none 0 0] ∧
    RetPg (pg0, er) w (.returned (.tuple #[pgV 0 none 0 0, .int .i64 er])) (wr.setRow w.heap.size #[.int .i64 0, .slice none 0 0]) ∧
    (∀ u, wr.cell? ⟨rb, 1, none⟩ = some u → (wr.setRow w.heap.size #[.int .i64 0, .slice none 0 0]).cell? ⟨rb, 1, none⟩ = some u) := by
  obtain ⟨h1, h2, h3⟩ := h.ord
  refine ⟨row_bk h.res _, ⟨none, 0, 0, rfl, OwnP.nil _ _, row_below h.below h.below.size (Nat.le_refl _) _⟩, fun u hu => ?_⟩
  exact (World.cell?_of_block (w := wr) (w' := wr.setRow w.heap.size #[.int .i64 0, .slice none 0 0]) (a := ⟨rb, 1, none⟩) (setRow_other wr w.heap.size rb _ (by omega))).trans hu

set_option maxRecDepth 100000 in
set_option maxHeartbeats 8000000 in
theorem rpDec_any (A : Option Addr) (n c : Nat) (l : List Int) (w : World) (h : Byt w A n c l) (hn : n ≤ 100000) :
    Calls Try.prog 14 #[.slice A n c] w (RetPg (decPg l) w) := by
  obtain ⟨W1, hW1⟩ : ∃ W, W = w.alloc (.cells #[.int .i64 0, .slice none 0 0] 24) := ⟨_, rfl⟩
  have B1 : Hid (Below w.heap.size w W1) := Lib.hid (by rw [hW1]; exact (Below.refl _ _).alloc (Nat.le_refl _) _)
  have R1 : Hid (Bk W1 w.heap.size 24 #[.int .i64 0, .slice none 0 0]) := Lib.hid (by rw [hW1]; exact Bk.new w _ _)
  have hs1 : W1.heap.size = w.heap.size + 1 := by rw [hW1, World.size_alloc]
  obtain ⟨g, hg, hrd0⟩ := Rd.new 70 (h.below B1.out) (by omega)
  obtain ⟨W2, hW2⟩ : ∃ W, W = W1.alloc (.cells #[.slice A n c, .int .i64 0] 70) := ⟨_, rfl⟩
  rw [← hW2] at hrd0
  rw [hs1] at hrd0 hg
  have b2 : Below W1.heap.size W1 W2 := by rw [hW2]; exact (Below.refl _ _).alloc (Nat.le_refl _) _
  have hs2 : W2.heap.size = W1.heap.size + 1 := by rw [hW2, World.size_alloc]
  have HW2 := Lib.hid hW2
  have HW := Lib.hid hW1
  obtain ⟨⟨lsn, l1, e1⟩, hN⟩ : ∃ x, pN (l, 0) = x := ⟨_, rfl⟩
  obtain ⟨⟨cnt, l2, e2⟩, hM⟩ : ∃ x, pNum 4 (l1, e1) = x := ⟨_, rfl⟩
  have hcnt := pNum_rngP 4 (by omega) (l1, e1)
  rw [hM] at hcnt
  simp only at hcnt
  obtain ⟨k0, rfl⟩ := Int.eq_ofNat_of_zero_le hcnt.1
  have HP : Hid (pPg (l, 0) = (⟨lsn, (pRep pCl (l2, e2) k0).1⟩, (pRep pCl (l2, e2) k0).2)) := Lib.hid (by
    unfold pPg pList pBind
    rw [hN]
    simp only
    rw [hM]
    rfl)
  have HN := Lib.hid hN
  have HM := Lib.hid hM
  clear h hW1 hN hM hW2
  go_enter Try.func14, Try.ntmps14
  go_upto_region 2 with fail
  rw [← HW.out, ← HW2.out]
  have hrd := hrd0
  have C2 := dNum 1099511627776 (by omega) hrd
  rw [show pNum 1099511627776 (l, 0) = (lsn, (l1, e1)) from HN.out] at C2
  have C2 := Lib.hid C2
  have B2 := Lib.hid (Below.then B1.out b2)
  have R2 := Lib.hid (R1.out.bel b2 R1.out.lt)
  have hrlt := hrd.lt
  clear hrd hrd0 b2
  go_wp2_with fail
  refine C2.out.mono ?_
  rintro e w3 ⟨rfl, hr3, g3⟩
  have D4 : Hid (DW 70 w (w3.alloc (.cells #[.int .i64 lsn, .slice none 0 0] 24)) (w.heap.size + 1) g w3.heap.size lsn none 0 0 [] (l1, e1)) := Lib.hid (by
    have b3 : Below w.heap.size w w3 := B2.out.grown g3 B2.out.size (fun k hk => by injection hk with hk; omega)
    have ha : Below w3.heap.size w3 (w3.alloc (.cells #[.int .i64 lsn, .slice none 0 0] 24)) := (Below.refl _ _).alloc (Nat.le_refl _) _
    exact ⟨⟨by omega, hg, Nat.lt_of_lt_of_le hrlt g3.size⟩, hr3.alloc _, Bk.new w3 _ _, OwnP.nil _ _, (R2.out.grow g3 (fun q => by injection q with q; omega)).bel ha (by have := R2.out.lt; have := g3.size; omega), Below.then b3 ha⟩)
  obtain ⟨P, hP⟩ : ∃ P, w3.heap.size = P := ⟨_, rfl⟩
  clear hr3 g3 C2 R2
  go_upto_region 3 with fail
  generalize hW4 : w3.alloc (.cells #[.int .i64 lsn, .slice none 0 0] 24) = W4 at D4 ⊢
  rw [hP] at D4
  (try rw [hP])
  clear hW4 hP
  have C4 := dNum 4 (by omega) D4.out.rd
  rw [HM.out] at C4
  have C4 := Lib.hid C4
  go_wp2_with fail
  refine C4.out.mono ?_
  rintro e w5 ⟨rfl, hr5, g5⟩
  have D5 := Lib.hid (D4.out.read (σ' := (l2, e2)) hr5 g5)
  clear hr5 g5 C4 D4
  go_wp2_with fail
  go_loopw [7] (fun y wr => ∃ (k : Nat) (A1 : Option Addr) (n1 c1 : Nat), k ≤ k0 ∧ y = .int .i64 k ∧ DW 70 w wr (w.heap.size + 1) g P lsn A1 n1 c1 (pRep pCl (l2, e2) k).1 (pRep pCl (l2, e2) k).2) (fun y _ => k0 - (intOf y).toNat)
  case atStart => exact ⟨0, none, 0, 0, Nat.zero_le _, rfl, D5.out⟩
  case round =>
    obtain ⟨k, A1, n1, c1, hk, rfl, hd⟩ := hrel
    have D := Lib.hid hd
    have hn1 : n1 ≤ 4 := by rw [← hd.own.len, pRep_len]; omega
    clear hd D5
    by_cases hlt : k < k0
    · have hlt' : (k : Int) < (k0 : Int) := by omega
      obtain ⟨⟨L, σ⟩, hσ⟩ : ∃ x, pRep pCl (l2, e2) k = x := ⟨_, rfl⟩
      obtain ⟨⟨ck, m1, x1⟩, hT⟩ : ∃ x, pText 16 (σ.1, σ.2) = x := ⟨_, rfl⟩
      obtain ⟨⟨f, m2, x2⟩, hF⟩ : ∃ x, pFlag (m1, x1) = x := ⟨_, rfl⟩
      have hpk : pRep pCl (l2, e2) (k + 1) = ((pRep pCl (l2, e2) k).1 ++ [(pCl (pRep pCl (l2, e2) k).2).1], (pCl (pRep pCl (l2, e2) k).2).2) := rfl
      rw [hσ] at D hpk
      simp only at D hpk
      have HPK0 := Lib.hid hpk
      have HT := Lib.hid hT
      have HF := Lib.hid hF
      have CT := dText 16 (by omega) D.out.rd
      rw [hT] at CT
      have CT := Lib.hid CT
      clear hσ hpk hT hF
      go_wp2_with fail
      refine CT.out.mono ?_
      rintro e w6 ⟨rfl, hr6, g6⟩
      have d6 := D.out.read (σ' := (m1, x1)) hr6 g6
      have HLT : Hid (∀ q, (Value.slice A1 n1 c1).ownBlock = some q → q < w6.heap.size) := Lib.hid (fun q hq => (d6.own.own.lt q hq).2)
      have hPC : P < w6.heap.size := d6.size
      have hrC : (w.heap.size + 1) < w6.heap.size := by have := d6.ord; omega
      have D7 := Lib.hid (d6.new ((Below.refl w6.heap.size w6).alloc (Nat.le_refl _) (.cells #[.string ck, .bool false, .string ⟨#[]⟩] 54)))
      have K7 : Hid (Bk (w6.alloc (.cells #[.string ck, .bool false, .string ⟨#[]⟩] 54)) w6.heap.size 54 #[.string ck, .bool false, .string ⟨#[]⟩]) := Lib.hid (Bk.new w6 _ _)
      clear hr6 g6 d6 CT D
      go_upto_region 8 with fail
      generalize hW7 : w6.alloc (.cells #[.string ck, .bool false, .string ⟨#[]⟩] 54) = W7 at D7 K7 ⊢
      clear hW7
      have CF := dFlag D7.out.rd
      simp only at CF
      rw [HF.out] at CF
      have CF := Lib.hid CF
      go_wp2_with fail
      refine CF.out.mono ?_
      rintro e w8 ⟨rfl, hr8, g8⟩
      have D8 := Lib.hid (D7.out.read (σ' := (m2, x2)) hr8 g8)
      have K8 := Lib.hid (K7.out.grow g8 (fun q => by injection q with q; omega))
      clear hr8 g8 CF D7 K7
      cases f with
      | false =>
        have HPK : Hid (pRep pCl (l2, e2) (k + 1) = (L ++ [⟨ck, ⟨false, ⟨#[]⟩⟩⟩], (m2, x2))) := Lib.hid (by
          rw [HPK0.out]
          unfold pCl pVl
          rw [show pText 16 σ = (ck, (m1, x1)) from HT.out]
          simp only
          rw [HF.out]
          rfl)
        clear HPK0
        have D7 := Lib.hid (D8.out.new ((Below.refl w8.heap.size w8).alloc (Nat.le_refl _) (.cells #[.string ck, .bool false, .string ⟨#[]⟩] 54)))
        have K7 := Lib.hid (one_pcs (x := ⟨ck, ⟨false, ⟨#[]⟩⟩⟩) (Bk.new w8 54 #[.string ck, .bool false, .string ⟨#[]⟩]))
        have y0 := K8.out.cell 0
        have y1 := K8.out.cell 1
        have y2 := K8.out.cell 2
        have q1 := D8.out.blk.cell 1
        simp only [List.getElem?_toArray, List.getElem?_cons_zero, List.getElem?_cons_succ] at y0 y1 y2 q1
        go_wp2_with (at_builtin; refine wpList_app_cells rfl _ _ rfl (P + 1) rfl rfl D7.out.own rfl K7.out (by omega) (by have := D7.out.size; omega) ?_)
        intro A' c' wz k1 k2
        obtain ⟨hfz, hcz⟩ := D7.out.frz k2
        have DZ := Lib.hid (D7.out.app k1 k2)
        clear k1 k2 D7 K7 y0 y1 y2 q1
        go_wp2_with fail
        go_roundw
        case rel => exact ⟨k + 1, A', n1 + 1, c', by omega, by go_num, by rw [HPK.out]; exact DZ.out⟩
        case measure => simp [intOf]; omega
      | true =>
        obtain ⟨⟨dd, m3, x3⟩, hD⟩ : ∃ x, pText 32 (m2, x2) = x := ⟨_, rfl⟩
        have HPK : Hid (pRep pCl (l2, e2) (k + 1) = (L ++ [⟨ck, ⟨true, dd⟩⟩], (m3, x3))) := Lib.hid (by
          rw [HPK0.out]
          unfold pCl pVl
          rw [show pText 16 σ = (ck, (m1, x1)) from HT.out]
          simp only
          rw [HF.out]
          simp only [if_true]
          rw [hD])
        have CD := dText 32 (by omega) D8.out.rd
        simp only at CD
        rw [hD] at CD
        have CD := Lib.hid CD
        clear hD HPK0
        go_wp2_with fail
        refine CD.out.mono ?_
        rintro e w9 ⟨rfl, hr9, g9⟩
        have D9 := Lib.hid (D8.out.read (σ' := (m3, x3)) hr9 g9)
        have K9 := Lib.hid (K8.out.grow g9 (fun q => by injection q with q; omega))
        have y1 := K9.out.cell 1
        have y2 := K9.out.cell 2
        have t1 := K9.out.frz 1
        have t2 := K9.out.frz 2
        simp only [List.getElem?_toArray, List.getElem?_cons_zero, List.getElem?_cons_succ] at y1 y2
        clear hr9 g9 CD D8 K8
        go_upto_region 10 with fail
        obtain ⟨W10, hW10⟩ : ∃ W, W = (w9.setCell ⟨w6.heap.size, 1, none⟩ (.bool true)).setCell ⟨w6.heap.size, 2, none⟩ (.string dd) := ⟨_, rfl⟩
        rw [← hW10]
        have D10 : Hid (DW 70 w W10 (w.heap.size + 1) g P lsn A1 n1 c1 L (m3, x3)) := Lib.hid (by
          rw [hW10]
          exact (D9.out.set hPC (fun q hq => Nat.ne_of_lt (HLT.out q hq)) _).set hPC (fun q hq => Nat.ne_of_lt (HLT.out q hq)) _)
        have K10 : Hid (Bk W10 w6.heap.size 54 #[.string ck, .bool true, .string dd]) := Lib.hid (by rw [hW10]; simpa using (K9.out.setc 1 (.bool true)).setc 2 (.string dd))
        clear hW10 D9 K9 y1 y2 t1 t2
        have D7 := Lib.hid (D10.out.new ((Below.refl W10.heap.size W10).alloc (Nat.le_refl _) (.cells #[.string ck, .bool true, .string dd] 54)))
        have K7 := Lib.hid (one_pcs (x := ⟨ck, ⟨true, dd⟩⟩) (Bk.new W10 54 #[.string ck, .bool true, .string dd]))
        have y0 := K10.out.cell 0
        have y1 := K10.out.cell 1
        have y2 := K10.out.cell 2
        have q1 := D10.out.blk.cell 1
        simp only [List.getElem?_toArray, List.getElem?_cons_zero, List.getElem?_cons_succ] at y0 y1 y2 q1
        go_wp2_with (at_builtin; refine wpList_app_cells rfl _ _ rfl (P + 1) rfl rfl D7.out.own rfl K7.out (by omega) (by have := D7.out.size; omega) ?_)
        intro A' c' wz k1 k2
        obtain ⟨hfz, hcz⟩ := D7.out.frz k2
        have DZ := Lib.hid (D7.out.app k1 k2)
        clear k1 k2 D7 K7 y0 y1 y2 q1
        go_wp2_with fail
        go_roundw
        case rel => exact ⟨k + 1, A', n1 + 1, c', by omega, by go_num, by rw [HPK.out]; exact DZ.out⟩
        case measure => simp [intOf]; omega
    · obtain rfl : k = k0 := by omega
      obtain ⟨⟨L, σ1, σ2⟩, hL⟩ : ∃ x, pRep pCl (l2, e2) k = x := ⟨_, rfl⟩
      rw [hL] at D
      simp only at D
      have HPP := HP.out
      rw [hL] at HPP
      simp only at HPP
      have HPP := Lib.hid HPP
      obtain ⟨_, _, _, _, _, he1, _⟩ := D.out.rd.byt
      simp only at he1
      clear hL HP
      have r0 := D.out.res.frz 0
      have r1 := D.out.res.frz 1
      have z0 := D.out.res.cell 0
      have z1 := D.out.res.cell 1
      have p0 := D.out.blk.cell 0
      have p1 := D.out.blk.cell 1
      simp only [List.getElem?_toArray, List.getElem?_cons_zero, List.getElem?_cons_succ] at z0 z1 p0 p1
      by_cases he : σ2 = 0
      · subst he
        have hpcs := D.out.own.pcs
        have CI := may10_any lsn A1 n1 c1 L wr hpcs
        clear hpcs
        by_cases hok : (⟨lsn, L⟩ : Pg).ok
        · rw [decide_eq_true hok] at CI
          have CI := Lib.hid CI
          have E : Hid (decPg l = (⟨lsn, L⟩, 0)) := Lib.hid (by
            rw [decPg_ok (by rw [HPP.out]) (by rw [HPP.out]; exact hok), HPP.out])
          clear hok z0 z1 r0 r1
          go_wp2_with fail
          refine CI.out.mono ?_
          rintro e w9 ⟨rfl, b9⟩
          have D9 := Lib.hid (D.out.new b9)
          have r0 := D9.out.res.frz 0
          have r1 := D9.out.res.frz 1
          have z0 := D9.out.res.cell 0
          have z1 := D9.out.res.cell 1
          have q0 := D9.out.blk.cell 0
          have q1 := D9.out.blk.cell 1
          simp only [List.getElem?_toArray, List.getElem?_cons_zero, List.getElem?_cons_succ] at z0 z1 q0 q1
          have FN := Lib.hid D9.out.fin
          clear b9 CI p0 p1
          go_wp2_with fail
          (try simp only [Exit.inBlock, Exit.then])
          refine bodyPost_ret (results_cellT rfl _ _ w.heap.size 24 _ _ rfl FN.out.1 Try.underlying24 rfl pg_inf) rfl ?_
          rw [E.out]
          exact FN.out.2
        · rw [decide_eq_false hok] at CI
          have CI := Lib.hid CI
          have E : Hid (decPg l = (pg0, 11)) := Lib.hid (decPg_no (by rw [HPP.out]) (by rw [HPP.out]; exact hok))
          clear hok z0 z1 r0 r1
          go_wp2_with fail
          refine CI.out.mono ?_
          rintro e w9 ⟨rfl, b9⟩
          have D9 := Lib.hid (D.out.new b9)
          have r0 := D9.out.res.frz 0
          have r1 := D9.out.res.frz 1
          have z0 := D9.out.res.cell 0
          have z1 := D9.out.res.cell 1
          simp only [List.getElem?_toArray, List.getElem?_cons_zero, List.getElem?_cons_succ] at z0 z1
          have FN := Lib.hid (D9.out.zero 11)
          clear b9 CI p0 p1
          go_wp2_with fail
          (try simp only [Exit.inBlock, Exit.then])
          refine bodyPost_ret (results_cellT rfl _ _ w.heap.size 24 _ _ rfl FN.out.1 Try.underlying24 rfl pg_inf) rfl ?_
          rw [E.out]
          exact FN.out.2
      · have hz : ((σ2 : Int) != 0) = true := by simp; omega
        have E : Hid (decPg l = (pg0, σ2)) := Lib.hid (by
          rw [decPg_err (by rw [HPP.out]; exact he), HPP.out])
        have FN := Lib.hid (D.out.zeroR σ2)
        have HE1 := Lib.hid he1
        clear he p0 p1 r0 r1 z0 z1
        go_wp2_with fail
        have hS0 : wr.drew.cell? ⟨(w.heap.size + 1), 1, none⟩ = some (.int .i64 σ2) := he1
        refine wp_region_noPanic ?_
        refine upto_start (fun w' => w'.cell? ⟨(w.heap.size + 1), 1, none⟩ = some (.int .i64 σ2)) 6 (by kernel_rfl) ?_
        change Upto _ _ _ _ _ 7 _ _ _
        refine Upto.take (i := 0) (v := ?_) rfl (by kernel_rfl) (fun _ _ _ h => h) rfl (fun w' hS => ?_) hS0 ?_
        rotate_left
        · (try dsimp only at hS)
          (try go_split_ands)
          go_simp
          (try with_reducible rfl)
        simp only [Act.put, List.setIfInBounds_toArray, List.set_cons_zero, List.set_cons_succ]
        refine Upto.take (i := 1) (v := ?_) rfl (by kernel_rfl) (fun _ _ _ h => h) rfl (fun w' hS => ?_) hS0 ?_
        rotate_left
        · (try dsimp only at hS)
          (try go_split_ands)
          go_simp
          (try with_reducible rfl)
        simp only [Act.put, List.setIfInBounds_toArray, List.set_cons_zero, List.set_cons_succ]
        refine Upto.take (i := 2) (v := ?_) rfl (by kernel_rfl) (fun _ _ _ h => h) rfl (fun w' hS => ?_) hS0 ?_
        rotate_left
        · (try dsimp only at hS)
          (try go_split_ands)
          go_simp
          (try with_reducible rfl)
        simp only [Act.put, List.setIfInBounds_toArray, List.set_cons_zero, List.set_cons_succ]
        refine Upto.take (i := 3) (v := ?_) rfl (by kernel_rfl) (fun _ _ _ h => h) rfl (fun w' hS => ?_) hS0 ?_
        rotate_left
        · (try dsimp only at hS)
          (try go_split_ands)
          go_simp
          (try with_reducible rfl)
        simp only [Act.put, List.setIfInBounds_toArray, List.set_cons_zero, List.set_cons_succ]
        refine Upto.take (i := 4) (v := ?_) rfl (by kernel_rfl) (fun _ _ _ h => h) rfl (fun w' hS => ?_) hS0 ?_
        rotate_left
        · (try dsimp only at hS)
          (try go_split_ands)
          go_simp
          (try with_reducible rfl)
        simp only [Act.put, List.setIfInBounds_toArray, List.set_cons_zero, List.set_cons_succ]
        refine Upto.law (i := 5) rfl (by kernel_rfl) rfl (fun K hK => ?_)
        have DD := D.out.new (w' := wr.drew) (Below.refl _ _).drew
        have FZ := Lib.hid (DD.zeroR σ2)
        refine wp_store_row 24 _ _ (by rfl) w.heap.size #[.int .i64 0, .slice none 0 0] (by rfl) (by rfl) 24 _ DD.res pg_inf rfl (pg_one _ _ _ _) ?_
        refine hK _ _ (FZ.out.2.2 _ he1) ?_
        clear hK DD
        simp only [Act.put, List.setIfInBounds_toArray, List.set_cons_zero, List.set_cons_succ]
        refine Upto.tail rfl (by kernel_rfl) ?_
        simp only [List.drop_succ_cons, List.drop_zero]
        go_wp2_with fail
        refine NoPanic.normal ?_
        go_wp2_with fail
        (try simp only [Exit.inBlock, Exit.then])
        refine bodyPost_ret (results_cellT rfl _ _ w.heap.size 24 _ _ rfl FZ.out.1 Try.underlying24 rfl pg_inf) rfl ?_
        rw [E.out]
        exact FZ.out.2.1
end Go.Proofs.Ytfmfmdiegabobaa
