/- What it says: contracts and plain mathematics that the laws' walks use, 8 of 10: each part's own remark says what; no condition. -/
import Derived.Test.YtomhofppcogojaaPs4
import Derived.Test.YtomhofppcogojaaPs5
import Derived.Test.YtomhofppcogojaaPs6
import Derived.Test.YtomhofppcogojaaPs7
import Derived.Deep.Slices
import Derived.ChangeArms
import Derived.Laws.Tables
import Derived.Deep.CutRange
import Derived.LoopTactic

set_option linter.unusedSimpArgs false
set_option linter.unusedVariables false
set_option linter.deprecated false
set_option linter.unusedSectionVars false
set_option linter.all false

/- trothref10.Set answers the page with another value of a key, or the error. -/
namespace Go.Proofs.Ytomhofppcogojaa
open Go.RowKit

/-- What is out behind i cells. -/
def outC (l : List Cl) (x : Cl) (i : Nat) : List Cl := if i ≤ atC l x.key then l.take i else l.take (atC l x.key) ++ [x] ++ (l.take i).drop (behC l x.key)
theorem takeC_succ (l : List Cl) (i : Nat) (h : i < l.length) : l.take (i + 1) = l.take i ++ [l.getD i default] := by
  rw [List.take_add_one, List.getElem?_eq_getElem h, List.getD_eq_getElem?_getD, List.getElem?_eq_getElem h]
  rfl
theorem outC_zero (l : List Cl) (x : Cl) : outC l x 0 = [] := by unfold outC; rw [if_pos (Nat.zero_le _)]; rfl
theorem outC_lo {l : List Cl} {x : Cl} {i : Nat} (h : i < atC l x.key) : outC l x (i + 1) = outC l x i ++ [l.getD i default] := by
  have := atC_le l x.key
  unfold outC
  rw [if_pos (by omega), if_pos (by omega), takeC_succ l i (by omega)]
theorem outC_hi {l : List Cl} {x : Cl} {i : Nat} (h : atC l x.key < i) (hi : i < l.length) : outC l x (i + 1) = outC l x i ++ [l.getD i default] := by
  have hb : behC l x.key ≤ i := by unfold behC; split <;> omega
  unfold outC
  rw [if_neg (by omega), if_neg (by omega), takeC_succ l i hi, List.drop_append_of_le_length (by rw [List.length_take]; omega), List.append_assoc (l.take (atC l x.key) ++ [x])]
theorem outC_at {l : List Cl} {x : Cl} (h : atC l x.key < l.length) (ha : isAt l x.key = true) : outC l x (atC l x.key + 1) = outC l x (atC l x.key) ++ [x] := by
  have hb : behC l x.key = atC l x.key + 1 := by unfold behC; rw [if_pos ha]
  unfold outC
  rw [if_neg (by omega), if_pos (Nat.le_refl _), hb, List.drop_eq_nil_of_le (by rw [List.length_take]; omega), List.append_nil]
theorem outC_new {l : List Cl} {x : Cl} (h : atC l x.key < l.length) (ha : isAt l x.key = false) : outC l x (atC l x.key + 1) = (outC l x (atC l x.key) ++ [x]) ++ [l.getD (atC l x.key) default] := by
  have hb : behC l x.key = atC l x.key := by unfold behC; rw [if_neg (by rw [ha]; simp)]
  unfold outC
  rw [if_neg (by omega), if_pos (Nat.le_refl _), hb, takeC_succ l _ h, List.drop_append_of_le_length (by rw [List.length_take]; omega), List.drop_eq_nil_of_le (by rw [List.length_take]; omega), List.nil_append]
theorem outC_fin {l : List Cl} {x : Cl} (h : atC l x.key < l.length) : outC l x l.length = setC l x := by
  unfold outC setC
  rw [if_neg (by omega), List.take_length]
theorem outC_end {l : List Cl} {x : Cl} (h : atC l x.key = l.length) : outC l x l.length ++ [x] = setC l x := by
  have ha : isAt l x.key = false := decide_eq_false (fun q => by omega)
  have hb : behC l x.key = atC l x.key := by unfold behC; rw [if_neg (by rw [ha]; simp)]
  unfold outC setC
  rw [if_pos (by omega), hb, h, List.drop_length, List.append_nil]
theorem outC_len {l : List Cl} {x : Cl} (i : Nat) : (outC l x i).length ≤ l.length + 1 + l.length := by
  unfold outC
  split
  · rw [List.length_take]; omega
  · simp only [List.length_append, List.length_take, List.length_drop, List.length_singleton]; omega

/-- Where the loop stands: nothing below has turned; the page that is gathered. -/
structure RS (Wk wr : World) (lsn : Int) (A1 : Option Addr) (n1 c1 : Nat) (L : List Cl) : Prop where
  below : Below Wk.heap.size Wk wr
  blk : Bk wr Wk.heap.size 24 #[.int .i64 lsn, .slice A1 n1 c1]
  own : OwnP (Wk.heap.size + 1) wr A1 n1 c1 L
theorem RS.up {Wk wr w' : World} {lsn : Int} {A1 : Option Addr} {n1 c1 : Nat} {L : List Cl} (h : RS Wk wr lsn A1 n1 c1 L) (hb : Below wr.heap.size wr w') : RS Wk w' lsn A1 n1 c1 L :=
  ⟨Below.then h.below hb, h.blk.bel hb h.blk.lt, h.own.below hb⟩
theorem RS.app {Wk wr w' : World} {lsn : Int} {A1 A' : Option Addr} {n1 c1 n' c' : Nat} {L L' : List Cl} (h : RS Wk wr lsn A1 n1 c1 L) (ho : OwnP (Wk.heap.size + 1) w' A' n' c' L') (hg : wr.grownBy w' (Value.slice A1 n1 c1).ownBlock) :
    RS Wk (w'.setCell ⟨Wk.heap.size, 1, none⟩ (.slice A' n' c')) lsn A' n' c' L' := by
  have hb : Bk w' Wk.heap.size 24 #[.int .i64 lsn, .slice A1 n1 c1] := bk_apart h.own.own h.blk (by decide) hg
  refine ⟨(h.below.grown hg h.below.size (fun k hk => by have := (h.own.own.lt k hk).1; omega)).setCell (p := ⟨Wk.heap.size, 1, none⟩) (Nat.le_refl _) _, by simpa using hb.setc 1 (.slice A' n' c'), own_set ho.own hb (by decide), ho.len⟩
theorem RS.frz {Wk wr w' : World} {lsn : Int} {A1 : Option Addr} {n1 c1 : Nat} {L : List Cl} (h : RS Wk wr lsn A1 n1 c1 L) (hg : wr.grownBy w' (Value.slice A1 n1 c1).ownBlock) : w'.frozen? ⟨Wk.heap.size, 1, none⟩ = false ∧ w'.cell? ⟨Wk.heap.size, 1, none⟩ = some (.slice A1 n1 c1) :=
  have hb : Bk w' Wk.heap.size 24 #[.int .i64 lsn, .slice A1 n1 c1] := bk_apart h.own.own h.blk (by decide) hg
  ⟨hb.frz 1, hb.cell 1⟩

/-- What Set has in memory: the page, the value, what it answers. -/
structure SetR (w : World) (r : Nat) (lsn0 : Int) (A : Option Addr) (n c : Nat) (v : Vl) : Prop where
  pg : Bk w r 24 #[.int .i64 lsn0, .slice A n c]
  vl : Bk w (r + 1) 61 #[.bool v.has, .string v.data]
  out : Bk w (r + 2) 24 #[.int .i64 0, .slice none 0 0]
theorem SetR.below {w w' : World} {r B : Nat} {lsn0 : Int} {A : Option Addr} {n c : Nat} {v : Vl} (h : SetR w r lsn0 A n c v) (hb : Below B w w') (hB : w.heap.size ≤ B) : SetR w' r lsn0 A n c v :=
  ⟨h.pg.bel hb (Nat.lt_of_lt_of_le h.pg.lt hB), h.vl.bel hb (Nat.lt_of_lt_of_le h.vl.lt hB), h.out.bel hb (Nat.lt_of_lt_of_le h.out.lt hB)⟩
theorem SetR.new (w : World) (lsn0 : Int) (A : Option Addr) (n c : Nat) (v : Vl) : SetR (((w.alloc (.cells #[.int .i64 lsn0, .slice A n c] 24)).alloc (.cells #[.bool v.has, .string v.data] 61)).alloc (.cells #[.int .i64 0, .slice none 0 0] 24)) w.heap.size lsn0 A n c v := by
  obtain ⟨w1, h1⟩ : ∃ x, x = w.alloc (.cells #[.int .i64 lsn0, .slice A n c] 24) := ⟨_, rfl⟩
  obtain ⟨w2, h2⟩ : ∃ y, y = w1.alloc (.cells #[.bool v.has, .string v.data] 61) := ⟨_, rfl⟩
  obtain ⟨w3, h3⟩ : ∃ y, y = w2.alloc (.cells #[.int .i64 0, .slice none 0 0] 24) := ⟨_, rfl⟩
  rw [← h1, ← h2, ← h3]
  have s1 : w1.heap.size = w.heap.size + 1 := by rw [h1, World.size_alloc]
  have s2 : w2.heap.size = w.heap.size + 2 := by rw [h2, World.size_alloc, s1]
  have b2 : Below w1.heap.size w1 w2 := by rw [h2]; exact (Below.refl _ _).alloc (Nat.le_refl _) _
  have b3 : Below w2.heap.size w2 w3 := by rw [h3]; exact (Below.refl _ _).alloc (Nat.le_refl _) _
  have k1 : Bk w1 w.heap.size 24 #[.int .i64 lsn0, .slice A n c] := by rw [h1]; exact Bk.new w _ _
  have k2 : Bk w2 (w.heap.size + 1) 61 #[.bool v.has, .string v.data] := by rw [h2, ← s1]; exact Bk.new w1 _ _
  have k3 : Bk w3 (w.heap.size + 2) 24 #[.int .i64 0, .slice none 0 0] := by rw [h3, ← s2]; exact Bk.new w2 _ _
  exact ⟨(k1.bel b2 (by omega)).bel b3 (by omega), k2.bel b3 (by omega), k3⟩
theorem setR_below (w : World) (lsn0 : Int) (A : Option Addr) (n c : Nat) (v : Vl) : Below w.heap.size w (((w.alloc (.cells #[.int .i64 lsn0, .slice A n c] 24)).alloc (.cells #[.bool v.has, .string v.data] 61)).alloc (.cells #[.int .i64 0, .slice none 0 0] 24)) :=
  (((Below.refl _ _).alloc (Nat.le_refl _) _).alloc (by simp) _).alloc (by simp; omega) _
theorem SetR.zero {w w' : World} {lsn0 : Int} {A : Option Addr} {n c : Nat} {v : Vl} (h : SetR w' w.heap.size lsn0 A n c v) (hb : Below w.heap.size w w') (er : Nat) :
    Bk ((w'.setCell ⟨w.heap.size + 2, 0, none⟩ (.int .i64 0)).setCell ⟨w.heap.size + 2, 1, none⟩ (.slice none 0 0)) (w.heap.size + 2) 24 #[.int .i64 0, .slice none 0 0] ∧
    RetPg (pg0, er) w (.returned (.tuple #[pgV 0 none 0 0, .int .i64 er])) ((w'.setCell ⟨w.heap.size + 2, 0, none⟩ (.int .i64 0)).setCell ⟨w.heap.size + 2, 1, none⟩ (.slice none 0 0)) := by
  refine ⟨by simpa using (h.out.setc 0 (.int .i64 0)).setc 1 (.slice none 0 0), none, 0, 0, rfl, OwnP.nil _ _, ?_⟩
  exact (hb.setCell (p := ⟨w.heap.size + 2, 0, none⟩) (by simp) _).setCell (p := ⟨w.heap.size + 2, 1, none⟩) (by simp) _

end Go.Proofs.Ytomhofppcogojaa

/- page.Decode answers the page of a payload, or the error. -/
namespace Go.Proofs.Ytomhofppcogojaa
open Go.RowKit

theorem pNum_rngP (most : Int) (hm : 0 ≤ most) (σ : Sg) : 0 ≤ (pNum most σ).1 ∧ (pNum most σ).1 ≤ most := by
  unfold pNum pPrim numI
  split
  · exact ⟨Int.le_refl _, hm⟩
  · split
    · exact ⟨Int.le_refl _, hm⟩
    · rename_i q
      show (0 : Int) ≤ ((numF σ.1 most).1 : Int) ∧ ((numF σ.1 most).1 : Int) ≤ most
      refine ⟨by omega, ?_⟩
      unfold numF at q ⊢
      split
      · simpa using hm
      · split
        · simpa using hm
        · rename_i h
          simp only [not_or, Int.not_lt] at h
          exact h.2

/-- Where Decode stands: the reader's block, the page's; what it answers; nothing old has turned. -/
structure DW (t : TypeId) (w wr : World) (rb g P : Nat) (lsn : Int) (A1 : Option Addr) (n1 c1 : Nat) (L : List Cl) (σ : Sg) : Prop where
  ord : w.heap.size < rb ∧ g < rb ∧ rb < P
  rd : Rd wr t rb g σ.1 σ.2
  blk : Bk wr P 24 #[.int .i64 lsn, .slice A1 n1 c1]
  own : OwnP (P + 1) wr A1 n1 c1 L
  res : Bk wr w.heap.size 24 #[.int .i64 0, .slice none 0 0]
  below : Below w.heap.size w wr
theorem DW.size {t : TypeId} {w wr : World} {rb g P : Nat} {lsn : Int} {A1 : Option Addr} {n1 c1 : Nat} {L : List Cl} {σ : Sg} (h : DW t w wr rb g P lsn A1 n1 c1 L σ) : P < wr.heap.size := h.blk.lt
/-- A reading. -/
theorem DW.read {t : TypeId} {w wr w' : World} {rb g P : Nat} {lsn : Int} {A1 : Option Addr} {n1 c1 : Nat} {L : List Cl} {σ σ' : Sg} (h : DW t w wr rb g P lsn A1 n1 c1 L σ) (hr : Rd w' t rb g σ'.1 σ'.2) (hg : wr.grownBy w' (some rb)) : DW t w w' rb g P lsn A1 n1 c1 L σ' := by
  obtain ⟨h1, h2, h3⟩ := h.ord
  refine ⟨h.ord, hr, h.blk.grow hg (fun q => by injection q with q; omega), ⟨own_stay h.own.own (fun q hq => hg.block q (h.own.own.lt q hq).2 (fun e => by injection e with e; have := (h.own.own.lt q hq).1; omega)), h.own.len⟩, h.res.grow hg (fun q => by injection q with q; omega), ?_⟩
  exact h.below.grown hg h.below.size (fun k hk => by injection hk with hk; omega)
/-- New blocks. -/
theorem DW.new {t : TypeId} {w wr w' : World} {rb g P : Nat} {lsn : Int} {A1 : Option Addr} {n1 c1 : Nat} {L : List Cl} {σ : Sg} (h : DW t w wr rb g P lsn A1 n1 c1 L σ) (hb : Below wr.heap.size wr w') : DW t w w' rb g P lsn A1 n1 c1 L σ := by
  have hg : wr.grownBy w' none := ⟨hb.os, hb.tape, hb.output, hb.size, fun k hk _ => hb.block k hk⟩
  exact ⟨h.ord, h.rd.grown hg (fun q => nomatch q) (fun q => nomatch q), h.blk.bel hb h.blk.lt, h.own.below hb, h.res.bel hb h.res.lt, Below.then h.below hb⟩
/-- One cell more. -/
theorem DW.app {t : TypeId} {w wr w' : World} {rb g P : Nat} {lsn : Int} {A1 A' : Option Addr} {n1 c1 n' c' : Nat} {L L' : List Cl} {σ : Sg} (h : DW t w wr rb g P lsn A1 n1 c1 L σ) (ho : OwnP (P + 1) w' A' n' c' L') (hg : wr.grownBy w' (Value.slice A1 n1 c1).ownBlock) :
    DW t w (w'.setCell ⟨P, 1, none⟩ (.slice A' n' c')) rb g P lsn A' n' c' L' σ := by
  obtain ⟨h1, h2, h3⟩ := h.ord
  have hlo : ∀ k, (Value.slice A1 n1 c1).ownBlock = some k → P + 1 ≤ k := fun k hk => (h.own.own.lt k hk).1
  have ne : ∀ k, k ≤ P → some k ≠ (Value.slice A1 n1 c1).ownBlock := fun k hk q => by have := hlo k q.symm; omega
  have hb : Bk w' P 24 #[.int .i64 lsn, .slice A1 n1 c1] := h.blk.grow hg (fun q => ne P (Nat.le_refl _) q.symm)
  refine ⟨h.ord, (h.rd.grown hg (ne rb (by omega)) (ne g (by omega))).setNew (by omega) (by omega) _, by simpa using hb.setc 1 (.slice A' n' c'), ⟨own_set ho.own hb (by decide), ho.len⟩, ?_, ?_⟩
  · exact (Below.heap_setCell w' ⟨P, 1, none⟩ _ _ (by show w.heap.size ≠ P; omega)).trans (h.res.grow hg (fun q => ne w.heap.size (by omega) q.symm))
  · exact (h.below.grown hg h.below.size (fun k hk => by have := hlo k hk; omega)).setCell (p := ⟨P, 1, none⟩) (by show w.heap.size ≤ P; omega) _
theorem DW.frz {t : TypeId} {w wr w' : World} {rb g P : Nat} {lsn : Int} {A1 : Option Addr} {n1 c1 : Nat} {L : List Cl} {σ : Sg} (h : DW t w wr rb g P lsn A1 n1 c1 L σ) (hg : wr.grownBy w' (Value.slice A1 n1 c1).ownBlock) : w'.frozen? ⟨P, 1, none⟩ = false ∧ w'.cell? ⟨P, 1, none⟩ = some (.slice A1 n1 c1) := by
  have hb : Bk w' P 24 #[.int .i64 lsn, .slice A1 n1 c1] := h.blk.grow hg (fun q => by have := (h.own.own.lt P q).1; omega)
  exact ⟨hb.frz 1, hb.cell 1⟩
/-- The answers. -/
theorem DW.zero {t : TypeId} {w wr : World} {rb g P : Nat} {lsn : Int} {A1 : Option Addr} {n1 c1 : Nat} {L : List Cl} {σ : Sg} (h : DW t w wr rb g P lsn A1 n1 c1 L σ) (er : Nat) :
    Bk ((wr.setCell ⟨w.heap.size, 0, none⟩ (.int .i64 0)).setCell ⟨w.heap.size, 1, none⟩ (.slice none 0 0)) w.heap.size 24 #[.int .i64 0, .slice none 0 0] ∧
    RetPg (pg0, er) w (.returned (.tuple #[pgV 0 none 0 0, .int .i64 er])) ((wr.setCell ⟨w.heap.size, 0, none⟩ (.int .i64 0)).setCell ⟨w.heap.size, 1, none⟩ (.slice none 0 0)) :=
  ⟨by simpa using (h.res.setc 0 (.int .i64 0)).setc 1 (.slice none 0 0), none, 0, 0, rfl, OwnP.nil _ _, (h.below.setCell (p := ⟨w.heap.size, 0, none⟩) (Nat.le_refl _) _).setCell (p := ⟨w.heap.size, 1, none⟩) (Nat.le_refl _) _⟩
theorem DW.fin {t : TypeId} {w wr : World} {rb g P : Nat} {lsn : Int} {A1 : Option Addr} {n1 c1 : Nat} {L : List Cl} {σ : Sg} (h : DW t w wr rb g P lsn A1 n1 c1 L σ) :
    Bk ((wr.setCell ⟨w.heap.size, 0, none⟩ (.int .i64 lsn)).setCell ⟨w.heap.size, 1, none⟩ (.slice A1 n1 c1)) w.heap.size 24 #[.int .i64 lsn, .slice A1 n1 c1] ∧
    RetPg (⟨lsn, L⟩, 0) w (.returned (.tuple #[pgV lsn A1 n1 c1, .int .i64 0])) ((wr.setCell ⟨w.heap.size, 0, none⟩ (.int .i64 lsn)).setCell ⟨w.heap.size, 1, none⟩ (.slice A1 n1 c1)) := by
  obtain ⟨h1, h2, h3⟩ := h.ord
  exact ⟨by simpa using (h.res.setc 0 (.int .i64 lsn)).setc 1 (.slice A1 n1 c1), A1, n1, c1, rfl, OwnP.lo ⟨own_set (own_set h.own.own h.res (by decide)) (h.res.setc 0 _) (by decide), h.own.len⟩ (by omega), (h.below.setCell (p := ⟨w.heap.size, 0, none⟩) (Nat.le_refl _) _).setCell (p := ⟨w.heap.size, 1, none⟩) (Nat.le_refl _) _⟩

set_option maxRecDepth 100000 in
set_option maxHeartbeats 8000000 in
theorem pgDec_any (A : Option Addr) (n c : Nat) (l : List Int) (w : World) (h : Byt w A n c l) (hn : n ≤ 100000) :
    Calls Try.prog 53 #[.slice A n c] w (RetPg (decPg l) w) := by
  obtain ⟨W1, hW1⟩ : ∃ W, W = w.alloc (.cells #[.int .i64 0, .slice none 0 0] 24) := ⟨_, rfl⟩
  have B1 : Hid (Below w.heap.size w W1) := Lib.hid (by rw [hW1]; exact (Below.refl _ _).alloc (Nat.le_refl _) _)
  have R1 : Hid (Bk W1 w.heap.size 24 #[.int .i64 0, .slice none 0 0]) := Lib.hid (by rw [hW1]; exact Bk.new w _ _)
  have hs1 : W1.heap.size = w.heap.size + 1 := by rw [hW1, World.size_alloc]
  have C := Lib.hid (read_any A n c l W1 (h.below B1.out) (by omega) (by omega))
  have HW := Lib.hid hW1
  obtain ⟨⟨lsn, l1, e1⟩, hN⟩ : ∃ x, pN (l, 0) = x := ⟨_, rfl⟩
  obtain ⟨⟨cnt, l2, e2⟩, hM⟩ : ∃ x, pNum 4 (l1, e1) = x := ⟨_, rfl⟩
  have hcnt := pNum_rngP 4 (by omega) (l1, e1)
  rw [hM] at hcnt
  simp only at hcnt
  obtain ⟨k0, rfl⟩ := Int.eq_ofNat_of_zero_le hcnt.1
  have HP : Hid (pPg (l, 0) = (⟨lsn, (pRep pCl (l2, e2) k0).1⟩, (pRep pCl (l2, e2) k0).2)) := Lib.hid (by
    unfold pPg pList pBind
    rw [hN]
    simp only
    rw [hM]
    rfl)
  have HN := Lib.hid hN
  have HM := Lib.hid hM
  clear h hW1 hN hM
  go_enter Try.func53, Try.ntmps53
  go_upto_region 1 with fail
  rw [← HW.out]
  go_wp2_with fail
  refine C.out.mono ?_
  rintro e w2 ⟨rb, g, rfl, hrb, hg, hrd, b2⟩
  have C2 := sNum 1099511627776 (by omega) hrd
  rw [show pNum 1099511627776 (l, 0) = (lsn, (l1, e1)) from HN.out] at C2
  have C2 := Lib.hid C2
  have B2 := Lib.hid (Below.then B1.out b2)
  have R2 := Lib.hid (R1.out.bel b2 R1.out.lt)
  have hrlt := hrd.lt
  clear hrd b2 C
  go_wp2_with fail
  refine C2.out.mono ?_
  rintro e w3 ⟨rfl, hr3, g3⟩
  have D4 : Hid (DW 120 w (w3.alloc (.cells #[.int .i64 lsn, .slice none 0 0] 24)) rb g w3.heap.size lsn none 0 0 [] (l1, e1)) := Lib.hid (by
    have b3 : Below w.heap.size w w3 := B2.out.grown g3 B2.out.size (fun k hk => by injection hk with hk; omega)
    have ha : Below w3.heap.size w3 (w3.alloc (.cells #[.int .i64 lsn, .slice none 0 0] 24)) := (Below.refl _ _).alloc (Nat.le_refl _) _
    exact ⟨⟨by omega, hg, Nat.lt_of_lt_of_le hrlt g3.size⟩, hr3.alloc _, Bk.new w3 _ _, OwnP.nil _ _, (R2.out.grow g3 (fun q => by injection q with q; omega)).bel ha (by have := R2.out.lt; have := g3.size; omega), Below.then b3 ha⟩)
  obtain ⟨P, hP⟩ : ∃ P, w3.heap.size = P := ⟨_, rfl⟩
  clear hr3 g3 C2 R2
  go_upto_region 3 with fail
  generalize hW4 : w3.alloc (.cells #[.int .i64 lsn, .slice none 0 0] 24) = W4 at D4 ⊢
  rw [hP] at D4
  (try rw [hP])
  clear hW4 hP
  have C4 := sNum 4 (by omega) D4.out.rd
  rw [HM.out] at C4
  have C4 := Lib.hid C4
  go_wp2_with fail
  refine C4.out.mono ?_
  rintro e w5 ⟨rfl, hr5, g5⟩
  have D5 := Lib.hid (D4.out.read (σ' := (l2, e2)) hr5 g5)
  clear hr5 g5 C4 D4
  go_wp2_with fail
  go_loopw [14] (fun y wr => ∃ (k : Nat) (A1 : Option Addr) (n1 c1 : Nat), k ≤ k0 ∧ y = .int .i64 k ∧ DW 120 w wr rb g P lsn A1 n1 c1 (pRep pCl (l2, e2) k).1 (pRep pCl (l2, e2) k).2) (fun y _ => k0 - (intOf y).toNat)
  case atStart => exact ⟨0, none, 0, 0, Nat.zero_le _, rfl, D5.out⟩
  case round =>
    obtain ⟨k, A1, n1, c1, hk, rfl, hd⟩ := hrel
    have D := Lib.hid hd
    have hn1 : n1 ≤ 4 := by rw [← hd.own.len, pRep_len]; omega
    clear hd D5
    by_cases hlt : k < k0
    · have hlt' : (k : Int) < (k0 : Int) := by omega
      go_wp2_with fail
      have hS0 : wr.drew.cell? ⟨P, 1, none⟩ = some (.slice A1 n1 c1) := D.out.blk.cell 1
      refine wp_region_noPanic ?_
      refine upto_start (fun w' => w'.cell? ⟨P, 1, none⟩ = some (.slice A1 n1 c1)) 6 (by kernel_rfl) ?_
      change Upto _ _ _ _ _ 8 _ _ _
      refine Upto.take (i := 0) (v := ?_) rfl (by kernel_rfl) (fun _ _ _ h => h) rfl (fun w' hS => ?_) hS0 ?_
      rotate_left
      · (try dsimp only at hS)
        (try go_split_ands)
        go_simp
        (try with_reducible rfl)
      simp only [Act.put, List.setIfInBounds_toArray, List.set_cons_zero, List.set_cons_succ]
      refine Upto.take (i := 1) (v := ?_) rfl (by kernel_rfl) (fun _ _ _ h => h) rfl (fun w' hS => ?_) hS0 ?_
      rotate_left
      · (try dsimp only at hS)
        (try go_split_ands)
        go_simp
        (try with_reducible rfl)
      simp only [Act.put, List.setIfInBounds_toArray, List.set_cons_zero, List.set_cons_succ]
      refine Upto.take (i := 2) (v := ?_) rfl (by kernel_rfl) (fun _ _ _ h => h) rfl (fun w' hS => ?_) hS0 ?_
      rotate_left
      · (try dsimp only at hS)
        (try go_split_ands)
        go_simp
        (try with_reducible rfl)
      simp only [Act.put, List.setIfInBounds_toArray, List.set_cons_zero, List.set_cons_succ]
      have D1 := D.out.new (w' := wr.drew) (Below.refl _ _).drew
      have CT := takeCell_any rb g (pRep pCl (l2, e2) k).2.1 (pRep pCl (l2, e2) k).2.2 wr.drew D1.rd D1.ord.2.1
      refine Upto.law (i := 3) rfl (by kernel_rfl) rfl (fun K hK => ?_)
      refine wp_enter (f := 71) (args := #[.pointer (some ⟨rb, 0, none⟩)]) (by go_simp) CT ?_
      rintro e w6 ⟨rfl, hr6, g6⟩
      have D6 := D1.read (σ' := (pCl (pRep pCl (l2, e2) k).2).2) hr6 g6
      refine ⟨_, rfl, hK _ _ (D6.blk.cell 1) ?_⟩
      clear hK CT hr6 g6 D1 hS0
      obtain ⟨x, hx⟩ : ∃ x, (pCl (pRep pCl (l2, e2) k).2).1 = x := ⟨_, rfl⟩
      have hpk : pRep pCl (l2, e2) (k + 1) = ((pRep pCl (l2, e2) k).1 ++ [(pCl (pRep pCl (l2, e2) k).2).1], (pCl (pRep pCl (l2, e2) k).2).2) := rfl
      rw [hx] at hpk ⊢
      have HPK := Lib.hid hpk
      obtain ⟨ck, ⟨cs, cd⟩⟩ := x
      clear hx hpk
      simp only [Act.put, List.setIfInBounds_toArray, List.set_cons_zero, List.set_cons_succ]
      refine Upto.only (i := 4) rfl (by kernel_rfl) rfl (exec_buildSlice rfl [(0, .agg #[.string ck, .bool cs, .string cd])] (by rfl) (bslice_1 ck cs cd _)) ?_ ?_
      · exact (D6.new ((Below.refl _ w6).alloc (Nat.le_refl _) _)).blk.cell 1
      simp only [Act.put, List.setIfInBounds_toArray, List.set_cons_zero, List.set_cons_succ]
      have d7 := D6.new ((Below.refl w6.heap.size w6).alloc (Nat.le_refl _) (.cells #[.string ck, .bool cs, .string cd] 63))
      have k7 : Bk (w6.alloc (.cells #[.string ck, .bool cs, .string cd] 63)) w6.heap.size 63 #[.string ck, .bool cs, .string cd] := Bk.new w6 _ _
      generalize hW7 : w6.alloc (.cells #[.string ck, .bool cs, .string cd] 63) = W7 at d7 k7 ⊢
      have D7 := Lib.hid d7
      have K7 := Lib.hid (one_pcs (x := ⟨ck, ⟨cs, cd⟩⟩) k7)
      clear d7 k7 hW7 D6
      refine Upto.law (i := 5) rfl (by kernel_rfl) rfl (fun K hK => ?_)
      refine wp_app_cells _ _ (by rfl) (P + 1) rfl (by rfl) D7.out.own (by rfl) K7.out (by omega) (by have := D7.out.size; omega) ?_
      intro A' c' w8 k1 k2
      obtain ⟨hf8, hc8⟩ := D7.out.frz k2
      have D8 := Lib.hid (D7.out.app k1 k2)
      refine hK _ _ hc8 ?_
      clear hK k1 k2 D7 K7
      simp only [Act.put, List.setIfInBounds_toArray, List.set_cons_zero, List.set_cons_succ]
      refine Upto.tail rfl (by kernel_rfl) ?_
      simp only [List.drop_succ_cons, List.drop_zero]
      go_wp2_with fail
      refine NoPanic.normal ?_
      go_wp2_with fail
      go_roundw
      case rel => exact ⟨k + 1, A', n1 + 1, c', by omega, by go_num, by rw [HPK.out]; exact D8.out⟩
      case measure => simp [intOf]; omega
    · obtain rfl : k = k0 := by omega
      obtain ⟨⟨L, σ1, σ2⟩, hL⟩ : ∃ x, pRep pCl (l2, e2) k = x := ⟨_, rfl⟩
      rw [hL] at D
      simp only at D
      have HPP := HP.out
      rw [hL] at HPP
      simp only at HPP
      have HPP := Lib.hid HPP
      have CE := Lib.hid (rErr_any rb g σ1 σ2 wr D.out.rd)
      clear hL HP
      go_wp2_with fail
      refine CE.out.mono ?_
      rintro e wE ⟨rfl, rfl⟩
      have r0 := D.out.res.frz 0
      have r1 := D.out.res.frz 1
      have z0 := D.out.res.cell 0
      have z1 := D.out.res.cell 1
      have p0 := D.out.blk.cell 0
      have p1 := D.out.blk.cell 1
      simp only [List.getElem?_toArray, List.getElem?_cons_zero, List.getElem?_cons_succ] at z0 z1 p0 p1
      by_cases he : σ2 = 0
      · subst he
        have hpcs := D.out.own.pcs
        have CI := isPage_any lsn A1 n1 c1 L wr hpcs
        clear hpcs CE
        by_cases hok : (⟨lsn, L⟩ : Pg).ok
        · rw [decide_eq_true hok] at CI
          have CI := Lib.hid CI
          have E : Hid (decPg l = (⟨lsn, L⟩, 0)) := Lib.hid (by
            rw [decPg_ok (by rw [HPP.out]) (by rw [HPP.out]; exact hok), HPP.out])
          clear hok z0 z1 r0 r1
          go_wp2_with fail
          refine CI.out.mono ?_
          rintro e w9 ⟨rfl, b9⟩
          have D9 := Lib.hid (D.out.new b9)
          have r0 := D9.out.res.frz 0
          have r1 := D9.out.res.frz 1
          have z0 := D9.out.res.cell 0
          have z1 := D9.out.res.cell 1
          have q0 := D9.out.blk.cell 0
          have q1 := D9.out.blk.cell 1
          simp only [List.getElem?_toArray, List.getElem?_cons_zero, List.getElem?_cons_succ] at z0 z1 q0 q1
          have FN := Lib.hid D9.out.fin
          clear b9 CI p0 p1
          go_wp2_with fail
          (try simp only [Exit.inBlock, Exit.then])
          refine bodyPost_ret (results_cellT rfl _ _ w.heap.size 24 _ _ rfl FN.out.1 Try.underlying24 rfl pg_inf) rfl ?_
          rw [E.out]
          exact FN.out.2
        · rw [decide_eq_false hok] at CI
          have CI := Lib.hid CI
          have E : Hid (decPg l = (pg0, 11)) := Lib.hid (decPg_no (by rw [HPP.out]) (by rw [HPP.out]; exact hok))
          clear hok z0 z1 r0 r1
          go_wp2_with fail
          refine CI.out.mono ?_
          rintro e w9 ⟨rfl, b9⟩
          have D9 := Lib.hid (D.out.new b9)
          have r0 := D9.out.res.frz 0
          have r1 := D9.out.res.frz 1
          have z0 := D9.out.res.cell 0
          have z1 := D9.out.res.cell 1
          simp only [List.getElem?_toArray, List.getElem?_cons_zero, List.getElem?_cons_succ] at z0 z1
          have FN := Lib.hid (D9.out.zero 11)
          clear b9 CI p0 p1
          go_wp2_with fail
          (try simp only [Exit.inBlock, Exit.then])
          refine bodyPost_ret (results_cellT rfl _ _ w.heap.size 24 _ _ rfl FN.out.1 Try.underlying24 rfl pg_inf) rfl ?_
          rw [E.out]
          exact FN.out.2
      · have hz : ((σ2 : Int) != 0) = true := by simp; omega
        have E : Hid (decPg l = (pg0, σ2)) := Lib.hid (by
          rw [decPg_err (by rw [HPP.out]; exact he), HPP.out])
        have FN := Lib.hid (D.out.zero σ2)
        clear CE he p0 p1
        go_wp2_with fail
        (try simp only [Exit.inBlock, Exit.then])
        refine bodyPost_ret (results_cellT rfl _ _ w.heap.size 24 _ _ rfl FN.out.1 Try.underlying24 rfl pg_inf) rfl ?_
        rw [E.out]
        exact FN.out.2
end Go.Proofs.Ytomhofppcogojaa

/- trothlaw10.awake answers true; what is there stands. -/
namespace Go.Proofs.Ytomhofppcogojaa
open Go.RowKit

theorem Pcs.nil (w : World) : Pcs w none 0 0 [] := ⟨Flt.nil w 3, rfl⟩
theorem pg0_ok : (⟨0, []⟩ : Pg).ok := ⟨⟨Int.le_refl 0, by show (0 : Int) ≤ 1099511627776; omega⟩, by simp, fun i hi => absurd hi (by simp)⟩
def clA : Cl := ⟨⟨#[97]⟩, ⟨true, ⟨#[49]⟩⟩⟩
theorem clA_ok : clOk clA := ⟨⟨by decide, by decide⟩, by unfold vlOk clA; decide⟩
theorem setC_nil (x : Cl) : setC [] x = [x] := by
  unfold setC
  simp [atC, behC, isAt]

end Go.Proofs.Ytomhofppcogojaa

/- pages and values as they come in: what they read as. -/
namespace Go.Proofs.Ytomhofppcogojaa
open Go.RowKit Go.ChangeShapes Go.WideShapes Go.ChangeAt

/-- A page as it comes in. -/
structure Xp where
  lsn : Int
  A : Option Addr
  n : Nat
  c : Nat
  l : List Cl
abbrev Xp.val (x : Xp) : Value := pgV x.lsn x.A x.n x.c
structure XpIn (w : World) (x : Xp) : Prop where
  lsn : -9223372036854775808 ≤ x.lsn ∧ x.lsn ≤ 9223372036854775807
  pcs : Pcs w x.A x.n x.c x.l
def Xp.pg (x : Xp) : Pg := ⟨x.lsn, x.l⟩

section
variable {H : Type} {enc : TypeId × Value → H} {W : World}
theorem coP_int : Try.prog.cellsOf 3 = 1 := by kernel_rfl
theorem coP_str : Try.prog.cellsOf 9 = 1 := by kernel_rfl
theorem coP_bool : Try.prog.cellsOf 4 = 1 := by kernel_rfl
theorem coP_cls : Try.prog.cellsOf 22 = 1 := by kernel_rfl
theorem coP_vl : Try.prog.cellsOf 61 = 2 := by kernel_rfl
theorem coP_cl : Try.prog.cellsOf 63 = 3 := by kernel_rfl
theorem coP_pg : Try.prog.cellsOf 24 = 2 := by kernel_rfl

theorem open_vl2 {k : Nat} {v0 v1 : Value} {x : DataW H × List MemPlace} (hf : DataW.trod enc Try.prog W 0 (fun _ => true) true k 61 [v0, v1] = some x) : ∃ m : Vl, [v0, v1] = [.bool m.has, .string m.data] := by
  obtain ⟨xs, k', _, _, _, hxl, hfld⟩ := DataW.trod_struct Try.underlying61 hf
  match xs, hxl with
  | [x0, x1], _ =>
    have f0 : DataW.trod enc Try.prog W 0 (fun _ => true) true k' 4 (List.take (Try.prog.cellsOf 4) [v0, v1]) = some x0 := hfld 0 _ rfl
    have f1 : DataW.trod enc Try.prog W 0 (fun _ => true) true k' 9 (List.take (Try.prog.cellsOf 9) [v1]) = some x1 := hfld 1 _ rfl
    rw [coP_bool] at f0
    rw [coP_str] at f1
    obtain ⟨k0, e0, _⟩ := DataW.trod_bool Try.underlying4 f0
    obtain ⟨k1, e1, _⟩ := DataW.trod_string Try.underlying9 f1
    simp at e0 e1
    subst e0 e1
    exact ⟨⟨k0, k1⟩, rfl⟩
theorem open_cl3 {k : Nat} {v0 v1 v2 : Value} {x : DataW H × List MemPlace} (hf : DataW.trod enc Try.prog W 0 (fun _ => true) true k 63 [v0, v1, v2] = some x) : ∃ m : Cl, [v0, v1, v2] = m.cells := by
  obtain ⟨xs, k', _, _, _, hxl, hfld⟩ := DataW.trod_struct Try.underlying63 hf
  match xs, hxl with
  | [x0, x1], _ =>
    have f0 : DataW.trod enc Try.prog W 0 (fun _ => true) true k' 9 (List.take (Try.prog.cellsOf 9) [v0, v1, v2]) = some x0 := hfld 0 _ rfl
    have f1 : DataW.trod enc Try.prog W 0 (fun _ => true) true k' 61 (List.take (Try.prog.cellsOf 61) [v1, v2]) = some x1 := hfld 1 _ rfl
    rw [coP_str] at f0
    rw [coP_vl] at f1
    obtain ⟨k0, e0, _⟩ := DataW.trod_string Try.underlying9 f0
    obtain ⟨m, e1⟩ := open_vl2 f1
    simp at e0 e1
    obtain ⟨e1, e2⟩ := e1
    subst e0 e1 e2
    exact ⟨⟨k0, m⟩, rfl⟩
theorem addrP {g off : Nat} (i j : Nat) : ((⟨g, off, none⟩ : Addr).add i).add j = ⟨g, off + i + j, none⟩ := by
  by_cases hi : i = 0 <;> by_cases hj : j = 0 <;> simp [Addr.add, hi, hj]
theorem lstP {α : Type} (d : α) (P : Nat → α → Prop) : ∀ n : Nat, (∀ i, i < n → ∃ x, P i x) → ∃ l : List α, l.length = n ∧ ∀ i, i < n → P i (l.getD i d)
  | 0, _ => ⟨[], rfl, fun i hi => absurd hi (by omega)⟩
  | n + 1, h => by
    obtain ⟨l, hl, hp⟩ := lstP d P n (fun i hi => h i (by omega))
    obtain ⟨x, hx⟩ := h n (by omega)
    refine ⟨l ++ [x], by simp [hl], fun i hi => ?_⟩
    by_cases he : i < n
    · have := hp i he
      have e : (l ++ [x]).getD i d = l.getD i d := by simp [List.getD, List.getElem?_append_left (show i < l.length by omega)]
      rwa [e]
    · obtain rfl : i = n := by omega
      have : (l ++ [x]).getD l.length d = x := by simp
      rw [hl] at this
      rw [this]
      exact hx
theorem open_pcs {k : Nat} {v : Value} {x : DataW H × List MemPlace} (hf : DataW.trod enc Try.prog W 0 (fun _ => true) true k 22 [v] = some x) : ∃ A n c l, v = .slice A n c ∧ Pcs W A n c l := by
  rcases Go.Deep.open_slice Try.underlying22 hf with ⟨hcs, _⟩ | ⟨a, n, c, m, k, D, Pl, hcs, _, hl, hm, hmm, _, hx⟩
  · obtain rfl : v = .slice none 0 0 := by simpa using hcs
    exact ⟨none, 0, 0, [], rfl, Pcs.nil W⟩
  · obtain rfl : v = .slice (some a) n c := by simpa using hcs
    have hmc : m = c := by simpa using hmm
    subst hmc
    have each : ∀ i, i < n → ∃ x : Cl, ∀ j v, x.cells[j]? = some v → W.cell? ((a.add (i * 3)).add j) = some v := by
      intro i hi
      obtain ⟨cs', hc, ht⟩ := hx i (by omega)
      rw [coP_cl] at hc
      obtain ⟨_, hcl, hat⟩ := World.cells?_some hc
      match cs', hcl with
      | [v0, v1, v2], _ =>
        obtain ⟨x, e⟩ := open_cl3 ht
        refine ⟨x, fun j v hv => ?_⟩
        rw [← e] at hv
        have hj : j < 3 := (List.getElem?_eq_some_iff.1 hv).1
        rw [hat j hj]
        exact hv
    obtain ⟨xs, hlen, hxs⟩ := lstP (default : Cl) _ n each
    refine ⟨some a, n, m, xs, rfl, ⟨by rw [flatL_len Cl.cells 3 Cl.cells_len, hlen], hl, hm, (fun h => nomatch h), fun hn => ?_⟩, hlen⟩
    obtain ⟨g, off, spot⟩ := a
    have hspot : spot = none := by
      have := (hxs 0 hn) 0 _ rfl
      have h2 := World.cell?_spot this
      simpa [Addr.add] using h2
    subst hspot
    refine ⟨g, off, rfl, fun j v hv => ?_⟩
    have hj : j < xs.length * 3 := by
      have := (List.getElem?_eq_some_iff.1 hv).1
      rwa [flatL_len Cl.cells 3 Cl.cells_len] at this
    have e : j = (j / 3) * 3 + j % 3 := by omega
    rw [e, flatL_get (default : Cl) Cl.cells 3 Cl.cells_len xs (j / 3) (j % 3) (by omega) (by omega)] at hv
    have := (hxs (j / 3) (by omega)) (j % 3) v hv
    rw [addrP] at this
    rw [e, ← Nat.add_assoc]
    exact this

set_option maxRecDepth 100000 in
theorem open_pg {r : Reach} {b0 : Nat} {v : Value} {d : DataW H} {p : List MemPlace} (hv : Value.okWide Try.prog W r b0 24 v) (h : DataW.Trod enc Try.prog W 0 (fun _ => true) true 24 v d p) :
    ∃ m : Xp, v = m.val ∧ XpIn W m := by
  obtain ⟨cs, rfl, hsz⟩ := okWide_struct Try.underlying24 hv
  rw [coP_pg] at hsz
  obtain ⟨fuel, hf⟩ := h
  obtain ⟨l⟩ := cs
  match l, hsz with
  | [v0, v1], _ =>
    have hf' : DataW.trod enc Try.prog W 0 (fun _ => true) true fuel 24 [v0, v1] = some (d, p) := hf
    obtain ⟨xs, k', _, _, _, hxl, hfld⟩ := DataW.trod_struct Try.underlying24 hf'
    match xs, hxl with
    | [x0, x1], _ =>
      have f0 : DataW.trod enc Try.prog W 0 (fun _ => true) true k' 3 (List.take (Try.prog.cellsOf 3) [v0, v1]) = some x0 := hfld 0 _ rfl
      have f1 : DataW.trod enc Try.prog W 0 (fun _ => true) true k' 22 (List.take (Try.prog.cellsOf 22) [v1]) = some x1 := hfld 1 _ rfl
      rw [coP_int] at f0
      rw [coP_cls] at f1
      obtain ⟨k0, e0, _, w0⟩ := DataW.trod_int Try.underlying3 f0
      obtain ⟨A, n, c, l, e1, hp⟩ := open_pcs f1
      simp at e0
      subst e0 e1
      exact ⟨⟨k0, A, n, c, l⟩, rfl, i64_bd w0, hp⟩
set_option maxRecDepth 100000 in
theorem open_value {r : Reach} {b0 : Nat} {v : Value} {d : DataW H} {p : List MemPlace} (hv : Value.okWide Try.prog W r b0 61 v) (h : DataW.Trod enc Try.prog W 0 (fun _ => true) true 61 v d p) :
    ∃ m : Vl, v = vlV m ∧ True := by
  obtain ⟨cs, rfl, hsz⟩ := okWide_struct Try.underlying61 hv
  rw [coP_vl] at hsz
  obtain ⟨fuel, hf⟩ := h
  obtain ⟨l⟩ := cs
  match l, hsz with
  | [v0, v1], _ =>
    have hf' : DataW.trod enc Try.prog W 0 (fun _ => true) true fuel 61 [v0, v1] = some (d, p) := hf
    obtain ⟨m, e⟩ := open_vl2 hf'
    simp at e
    obtain ⟨e0, e1⟩ := e
    subst e0 e1
    exact ⟨m, rfl, trivial⟩
end
end Go.Proofs.Ytomhofppcogojaa

/- page.Set and trothref10.Set answer the same page, or the same error. -/
namespace Go.Proofs.Ytomhofppcogojaa
open Go.RowKit

theorem setPg_len {p : Pg} {lsn : Int} {x : Cl} (h : (setPg p lsn x).2 = 0) : (setPg p lsn x).1.cells.length ≤ 4 := by
  by_cases hy : p.ok ∧ clOk x ∧ 1 ≤ lsn ∧ lsn ≤ 1099511627776
  · cases hr : roomC p.cells x.key with
    | false => rw [setPg_page hy hr] at h; cases h
    | true => rw [setPg_ok hy hr]; exact (setPg_isok hy hr).2.1
  · rw [setPg_arg hy] at h; cases h
theorem setPg_zero {p : Pg} {lsn : Int} {x : Cl} (h : (setPg p lsn x).2 ≠ 0) : (setPg p lsn x).1 = pg0 := by
  by_cases hy : p.ok ∧ clOk x ∧ 1 ≤ lsn ∧ lsn ≤ 1099511627776
  · cases hr : roomC p.cells x.key with
    | false => rw [setPg_page hy hr]
    | true => rw [setPg_ok hy hr] at h; exact absurd rfl h
  · rw [setPg_arg hy]
theorem setPg_small (p : Pg) (lsn : Int) (x : Cl) : (setPg p lsn x).1.cells.length ≤ 4 := by
  by_cases h : (setPg p lsn x).2 = 0
  · exact setPg_len h
  · rw [setPg_zero h]; simp [pg0]
end Go.Proofs.Ytomhofppcogojaa

/- a region that draws its order, in which two operations may come up next: both ways; a new variable in memory, and what is stored in it. -/
namespace Go.Proofs.Ytomhofppcogojaa
open Go.RowKit

section
variable {P : Program} {Q : Exit → Act → World → Prop} {S : World → Prop} {n : Nat}
/-- One of two operations comes up now. -/
theorem Upto.two {i j : Nat} {oi oj : Oper} {fuel : Nat} {listed : Array Bool} {a : Act} {w : World} {l ri rj : List Oper} (hi : l.drop i = oi :: ri) (hj : l.drop j = oj :: rj) (hc : Region.ready .any l.toArray listed = [i, j]) (hgi : oi.guard = none) (hgj : oj.guard = none)
    (h1 : ∀ K : Act → World → Prop, (∀ a' w', S w' → Upto P l.toArray Q S n fuel (listed.setIfInBounds i true) a' w' → K a' w') → oi.wp P a w K Q)
    (h2 : ∀ K : Act → World → Prop, (∀ a' w', S w' → Upto P l.toArray Q S n fuel (listed.setIfInBounds j true) a' w' → K a' w') → oj.wp P a w K Q) : Upto P l.toArray Q S n (fuel + 1) listed a w := by
  have hi := drop_at hi
  have hj := drop_at hj
  refine ⟨fun h0 => (by rw [h0] at hc; cases hc), fun k hk => ?_⟩
  rw [hc] at hk
  unfold wpOp
  rcases List.mem_cons.1 hk with e | e
  · subst e
    simp only [hi, wanted_plain hgi, if_true]
    exact .inl (h1 _ fun a' w' hS hU => ⟨fun _ => hS, hU⟩)
  · have e : k = j := by simpa using e
    subst e
    simp only [hj, wanted_plain hgj, if_true]
    exact .inl (h2 _ fun a' w' hS hU => ⟨fun _ => hS, hU⟩)
theorem wp_new {o : Oper} {a : Act} {w : World} {K : Act → World → Prop} {t : TypeId} (ho : o.op = .alloc t) {z : Array Value} (hz : ∀ w, (zeroValue t).run P w = .ok (.agg z) w) (h : K (a.put o.dst (.pointer (some ⟨w.heap.size, 0, none⟩))) (w.alloc (.cells z t))) : o.wp P a w K Q := by
  unfold Oper.wp
  rw [exec_allocA ho hz]
  exact h
end
theorem zero_pg (w : World) : (zeroValue 24).run Try.prog w = .ok (.agg #[.int .i64 0, .slice none 0 0]) w := by
  have h : (Try.prog.info? 24).map (fun i => i.zero) = some (some (.agg #[.int .i64 0, .slice none 0 0])) := by kernel_rfl
  cases hi : Try.prog.info? 24 with
  | none => rw [hi] at h; cases h
  | some i =>
    rw [hi] at h
    simp at h
    simp [zeroValue, typeInfo, hi, h]
theorem row_own {w : World} {b k n g : Nat} {e t : TypeId} {v : Value} {xs : List Value} {cs : Array Value} (h : w.ownsRow b e k v n xs) (hb : Bk w g t cs) (he : e ≠ t) (cs' : Array Value) : (w.setRow g cs').ownsRow b e k v n xs :=
  own_stay h (fun q hq => setRow_other w g q cs' (fun eq => by
    obtain ⟨c1, h1⟩ := own_ty h hq
    subst eq
    unfold Bk at hb
    rw [h1] at hb
    injection hb with hb
    injection hb with _ hb
    exact he hb))
theorem row_below {B : Nat} {a w : World} (h : Below B a w) (hB : B ≤ w.heap.size) {g : Nat} (hg : B ≤ g) (cs : Array Value) : Below B a (w.setRow g cs) :=
  h.grown (w' := w.setRow g cs) (row := some g) ⟨rfl, rfl, rfl, by simp [World.setRow], fun k _ hk => setRow_other w g k cs (fun q => hk (by simp [q]))⟩ hB (fun k hk => by simp at hk; omega)
theorem row_bk {w : World} {g : Nat} {t : TypeId} {old : Array Value} (h : Bk w g t old) (cs : Array Value) : Bk (w.setRow g cs) g t cs := setRow_heap w g old cs _ _ h
theorem pg_one (z : Int) (A : Option Addr) (n c : Nat) : (#[Value.int .i64 z, Value.slice A n c] : Array Value).all (·.oneCell') = true := by simp [Value.oneCell']
theorem pg_inf2 (z : Int) (A : Option Addr) (n c : Nat) : (Try.prog.info? 24).map (·.size) = some (#[Value.int .i64 z, Value.slice A n c] : Array Value).size := pg_inf

/-- Behind 'q, e := Set(Copy(p), ..)': the variable's block, and what lies in it. -/
structure GotPg (Wb wx : World) (r : Pg × Nat) (t u : Value) : Prop where
  ex : ∃ X A n c, t = .pointer (some ⟨X, 0, none⟩) ∧ Bk wx X 24 #[.int .i64 r.1.lsn, .slice A n c] ∧ OwnP Wb.heap.size wx A n c r.1.cells ∧ Wb.heap.size ≤ X
  e : u = .int .i64 r.2
  below : Below Wb.heap.size Wb wx
theorem GotPg.of {Wb w6 : World} {r : Pg × Nat} {X n c base : Nat} {A : Option Addr} {old : Array Value} (hb : Bk w6 X 24 old) (ho : OwnP base w6 A n c r.1.cells) (h1 : Wb.heap.size ≤ X) (h2 : Wb.heap.size ≤ base) (h3 : Below Wb.heap.size Wb w6) :
    GotPg Wb (w6.setRow X #[.int .i64 r.1.lsn, .slice A n c]) r (.pointer (some ⟨X, 0, none⟩)) (.int .i64 r.2) :=
  ⟨⟨X, A, n, c, rfl, row_bk hb _, OwnP.lo ⟨row_own ho.own hb (by decide) _, ho.len⟩ h2, h1⟩, rfl, row_below h3 h3.size h1 _⟩
end Go.Proofs.Ytomhofppcogojaa

/- trothref10.Decode answers the page of a payload, or the error. -/
namespace Go.Proofs.Ytomhofppcogojaa
open Go.RowKit

/-- A block of the call's own behind the page's and its row is written. -/
theorem DW.set {t : TypeId} {w wr : World} {rb g P : Nat} {lsn : Int} {A1 : Option Addr} {n1 c1 : Nat} {L : List Cl} {σ : Sg} (h : DW t w wr rb g P lsn A1 n1 c1 L σ) {C i : Nat} (hC : P < C) (hrow : ∀ q, (Value.slice A1 n1 c1).ownBlock = some q → q ≠ C) (u : Value) : DW t w (wr.setCell ⟨C, i, none⟩ u) rb g P lsn A1 n1 c1 L σ := by
  obtain ⟨h1, h2, h3⟩ := h.ord
  refine ⟨h.ord, h.rd.setNew (by omega) (by omega) _, (Below.heap_setCell wr ⟨C, i, none⟩ _ _ (by show P ≠ C; omega)).trans h.blk, ⟨own_stay h.own.own (fun q hq => Below.heap_setCell wr ⟨C, i, none⟩ _ _ (hrow q hq)), h.own.len⟩, (Below.heap_setCell wr ⟨C, i, none⟩ _ _ (by show w.heap.size ≠ C; omega)).trans h.res, ?_⟩
  exact h.below.setCell (p := ⟨C, i, none⟩) (by show w.heap.size ≤ C; omega) _

theorem DW.zeroR {t : TypeId} {w wr : World} {rb g P : Nat} {lsn : Int} {A1 : Option Addr} {n1 c1 : Nat} {L : List Cl} {σ : Sg} (h : DW t w wr rb g P lsn A1 n1 c1 L σ) (er : Nat) :
    Bk (wr.setRow w.heap.size #[.int .i64 0, .slice none 0 0]) w.heap.size 24 #[.int .i64 0, .slice none 0 0] ∧
    RetPg (pg0, er) w (.returned (.tuple #[pgV 0 none 0 0, .int .i64 er])) (wr.setRow w.heap.size #[.int .i64 0, .slice none 0 0]) ∧
    (∀ u, wr.cell? ⟨rb, 1, none⟩ = some u → (wr.setRow w.heap.size #[.int .i64 0, .slice none 0 0]).cell? ⟨rb, 1, none⟩ = some u) := by
  obtain ⟨h1, h2, h3⟩ := h.ord
  refine ⟨row_bk h.res _, ⟨none, 0, 0, rfl, OwnP.nil _ _, row_below h.below h.below.size (Nat.le_refl _) _⟩, fun u hu => ?_⟩
  exact (World.cell?_of_block (w := wr) (w' := wr.setRow w.heap.size #[.int .i64 0, .slice none 0 0]) (a := ⟨rb, 1, none⟩) (setRow_other wr w.heap.size rb _ (by omega))).trans hu

set_option maxRecDepth 100000 in
set_option maxHeartbeats 8000000 in
theorem rpDec_any (A : Option Addr) (n c : Nat) (l : List Int) (w : World) (h : Byt w A n c l) (hn : n ≤ 100000) :
    Calls Try.prog 59 #[.slice A n c] w (RetPg (decPg l) w) := by
  obtain ⟨W1, hW1⟩ : ∃ W, W = w.alloc (.cells #[.int .i64 0, .slice none 0 0] 24) := ⟨_, rfl⟩
  have B1 : Hid (Below w.heap.size w W1) := Lib.hid (by rw [hW1]; exact (Below.refl _ _).alloc (Nat.le_refl _) _)
  have R1 : Hid (Bk W1 w.heap.size 24 #[.int .i64 0, .slice none 0 0]) := Lib.hid (by rw [hW1]; exact Bk.new w _ _)
  have hs1 : W1.heap.size = w.heap.size + 1 := by rw [hW1, World.size_alloc]
  obtain ⟨g, hg, hrd0⟩ := Rd.new 110 (h.below B1.out) (by omega)
  obtain ⟨W2, hW2⟩ : ∃ W, W = W1.alloc (.cells #[.slice A n c, .int .i64 0] 110) := ⟨_, rfl⟩
  rw [← hW2] at hrd0
  rw [hs1] at hrd0 hg
  have b2 : Below W1.heap.size W1 W2 := by rw [hW2]; exact (Below.refl _ _).alloc (Nat.le_refl _) _
  have hs2 : W2.heap.size = W1.heap.size + 1 := by rw [hW2, World.size_alloc]
  have HW2 := Lib.hid hW2
  have HW := Lib.hid hW1
  obtain ⟨⟨lsn, l1, e1⟩, hN⟩ : ∃ x, pN (l, 0) = x := ⟨_, rfl⟩
  obtain ⟨⟨cnt, l2, e2⟩, hM⟩ : ∃ x, pNum 4 (l1, e1) = x := ⟨_, rfl⟩
  have hcnt := pNum_rngP 4 (by omega) (l1, e1)
  rw [hM] at hcnt
  simp only at hcnt
  obtain ⟨k0, rfl⟩ := Int.eq_ofNat_of_zero_le hcnt.1
  have HP : Hid (pPg (l, 0) = (⟨lsn, (pRep pCl (l2, e2) k0).1⟩, (pRep pCl (l2, e2) k0).2)) := Lib.hid (by
    unfold pPg pList pBind
    rw [hN]
    simp only
    rw [hM]
    rfl)
  have HN := Lib.hid hN
  have HM := Lib.hid hM
  clear h hW1 hN hM hW2
  go_enter Try.func59, Try.ntmps59
  go_upto_region 2 with fail
  rw [← HW.out, ← HW2.out]
  have hrd := hrd0
  have C2 := dNum 1099511627776 (by omega) hrd
  rw [show pNum 1099511627776 (l, 0) = (lsn, (l1, e1)) from HN.out] at C2
  have C2 := Lib.hid C2
  have B2 := Lib.hid (Below.then B1.out b2)
  have R2 := Lib.hid (R1.out.bel b2 R1.out.lt)
  have hrlt := hrd.lt
  clear hrd hrd0 b2
  go_wp2_with fail
  refine C2.out.mono ?_
  rintro e w3 ⟨rfl, hr3, g3⟩
  have D4 : Hid (DW 110 w (w3.alloc (.cells #[.int .i64 lsn, .slice none 0 0] 24)) (w.heap.size + 1) g w3.heap.size lsn none 0 0 [] (l1, e1)) := Lib.hid (by
    have b3 : Below w.heap.size w w3 := B2.out.grown g3 B2.out.size (fun k hk => by injection hk with hk; omega)
    have ha : Below w3.heap.size w3 (w3.alloc (.cells #[.int .i64 lsn, .slice none 0 0] 24)) := (Below.refl _ _).alloc (Nat.le_refl _) _
    exact ⟨⟨by omega, hg, Nat.lt_of_lt_of_le hrlt g3.size⟩, hr3.alloc _, Bk.new w3 _ _, OwnP.nil _ _, (R2.out.grow g3 (fun q => by injection q with q; omega)).bel ha (by have := R2.out.lt; have := g3.size; omega), Below.then b3 ha⟩)
  obtain ⟨P, hP⟩ : ∃ P, w3.heap.size = P := ⟨_, rfl⟩
  clear hr3 g3 C2 R2
  go_upto_region 3 with fail
  generalize hW4 : w3.alloc (.cells #[.int .i64 lsn, .slice none 0 0] 24) = W4 at D4 ⊢
  rw [hP] at D4
  (try rw [hP])
  clear hW4 hP
  have C4 := dNum 4 (by omega) D4.out.rd
  rw [HM.out] at C4
  have C4 := Lib.hid C4
  go_wp2_with fail
  refine C4.out.mono ?_
  rintro e w5 ⟨rfl, hr5, g5⟩
  have D5 := Lib.hid (D4.out.read (σ' := (l2, e2)) hr5 g5)
  clear hr5 g5 C4 D4
  go_wp2_with fail
  go_loopw [7] (fun y wr => ∃ (k : Nat) (A1 : Option Addr) (n1 c1 : Nat), k ≤ k0 ∧ y = .int .i64 k ∧ DW 110 w wr (w.heap.size + 1) g P lsn A1 n1 c1 (pRep pCl (l2, e2) k).1 (pRep pCl (l2, e2) k).2) (fun y _ => k0 - (intOf y).toNat)
  case atStart => exact ⟨0, none, 0, 0, Nat.zero_le _, rfl, D5.out⟩
  case round =>
    obtain ⟨k, A1, n1, c1, hk, rfl, hd⟩ := hrel
    have D := Lib.hid hd
    have hn1 : n1 ≤ 4 := by rw [← hd.own.len, pRep_len]; omega
    clear hd D5
    by_cases hlt : k < k0
    · have hlt' : (k : Int) < (k0 : Int) := by omega
      obtain ⟨⟨L, σ⟩, hσ⟩ : ∃ x, pRep pCl (l2, e2) k = x := ⟨_, rfl⟩
      obtain ⟨⟨ck, m1, x1⟩, hT⟩ : ∃ x, pText 16 (σ.1, σ.2) = x := ⟨_, rfl⟩
      obtain ⟨⟨f, m2, x2⟩, hF⟩ : ∃ x, pFlag (m1, x1) = x := ⟨_, rfl⟩
      have hpk : pRep pCl (l2, e2) (k + 1) = ((pRep pCl (l2, e2) k).1 ++ [(pCl (pRep pCl (l2, e2) k).2).1], (pCl (pRep pCl (l2, e2) k).2).2) := rfl
      rw [hσ] at D hpk
      simp only at D hpk
      have HPK0 := Lib.hid hpk
      have HT := Lib.hid hT
      have HF := Lib.hid hF
      have CT := dText 16 (by omega) D.out.rd
      rw [hT] at CT
      have CT := Lib.hid CT
      clear hσ hpk hT hF
      go_wp2_with fail
      refine CT.out.mono ?_
      rintro e w6 ⟨rfl, hr6, g6⟩
      have d6 := D.out.read (σ' := (m1, x1)) hr6 g6
      have HLT : Hid (∀ q, (Value.slice A1 n1 c1).ownBlock = some q → q < w6.heap.size) := Lib.hid (fun q hq => (d6.own.own.lt q hq).2)
      have hPC : P < w6.heap.size := d6.size
      have hrC : (w.heap.size + 1) < w6.heap.size := by have := d6.ord; omega
      have D7 := Lib.hid (d6.new ((Below.refl w6.heap.size w6).alloc (Nat.le_refl _) (.cells #[.string ck, .bool false, .string ⟨#[]⟩] 63)))
      have K7 : Hid (Bk (w6.alloc (.cells #[.string ck, .bool false, .string ⟨#[]⟩] 63)) w6.heap.size 63 #[.string ck, .bool false, .string ⟨#[]⟩]) := Lib.hid (Bk.new w6 _ _)
      clear hr6 g6 d6 CT D
      go_upto_region 8 with fail
      generalize hW7 : w6.alloc (.cells #[.string ck, .bool false, .string ⟨#[]⟩] 63) = W7 at D7 K7 ⊢
      clear hW7
      have CF := dFlag D7.out.rd
      simp only at CF
      rw [HF.out] at CF
      have CF := Lib.hid CF
      go_wp2_with fail
      refine CF.out.mono ?_
      rintro e w8 ⟨rfl, hr8, g8⟩
      have D8 := Lib.hid (D7.out.read (σ' := (m2, x2)) hr8 g8)
      have K8 := Lib.hid (K7.out.grow g8 (fun q => by injection q with q; omega))
      clear hr8 g8 CF D7 K7
      cases f with
      | false =>
        have HPK : Hid (pRep pCl (l2, e2) (k + 1) = (L ++ [⟨ck, ⟨false, ⟨#[]⟩⟩⟩], (m2, x2))) := Lib.hid (by
          rw [HPK0.out]
          unfold pCl pVl
          rw [show pText 16 σ = (ck, (m1, x1)) from HT.out]
          simp only
          rw [HF.out]
          rfl)
        clear HPK0
        have D7 := Lib.hid (D8.out.new ((Below.refl w8.heap.size w8).alloc (Nat.le_refl _) (.cells #[.string ck, .bool false, .string ⟨#[]⟩] 63)))
        have K7 := Lib.hid (one_pcs (x := ⟨ck, ⟨false, ⟨#[]⟩⟩⟩) (Bk.new w8 63 #[.string ck, .bool false, .string ⟨#[]⟩]))
        have y0 := K8.out.cell 0
        have y1 := K8.out.cell 1
        have y2 := K8.out.cell 2
        have q1 := D8.out.blk.cell 1
        simp only [List.getElem?_toArray, List.getElem?_cons_zero, List.getElem?_cons_succ] at y0 y1 y2 q1
        go_wp2_with (at_builtin; refine wpList_app_cells rfl _ _ rfl (P + 1) rfl rfl D7.out.own rfl K7.out (by omega) (by have := D7.out.size; omega) ?_)
        intro A' c' wz k1 k2
        obtain ⟨hfz, hcz⟩ := D7.out.frz k2
        have DZ := Lib.hid (D7.out.app k1 k2)
        clear k1 k2 D7 K7 y0 y1 y2 q1
        go_wp2_with fail
        go_roundw
        case rel => exact ⟨k + 1, A', n1 + 1, c', by omega, by go_num, by rw [HPK.out]; exact DZ.out⟩
        case measure => simp [intOf]; omega
      | true =>
        obtain ⟨⟨dd, m3, x3⟩, hD⟩ : ∃ x, pText 32 (m2, x2) = x := ⟨_, rfl⟩
        have HPK : Hid (pRep pCl (l2, e2) (k + 1) = (L ++ [⟨ck, ⟨true, dd⟩⟩], (m3, x3))) := Lib.hid (by
          rw [HPK0.out]
          unfold pCl pVl
          rw [show pText 16 σ = (ck, (m1, x1)) from HT.out]
          simp only
          rw [HF.out]
          simp only [if_true]
          rw [hD])
        have CD := dText 32 (by omega) D8.out.rd
        simp only at CD
        rw [hD] at CD
        have CD := Lib.hid CD
        clear hD HPK0
        go_wp2_with fail
        refine CD.out.mono ?_
        rintro e w9 ⟨rfl, hr9, g9⟩
        have D9 := Lib.hid (D8.out.read (σ' := (m3, x3)) hr9 g9)
        have K9 := Lib.hid (K8.out.grow g9 (fun q => by injection q with q; omega))
        have y1 := K9.out.cell 1
        have y2 := K9.out.cell 2
        have t1 := K9.out.frz 1
        have t2 := K9.out.frz 2
        simp only [List.getElem?_toArray, List.getElem?_cons_zero, List.getElem?_cons_succ] at y1 y2
        clear hr9 g9 CD D8 K8
        go_upto_region 10 with fail
        obtain ⟨W10, hW10⟩ : ∃ W, W = (w9.setCell ⟨w6.heap.size, 1, none⟩ (.bool true)).setCell ⟨w6.heap.size, 2, none⟩ (.string dd) := ⟨_, rfl⟩
        rw [← hW10]
        have D10 : Hid (DW 110 w W10 (w.heap.size + 1) g P lsn A1 n1 c1 L (m3, x3)) := Lib.hid (by
          rw [hW10]
          exact (D9.out.set hPC (fun q hq => Nat.ne_of_lt (HLT.out q hq)) _).set hPC (fun q hq => Nat.ne_of_lt (HLT.out q hq)) _)
        have K10 : Hid (Bk W10 w6.heap.size 63 #[.string ck, .bool true, .string dd]) := Lib.hid (by rw [hW10]; simpa using (K9.out.setc 1 (.bool true)).setc 2 (.string dd))
        clear hW10 D9 K9 y1 y2 t1 t2
        have D7 := Lib.hid (D10.out.new ((Below.refl W10.heap.size W10).alloc (Nat.le_refl _) (.cells #[.string ck, .bool true, .string dd] 63)))
        have K7 := Lib.hid (one_pcs (x := ⟨ck, ⟨true, dd⟩⟩) (Bk.new W10 63 #[.string ck, .bool true, .string dd]))
        have y0 := K10.out.cell 0
        have y1 := K10.out.cell 1
        have y2 := K10.out.cell 2
        have q1 := D10.out.blk.cell 1
        simp only [List.getElem?_toArray, List.getElem?_cons_zero, List.getElem?_cons_succ] at y0 y1 y2 q1
        go_wp2_with (at_builtin; refine wpList_app_cells rfl _ _ rfl (P + 1) rfl rfl D7.out.own rfl K7.out (by omega) (by have := D7.out.size; omega) ?_)
        intro A' c' wz k1 k2
        obtain ⟨hfz, hcz⟩ := D7.out.frz k2
        have DZ := Lib.hid (D7.out.app k1 k2)
        clear k1 k2 D7 K7 y0 y1 y2 q1
        go_wp2_with fail
        go_roundw
        case rel => exact ⟨k + 1, A', n1 + 1, c', by omega, by go_num, by rw [HPK.out]; exact DZ.out⟩
        case measure => simp [intOf]; omega
    · obtain rfl : k = k0 := by omega
      obtain ⟨⟨L, σ1, σ2⟩, hL⟩ : ∃ x, pRep pCl (l2, e2) k = x := ⟨_, rfl⟩
      rw [hL] at D
      simp only at D
      have HPP := HP.out
      rw [hL] at HPP
      simp only at HPP
      have HPP := Lib.hid HPP
      obtain ⟨_, _, _, _, _, he1, _⟩ := D.out.rd.byt
      simp only at he1
      clear hL HP
      have r0 := D.out.res.frz 0
      have r1 := D.out.res.frz 1
      have z0 := D.out.res.cell 0
      have z1 := D.out.res.cell 1
      have p0 := D.out.blk.cell 0
      have p1 := D.out.blk.cell 1
      simp only [List.getElem?_toArray, List.getElem?_cons_zero, List.getElem?_cons_succ] at z0 z1 p0 p1
      by_cases he : σ2 = 0
      · subst he
        have hpcs := D.out.own.pcs
        have CI := may10_any lsn A1 n1 c1 L wr hpcs
        clear hpcs
        by_cases hok : (⟨lsn, L⟩ : Pg).ok
        · rw [decide_eq_true hok] at CI
          have CI := Lib.hid CI
          have E : Hid (decPg l = (⟨lsn, L⟩, 0)) := Lib.hid (by
            rw [decPg_ok (by rw [HPP.out]) (by rw [HPP.out]; exact hok), HPP.out])
          clear hok z0 z1 r0 r1
          go_wp2_with fail
          refine CI.out.mono ?_
          rintro e w9 ⟨rfl, b9⟩
          have D9 := Lib.hid (D.out.new b9)
          have r0 := D9.out.res.frz 0
          have r1 := D9.out.res.frz 1
          have z0 := D9.out.res.cell 0
          have z1 := D9.out.res.cell 1
          have q0 := D9.out.blk.cell 0
          have q1 := D9.out.blk.cell 1
          simp only [List.getElem?_toArray, List.getElem?_cons_zero, List.getElem?_cons_succ] at z0 z1 q0 q1
          have FN := Lib.hid D9.out.fin
          clear b9 CI p0 p1
          go_wp2_with fail
          (try simp only [Exit.inBlock, Exit.then])
          refine bodyPost_ret (results_cellT rfl _ _ w.heap.size 24 _ _ rfl FN.out.1 Try.underlying24 rfl pg_inf) rfl ?_
          rw [E.out]
          exact FN.out.2
        · rw [decide_eq_false hok] at CI
          have CI := Lib.hid CI
          have E : Hid (decPg l = (pg0, 11)) := Lib.hid (decPg_no (by rw [HPP.out]) (by rw [HPP.out]; exact hok))
          clear hok z0 z1 r0 r1
          go_wp2_with fail
          refine CI.out.mono ?_
          rintro e w9 ⟨rfl, b9⟩
          have D9 := Lib.hid (D.out.new b9)
          have r0 := D9.out.res.frz 0
          have r1 := D9.out.res.frz 1
          have z0 := D9.out.res.cell 0
          have z1 := D9.out.res.cell 1
          simp only [List.getElem?_toArray, List.getElem?_cons_zero, List.getElem?_cons_succ] at z0 z1
          have FN := Lib.hid (D9.out.zero 11)
          clear b9 CI p0 p1
          go_wp2_with fail
          (try simp only [Exit.inBlock, Exit.then])
          refine bodyPost_ret (results_cellT rfl _ _ w.heap.size 24 _ _ rfl FN.out.1 Try.underlying24 rfl pg_inf) rfl ?_
          rw [E.out]
          exact FN.out.2
      · have hz : ((σ2 : Int) != 0) = true := by simp; omega
        have E : Hid (decPg l = (pg0, σ2)) := Lib.hid (by
          rw [decPg_err (by rw [HPP.out]; exact he), HPP.out])
        have FN := Lib.hid (D.out.zeroR σ2)
        have HE1 := Lib.hid he1
        clear he p0 p1 r0 r1 z0 z1
        go_wp2_with fail
        have hS0 : wr.drew.cell? ⟨(w.heap.size + 1), 1, none⟩ = some (.int .i64 σ2) := he1
        refine wp_region_noPanic ?_
        refine upto_start (fun w' => w'.cell? ⟨(w.heap.size + 1), 1, none⟩ = some (.int .i64 σ2)) 6 (by kernel_rfl) ?_
        change Upto _ _ _ _ _ 7 _ _ _
        refine Upto.take (i := 0) (v := ?_) rfl (by kernel_rfl) (fun _ _ _ h => h) rfl (fun w' hS => ?_) hS0 ?_
        rotate_left
        · (try dsimp only at hS)
          (try go_split_ands)
          go_simp
          (try with_reducible rfl)
        simp only [Act.put, List.setIfInBounds_toArray, List.set_cons_zero, List.set_cons_succ]
        refine Upto.take (i := 1) (v := ?_) rfl (by kernel_rfl) (fun _ _ _ h => h) rfl (fun w' hS => ?_) hS0 ?_
        rotate_left
        · (try dsimp only at hS)
          (try go_split_ands)
          go_simp
          (try with_reducible rfl)
        simp only [Act.put, List.setIfInBounds_toArray, List.set_cons_zero, List.set_cons_succ]
        refine Upto.take (i := 2) (v := ?_) rfl (by kernel_rfl) (fun _ _ _ h => h) rfl (fun w' hS => ?_) hS0 ?_
        rotate_left
        · (try dsimp only at hS)
          (try go_split_ands)
          go_simp
          (try with_reducible rfl)
        simp only [Act.put, List.setIfInBounds_toArray, List.set_cons_zero, List.set_cons_succ]
        refine Upto.take (i := 3) (v := ?_) rfl (by kernel_rfl) (fun _ _ _ h => h) rfl (fun w' hS => ?_) hS0 ?_
        rotate_left
        · (try dsimp only at hS)
          (try go_split_ands)
          go_simp
          (try with_reducible rfl)
        simp only [Act.put, List.setIfInBounds_toArray, List.set_cons_zero, List.set_cons_succ]
        refine Upto.take (i := 4) (v := ?_) rfl (by kernel_rfl) (fun _ _ _ h => h) rfl (fun w' hS => ?_) hS0 ?_
        rotate_left
        · (try dsimp only at hS)
          (try go_split_ands)
          go_simp
          (try with_reducible rfl)
        simp only [Act.put, List.setIfInBounds_toArray, List.set_cons_zero, List.set_cons_succ]
        refine Upto.law (i := 5) rfl (by kernel_rfl) rfl (fun K hK => ?_)
        have DD := D.out.new (w' := wr.drew) (Below.refl _ _).drew
        have FZ := Lib.hid (DD.zeroR σ2)
        refine wp_store_row 24 _ _ (by rfl) w.heap.size #[.int .i64 0, .slice none 0 0] (by rfl) (by rfl) 24 _ DD.res pg_inf rfl (pg_one _ _ _ _) ?_
        refine hK _ _ (FZ.out.2.2 _ he1) ?_
        clear hK DD
        simp only [Act.put, List.setIfInBounds_toArray, List.set_cons_zero, List.set_cons_succ]
        refine Upto.tail rfl (by kernel_rfl) ?_
        simp only [List.drop_succ_cons, List.drop_zero]
        go_wp2_with fail
        refine NoPanic.normal ?_
        go_wp2_with fail
        (try simp only [Exit.inBlock, Exit.then])
        refine bodyPost_ret (results_cellT rfl _ _ w.heap.size 24 _ _ rfl FZ.out.1 Try.underlying24 rfl pg_inf) rfl ?_
        rw [E.out]
        exact FZ.out.2.1
end Go.Proofs.Ytomhofppcogojaa

/- what a writer's methods gather, and that blocks of other types stand. -/
namespace Go.Proofs.Ytomhofppcogojaa
open Go.RowKit

/-- Blocks that are neither the writer's nor of bytes stand. -/
def Stn (b : Nat) (w w' : World) : Prop := ∀ (k : Nat) (t : TypeId) (cs : Array Value), k ≠ b → t ≠ 5 → Bk w k t cs → Bk w' k t cs
theorem Stn.of_below {b : Nat} {w w' : World} (h : Below w.heap.size w w') : Stn b w w' := fun _ _ _ _ _ hb => hb.bel h hb.lt
theorem Stn.then {b : Nat} {w w1 w2 : World} (h : Stn b w w1) (k : Stn b w1 w2) : Stn b w w2 := fun g t cs hg ht hb => k g t cs hg ht (h g t cs hg ht hb)
/-- What a writer's method leaves. -/
def RetT (base b : Nat) (l : List Int) (w : World) (e : Ending) (w' : World) : Prop := RetW base b l w e w' ∧ Stn b w w'
theorem RetT.snd {base b : Nat} {l : List Int} {w w1 w2 : World} {e : Ending} (hb : base ≤ w.heap.size) (h : Below w.heap.size w w1) (k : RetT base b l w1 e w2) : RetT base b l w e w2 := ⟨k.1.snd (h.mono hb), (Stn.of_below h).then k.2⟩

set_option maxHeartbeats 1000000 in
theorem putT (base b : Nat) (l m : List Int) (A : Option Addr) (n c : Nat) (w : World) (h : Wrt w base b l) (hm : Byt w A n c m) (hn : l.length + n ≤ 140737488355328) :
    Calls Try.prog 62 #[.pointer (some ⟨b, 0, none⟩), .slice A n c] w (RetT base b (l ++ m) w) := by
  obtain ⟨i0, hi, hz0, hz1, hz2⟩ := info_parts info_u8
  obtain ⟨A0, n0, c0, hb, ho⟩ := h.ex
  have hl0 : l.length = n0 := by simpa using ho.1
  have hcell : w.cell? ⟨b, 0, none⟩ = some (.slice A0 n0 c0) := hb.cell 0
  have hbz : base ≤ w.heap.size := by have := hb.lt; have := h.low; omega
  have HE := fun A' n' c' w1 h1 h2 => @put_end base b l m w w1 A0 A' n0 c0 n' c' h.low hb hbz ho h.rng hm.rng h1 h2
  have HC := fun w1 h2 => @put_cell base b l w w1 A0 n0 c0 hb ho h2
  have HT : ∀ (w1 : World) (u : Value), w.grownBy w1 (Value.ownBlock (.slice A0 n0 c0)) → Stn b w (w1.setCell ⟨b, 0, none⟩ u) := fun w1 u h2 k t cs hk ht hkb => by
    have h3 : Bk w1 k t cs := bk_apart ho hkb (Ne.symm ht) h2
    exact (Below.heap_setCell w1 ⟨b, 0, none⟩ u k hk).trans h3
  have HE := Lib.hid HE
  have HC := Lib.hid HC
  have HT := Lib.hid HT
  have HO := Lib.hid ho
  clear h hb ho
  go_enter Try.func62, Try.ntmps62
  go_wp2_with (at_builtin; refine wpList_append_byt rfl _ _ 35 rfl base 5 i0 Try.underlying35 hi hz0 hz1 hz2 _ n0 l rfl (by exact HO.out) A n c m rfl hm (by omega) hbz ?_)
  intro A' c' w1 h1 h2
  obtain ⟨hc1, hf1⟩ := HC.out w1 h2
  have R := Lib.hid (HE.out _ _ _ w1 h1 h2)
  have RS := Lib.hid (HT.out w1 (.slice A' (n0 + n) c') h2)
  clear h1 h2 hcell hm HC HE HT
  go_wp2
  go_end0
  exact ⟨R.out, RS.out⟩

set_option maxHeartbeats 1000000 in
theorem numT (base b : Nat) (l : List Int) (z : Nat) (w : World) (h : Wrt w base b l) (hz : z ≤ 9223372036854775807) (hl : l.length ≤ 140737488350000) :
    Calls Try.prog 44 #[.pointer (some ⟨b, 0, none⟩), .int .i64 z] w (RetT base b (l ++ numL z) w) := by
  have GO : Hid (∀ (A : Option Addr) (k c : Nat) (w1 : World), Byt w1 A k c (shortL z) → Below w.heap.size w w1 → Calls Try.prog 62 #[.pointer (some ⟨b, 0, none⟩), .slice A k c] w1 (RetT base b (l ++ shortL z) w)) := Lib.hid (fun A k c w1 hb hbel => by
    have hk : k ≤ 10 := by rw [← hb.len]; exact shortL_len z (by omega)
    exact (putT base b l (shortL z) A k c w1 (h.ret hbel) hb (by omega)).mono fun e w2 hr => hr.snd h.base_le hbel)
  clear h
  rw [numL_nat]
  go_enter Try.func44, Try.ntmps44
  go_wp2_with fail
  refine (numShort_any z (by omega) w).mono ?_
  rintro e w1 ⟨A, k, c, rfl, hb, hbel⟩
  have C := Lib.hid (GO.out A k c w1 hb hbel)
  clear hb hbel
  go_wp2_with fail
  refine C.out.mono ?_
  rintro e w2 ⟨⟨rfl, R⟩, S⟩
  have R := Lib.hid R
  have S := Lib.hid S
  go_wp2_with fail
  go_end0
  exact ⟨⟨rfl, R.out⟩, S.out⟩

set_option maxHeartbeats 1000000 in
theorem flagT (base b : Nat) (l : List Int) (is : Bool) (w : World) (h : Wrt w base b l) (hl : l.length ≤ 140737488350000) :
    Calls Try.prog 65 #[.pointer (some ⟨b, 0, none⟩), .bool is] w (RetT base b (l ++ flagL is) w) := by
  have one : ∀ x : Int, 0 ≤ x ∧ x < 256 → Calls Try.prog 62 #[.pointer (some ⟨b, 0, none⟩), .slice (some ⟨w.heap.size, 0, none⟩) 1 1] (w.alloc (.cells #[.int .u8 x] 5)) (RetT base b (l ++ [x]) w) := fun x hx =>
    (putT base b l [x] _ 1 1 _ (h.ret ((Below.refl _ _).alloc (Nat.le_refl _) _)) (one_byt w x hx) (by omega)).mono fun e w2 hr => hr.snd h.base_le ((Below.refl _ _).alloc (Nat.le_refl _) _)
  cases is with
  | true =>
    have C := Lib.hid (one 1 (by omega))
    clear h one
    go_enter Try.func65, Try.ntmps65
    go_wp2_with fail
    refine C.out.mono ?_
    rintro e w2 ⟨⟨rfl, R⟩, S⟩
    have R := Lib.hid R
    have S := Lib.hid S
    go_wp2_with fail
    go_end0
    exact ⟨⟨rfl, R.out⟩, S.out⟩
  | false =>
    have C := Lib.hid (one 0 (by omega))
    clear h one
    go_enter Try.func65, Try.ntmps65
    go_wp2_with fail
    refine C.out.mono ?_
    rintro e w2 ⟨⟨rfl, R⟩, S⟩
    have R := Lib.hid R
    have S := Lib.hid S
    go_wp2_with fail
    go_end0
    exact ⟨⟨rfl, R.out⟩, S.out⟩

set_option maxHeartbeats 1000000 in
theorem textT (base b : Nat) (l : List Int) (s : ByteArray) (w : World) (h : Wrt w base b l) (hs : l.length + s.size ≤ 140737488350000) :
    Calls Try.prog 64 #[.pointer (some ⟨b, 0, none⟩), .string s] w (RetT base b (l ++ textL (nums s)) w) := by
  have go : ∀ w1, RetT base b (l ++ numL (s.size : Int)) w (.returned (.tuple #[])) w1 → Calls Try.prog 62 #[.pointer (some ⟨b, 0, none⟩), .slice (some ⟨w1.heap.size, 0, none⟩) s.size (grownCap w1 s.size 0 5)] (Lib.bytesWorld w1 5 s) (RetT base b (l ++ textL (nums s)) w) := by
    intro w1 hr
    have hlen : (numL (s.size : Int)).length ≤ 10 := numL_len _ (by omega)
    have hb := bytesWorld_below w1 5 s
    have := putT base b (l ++ numL (s.size : Int)) (nums s) _ _ _ _ (hr.1.2.1.ret hb) (Byt.ofString w1 5 s (by unfold maxLen; omega)) (by simp; omega)
    refine this.mono fun e w2 h2 => ?_
    have h3 := RetW.snd (hr.1.2.2.trans (hb.mono hr.1.2.1.base_le)) h2.1
    rw [List.append_assoc, numL_nat] at h3
    unfold textL
    rw [nums_len]
    exact ⟨h3, hr.2.then ((Stn.of_below hb).then h2.2)⟩
  have GO := Lib.hid go
  have CN := Lib.hid (numT base b l s.size w h (by omega) (by omega))
  have kc := conv_str
  clear go h
  go_enter Try.func64, Try.ntmps64
  go_wp2_with fail
  refine CN.out.mono ?_
  rintro e w1 ⟨⟨rfl, R⟩, S⟩
  have C := Lib.hid (GO.out w1 ⟨⟨rfl, R⟩, S⟩)
  clear R S
  go_wp2_with fail
  refine C.out.mono ?_
  rintro e w2 ⟨⟨rfl, R⟩, S⟩
  have R := Lib.hid R
  have S := Lib.hid S
  go_wp2_with fail
  go_end0
  exact ⟨⟨rfl, R.out⟩, S.out⟩
end Go.Proofs.Ytomhofppcogojaa

/- slot.isTurn, isPlace, sideOf, sectorOf and encode. -/
namespace Go.Proofs.Ytomhofppcogojaa
open Go.RowKit

theorem isTurn_any (t : Int) (w : World) : Calls Try.prog 26 #[.int .i64 t] w (Ret (.bool (decide (1 ≤ t ∧ t ≤ 1099511627776))) w) := by
  by_cases h1 : 1 ≤ t
  · by_cases h2 : t ≤ 1099511627776
    · rw [decide_eq_true ⟨h1, h2⟩]
      go_enter Try.func26, Try.ntmps26
      go_wp2_with fail
      go_ret
      exact ⟨rfl, Below.refl _ _⟩
    · rw [decide_eq_false (fun q => h2 q.2)]
      go_enter Try.func26, Try.ntmps26
      go_wp2_with fail
      go_ret
      exact ⟨rfl, Below.refl _ _⟩
  · rw [decide_eq_false (fun q => h1 q.1)]
    go_enter Try.func26, Try.ntmps26
    go_wp2_with fail
    go_ret
    exact ⟨rfl, Below.refl _ _⟩

/-- A place that may be. -/
def plOk (b n : Int) : Prop := (0 ≤ b ∧ b ≤ 4096) ∧ (0 ≤ n ∧ n ≤ 4096)
instance (b n : Int) : Decidable (plOk b n) := by unfold plOk; infer_instance
theorem isPlace_any (b n : Int) (w : World) : Calls Try.prog 27 #[.int .i64 b, .int .i64 n] w (Ret (.bool (decide (plOk b n))) w) := by
  by_cases h1 : 0 ≤ b
  · by_cases h2 : b ≤ 4096
    · by_cases h3 : 0 ≤ n
      · by_cases h4 : n ≤ 4096
        · rw [decide_eq_true ⟨⟨h1, h2⟩, h3, h4⟩]
          go_enter Try.func27, Try.ntmps27
          go_wp2_with fail
          go_ret
          exact ⟨rfl, Below.refl _ _⟩
        · rw [decide_eq_false (fun q => h4 q.2.2)]
          go_enter Try.func27, Try.ntmps27
          go_wp2_with fail
          go_ret
          exact ⟨rfl, Below.refl _ _⟩
      · rw [decide_eq_false (fun q => h3 q.2.1)]
        go_enter Try.func27, Try.ntmps27
        go_wp2_with fail
        go_ret
        exact ⟨rfl, Below.refl _ _⟩
    · rw [decide_eq_false (fun q => h2 q.1.2)]
      go_enter Try.func27, Try.ntmps27
      go_wp2_with fail
      go_ret
      exact ⟨rfl, Below.refl _ _⟩
  · rw [decide_eq_false (fun q => h1 q.1.1)]
    go_enter Try.func27, Try.ntmps27
    go_wp2_with fail
    go_ret
    exact ⟨rfl, Below.refl _ _⟩

theorem sideOf_any (t : Int) (ht : 0 ≤ t ∧ t ≤ 9223372036854775807) (w : World) : Calls Try.prog 49 #[.int .i64 t] w (Ret (.int .i64 (t % 2)) w) := by
  go_enter Try.func49, Try.ntmps49
  go_wp2_with fail
  go_ret
  exact ⟨rfl, Below.refl _ _⟩

theorem slSec_any (b n t : Int) (h : plOk b n) (ht : 0 ≤ t ∧ t ≤ 9223372036854775807) (w : World) : Calls Try.prog 30 #[.int .i64 b, .int .i64 n, .int .i64 t] w (Ret (.int .i64 (slSec b n t)) w) := by
  obtain ⟨⟨h1, h2⟩, h3, h4⟩ := h
  have hs : 0 ≤ t % 2 ∧ t % 2 < 2 := by omega
  have E : Hid (slSec b n t = b + 2 * n + t % 2) := Lib.hid rfl
  rw [E.out]
  have CS := Lib.hid (fun w => sideOf_any t ht w)
  obtain ⟨z, hz⟩ : ∃ z, t % 2 = z := ⟨_, rfl⟩
  rw [hz] at CS hs ⊢
  clear hz E
  go_enter Try.func30, Try.ntmps30
  go_wp2_with fail
  refine (CS.out _).mono ?_
  rintro e w1 ⟨rfl, b1⟩
  have B1 := Lib.hid b1
  clear b1
  go_wp2_with fail
  go_ret
  exact ⟨rfl, B1.out⟩

set_option maxRecDepth 100000 in
theorem slEnc_any (t : Int) (ht : 0 ≤ t ∧ t ≤ 1099511627776) (A : Option Addr) (n c : Nat) (l : List Int) (w : World) (h : Byt w A n c l) (hn : n ≤ 100000) :
    Calls Try.prog 31 #[.int .i64 t, .slice A n c] w (RetOwn (numL t ++ l) w) := by
  obtain ⟨i0, hi, hz0, hz1, hz2⟩ := info_parts info_u8
  obtain ⟨W1, hW1⟩ : ∃ W, W = w.alloc (.cells #[.slice none 0 0] 91) := ⟨_, rfl⟩
  have B1 : Hid (Below w.heap.size w W1) := Lib.hid (by rw [hW1]; exact (Below.refl _ _).alloc (Nat.le_refl _) _)
  have H1 : Hid (Wrt W1 w.heap.size w.heap.size []) := Lib.hid (by rw [hW1]; exact Wrt.new w)
  have HW := Lib.hid hW1
  have HY := Lib.hid h
  have HR := Lib.hid h.rng
  have hln : (numL t).length ≤ 10 := numL_len t (by omega)
  obtain ⟨b, hb⟩ : ∃ b, w.heap.size = b := ⟨_, rfl⟩
  rw [hb] at H1
  have HBS := Lib.hid hb
  have C1 := Lib.hid (wNum_any b b [] t W1 H1.out (by omega) (by simp))
  clear h hW1 H1 hb
  go_enter Try.func31, Try.ntmps31
  go_wp2_with fail
  rw [← HW.out, HBS.out]
  refine C1.out.mono ?_
  rintro e w2 ⟨rfl, hw2, hb2⟩
  have H2 := Lib.hid hw2
  have B2 := Lib.hid hb2
  clear hw2 hb2 C1 HW
  have C2 := wBytes_own b b ([] ++ numL t) w2 H2.out (by simp; omega)
  rw [List.nil_append] at C2
  have C2 := Lib.hid C2
  go_wp2_with fail
  refine C2.out.mono ?_
  rintro e w3 ⟨A3, n3, c3, rfl, ho, hr, hb3⟩
  have B3 : Hid (Below w.heap.size w w3) := Lib.hid (by
    have q : Below b w w3 := by
      have q1 : Below b w W1 := by rw [← HBS.out]; exact B1.out
      exact (q1.trans B2.out).trans (hb3.mono (H2.out.base_le))
    rw [HBS.out]; exact q)
  have O3 := Lib.hid ho
  have HR3 := Lib.hid hr
  have hn3 : n3 ≤ 10 := by have := ho.1; simp at this; omega
  have hle : w.heap.size ≤ w2.heap.size := by rw [HBS.out]; exact H2.out.base_le
  have HLE := Lib.hid hle
  have HLE3 := Lib.hid hb3.size
  have HY3 := Lib.hid (HY.out.below B3.out)
  clear ho hr hb3 C2 H2 B2 B1 hle
  go_wp2_with (at_builtin; refine wpList_append_byt rfl _ _ 35 rfl w2.heap.size 5 i0 Try.underlying35 hi hz0 hz1 hz2 _ n3 (numL t) rfl (by exact O3.out) A n c l rfl HY3.out (by omega) HLE3.out ?_)
  intro A4 c4 w4 q1 q2
  have R : Hid (RetOwn (numL t ++ l) w (.returned (.slice A4 (n3 + n) c4)) w4) := Lib.hid ⟨A4, n3 + n, c4, rfl, by rw [List.map_append]; exact owns_low q1 HLE.out, fun x hx => by
    rcases List.mem_append.1 hx with q | q
    · exact HR3.out x q
    · exact HR.out x q, B3.out.grown q2 B3.out.size (fun k hk => Nat.le_trans HLE.out (O3.out.lt k hk).1)⟩
  clear q1 q2
  go_wp2_with fail
  go_ret
  exact R.out
end Go.Proofs.Ytomhofppcogojaa

/- slot.versionIn answers the version that a sector has. -/
namespace Go.Proofs.Ytomhofppcogojaa
open Go.RowKit

/-- A struct's cells and two values beside it. -/
theorem results_cellTT {P : Program} {fn : Func} {p u v : Tmp} {ty : TypeId} (h : fn.results = #[.cell p ty, .tmp u, .tmp v]) (tmps : Array Value) (w : World) (g : Nat) (t : TypeId) (cs : Array Value) (d : TypeDesc)
    (hp : tmps.getD p undef = .pointer (some ⟨g, 0, none⟩)) (hg : Bk w g t cs)
    (hu : P.underlying ty = some d) (hd : (match d with | .struct _ | .array _ _ => true | _ => false) = true) (hi : (P.info? ty).map (·.size) = some cs.size) :
    (results fn tmps).run P w = .ok (.tuple #[.agg cs, tmps.getD u undef, tmps.getD v undef]) w := by
  have hp' : tmps[p]?.getD undef = .pointer (some ⟨g, 0, none⟩) := by simpa using hp
  simp [results, h, hp', asAddr, run_loadVar_row w g t ty cs (0, 0) d hg hu hd hi, Result.andThen]

theorem rd_bel {w w' : World} {t : TypeId} {b g : Nat} {l : List Int} {e : Nat} (h : Rd w t b g l e) (hg : g < b) (hb : Below w.heap.size w w') : Rd w' t b g l e :=
  h.grown (row := none) ⟨hb.os, hb.tape, hb.output, hb.size, fun k hk _ => hb.block k hk⟩ (by simp) (by simp)

/-- A version in new memory, and a flag. -/
def RetVr (v : Vr) (is : Bool) (w : World) (e : Ending) (w' : World) : Prop := ∃ A n c, e = .returned (.tuple #[pgV v.pg.lsn A n c, .int .i64 v.turn, .bool is]) ∧ OwnP w.heap.size w' A n c v.pg.cells ∧ Below w.heap.size w w'

set_option maxRecDepth 100000 in
set_option maxHeartbeats 8000000 in
theorem versionIn_any (z : Int) (A : Option Addr) (n c : Nat) (l : List Int) (w : World) (h : Byt w A n c l) :
    Calls Try.prog 32 #[.int .i64 z, .slice A n c] w (RetVr (verP z l) (decide (isV z l)) w) := by
  obtain ⟨W0, hW0⟩ : ∃ W, W = w.alloc (.cells #[.int .i64 0, .slice none 0 0] 24) := ⟨_, rfl⟩
  have B0 : Hid (Below w.heap.size w W0) := Lib.hid (by rw [hW0]; exact (Below.refl _ _).alloc (Nat.le_refl _) _)
  have R0 : Hid (Bk W0 w.heap.size 24 #[.int .i64 0, .slice none 0 0]) := Lib.hid (by rw [hW0]; exact Bk.new w _ _)
  obtain ⟨r, hr⟩ : ∃ r, w.heap.size = r := ⟨_, rfl⟩
  have CO := Lib.hid (stOpen_any A n c l W0 (h.below B0.out))
  have HRG := Lib.hid h.rng
  have HW := Lib.hid hW0
  have HR := Lib.hid hr
  have NO : Hid (∀ w', Below r w w' → Bk w' r 24 #[.int .i64 0, .slice none 0 0] → RetVr vr0 false w (.returned (.tuple #[pgV 0 none 0 0, .int .i64 0, .bool false])) w') := Lib.hid (fun w' hb _ => ⟨none, 0, 0, rfl, OwnP.nil _ _, by rw [hr]; exact hb⟩)
  rw [hr] at R0
  rw [hr] at B0
  have HLB : Hid (openE l = 0 → (openB l).length = 254) := Lib.hid (fun e => by
    by_cases hl : l.length = 256
    · unfold openB; rw [if_pos e]; exact bodyL_len hl
    · rw [openE_len hl] at e; omega)
  clear h hW0 hr
  by_cases h1 : openE l = 0
  rotate_left
  · have E : Hid (verP z l = vr0 ∧ decide (isV z l) = false) := Lib.hid ⟨verP_no (fun q => h1 q.1), decide_eq_false (fun q => h1 q.1)⟩
    obtain ⟨x, hx⟩ : ∃ x, openE l = x := ⟨_, rfl⟩
    rw [hx] at CO h1
    have hz : ((x : Int) != 0) = true := by simp; omega
    clear hx h1
    go_enter Try.func32, Try.ntmps32
    go_wp2_with fail
    rw [← HW.out, HR.out]
    refine CO.out.mono ?_
    rintro e W1 ⟨A1, n1, c1, rfl, hb, hbel⟩
    have R1 : Hid (Bk W1 r 24 #[.int .i64 0, .slice none 0 0]) := Lib.hid (R0.out.bel hbel R0.out.lt)
    have B1 : Hid (Below r w W1) := Lib.hid (B0.out.trans (hbel.mono (Nat.le_of_lt R0.out.lt)))
    have Z0 : W1.frozen? ⟨r, 0, none⟩ = false := R1.out.frz 0
    have Z1 : W1.frozen? ⟨r, 1, none⟩ = false := R1.out.frz 1
    have z0 : W1.cell? ⟨r, 0, none⟩ = some (.int .i64 0) := R1.out.cell 0
    have z1 : W1.cell? ⟨r, 1, none⟩ = some (.slice none 0 0) := R1.out.cell 1
    have RZ := Lib.hid ((R1.out.setc 0 (.int .i64 0)).setc 1 (.slice none 0 0))
    have BZ := Lib.hid ((B1.out.setCell (p := ⟨r, 0, none⟩) (Nat.le_refl _) (.int .i64 0)).setCell (p := ⟨r, 1, none⟩) (Nat.le_refl _) (.slice none 0 0))
    clear hb hbel CO
    go_wp2_with fail
    (try simp only [Exit.inBlock, Exit.then])
    refine bodyPost_ret (results_cellTT rfl _ _ r 24 _ _ rfl RZ.out Try.underlying24 rfl pg_inf) rfl ?_
    rw [E.out.1, E.out.2]
    exact NO.out _ BZ.out RZ.out
  have HL := Lib.hid (HLB.out h1)
  rw [h1] at CO
  have HOE := Lib.hid h1
  clear h1 HLB
  go_enter Try.func32, Try.ntmps32
  go_wp2_with fail
  rw [← HW.out, HR.out]
  refine CO.out.mono ?_
  rintro e W1 ⟨A1, n1, c1, rfl, hb, hbel⟩
  have R1 : Hid (Bk W1 r 24 #[.int .i64 0, .slice none 0 0]) := Lib.hid (R0.out.bel hbel R0.out.lt)
  have B1 : Hid (Below r w W1) := Lib.hid (B0.out.trans (hbel.mono (Nat.le_of_lt R0.out.lt)))
  have hn1 : n1 = 254 := by rw [← hb.len]; exact HL.out
  subst hn1
  have HY1 := Lib.hid hb
  have hs1 := R1.out.lt
  have CR := Lib.hid (read_any A1 254 c1 (openB l) W1 hb (by omega) (by omega))
  clear hb hbel CO B0 R0 HW
  go_wp2_with fail
  refine CR.out.mono ?_
  rintro e W2 ⟨rb, g, rfl, hrb, hg, hrd, b2⟩
  have C2 := Lib.hid (sNum 1099511627776 (by omega) hrd)
  have R2 : Hid (Bk W2 r 24 #[.int .i64 0, .slice none 0 0]) := Lib.hid (R1.out.bel b2 R1.out.lt)
  have B2 : Hid (Below r w W2) := Lib.hid (B1.out.trans (b2.mono (Nat.le_of_lt R1.out.lt)))
  have HY2 := Lib.hid (HY1.out.below b2)
  have HRB : Hid (W1.heap.size ≤ rb ∧ g < rb ∧ r < rb) := Lib.hid ⟨hrb, hg, by omega⟩
  have b2' := Lib.hid b2
  clear hrd b2 CR hrb hg
  go_wp2_with fail
  refine C2.out.mono ?_
  rintro e W3 ⟨rfl, hr3, g3⟩
  have HV : Hid ((pNum 1099511627776 (openB l, 0)).1 = verT l ∧ (pNum 1099511627776 (openB l, 0)).2.1 = verR l ∧ (pNum 1099511627776 (openB l, 0)).2.2 = verX l) := Lib.hid ⟨rfl, rfl, rfl⟩
  rw [HV.out.2.1, HV.out.2.2] at hr3
  (try rw [HV.out.1])
  have R3 : Hid (Bk W3 r 24 #[.int .i64 0, .slice none 0 0]) := Lib.hid (R2.out.grow g3 (fun q => by injection q with q; have := HRB.out; omega))
  have B3 : Hid (Below r w W3) := Lib.hid (B2.out.grown g3 (Nat.le_of_lt R2.out.lt) (fun k hk => by injection hk with hk; have := HRB.out; omega))
  have HY3 : Hid (Byt W3 A1 254 c1 (openB l)) := Lib.hid (HY1.out.below (b2'.out.grown g3 b2'.out.size (fun k hk => by injection hk with hk; have := HRB.out; omega)))
  have HR3 := Lib.hid hr3
  have hvt := verT_rng l
  have HVE := Lib.hid (fun (q : verX l ≠ 0) => verT_err q)
  obtain ⟨t, ht⟩ : ∃ t, verT l = t := ⟨_, rfl⟩
  have HT := Lib.hid ht
  rw [ht] at hvt ⊢
  clear hr3 g3 C2 HV R1 B1 R2 B2 HY1 HY2 b2' ht
  have CT := isTurn_any t W3
  by_cases h1 : 1 ≤ t
  rotate_left
  · have E : Hid (verP z l = vr0 ∧ decide (isV z l) = false) := Lib.hid ⟨verP_no (fun q => h1 (by have := q.2.1; rw [HT.out] at this; exact this)), decide_eq_false (fun q => h1 (by have := q.2.1; rw [HT.out] at this; exact this))⟩
    rw [decide_eq_false (fun q => h1 q.1)] at CT
    have CT := Lib.hid CT
    clear h1
    go_wp2_with fail
    refine CT.out.mono ?_
    rintro e W4 ⟨rfl, b4⟩
    have R4 := Lib.hid (R3.out.bel b4 R3.out.lt)
    have B4 := Lib.hid (B3.out.trans (b4.mono (Nat.le_of_lt R3.out.lt)))
    clear b4 CT R3 B3
    have Z0 : W4.frozen? ⟨r, 0, none⟩ = false := R4.out.frz 0
    have Z1 : W4.frozen? ⟨r, 1, none⟩ = false := R4.out.frz 1
    have z0 : W4.cell? ⟨r, 0, none⟩ = some (.int .i64 0) := R4.out.cell 0
    have z1 : W4.cell? ⟨r, 1, none⟩ = some (.slice none 0 0) := R4.out.cell 1
    have RZ := Lib.hid ((R4.out.setc 0 (.int .i64 0)).setc 1 (.slice none 0 0))
    have BZ := Lib.hid ((B4.out.setCell (p := ⟨r, 0, none⟩) (Nat.le_refl _) (.int .i64 0)).setCell (p := ⟨r, 1, none⟩) (Nat.le_refl _) (.slice none 0 0))
    go_wp2_with fail
    (try simp only [Exit.inBlock, Exit.then])
    refine bodyPost_ret (results_cellTT rfl _ _ r 24 _ _ rfl RZ.out Try.underlying24 rfl pg_inf) rfl ?_
    rw [E.out.1, E.out.2]
    exact NO.out _ BZ.out RZ.out
  rw [decide_eq_true ⟨h1, hvt.2⟩] at CT
  have CT := Lib.hid CT
  have CS := Lib.hid (fun W => sideOf_any t (by omega) W)
  have HX0 : Hid (verX l = 0) := Lib.hid (by
    refine Classical.byContradiction fun q => ?_
    have := HVE.out q
    rw [HT.out] at this
    omega)
  clear HVE
  by_cases h2 : t % 2 = z
  rotate_left
  · have E : Hid (verP z l = vr0 ∧ decide (isV z l) = false) := Lib.hid ⟨verP_no (fun q => h2 (by have := q.2.2.1; rw [HT.out] at this; exact this)), decide_eq_false (fun q => h2 (by have := q.2.2.1; rw [HT.out] at this; exact this))⟩
    obtain ⟨y, hy⟩ : ∃ y, t % 2 = y := ⟨_, rfl⟩
    rw [hy] at CS h2
    have hd : (y != z) = true := by simpa using h2
    clear h2 hy
    go_wp2_with fail
    refine CT.out.mono ?_
    rintro e W4 ⟨rfl, b4⟩
    have R4 := Lib.hid (R3.out.bel b4 R3.out.lt)
    have B4 := Lib.hid (B3.out.trans (b4.mono (Nat.le_of_lt R3.out.lt)))
    clear b4 CT R3 B3
    go_wp2_with fail
    refine (CS.out _).mono ?_
    rintro e W5 ⟨rfl, b5⟩
    have R5 := Lib.hid (R4.out.bel b5 R4.out.lt)
    have B5 := Lib.hid (B4.out.trans (b5.mono (Nat.le_of_lt R4.out.lt)))
    clear b5 CS R4 B4
    have Z0 : W5.frozen? ⟨r, 0, none⟩ = false := R5.out.frz 0
    have Z1 : W5.frozen? ⟨r, 1, none⟩ = false := R5.out.frz 1
    have z0 : W5.cell? ⟨r, 0, none⟩ = some (.int .i64 0) := R5.out.cell 0
    have z1 : W5.cell? ⟨r, 1, none⟩ = some (.slice none 0 0) := R5.out.cell 1
    have RZ := Lib.hid ((R5.out.setc 0 (.int .i64 0)).setc 1 (.slice none 0 0))
    have BZ := Lib.hid ((B5.out.setCell (p := ⟨r, 0, none⟩) (Nat.le_refl _) (.int .i64 0)).setCell (p := ⟨r, 1, none⟩) (Nat.le_refl _) (.slice none 0 0))
    go_wp2_with fail
    (try simp only [Exit.inBlock, Exit.then])
    refine bodyPost_ret (results_cellTT rfl _ _ r 24 _ _ rfl RZ.out Try.underlying24 rfl pg_inf) rfl ?_
    rw [E.out.1, E.out.2]
    exact NO.out _ BZ.out RZ.out
  have HTZ : Hid (t % 2 = z) := Lib.hid h2
  rw [h2] at CS
  have hd : (z != z) = false := by simp
  clear h2
  go_wp2_with fail
  refine CT.out.mono ?_
  rintro e W4 ⟨rfl, b4⟩
  have R4 := Lib.hid (R3.out.bel b4 R3.out.lt)
  have B4 := Lib.hid (B3.out.trans (b4.mono (Nat.le_of_lt R3.out.lt)))
  have D4 := Lib.hid (rd_bel HR3.out (by have := HRB.out; omega) b4)
  have Y4 := Lib.hid (HY3.out.below b4)
  clear b4 CT R3 B3 HR3 HY3
  go_wp2_with fail
  refine (CS.out _).mono ?_
  rintro e W5 ⟨rfl, b5⟩
  have R5 := Lib.hid (R4.out.bel b5 R4.out.lt)
  have B5 := Lib.hid (B4.out.trans (b5.mono (Nat.le_of_lt R4.out.lt)))
  have D5 := Lib.hid (rd_bel D4.out (by have := HRB.out; omega) b5)
  have Y5 := Lib.hid (Y4.out.below b5)
  clear b5 CS R4 B4 D4 Y4
  obtain ⟨⟨d1, d2⟩, hdd⟩ : ∃ d, decPg (verR l) = d := ⟨_, rfl⟩
  have HDD := Lib.hid hdd
  obtain ⟨u, hu⟩ : ∃ u, (verR l).length = u := ⟨_, rfl⟩
  have hdr := verR_drop HRG.out HX0.out
  rw [HL.out, hu] at hdr
  have HDR := Lib.hid hdr.2
  have hule := hdr.1
  have HU := Lib.hid hu
  clear hdd hdr hu
  have CL := Lib.hid (rLeft_any rb g (verR l) (verX l) W5 D5.out)
  rw [HU.out] at CL
  obtain ⟨A4, m4, c4, hcut, hm4, hy4⟩ := cut_l Y5.out (254 - u) (by omega) ((254 : Int) - u) (by omega)
  obtain rfl : m4 = u := by omega
  clear hm4
  rw [HDR.out] at hy4
  have CD := pgDec_any A4 m4 c4 (verR l) W5 hy4 (by omega)
  rw [HDD.out] at CD
  have CD := Lib.hid CD
  go_wp2_with fail
  refine CL.out.mono ?_
  rintro e W6 ⟨rfl, rfl⟩
  clear CL D5 Y5
  go_wp2_with fail
  refine CD.out.mono ?_
  rintro e w6 ⟨A5, n5, c5, rfl, hown, hbel⟩
  have R6 := Lib.hid (R5.out.bel hbel R5.out.lt)
  have B6 := Lib.hid (B5.out.trans (hbel.mono (Nat.le_of_lt R5.out.lt)))
  have HO6 := Lib.hid hown
  have hs5 := R5.out.lt
  have hs6 := R6.out.lt
  clear hown hbel R5 B5 CD hcut hy4 hule
  go_upto_region 9 with fail
  obtain ⟨X, hX⟩ : ∃ X, w6.heap.size = X := ⟨_, rfl⟩
  obtain ⟨w7, hw7⟩ : ∃ W, W = w6.alloc (.cells #[.int .i64 d1.lsn, .slice A5 n5 c5] 24) := ⟨_, rfl⟩
  have hal : Below w6.heap.size w6 w7 := by rw [hw7]; exact (Below.refl _ _).alloc (Nat.le_refl _) _
  have R7 : Hid (Bk w7 r 24 #[.int .i64 0, .slice none 0 0]) := Lib.hid (R6.out.bel hal R6.out.lt)
  have B7 := Lib.hid (B6.out.trans (hal.mono (Nat.le_of_lt R6.out.lt)))
  have HBK : Hid (Bk w7 X 24 #[.int .i64 d1.lsn, .slice A5 n5 c5]) := Lib.hid (by rw [hw7, ← hX]; exact Bk.new w6 _ _)
  have HO7 := Lib.hid (HO6.out.below hal)
  rw [← hw7]
  (try rw [hX])
  rw [hX] at hs6
  clear hw7 hal R6 B6 HO6 hX
  by_cases hre : d2 = 0
  rotate_left
  · have E : Hid (verP z l = vr0 ∧ decide (isV z l) = false) := Lib.hid ⟨verP_no (fun q => hre (by have := q.2.2.2; rw [HDD.out] at this; exact this)), decide_eq_false (fun q => hre (by have := q.2.2.2; rw [HDD.out] at this; exact this))⟩
    have hz : ((d2 : Int) != 0) = true := by simp; omega
    clear hre
    have Z0 : w7.frozen? ⟨r, 0, none⟩ = false := R7.out.frz 0
    have Z1 : w7.frozen? ⟨r, 1, none⟩ = false := R7.out.frz 1
    have z0 : w7.cell? ⟨r, 0, none⟩ = some (.int .i64 0) := R7.out.cell 0
    have z1 : w7.cell? ⟨r, 1, none⟩ = some (.slice none 0 0) := R7.out.cell 1
    have RZ := Lib.hid ((R7.out.setc 0 (.int .i64 0)).setc 1 (.slice none 0 0))
    have BZ := Lib.hid ((B7.out.setCell (p := ⟨r, 0, none⟩) (Nat.le_refl _) (.int .i64 0)).setCell (p := ⟨r, 1, none⟩) (Nat.le_refl _) (.slice none 0 0))
    go_wp2_with fail
    (try simp only [Exit.inBlock, Exit.then])
    refine bodyPost_ret (results_cellTT rfl _ _ r 24 _ _ rfl RZ.out Try.underlying24 rfl pg_inf) rfl ?_
    rw [E.out.1, E.out.2]
    exact NO.out _ BZ.out RZ.out
  subst hre
  have E : Hid (verP z l = ⟨t, d1⟩ ∧ decide (isV z l) = true) := Lib.hid (by
    have hv : isV z l := ⟨HOE.out, by rw [HT.out]; exact h1, by rw [HT.out]; exact HTZ.out, by rw [HDD.out]⟩
    refine ⟨?_, decide_eq_true hv⟩
    rw [verP_yes hv, HT.out, HDD.out])
  have q0 : w7.cell? ⟨X, 0, none⟩ = some (.int .i64 d1.lsn) := HBK.out.cell 0
  have q1 : w7.cell? ⟨X, 1, none⟩ = some (.slice A5 n5 c5) := HBK.out.cell 1
  have Z0 : w7.frozen? ⟨r, 0, none⟩ = false := R7.out.frz 0
  have Z1 : w7.frozen? ⟨r, 1, none⟩ = false := R7.out.frz 1
  have z0 : w7.cell? ⟨r, 0, none⟩ = some (.int .i64 0) := R7.out.cell 0
  have z1 : w7.cell? ⟨r, 1, none⟩ = some (.slice none 0 0) := R7.out.cell 1
  have RZ := Lib.hid ((R7.out.setc 0 (.int .i64 d1.lsn)).setc 1 (.slice A5 n5 c5))
  have BZ := Lib.hid ((B7.out.setCell (p := ⟨r, 0, none⟩) (Nat.le_refl _) (.int .i64 d1.lsn)).setCell (p := ⟨r, 1, none⟩) (Nat.le_refl _) (.slice A5 n5 c5))
  have HRES : Hid (RetVr ⟨t, d1⟩ true w (.returned (.tuple #[pgV d1.lsn A5 n5 c5, .int .i64 t, .bool true])) ((w7.setCell ⟨r, 0, none⟩ (.int .i64 d1.lsn)).setCell ⟨r, 1, none⟩ (.slice A5 n5 c5))) := Lib.hid ⟨A5, n5, c5, rfl, OwnP.lo ⟨own_set (own_set HO7.out.own R7.out (by decide)) (R7.out.setc 0 _) (by decide), HO7.out.len⟩ (by rw [HR.out]; have := R7.out.lt; omega), by rw [HR.out]; exact BZ.out⟩
  clear h1
  go_wp2_with fail
  (try simp only [Exit.inBlock, Exit.then])
  refine bodyPost_ret (results_cellTT rfl _ _ r 24 _ _ rfl RZ.out Try.underlying24 rfl pg_inf) rfl ?_
  rw [E.out.1, E.out.2]
  exact HRES.out
end Go.Proofs.Ytomhofppcogojaa

/- slot.Load, where reads answer known bytes or errors: the version that counts, or the error; nothing that was there is turned. -/
namespace Go.Proofs.Ytomhofppcogojaa
open Go.RowKit

/-- A page, its turn, an error. -/
def RetLd (v : Vr) (er : Int) (w : World) (e : Ending) (w' : World) : Prop := ∃ A n c, e = .returned (.tuple #[pgV v.pg.lsn A n c, .int .i64 v.turn, .int .i64 er]) ∧ OwnP w.heap.size w' A n c v.pg.cells ∧ Below w.heap.size w w'

/-- What Load has in memory: the result's block, the one of the current version. -/
structure LdW (w wr : World) (r X : Nat) (v : Vr) (A : Option Addr) (n c : Nat) : Prop where
  ne : r < X
  res : Bk wr r 24 #[.int .i64 0, .slice none 0 0]
  cur : Bk wr X 24 #[.int .i64 v.pg.lsn, .slice A n c]
  own : OwnP r wr A n c v.pg.cells
  bel : Below r w wr
section
variable {w wr w' : World} {r X : Nat} {v : Vr} {A : Option Addr} {n c : Nat}
theorem LdW.new (h : LdW w wr r X v A n c) (hb : Below wr.heap.size wr w') : LdW w w' r X v A n c :=
  ⟨h.ne, h.res.bel hb h.res.lt, h.cur.bel hb h.cur.lt, h.own.below hb, h.bel.trans (hb.mono (Nat.le_of_lt h.res.lt))⟩
/-- Another version becomes the current one. -/
theorem LdW.take (h : LdW w wr r X v A n c) {v' : Vr} {A' : Option Addr} {n' c' : Nat} (ho : OwnP r wr A' n' c' v'.pg.cells) : LdW w ((wr.setCell ⟨X, 0, none⟩ (.int .i64 v'.pg.lsn)).setCell ⟨X, 1, none⟩ (.slice A' n' c')) r X v' A' n' c' :=
  have hne : r ≠ X := Nat.ne_of_lt h.ne
  ⟨h.ne, by
    have q : ∀ w1 i u, Bk w1 r 24 #[.int .i64 0, .slice none 0 0] → Bk (w1.setCell ⟨X, i, none⟩ u) r 24 #[.int .i64 0, .slice none 0 0] := fun w1 i u hb => (Below.heap_setCell w1 ⟨X, i, none⟩ u r hne).trans hb
    exact q _ _ _ (q _ _ _ h.res), by simpa using (h.cur.setc 0 (.int .i64 v'.pg.lsn)).setc 1 (.slice A' n' c'),
    ⟨own_set (own_set ho.own h.cur (by decide)) (h.cur.setc 0 _) (by decide), ho.len⟩,
    (h.bel.setCell (p := ⟨X, 0, none⟩) (Nat.le_of_lt h.ne) _).setCell (p := ⟨X, 1, none⟩) (Nat.le_of_lt h.ne) _⟩
/-- The result is nothing. -/
theorem LdW.zero (h : LdW w wr r X v A n c) : Bk ((wr.setCell ⟨r, 0, none⟩ (.int .i64 0)).setCell ⟨r, 1, none⟩ (.slice none 0 0)) r 24 #[.int .i64 0, .slice none 0 0] ∧ Below r w ((wr.setCell ⟨r, 0, none⟩ (.int .i64 0)).setCell ⟨r, 1, none⟩ (.slice none 0 0)) :=
  ⟨by simpa using (h.res.setc 0 (.int .i64 0)).setc 1 (.slice none 0 0), (h.bel.setCell (p := ⟨r, 0, none⟩) (Nat.le_refl _) _).setCell (p := ⟨r, 1, none⟩) (Nat.le_refl _) _⟩
/-- The result is the current version. -/
theorem LdW.fin (h : LdW w wr r X v A n c) : Bk ((wr.setCell ⟨r, 0, none⟩ (.int .i64 v.pg.lsn)).setCell ⟨r, 1, none⟩ (.slice A n c)) r 24 #[.int .i64 v.pg.lsn, .slice A n c] ∧ Below r w ((wr.setCell ⟨r, 0, none⟩ (.int .i64 v.pg.lsn)).setCell ⟨r, 1, none⟩ (.slice A n c)) ∧ OwnP r ((wr.setCell ⟨r, 0, none⟩ (.int .i64 v.pg.lsn)).setCell ⟨r, 1, none⟩ (.slice A n c)) A n c v.pg.cells :=
  ⟨by simpa using (h.res.setc 0 (.int .i64 v.pg.lsn)).setc 1 (.slice A n c), (h.bel.setCell (p := ⟨r, 0, none⟩) (Nat.le_refl _) _).setCell (p := ⟨r, 1, none⟩) (Nat.le_refl _) _,
    ⟨own_set (own_set h.own.own h.res (by decide)) (h.res.setc 0 _) (by decide), h.own.len⟩⟩
end

set_option maxRecDepth 100000 in
set_option maxHeartbeats 8000000 in
theorem slLoad_gen (d : Option Addr) (L : Int → List Int) (E : Int → Int) (base n : Int) (w : World)
    (hR : ∀ z w', Below w.heap.size w w' → Calls Try.prog 14 #[.pointer d, .int .i64 z] w' (RetRd (L z) (E z) w')) :
    Calls Try.prog 12 #[.pointer d, .int .i64 base, .int .i64 n] w (RetLd (ldV E L base n) (ldE E base n) w) := by
  obtain ⟨r, hr⟩ : ∃ r, w.heap.size = r := ⟨_, rfl⟩
  obtain ⟨W0, hW0⟩ : ∃ W0, W0 = w.alloc (.cells #[.int .i64 0, .slice none 0 0] 24) := ⟨_, rfl⟩
  have R0 : Hid (Bk W0 r 24 #[.int .i64 0, .slice none 0 0]) := Lib.hid (by rw [hW0, ← hr]; exact Bk.new w _ _)
  have B0 : Hid (Below r w W0) := Lib.hid (by rw [hW0, ← hr]; exact (Below.refl _ _).alloc (Nat.le_refl _) _)
  have HS0 : Hid (W0.heap.size = r + 1) := Lib.hid (by rw [hW0, World.size_alloc, hr])
  have HW0 := Lib.hid hW0
  have HR := Lib.hid hr
  have NO : Hid (∀ (er : Int) w', Below r w w' → RetLd vr0 er w (.returned (.tuple #[pgV 0 none 0 0, .int .i64 0, .int .i64 er])) w') := Lib.hid (fun er w' hb => ⟨none, 0, 0, rfl, OwnP.nil _ _, by rw [hr]; exact hb⟩)
  have CP := isPlace_any base n W0
  by_cases hp : plOk base n
  rotate_left
  · have EQ : Hid (ldV E L base n = vr0 ∧ ldE E base n = 1) := Lib.hid (by
      have e : ldE E base n = 1 := if_neg hp
      refine ⟨?_, e⟩
      unfold ldV
      rw [e, if_pos (by simp)])
    rw [decide_eq_false hp] at CP
    have CP := Lib.hid CP
    clear hp hW0 hr hR
    go_enter Try.func12, Try.ntmps12
    go_wp2_with fail
    rw [← HW0.out, HR.out]
    refine CP.out.mono ?_
    rintro e W1 ⟨rfl, b1⟩
    have R1 := Lib.hid (R0.out.bel b1 R0.out.lt)
    have B1 := Lib.hid (B0.out.trans (b1.mono (Nat.le_of_lt R0.out.lt)))
    have Z0 : W1.frozen? ⟨r, 0, none⟩ = false := R1.out.frz 0
    have Z1 : W1.frozen? ⟨r, 1, none⟩ = false := R1.out.frz 1
    have z0 : W1.cell? ⟨r, 0, none⟩ = some (.int .i64 0) := R1.out.cell 0
    have z1 : W1.cell? ⟨r, 1, none⟩ = some (.slice none 0 0) := R1.out.cell 1
    have RZ := Lib.hid ((R1.out.setc 0 (.int .i64 0)).setc 1 (.slice none 0 0))
    have BZ := Lib.hid ((B1.out.setCell (p := ⟨r, 0, none⟩) (Nat.le_refl _) (.int .i64 0)).setCell (p := ⟨r, 1, none⟩) (Nat.le_refl _) (.slice none 0 0))
    clear b1 CP R1 B1 R0 B0
    go_wp2_with fail
    (try simp only [Exit.inBlock, Exit.then])
    refine bodyPost_ret (results_cellTT rfl _ _ r 24 _ _ rfl RZ.out Try.underlying24 rfl pg_inf) rfl ?_
    rw [EQ.out.1, EQ.out.2]
    exact NO.out _ _ BZ.out
  rw [decide_eq_true hp] at CP
  have CP := Lib.hid CP
  have HP := Lib.hid hp
  obtain ⟨a, ha⟩ : ∃ a, L (base + 2 * n) = a := ⟨_, rfl⟩
  obtain ⟨b, hb⟩ : ∃ b, L (base + 2 * n + 1) = b := ⟨_, rfl⟩
  obtain ⟨ea, hea⟩ : ∃ a, E (base + 2 * n) = a := ⟨_, rfl⟩
  obtain ⟨eb, heb⟩ : ∃ a, E (base + 2 * n + 1) = a := ⟨_, rfl⟩
  have RD : Hid (∀ (k : Nat) w', k < 2 → Below r w w' → Calls Try.prog 14 #[.pointer d, .int .i64 (slSec base n k)] w' (RetRd (if k = 0 then a else b) (if k = 0 then ea else eb) w')) := Lib.hid (fun k w' hk hbw => by
    have := hR (slSec base n k) w' (by rw [hr]; exact hbw)
    have hk : k = 0 ∨ k = 1 := by omega
    rcases hk with rfl | rfl
    · have e : slSec base n ((0 : Nat) : Int) = base + 2 * n := by unfold slSec; omega
      rw [e] at this ⊢
      rw [ha, hea] at this
      exact this
    · have e : slSec base n ((1 : Nat) : Int) = base + 2 * n + 1 := by unfold slSec; omega
      rw [e] at this ⊢
      rw [hb, heb] at this
      exact this)
  have EQ : Hid (ldE E base n = (if ea ≠ 0 then ea else eb) ∧ ldV E L base n = (if (if ea ≠ 0 then ea else eb) ≠ 0 then vr0 else loadV a b)) := Lib.hid (by
    have e : ldE E base n = (if ea ≠ 0 then ea else eb) := by unfold ldE; rw [if_pos (show (0 ≤ base ∧ base ≤ 4096) ∧ 0 ≤ n ∧ n ≤ 4096 from hp), hea, heb]
    refine ⟨e, ?_⟩
    unfold ldV
    rw [e, ha, hb])
  clear hp hW0 hR ha hb hea heb hr
  go_enter Try.func12, Try.ntmps12
  go_wp2_with fail
  rw [← HW0.out, HR.out]
  refine CP.out.mono ?_
  rintro e W1 ⟨rfl, b1⟩
  have hs1 : r < W1.heap.size := Nat.lt_of_lt_of_le R0.out.lt b1.size
  obtain ⟨X, hX⟩ : ∃ X, W1.heap.size = X := ⟨_, rfl⟩
  obtain ⟨W2, hW2⟩ : ∃ W, W = W1.alloc (.cells #[.int .i64 0, .slice none 0 0] 24) := ⟨_, rfl⟩
  have LD : Hid (LdW w W2 r X vr0 none 0 0) := Lib.hid (by
    have hal : Below W1.heap.size W1 W2 := by rw [hW2]; exact (Below.refl _ _).alloc (Nat.le_refl _) _
    have b2 : Below W0.heap.size W0 W2 := b1.trans (hal.mono b1.size)
    exact ⟨by omega, R0.out.bel b2 R0.out.lt, by rw [hW2, ← hX]; exact Bk.new W1 _ _, OwnP.nil _ _, B0.out.trans (b2.mono (Nat.le_of_lt R0.out.lt))⟩)
  have HW2 := Lib.hid hW2
  have HX := Lib.hid hX
  clear b1 CP R0 B0 HW0 HS0 hs1 hX hW2
  go_wp2_with fail
  rw [← HW2.out, HX.out]
  clear HW2 HX
  go_loopw [22, 10] (fun i t wr => ∃ (k : Nat) (A : Option Addr) (m c : Nat), k ≤ 2 ∧ i = .int .i64 (k : Nat) ∧ t = .int .i64 (cvV a b k).turn ∧ (0 < k → ea = 0) ∧ (1 < k → eb = 0) ∧ LdW w wr r X (cvV a b k) A m c) (fun i _ _ => 2 - (intOf i).toNat)
  case atStart => exact ⟨0, none, 0, 0, by omega, rfl, rfl, fun q => absurd q (by omega), fun q => absurd q (by omega), LD.out⟩
  case round =>
    obtain ⟨k, A, m, c, hk, rfl, rfl, hea, heb, hl⟩ := hrel
    have HL := Lib.hid hl
    have HEA := Lib.hid hea
    have HEB := Lib.hid heb
    have hct := cvV_turn a b k
    obtain ⟨cur, hcur⟩ : ∃ v, cvV a b k = v := ⟨_, rfl⟩
    have HCUR := Lib.hid hcur
    rw [hcur] at HL hct ⊢
    clear hl hea heb LD hcur
    by_cases hlt : k < 2
    · have hlt' : (k : Int) < 2 := by omega
      have CS := Lib.hid (slSec_any base n k HP.out (by omega) wr)
      obtain ⟨z, hz⟩ : ∃ z, slSec base n k = z := ⟨_, rfl⟩
      obtain ⟨l, hl⟩ : ∃ l, (if k = 0 then a else b) = l := ⟨_, rfl⟩
      obtain ⟨er, her⟩ : ∃ l, (if k = 0 then ea else eb) = l := ⟨_, rfl⟩
      have RK : Hid (∀ w', Below r w w' → Calls Try.prog 14 #[.pointer d, .int .i64 z] w' (RetRd l er w')) := Lib.hid (fun w' hb => by
        have := RD.out k w' hlt hb
        rwa [hz, hl, her] at this)
      rw [hz] at CS
      have HN : Hid (cvV a b (k + 1) = if cur.turn < (verP k l).turn then verP k l else cur) := Lib.hid (by
        have := cvV_next a b k hlt
        rwa [hl, HCUR.out] at this)
      have HER := Lib.hid her
      clear hz hl her
      go_wp2_with fail
      refine CS.out.mono ?_
      rintro e W3 ⟨rfl, b3⟩
      have L3 := Lib.hid (HL.out.new b3)
      have CR := Lib.hid (RK.out W3 L3.out.bel)
      clear b3 CS HL RK
      go_wp2_with fail
      refine CR.out.mono ?_
      rintro e W4 ⟨A4, n4, c4, rfl, hy4, _, b4⟩
      have L4 := Lib.hid (L3.out.new b4)
      by_cases he : er = 0
      rotate_left
      · have hd : (er != 0) = true := by simpa using he
        have EQ2 : Hid (ldE E base n = er ∧ ldV E L base n = vr0) := Lib.hid (by
          have e2 : (if ea ≠ 0 then ea else eb) = er := by
            have hk2 : k = 0 ∨ k = 1 := by omega
            rcases hk2 with rfl | rfl
            · rw [if_pos rfl] at HER
              rw [HER.out, if_pos he]
            · have h0 := HEA.out (by omega)
              rw [if_neg (by omega)] at HER
              rw [h0, if_neg (by simp), HER.out]
          refine ⟨EQ.out.1.trans e2, ?_⟩
          rw [EQ.out.2, e2, if_pos he])
        have Z0 : W4.frozen? ⟨r, 0, none⟩ = false := L4.out.res.frz 0
        have Z1 : W4.frozen? ⟨r, 1, none⟩ = false := L4.out.res.frz 1
        have z0 : W4.cell? ⟨r, 0, none⟩ = some (.int .i64 0) := L4.out.res.cell 0
        have z1 : W4.cell? ⟨r, 1, none⟩ = some (.slice none 0 0) := L4.out.res.cell 1
        have FZ := Lib.hid L4.out.zero
        clear hy4 b4 CR L3 he
        go_wp2_with fail
        (try simp only [Exit.inBlock, Exit.then])
        refine bodyPost_ret (results_cellTT rfl _ _ r 24 _ _ rfl FZ.out.1 Try.underlying24 rfl pg_inf) rfl ?_
        rw [EQ2.out.1, EQ2.out.2]
        exact NO.out _ _ FZ.out.2
      subst he
      have CV := Lib.hid (versionIn_any k A4 n4 c4 l W4 hy4)
      have hvt := verP_turn k l
      obtain ⟨v, hv⟩ : ∃ v, verP k l = v := ⟨_, rfl⟩
      obtain ⟨is, his⟩ : ∃ v, decide (isV k l) = v := ⟨_, rfl⟩
      rw [hv, his] at CV
      rw [hv] at HN hvt
      have HIS : Hid (is = false → v = vr0) := Lib.hid (fun q => by
        rw [q] at his
        rw [← hv]
        exact verP_no (of_decide_eq_false his))
      clear hy4 b4 CR L3 hv his
      go_wp2_with fail
      refine CV.out.mono ?_
      rintro e W5 ⟨A5, n5, c5, rfl, ho5, b5⟩
      have O5 : Hid (OwnP r W5 A5 n5 c5 v.pg.cells) := Lib.hid (ho5.lo (Nat.le_of_lt L4.out.res.lt))
      have L5 := Lib.hid (L4.out.new b5)
      clear ho5 b5 CV L4
      go_upto_region 12 with fail
      obtain ⟨Y, hY⟩ : ∃ X, W5.heap.size = X := ⟨_, rfl⟩
      obtain ⟨W6, hW6⟩ : ∃ W, W = W5.alloc (.cells #[.int .i64 v.pg.lsn, .slice A5 n5 c5] 24) := ⟨_, rfl⟩
      have hal : Below W5.heap.size W5 W6 := by rw [hW6]; exact (Below.refl _ _).alloc (Nat.le_refl _) _
      have HBY : Hid (Bk W6 Y 24 #[.int .i64 v.pg.lsn, .slice A5 n5 c5]) := Lib.hid (by rw [hW6, ← hY]; exact Bk.new W5 _ _)
      have L6 := Lib.hid (L5.out.new hal)
      have O6 := Lib.hid (O5.out.below hal)
      rw [← hW6]
      (try rw [hY])
      clear hW6 hal L5 O5 hY
      cases is with
      | false =>
        have e0 : v = vr0 := HIS.out rfl
        have HN2 : Hid (cvV a b (k + 1) = cur) := Lib.hid (by
          rw [HN.out, if_neg]
          rw [e0]
          show ¬ cur.turn < 0
          omega)
        clear HN e0
        go_wp2_with fail
        go_roundw
        case rel => exact ⟨k + 1, A, m, c, by omega, by go_num, by rw [HN2.out], fun _ => by
            have hk2 : k = 0 ∨ k = 1 := by omega
            rcases hk2 with rfl | rfl
            · rw [if_pos rfl] at HER; exact HER.out
            · exact HEA.out (by omega), fun q => by
            have hk2 : k = 1 := by omega
            subst hk2
            rw [if_neg (by omega)] at HER
            exact HER.out, by rw [HN2.out]; exact L6.out⟩
        case measure => simp [intOf]; omega
      | true =>
        by_cases hgt : cur.turn < v.turn
        · have HN2 : Hid (cvV a b (k + 1) = v) := Lib.hid (by rw [HN.out, if_pos hgt])
          have q0 : W6.cell? ⟨Y, 0, none⟩ = some (.int .i64 v.pg.lsn) := HBY.out.cell 0
          have q1 : W6.cell? ⟨Y, 1, none⟩ = some (.slice A5 n5 c5) := HBY.out.cell 1
          have Z0 : W6.frozen? ⟨X, 0, none⟩ = false := L6.out.cur.frz 0
          have Z1 : W6.frozen? ⟨X, 1, none⟩ = false := L6.out.cur.frz 1
          have z0 : W6.cell? ⟨X, 0, none⟩ = some (.int .i64 cur.pg.lsn) := L6.out.cur.cell 0
          have z1 : W6.cell? ⟨X, 1, none⟩ = some (.slice A m c) := L6.out.cur.cell 1
          have L7 := Lib.hid (L6.out.take (v' := v) O6.out)
          clear HN
          go_wp2_with fail
          go_roundw
          case rel => exact ⟨k + 1, A5, n5, c5, by omega, by go_num, by rw [HN2.out], fun _ => by
              have hk2 : k = 0 ∨ k = 1 := by omega
              rcases hk2 with rfl | rfl
              · rw [if_pos rfl] at HER; exact HER.out
              · exact HEA.out (by omega), fun q => by
              have hk2 : k = 1 := by omega
              subst hk2
              rw [if_neg (by omega)] at HER
              exact HER.out, by rw [HN2.out]; exact L7.out⟩
          case measure => simp [intOf]; omega
        · have HN2 : Hid (cvV a b (k + 1) = cur) := Lib.hid (by rw [HN.out, if_neg hgt])
          clear HN
          go_wp2_with fail
          go_roundw
          case rel => exact ⟨k + 1, A, m, c, by omega, by go_num, by rw [HN2.out], fun _ => by
              have hk2 : k = 0 ∨ k = 1 := by omega
              rcases hk2 with rfl | rfl
              · rw [if_pos rfl] at HER; exact HER.out
              · exact HEA.out (by omega), fun q => by
              have hk2 : k = 1 := by omega
              subst hk2
              rw [if_neg (by omega)] at HER
              exact HER.out, by rw [HN2.out]; exact L6.out⟩
          case measure => simp [intOf]; omega
    · obtain rfl : k = 2 := by omega
      have e1 : ea = 0 := HEA.out (by omega)
      have e2 : eb = 0 := HEB.out (by omega)
      have EQ2 : Hid (ldE E base n = 0 ∧ ldV E L base n = cur) := Lib.hid (by
        rw [EQ.out.1, EQ.out.2, e1, e2, if_neg (by simp), if_neg (by simp)]
        exact ⟨rfl, HCUR.out⟩)
      have q0 : wr.cell? ⟨X, 0, none⟩ = some (.int .i64 cur.pg.lsn) := HL.out.cur.cell 0
      have q1 : wr.cell? ⟨X, 1, none⟩ = some (.slice A m c) := HL.out.cur.cell 1
      have Z0 : wr.frozen? ⟨r, 0, none⟩ = false := HL.out.res.frz 0
      have Z1 : wr.frozen? ⟨r, 1, none⟩ = false := HL.out.res.frz 1
      have z0 : wr.cell? ⟨r, 0, none⟩ = some (.int .i64 0) := HL.out.res.cell 0
      have z1 : wr.cell? ⟨r, 1, none⟩ = some (.slice none 0 0) := HL.out.res.cell 1
      have FN := Lib.hid HL.out.fin
      clear e1 e2 EQ hlt
      go_wp2_with fail
      (try simp only [Exit.inBlock, Exit.then])
      refine bodyPost_ret (results_cellTT rfl _ _ r 24 _ _ rfl FN.out.1 Try.underlying24 rfl pg_inf) rfl ?_
      rw [EQ2.out.1, EQ2.out.2]
      exact ⟨A, m, c, rfl, by rw [HR.out]; exact FN.out.2.2, by rw [HR.out]; exact FN.out.2.1⟩
end Go.Proofs.Ytomhofppcogojaa
