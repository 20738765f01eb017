/- What it says: contracts and plain mathematics that the laws' walks use, 7 of 32: each part's own remark says what; no condition. -/
import Derived.Test.YtjllpihkjlblaaaGreatDoorPk5
import Derived.Test.YtjllpihkjlblaaaGreatDoorPk6
import Derived.Deep.RegionHeld
import Derived.Lib.MinMax

set_option linter.unusedSimpArgs false
set_option linter.unusedVariables false
set_option linter.deprecated false
set_option linter.unusedSectionVars false
set_option linter.all false
namespace Go.Proofs.YtjllpihkjlblaaaGreatDoor

/- a step of a pass: a flag. -/
section
open Go.RowKit
section
variable {H pb : Nat} {w : World}
set_option maxRecDepth 100000 in
set_option maxHeartbeats 4000000 in
theorem flag_any (s : Ps) (wr : Bool) (is : Bool) (h : Pst H w pb s wr) (hr : s.room 1) :
    Calls Tryz.prog 179 #[.pointer (some ⟨pb, 0, none⟩), .bool is] w (RetV flagSp VB is H pb s wr w) := by
  cases s with
  | out l B =>
    obtain ⟨wb, m, c0, c1, d2, d3, d4, d5⟩ := h.writer
    obtain ⟨c2, _⟩ := h.ptrs
    have HR : B + 1 ≤ 100000000000000 := hr
    cases wr with
    | true =>
      have R : Hid (RetV flagSp VB is H pb (.out l B) true w (.returned (.bool is)) w) := Lib.hid ⟨_, is, .out l (B + 1), true, rfl, rfl, ⟨l, rfl, by simp, fun h => by cases h⟩, h.mono (by omega), Calm.refl _ _⟩
      clear h d2 d3 d4 d5 hr HR
      go_enter Tryz.func179, Tryz.ntmps179
      go_wp2_with fail
      go_ret
      exact R.out
    | false =>
      have CW := Lib.hid (wFlag_calm H wb m is w d2 (by omega))
      have D := Lib.hid d5
      clear h d2 d3 d4 d5 hr HR
      go_enter Tryz.func179, Tryz.ntmps179
      go_wp2_with fail
      refine CW.out.mono ?_
      rintro e w2 ⟨rfl, hw, hc, ho⟩
      obtain ⟨p, q⟩ := D.out w2 _ _ 1 ⟨rfl, hw, hc, ho⟩ (Nat.le_refl 1)
      have R : Hid (RetV flagSp VB is H pb (.out l B) false w (.returned (.bool is)) w2) := Lib.hid ⟨_, is, _, false, rfl, rfl, ⟨_, rfl, ⟨fun _ => ⟨rfl, trivial⟩, fun _ => rfl⟩, fun _ => ⟨rfl, rfl⟩⟩, p, q⟩
      clear p q hw hc ho
      go_wp2_with fail
      go_ret
      exact R.out
  | inp σ =>
    obtain ⟨rb, g, c1, R, K⟩ := h.reader
    have CR := Lib.hid (rpFlag R.rd)
    have K := Lib.hid K
    clear h R hr
    go_enter Tryz.func179, Tryz.ntmps179
    go_wp2_with fail
    refine CR.out.mono ?_
    rintro e w1 ⟨rfl, hrd, hg⟩
    obtain ⟨hp1, hc1⟩ := K.out w1 (pFlag σ).2 hrd hg (pPrim_len _ _ _)
    have c0' : w1.cell? ⟨pb, 0, none⟩ = some (.pointer none) := by
      obtain ⟨rb', g', q1, q2, _⟩ := hp1
      exact q2.cell 0
    obtain ⟨c2, _⟩ := hp1.ptrs
    have F : Hid (∀ w3, Below w1.heap.size w1 w3 → RetV flagSp VB is H pb (.inp σ) wr w (.returned (.bool (pFlag (σ.1, σ.2)).1)) w3) := Lib.hid (fun w3 hb => ⟨_, _, _, wr, rfl, rfl, ⟨rfl, rfl, by simp [flagSp]⟩, hp1.keeps (Keeps.of_below hb), hc1.trans (Calm.of_below hb)⟩)
    clear hp1 hc1 hrd hg K CR
    cases wr with
    | true =>
      have R := Lib.hid (F.out w1 (Below.refl _ _))
      go_wp2_with fail
      go_ret
      exact R.out
    | false =>
      have CW := Lib.hid (wFlag_nil (pFlag (σ.1, σ.2)).1 w1)
      go_wp2_with fail
      refine CW.out.mono ?_
      rintro e w2 ⟨rfl, hb⟩
      have R := Lib.hid (F.out w2 hb)
      clear hb
      go_wp2_with fail
      go_ret
      exact R.out
end
end

/- a pass's seq, seqOrNone, node, kind, key, value. -/
section
open Go.RowKit
section
variable {H pb : Nat} {w : World}
theorem seq_any (s : Ps) (wr : Bool) (n : Int) (h : Pst H w pb s wr) (hn : i64 n) (hr : s.room 10) :
    Calls Tryz.prog 147 #[.pointer (some ⟨pb, 0, none⟩), .int .i64 n] w (RetV (numS 1 1099511627776) VI n H pb s wr w) := by
  have C := Lib.hid (num_any s wr n 1 1099511627776 h hn (by omega) (by omega) (by omega) (by omega) hr)
  clear h hn hr
  go_enter Tryz.func147, Tryz.ntmps147
  go_wp2_with fail
  refine C.out.mono ?_
  rintro e w1 ⟨v, y, s', wr', rfl, ⟨rfl, hi⟩, hg, hp, hc⟩
  have R := Lib.hid (And.intro hi (And.intro hg (And.intro hp hc)))
  clear hi hg hp hc
  go_wp2_with fail
  go_ret
  exact ⟨_, y, s', wr', rfl, ⟨rfl, R.out.1⟩, R.out.2.1, R.out.2.2.1, R.out.2.2.2⟩
theorem seqOrNone_any (s : Ps) (wr : Bool) (n : Int) (h : Pst H w pb s wr) (hn : i64 n) (hr : s.room 10) :
    Calls Tryz.prog 148 #[.pointer (some ⟨pb, 0, none⟩), .int .i64 n] w (RetV (numS 0 1099511627776) VI n H pb s wr w) := by
  have C := Lib.hid (num_any s wr n 0 1099511627776 h hn (by omega) (by omega) (by omega) (by omega) hr)
  clear h hn hr
  go_enter Tryz.func148, Tryz.ntmps148
  go_wp2_with fail
  refine C.out.mono ?_
  rintro e w1 ⟨v, y, s', wr', rfl, ⟨rfl, hi⟩, hg, hp, hc⟩
  have R := Lib.hid (And.intro hi (And.intro hg (And.intro hp hc)))
  clear hi hg hp hc
  go_wp2_with fail
  go_ret
  exact ⟨_, y, s', wr', rfl, ⟨rfl, R.out.1⟩, R.out.2.1, R.out.2.2.1, R.out.2.2.2⟩
theorem node_any (s : Ps) (wr : Bool) (n : Int) (h : Pst H w pb s wr) (hn : i64 n) (hr : s.room 10) :
    Calls Tryz.prog 151 #[.pointer (some ⟨pb, 0, none⟩), .int .i64 n] w (RetV (numS 0 7) VI n H pb s wr w) := by
  have C := Lib.hid (num_any s wr n 0 7 h hn (by omega) (by omega) (by omega) (by omega) hr)
  clear h hn hr
  go_enter Tryz.func151, Tryz.ntmps151
  go_wp2_with fail
  refine C.out.mono ?_
  rintro e w1 ⟨v, y, s', wr', rfl, ⟨rfl, hi⟩, hg, hp, hc⟩
  have R := Lib.hid (And.intro hi (And.intro hg (And.intro hp hc)))
  clear hi hg hp hc
  go_wp2_with fail
  go_ret
  exact ⟨_, y, s', wr', rfl, ⟨rfl, R.out.1⟩, R.out.2.1, R.out.2.2.1, R.out.2.2.2⟩
theorem kind_any (s : Ps) (wr : Bool) (n : Int) (h : Pst H w pb s wr) (hn : i64 n) (hr : s.room 10) :
    Calls Tryz.prog 118 #[.pointer (some ⟨pb, 0, none⟩), .int .i64 n] w (RetV (numS 1 10) VI n H pb s wr w) := by
  have C := Lib.hid (num_any s wr n 1 10 h hn (by omega) (by omega) (by omega) (by omega) hr)
  clear h hn hr
  go_enter Tryz.func118, Tryz.ntmps118
  go_wp2_with fail
  refine C.out.mono ?_
  rintro e w1 ⟨v, y, s', wr', rfl, ⟨rfl, hi⟩, hg, hp, hc⟩
  have R := Lib.hid (And.intro hi (And.intro hg (And.intro hp hc)))
  clear hi hg hp hc
  go_wp2_with fail
  go_ret
  exact ⟨_, y, s', wr', rfl, ⟨rfl, R.out.1⟩, R.out.2.1, R.out.2.2.1, R.out.2.2.2⟩
theorem key_any (s : Ps) (wr : Bool) (n : ByteArray) (h : Pst H w pb s wr) (hn : 0 ≤ n.size) (hr : s.room 60) :
    Calls Tryz.prog 149 #[.pointer (some ⟨pb, 0, none⟩), .string n] w (RetV (textSp 1 16) VS n H pb s wr w) := by
  have C := Lib.hid (text_any s wr n 1 16 h hn (by omega) (by omega) (by omega) (by omega) hr)
  clear h hn hr
  go_enter Tryz.func149, Tryz.ntmps149
  go_wp2_with fail
  refine C.out.mono ?_
  rintro e w1 ⟨v, y, s', wr', rfl, ⟨rfl, hi⟩, hg, hp, hc⟩
  have R := Lib.hid (And.intro hi (And.intro hg (And.intro hp hc)))
  clear hi hg hp hc
  go_wp2_with fail
  go_ret
  exact ⟨_, y, s', wr', rfl, ⟨rfl, R.out.1⟩, R.out.2.1, R.out.2.2.1, R.out.2.2.2⟩
def valSp : Spc Vl := ⟨pVl, valL, fun v => v.has = true → (v.data.size : Int) ≤ 32, fun v => if v.has then v else vl0, 61⟩
def VV (_ : World) (v : Value) (y : Vl) : Prop := v = .agg #[.bool y.has, .string y.data] ∧ 0 ≤ y.data.size
theorem val_no {v : Vl} {s s1 : Ps} {wr wr1 : Bool} (h : Goes flagSp v.has s wr false s1 wr1) : ∃ s2, s1.le s2 ∧ Goes valSp v s wr vl0 s2 wr1 := by
  cases s with
  | out l B =>
    obtain ⟨l1, rfl, h1, h2⟩ := h
    refine ⟨.out l1 (B + 61), ⟨rfl, by show B + 1 ≤ B + 61; omega⟩, l1, rfl, ?_, fun hw => ?_⟩
    · rw [h1]
      constructor
      · intro a
        have e := (h2 (h1.2 a)).1
        have e' : false = v.has := e
        exact ⟨a.1, fun q => by rw [← e'] at q; cases q⟩
      · intro a
        exact ⟨a.1, trivial⟩
    · obtain ⟨a, b⟩ := h2 hw
      have e' : false = v.has := a
      refine ⟨?_, ?_⟩
      · show vl0 = if v.has then v else vl0
        rw [← e']; rfl
      · rw [b]
        show l ++ flagL v.has = l ++ (flagL v.has ++ if v.has then textL (nums v.data) else [])
        rw [← e']; simp
  | inp σ =>
    obtain ⟨rfl, a, h1⟩ := h
    have a' : false = (pFlag σ).1 := a
    refine ⟨.inp (pFlag σ).2, rfl, ?_, ?_, ?_⟩
    · show Ps.inp (pFlag σ).2 = Ps.inp (pVl σ).2
      unfold pVl
      rw [← a']; rfl
    · show vl0 = (pVl σ).1
      unfold pVl
      rw [← a']; rfl
    · rw [h1]
      constructor
      · intro q
        exact ⟨q.1, fun z => by cases z⟩
      · intro q
        exact ⟨q.1, trivial⟩
theorem val_yes {v : Vl} {y : ByteArray} {s s1 s2 : Ps} {wr wr1 wr2 : Bool} (h : Goes flagSp v.has s wr true s1 wr1) (k : Goes (textSp 0 32) v.data s1 wr1 y s2 wr2) : Goes valSp v s wr ⟨true, y⟩ s2 wr2 := by
  cases s with
  | out l B =>
    obtain ⟨l1, rfl, h1, h2⟩ := h
    obtain ⟨l2, rfl, k1, k2⟩ := k
    have hb : wr = false → v.has = true := fun q => ((h2 (h1.2 ⟨q, trivial⟩)).1 : true = v.has).symm
    refine ⟨l2, rfl, ?_, fun hw => ?_⟩
    · rw [k1, h1]
      constructor
      · intro a
        exact ⟨a.1.1, fun _ => a.2.2⟩
      · intro a
        exact ⟨⟨a.1, trivial⟩, by show (0 : Int) ≤ (v.data.size : Int); omega, a.2 (hb a.1)⟩
    · obtain ⟨a, b⟩ := k2 hw
      have hw1 := (k1.1 hw).1
      have hv := hb (h1.1 hw1).1
      obtain ⟨_, d⟩ := h2 hw1
      refine ⟨?_, ?_⟩
      · show (⟨true, y⟩ : Vl) = if v.has then v else vl0
        rw [if_pos hv]
        have a' : y = v.data := a
        rw [a', ← hv]
      · rw [b, d]
        show l ++ flagL v.has ++ textL (nums v.data) = l ++ (flagL v.has ++ if v.has then textL (nums v.data) else [])
        rw [if_pos hv, List.append_assoc]
  | inp σ =>
    obtain ⟨rfl, a, h1⟩ := h
    obtain ⟨rfl, b, k1⟩ := k
    have a' : true = (pFlag σ).1 := a
    have b' : y = (pText 32 (pFlag σ).2).1 := b
    refine ⟨?_, ?_, ?_⟩
    · show Ps.inp (pText 32 (pFlag σ).2).2 = Ps.inp (pVl σ).2
      unfold pVl
      rw [← a']; rfl
    · show (⟨true, y⟩ : Vl) = (pVl σ).1
      unfold pVl
      rw [← a', b']; rfl
    · rw [k1, h1]
      constructor
      · intro q
        exact ⟨q.1.1, fun _ => q.2.2⟩
      · intro q
        exact ⟨⟨q.1, trivial⟩, by show (0 : Int) ≤ (y.size : Int); omega, q.2 rfl⟩
theorem Bk.rowp {w : World} {g : Nat} {t : TypeId} {old : Array Value} (h : Bk w g t old) (cs : Array Value) : Bk (w.setRow g cs) g t cs := setRow_heap w g old cs _ _ h
theorem val_info : (Tryz.prog.info? 32).map (·.size) = some 2 := by kernel_rfl
theorem val_one (a : Bool) (b : ByteArray) : (#[Value.bool a, Value.string b] : Array Value).all (·.oneCell') = true := by simp [Value.oneCell']
theorem grown_setRow (w : World) (g : Nat) (cs : Array Value) : w.grownBy (w.setRow g cs) (some g) := ⟨rfl, rfl, rfl, by simp [World.setRow], fun k _ hk => setRow_other w g k cs (fun q => hk (by simp [q]))⟩
theorem Pst.row {s : Ps} {wr : Bool} {w0 w : World} {g : Nat} {t : TypeId} {old : Array Value} (h : Pst H w pb s wr) (hg : Bk w g t old) (ht : spT t = false) (hl : w0.heap.size ≤ g) (hc : Calm H w0 w) (cs : Array Value) : Pst H (w.setRow g cs) pb s wr ∧ Calm H w0 (w.setRow g cs) := by
  have hgr := grown_setRow w g cs
  refine ⟨h.keeps (Keeps.grown hgr (hg.plain ht)), ⟨hgr.os.trans hc.os, hgr.tape.trans hc.tape, hgr.output.trans hc.output, Nat.le_trans hc.size hgr.size, fun k hk hp => ?_⟩⟩
  exact (hgr.block k (Nat.lt_of_lt_of_le hk hc.size) (fun q => by injection q with q; omega)).trans (hc.block k hk hp)
set_option maxRecDepth 100000 in
set_option maxHeartbeats 4000000 in
theorem value_any (s : Ps) (wr : Bool) (v : Vl) (h : Pst H w pb s wr) (hv : 0 ≤ v.data.size) (hr : s.room 61) :
    Calls Tryz.prog 150 #[.pointer (some ⟨pb, 0, none⟩), .agg #[.bool v.has, .string v.data]] w (RetV valSp VV v H pb s wr w) := by
  obtain ⟨has, data⟩ := v
  obtain ⟨r, hrr⟩ : ∃ r, w.heap.size = r := ⟨_, rfl⟩
  obtain ⟨W1, hW1⟩ : ∃ W1, W1 = (w.alloc (.cells #[.bool has, .string data] 32)).alloc (.cells #[.bool false, .string ⟨#[]⟩] 32) := ⟨_, rfl⟩
  have HB : Hid (Below w.heap.size w W1) := Lib.hid (by rw [hW1]; exact ((Below.refl _ _).alloc (Nat.le_refl _) _).alloc (by simp) _)
  have HV : Hid (Bk W1 r 32 #[.bool has, .string data]) := Lib.hid (by rw [hW1, ← hrr]; exact (Bk.new w _ _).bel ((Below.refl _ _).alloc (Nat.le_refl _) _) (by simp))
  have HR : Hid (Bk W1 (r + 1) 32 #[.bool false, .string ⟨#[]⟩]) := Lib.hid (by
    rw [hW1, ← hrr]
    have := Bk.new (w.alloc (.cells #[.bool has, .string data] 32)) 32 #[.bool false, .string ⟨#[]⟩]
    rw [World.size_alloc] at this
    exact this)
  have k0 : W1.cell? ⟨r, 0, none⟩ = some (.bool has) := HV.out.cell 0
  have HP : Hid (Pst H W1 pb s wr) := Lib.hid (h.keeps (Keeps.of_below HB.out))
  have HRM := Lib.hid hr
  have HRR := Lib.hid hrr
  have HW := Lib.hid hW1
  have HD : Hid (0 ≤ data.size) := Lib.hid hv
  clear h hr hv hW1
  go_enter Tryz.func150, Tryz.ntmps150
  go_wp2_with fail
  (try rw [hrr])
  rw [← HW.out]
  clear HW hrr
  have CF := Lib.hid (flag_any s wr has HP.out (HRM.out.mono (by omega)))
  go_wp2_with fail
  refine CF.out.mono ?_
  rintro e w1 ⟨_, y, s1, wr1, rfl, rfl, hg1, hp1, hc1⟩
  have G1 := Lib.hid hg1
  have P1 := Lib.hid hp1
  have C1 := Lib.hid ((Calm.of_below HB.out).trans hc1)
  have V1 := Lib.hid (HV.out.calm rfl hc1)
  have R1 := Lib.hid (HR.out.calm rfl hc1)
  clear hg1 hp1 hc1 CF HP HV HR k0
  cases y with
  | false =>
    have F : Hid (RetV valSp VV ⟨has, data⟩ H pb s wr w (.returned (.agg #[.bool false, .string ⟨#[]⟩])) (w1.setRow (r + 1) #[.bool false, .string ⟨#[]⟩])) := Lib.hid (by
      obtain ⟨s2, hle, hg⟩ := val_no (v := ⟨has, data⟩) G1.out
      obtain ⟨a, b⟩ := P1.out.row R1.out rfl (by have := HRR.out; omega) C1.out #[.bool false, .string ⟨#[]⟩]
      exact ⟨_, vl0, s2, wr1, rfl, ⟨rfl, Nat.zero_le _⟩, hg, a.le hle, b⟩)
    have RB := Lib.hid (R1.out.rowp #[.bool false, .string ⟨#[]⟩])
    go_wp2_with (refine wpList_store_row rfl 32 _ _ rfl (r + 1) #[.bool false, .string ⟨#[]⟩] rfl rfl 32 _ R1.out val_info rfl (val_one _ _) ?_; simp only [Act.put])
    (try simp only [Exit.inBlock, Exit.then])
    refine bodyPost_ret (results_cell_row rfl _ _ (r + 1) 32 _ (0, 0) _ rfl RB.out Tryz.underlying32 rfl val_info) rfl ?_
    exact F.out
  | true =>
    have k1 : w1.cell? ⟨r, 1, none⟩ = some (.string data) := V1.out.cell 1
    have CT := Lib.hid (text_any s1 wr1 data 0 32 P1.out HD.out (by omega) (by omega) (by omega) (by omega) (G1.out.room (HRM.out)))
    go_wp2_with fail
    refine CT.out.mono ?_
    rintro e w2 ⟨_, y, s2, wr2, rfl, ⟨rfl, hy⟩, hg2, hp2, hc2⟩
    have R2 := Lib.hid (R1.out.calm rfl hc2)
    have F : Hid (RetV valSp VV ⟨has, data⟩ H pb s wr w (.returned (.agg #[.bool true, .string y])) (w2.setRow (r + 1) #[.bool true, .string y])) := Lib.hid (by
      obtain ⟨a, b⟩ := hp2.row R2.out rfl (by have := HRR.out; omega) (C1.out.trans hc2) #[.bool true, .string y]
      exact ⟨_, ⟨true, y⟩, s2, wr2, rfl, ⟨rfl, hy⟩, val_yes (v := ⟨has, data⟩) G1.out hg2, a, b⟩)
    have RB := Lib.hid (R2.out.rowp #[.bool true, .string y])
    clear hy hg2 hp2 hc2 CT k1
    go_wp2_with (refine wpList_store_row rfl 32 _ _ rfl (r + 1) #[.bool true, .string y] rfl rfl 32 _ R2.out val_info rfl (val_one _ _) ?_; simp only [Act.put])
    (try simp only [Exit.inBlock, Exit.then])
    refine bodyPost_ret (results_cell_row rfl _ _ (r + 1) 32 _ (0, 0) _ rfl RB.out Tryz.underlying32 rfl val_info) rfl ?_
    exact F.out
end
end

/- a region that draws its order, whose last operations go one behind the other: those ahead of them may be taken in an order of one's own, where what they read holds till the last ones begin. No program is named; no condition. -/
section
open Go.RowKit
section
variable {P : Program} {ops : Array Oper} {Q : Exit → Act → World → Prop} {S : World → Prop} {n : Nat}
def Upto (P : Program) (ops : Array Oper) (Q : Exit → Act → World → Prop) (S : World → Prop) (n : Nat) : Nat → Array Bool → Act → World → Prop
  | 0, listed, a, w => Region.ready .any ops listed = [] ∧ Q .normal a w
  | fuel + 1, listed, a, w => (Region.ready .any ops listed = [] → Q .normal a w) ∧
    ∀ i ∈ Region.ready .any ops listed, wpOp P ops Q i (fun a' w' => (i < n → S w') ∧ Upto P ops Q S n fuel (listed.setIfInBounds i true) a' w') a w
theorem any_of_upto : ∀ (fuel : Nat) (listed : Array Bool) (a : Act) (w : World), Upto P ops Q S n fuel listed a w → wpAny P .any ops Q fuel listed a w
  | 0, _, _, _, h => h
  | fuel + 1, _, _, _, h => ⟨h.1, fun i hi => wpOp_mono (fun a' w' h' => any_of_upto fuel _ a' w' h'.2) (h.2 i hi)⟩
def headB (ops : Array Oper) (n : Nat) (listed : Array Bool) : Bool :=
  listed.size == ops.size && (List.range ops.size).all (fun j => match ops[j]? with
    | none => true
    | some o => !listed.getD j false || o.after.toList.all fun e => !Region.binds .any e || listed.getD e.on false) &&
  (List.range ops.size).all fun t => decide (t < n) || !listed.getD t true
theorem headB_spec {listed : Array Bool} (h : headB ops n listed = true) : HeadInv .any ops n listed := by
  simp only [headB, Bool.and_eq_true, List.all_eq_true, List.mem_range, beq_iff_eq] at h
  obtain ⟨⟨h1, h2⟩, h3⟩ := h
  refine ⟨h1, fun j oj hj hl e he hb => ?_, fun t ht htl => ?_⟩
  · have := h2 j (Array.getElem?_eq_some_iff.1 hj).1
    simp only [hj, hl] at this
    rw [Bool.not_true, Bool.false_or] at this
    have he' := List.all_eq_true.1 this e (by simpa using he)
    simpa [hb] using he'
  · have := h3 t htl
    simpa [Nat.not_lt.2 ht] using this
def tailB (ops : Array Oper) (n : Nat) : Bool := Region.noSelect ops && decide (n < ops.size) && Region.sinkB .any ops n && Region.chainB .any ops n
theorem upto_first (hB : tailB ops n = true) {i : Nat} {oi : Oper} {v : Value} (hin : i < n) (hi : ops[i]? = some oi)
    (hQ : ∀ c a w, Q (.panic c) (a.put oi.dst v) w → Q (.panic c) a w) :
    ∀ (fuel : Nat) (listed : Array Bool) (a : Act) (w : World), HeadInv .any ops n listed →
      (∀ j oj, ops[j]? = some oj → j ≠ i → listed.getD j true = false → (∀ e ∈ oj.after, Region.binds .any e = true → e.on ≠ i) → oi.apart ops oj = true) →
      i ∈ Region.ready .any ops listed → YieldsIf P ops S oi v a → S w →
      Upto P ops Q S n fuel (listed.setIfInBounds i true) (a.put oi.dst v) w → Upto P ops Q S n (fuel + 1) listed a w := by
  simp only [tailB, Bool.and_eq_true, decide_eq_true_eq] at hB
  obtain ⟨⟨⟨hsel0, hns⟩, hsk⟩, hch⟩ := hB
  have hsel := Region.noSelect_spec hsel0
  intro fuel
  induction fuel with
  | zero =>
    intro listed a w _ _ hr hy hS H
    refine ⟨fun h => (by rw [h] at hr; cases hr), fun j hj => ?_⟩
    by_cases hji : j = i
    · subst hji
      exact hy.wpOp hi hS ⟨fun _ => hS, H⟩
    · have := ready_mono hj hji
      rw [H.1] at this
      cases this
  | succ fuel ih =>
    intro listed a w inv hfree hr hy hS H
    refine ⟨fun h => (by rw [h] at hr; cases hr), fun j hj => ?_⟩
    by_cases hji : j = i
    · subst hji
      exact hy.wpOp hi hS ⟨fun _ => hS, H⟩
    · have h1 := H.2 j (ready_mono hj hji)
      have hun := (mem_ready.1 hr).1
      have hjn : j < n := by
        rcases Nat.lt_or_ge j n with h | h
        · exact h
        · exact absurd hj (tail_waits hsk hch hns inv _ i rfl hin hun j h)
      obtain ⟨hjun, oj, hoj, hall⟩ := mem_ready.1 hj
      have hnot : ∀ e ∈ oj.after, Region.binds .any e = true → e.on ≠ i := fun e he hb heq => by
        have h1 := hall e he hb
        rw [heq, getD_both hun] at h1
        cases h1
      have h2 := wpOp_putIf hoj (hfree j oj hoj hji hjun hnot) (fun cs b => hsel i oi cs b hi) (fun cs b => hsel j oj cs b hoj) hQ hy h1
      have hfree' : ∀ k ok, ops[k]? = some ok → k ≠ i → (listed.setIfInBounds j true).getD k true = false →
          (∀ e ∈ ok.after, Region.binds .any e = true → e.on ≠ i) → oi.apart ops ok = true := fun k ok hk hki hunk hno => by
        refine hfree k ok hk hki ?_ hno
        by_cases hjk : j = k
        · subst hjk; exact hjun
        · rw [getD_set_ne true hjk] at hunk; exact hunk
      refine wpOp_mono (fun a' w' h3 => ⟨h3.2.1, ih (listed.setIfInBounds j true) a' w' (inv.set hj hjn) hfree' (ready_mono hr (Ne.symm hji)) h3.1 (h3.2.1 hjn) ?_⟩) h2
      rw [Array.setIfInBounds_comm _ _ hji]
      exact h3.2.2
theorem drop_at {l rest : List Oper} {i : Nat} {o : Oper} (h : l.drop i = o :: rest) : l.toArray[i]? = some o := by
  have h0 : (l.drop i)[0]? = some o := by rw [h]; rfl
  rw [List.getElem?_drop] at h0
  simpa using h0
theorem Upto.take {i : Nat} {oi : Oper} {v : Value} {fuel : Nat} {listed : Array Bool} {a : Act} {w : World} {l rest : List Oper} (hi : l.drop i = oi :: rest) (hc : (tailB l.toArray n && decide (i < n) && headB l.toArray n listed && Region.free .any l.toArray listed i && (Region.ready .any l.toArray listed).contains i) = true)
    (hQ : ∀ c a w, Q (.panic c) (a.put oi.dst v) w → Q (.panic c) a w) (hg : oi.guard = none) (hy : ∀ w, S w → (execOp a.eval oi).run P w = .ok (.value v) w) (hS : S w)
    (h : Upto P l.toArray Q S n fuel (listed.setIfInBounds i true) (a.put oi.dst v) w) : Upto P l.toArray Q S n (fuel + 1) listed a w := by
  have hi := drop_at hi
  simp only [Bool.and_eq_true, decide_eq_true_eq] at hc
  obtain ⟨⟨⟨⟨h1, h2⟩, h3⟩, h4⟩, h5⟩ := hc
  exact upto_first h1 h2 hi hQ fuel listed a w (headB_spec h3) (Region.free_spec hi h4) (by simpa using h5) (.inl ⟨wanted_plain hg, hy⟩) hS h
theorem Upto.only {i : Nat} {oi : Oper} {v : Value} {fuel : Nat} {listed : Array Bool} {a : Act} {w w' : World} {l rest : List Oper} (hi : l.drop i = oi :: rest) (hc : Region.ready .any l.toArray listed = [i])
    (hg : oi.guard = none) (hy : (execOp a.eval oi).run P w = .ok (.value v) w') (hS : S w')
    (h : Upto P l.toArray Q S n fuel (listed.setIfInBounds i true) (a.put oi.dst v) w') : Upto P l.toArray Q S n (fuel + 1) listed a w := by
  have hi := drop_at hi
  refine ⟨fun h0 => (by rw [h0] at hc; cases hc), fun j hj => ?_⟩
  rw [hc] at hj
  have hji : j = i := by simpa using hj
  subst hji
  unfold wpOp
  simp only [hi, wanted_plain hg, if_true]
  refine .inl ?_
  unfold Oper.wp
  rw [hy]
  exact ⟨fun _ => hS, h⟩
theorem Upto.law {i : Nat} {oi : Oper} {fuel : Nat} {listed : Array Bool} {a : Act} {w : World} {l rest : List Oper} (hi : l.drop i = oi :: rest) (hc : Region.ready .any l.toArray listed = [i]) (hg : oi.guard = none)
    (h : ∀ K : Act → World → Prop, (∀ a' w', S w' → Upto P l.toArray Q S n fuel (listed.setIfInBounds i true) a' w' → K a' w') → oi.wp P a w K Q) : Upto P l.toArray Q S n (fuel + 1) listed a w := by
  have hi := drop_at hi
  refine ⟨fun h0 => (by rw [h0] at hc; cases hc), fun j hj => ?_⟩
  rw [hc] at hj
  have hji : j = i := by simpa using hj
  subst hji
  unfold wpOp
  simp only [hi, wanted_plain hg, if_true]
  exact .inl (h _ fun a' w' hS hU => ⟨fun _ => hS, hU⟩)
theorem wp_enter {o : Oper} {a : Act} {w : World} {K : Act → World → Prop} {f : FuncId} {args : Array Value} {R : Ending → World → Prop} (hrun : (execOp a.eval o).run P w = .ok (.enter f args) w) (C : Calls P f args w R)
    (hR : ∀ e w', R e w' → ∃ v, e = .returned v ∧ K (a.put o.dst v) w') : o.wp P a w K Q := by
  unfold Oper.wp
  rw [hrun]
  refine C.mono fun e w' h => ?_
  obtain ⟨v, rfl, hK⟩ := hR e w' h
  exact hK
theorem upto_seq : ∀ (l : List Oper) (k : Nat) (listed : Array Bool) (a : Act) (w : World), n ≤ k → (∀ j, l[j]? = ops[k + j]?) →
    Region.seqB .any ops l.length k listed = true → wpList P ops Q l a w → Upto P ops Q S n l.length listed a w
  | [], k, listed, a, w, _, _, hB, h => ⟨by simpa [Region.seqB] using hB, h⟩
  | o :: l, k, listed, a, w, hk, hl, hB, h => by
    have h0 : ops[k]? = some o := by simpa using (hl 0).symm
    simp only [List.length_cons, Region.seqB, Bool.and_eq_true, decide_eq_true_eq] at hB
    refine ⟨fun h1 => (by rw [hB.1] at h1; cases h1), fun i hi => ?_⟩
    rw [hB.1] at hi
    have hik : i = k := by simpa using hi
    subst hik
    have hw : wpOp P ops Q i (wpList P ops Q l) a w := by unfold wpOp; simp only [h0]; exact h
    exact wpOp_mono (fun a' w' h' => ⟨fun hlt => absurd hlt (by omega), upto_seq l (i + 1) _ a' w' (by omega) (fun j => by have := hl (j + 1); simpa [Nat.add_assoc, Nat.add_comm 1 j] using this) hB.2 h'⟩) hw
theorem Upto.tail {l : List Oper} {fuel : Nat} {listed : Array Bool} {a : Act} {w : World} (hf : (l.drop n).length = fuel) (hB : Region.seqB .any l.toArray fuel n listed = true) (h : wpList P l.toArray Q (l.drop n) a w) : Upto P l.toArray Q S n fuel listed a w := by
  subst hf
  exact upto_seq (l.drop n) n listed a w (Nat.le_refl _) (fun j => by simp [List.getElem?_drop]) hB h
theorem upto_start {id : Nat} {a : Act} {w : World} (S : World → Prop) (n : Nat) (hm : P.follows .mixedOrders = true) (h : Upto P ops Q S n ops.size (Array.replicate ops.size false) a w.drew) : (Code.region id ops true).wp P Q a w :=
  wp_region_any hm (any_of_upto _ _ _ _ h)
end
end

/- operations behind a guard, in a region that draws its order: taken where the guard says go, left out where it says no. No program is named; no condition. -/
section
open Go.RowKit
section
variable {P : Program} {Q : Exit → Act → World → Prop} {S : World → Prop} {n : Nat}
theorem Upto.takeG {i : Nat} {oi : Oper} {v : Value} {fuel : Nat} {listed : Array Bool} {a : Act} {w : World} {l rest : List Oper} (hi : l.drop i = oi :: rest) (hc : (tailB l.toArray n && decide (i < n) && headB l.toArray n listed && Region.free .any l.toArray listed i && (Region.ready .any l.toArray listed).contains i) = true)
    (hQ : ∀ c a w, Q (.panic c) (a.put oi.dst v) w → Q (.panic c) a w) (hg : Region.wanted oi (yielded l.toArray a.tmps) = true) (hy : ∀ w, S w → (execOp a.eval oi).run P w = .ok (.value v) w) (hS : S w)
    (h : Upto P l.toArray Q S n fuel (listed.setIfInBounds i true) (a.put oi.dst v) w) : Upto P l.toArray Q S n (fuel + 1) listed a w := by
  have hi := drop_at hi
  simp only [Bool.and_eq_true, decide_eq_true_eq] at hc
  obtain ⟨⟨⟨⟨h1, h2⟩, h3⟩, h4⟩, h5⟩ := hc
  exact upto_first h1 h2 hi hQ fuel listed a w (headB_spec h3) (Region.free_spec hi h4) (by simpa using h5) (.inl ⟨hg, hy⟩) hS h
theorem Upto.skip {i : Nat} {oi : Oper} {fuel : Nat} {listed : Array Bool} {a : Act} {w : World} {l rest : List Oper} (hi : l.drop i = oi :: rest) (hc : (tailB l.toArray n && decide (i < n) && headB l.toArray n listed && Region.free .any l.toArray listed i && (Region.ready .any l.toArray listed).contains i) = true)
    (hQ : ∀ c a w, Q (.panic c) (a.put oi.dst undef) w → Q (.panic c) a w) (hg : Region.wanted oi (yielded l.toArray a.tmps) = false) (hS : S w)
    (h : Upto P l.toArray Q S n fuel (listed.setIfInBounds i true) (a.put oi.dst undef) w) : Upto P l.toArray Q S n (fuel + 1) listed a w := by
  have hi := drop_at hi
  simp only [Bool.and_eq_true, decide_eq_true_eq] at hc
  obtain ⟨⟨⟨⟨h1, h2⟩, h3⟩, h4⟩, h5⟩ := hc
  exact upto_first h1 h2 hi hQ fuel listed a w (headB_spec h3) (Region.free_spec hi h4) (by simpa using h5) (.inr ⟨hg, rfl⟩) hS h
theorem Upto.lawG {i : Nat} {oi : Oper} {fuel : Nat} {listed : Array Bool} {a : Act} {w : World} {l rest : List Oper} (hi : l.drop i = oi :: rest) (hc : Region.ready .any l.toArray listed = [i]) (hg : Region.wanted oi (yielded l.toArray a.tmps) = true)
    (h : ∀ K : Act → World → Prop, (∀ a' w', S w' → Upto P l.toArray Q S n fuel (listed.setIfInBounds i true) a' w' → K a' w') → oi.wp P a w K Q) : Upto P l.toArray Q S n (fuel + 1) listed a w := by
  have hi := drop_at hi
  refine ⟨fun h0 => (by rw [h0] at hc; cases hc), fun j hj => ?_⟩
  rw [hc] at hj
  have hji : j = i := by simpa using hj
  subst hji
  unfold wpOp
  simp only [hi, hg, if_true]
  exact .inl (h _ fun a' w' hS hU => ⟨fun _ => hS, hU⟩)
theorem rangeAt_heap {w w' : World} {g o : Nat} {cs : List Value} (h : w.rangeAt g o cs) (hk : w'.heap[g]? = w.heap[g]?) : w'.rangeAt g o cs := fun j v hv => (World.cell?_of_block (w := w) (w' := w') (a := ⟨g, o + j, none⟩) hk).trans (h j v hv)
end
end

/- rec's list, at locks: what it passes on. -/
section
open Go.RowKit
theorem mk_L (n : Nat) (hn : n ≤ 256) (W : World) : (Instr.makeSlice 34 (.int .i64 (n : Int)) (.int .i64 (n : Int))).run Tryz.prog W =
    .ok (.slice (some ⟨W.heap.size, 0, none⟩) n n) (W.alloc (.cells (madeCells #[.string ⟨#[]⟩, .bool false] (n * elL.size)) 112)) := by
  have hz : (Tryz.prog.info? 112).map (fun i => (i.zero, i.size, i.bytes)) = some (some (.agg #[.string ⟨#[]⟩, .bool false]), 2, 24) := by kernel_rfl
  obtain ⟨i0, hi, hz0, hz1, hz2⟩ := info_parts hz
  have := run_make (P := Tryz.prog) W 34 112 i0 (.agg #[.string ⟨#[]⟩, .bool false]) Tryz.underlying34 hi hz0 .i64 .i64 n n (by omega) (by omega) (by rw [hz2]; omega) (by omega)
  rw [this, hz1, Int.toNat_natCast]
  rfl
theorem info_L : (Tryz.prog.info? 112).map (·.size) = some 2 := by kernel_rfl
theorem by_L (x : Lk) (w : World) : Calls Tryz.prog 184 #[.agg (elL.cells x).toArray] w (fun e w' => e = .returned (.string x.key) ∧ Below w.heap.size w w') := by
  have e : (Value.agg (elL.cells x).toArray) = .agg #[.string x.key, .bool x.x] := rfl
  rw [e]
  go_enter Tryz.func184, Tryz.ntmps184
  go_wp2_with fail
  go_ret
  exact ⟨rfl, (Below.refl _ _).alloc (Nat.le_refl _) _⟩
section
variable {H pb : Nat} {w : World}
set_option maxRecDepth 100000 in
set_option maxHeartbeats 8000000 in
theorem listL_any [Inhabited Prop] (s : Ps) (wr : Bool) (A : Option Addr) (n0 c0 : Nat) (xs : List Lk) (q : Addr) (h : Pst H w pb s wr) (hx : Sl elL H w A n0 c0 xs) (hr : s.room (10 + 256 * lkSp.cost))
    (hE : ∀ (w1 : World) (s1 : Ps) (wr1 : Bool) (x : Lk), Calm H w w1 → Pst H w1 pb s1 wr1 → elL.inn H w1 x → s1.room lkSp.cost → Calls Tryz.prog 182 #[.agg (elL.cells x).toArray, .pointer (some q)] w1 (RetV lkSp (VE elL id (fun x => .agg (elL.cells x).toArray) H) (id x) H pb s1 wr1 w1)) :
    Calls Tryz.prog 183 #[.pointer (some ⟨pb, 0, none⟩), .slice A n0 c0, .int .i64 64, .func (.func 182) #[] #[.pointer (some q)], .func (.func 184) #[] #[]] w
      (RetV (lkSp.list 64 (fun a b : Lk => kLt a.key b.key)) (VL elL id H) (xs.map id) H pb s wr w) := by
  have hmaxn : n0 ≤ 9223372036854775807 := by have := hx.cap; have := hx.max; unfold maxLen at this; omega
  have CC := Lib.hid (count_any (H := H) (pb := pb) s wr (n0 : Int) 64 h (by omega) (by omega) (hr.mono (by omega)))
  have HX := Lib.hid hx
  have HR := Lib.hid hr
  have HL := Lib.hid h.low
  have HE := Lib.hid hE
  clear hE
  clear h hx hr
  go_enter Tryz.func183, Tryz.ntmps183
  go_wp2_with fail
  refine CC.out.mono ?_
  rintro e w1 ⟨_, z, s1, wr1, rfl, ⟨rfl, hz0, hz1⟩, hg, hp, hc⟩
  obtain ⟨n, hn⟩ : ∃ n : Nat, (n : Int) = min z 256 := ⟨(min z 256).toNat, by omega⟩
  have hmin : min z 256 = (n : Int) := hn.symm
  have hlen : xs.length = n0 := HX.out.len
  have G1 : Hid (Goes (cntS 64) (((xs.map (id : Lk → Lk)).length : Nat) : Int) s wr z s1 wr1) := Lib.hid (by rw [List.length_map, hlen]; exact hg)
  have P1 := Lib.hid hp
  have C1 := Lib.hid hc
  have HN : Hid ((n : Int) = min z 256) := Lib.hid hn
  have hn256 : n ≤ 256 := by omega
  clear hg hp hc CC hn hlen hz0 hz1
  by_cases h0 : n = 0
  · subst h0
    have R := Lib.hid (list_empty (E := elL) (rd := id) (S := lkSp) (lt := (fun a b : Lk => kLt a.key b.key)) (xs := xs) P1.out C1.out (most := 64) (by omega) G1.out HN.out)
    go_wp2_with fail
    go_ret
    exact R.out
  · have hne : ((n : Int) == 0) = false := by simp; omega
    have kmk := mk_L n hn256
    obtain ⟨Z, hZ⟩ : ∃ Z, Z = madeCells #[.string ⟨#[]⟩, .bool false] (n * elL.size) := ⟨_, rfl⟩
    rw [← hZ] at kmk
    obtain ⟨g, hgd⟩ : ∃ g, w1.heap.size = g := ⟨_, rfl⟩
    have RW0 : Hid (Row elL 112 (w1.alloc (.cells Z 112)) g n (List.replicate n (⟨⟨#[]⟩, false⟩ : Lk))) := Lib.hid (by rw [hZ, ← hgd]; exact Row.made w1 ((⟨⟨#[]⟩, false⟩ : Lk)) #[.string ⟨#[]⟩, .bool false] rfl n)
    have B1 : Hid (Below w1.heap.size w1 (w1.alloc (.cells Z 112))) := Lib.hid ((Below.refl _ _).alloc (Nat.le_refl _) _)
    have P1' : Hid (Pst H (w1.alloc (.cells Z 112)) pb s1 wr1) := Lib.hid (P1.out.keeps (Keeps.of_below B1.out))
    have C1' : Hid (Calm H w (w1.alloc (.cells Z 112))) := Lib.hid (C1.out.trans (Calm.of_below B1.out))
    have X1 : Hid (Sl elL H (w1.alloc (.cells Z 112)) A n0 c0 xs) := Lib.hid (HX.out.calm C1'.out)
    have HG : Hid (w.heap.size ≤ g) := Lib.hid (by rw [← hgd]; exact C1.out.size)
    have HS : Hid ((w1.alloc (.cells Z 112)).heap.size = g + 1) := Lib.hid (by rw [← hgd]; simp)
    clear hZ
    go_wp2_with (refine wpList_copy_row (E := elL) (H := H) rfl _ _ 34 34 rfl 112 Tryz.underlying34 (by kernel_rfl) RW0.out X1.out n (by rfl) (by rfl) ?_)
    intro kk w2 zs hcop
    have L0 := Lib.hid (LRel.start (rd := id) (S := lkSp) (lt := (fun a b : Lk => kLt a.key b.key)) HG.out HL.out rfl P1'.out C1'.out RW0.out X1.out (fun i hi => by rw [List.getD_eq_getElem?_getD, List.getElem?_replicate, if_pos hi]; exact (Nat.zero_le _)) hcop.out)
    clear hcop RW0 B1 P1' C1' X1 HS
    go_wp2_with fail
    go_loopw [30] (fun q wr => ∃ k : Nat, k ≤ n ∧ q = .int .i64 k ∧ LRel elL id lkSp (fun a b : Lk => kLt a.key b.key) H pb g n w zs s1 wr1 k wr) (fun q _ => n - (intOf q).toNat)
    case atStart => exact ⟨0, Nat.zero_le _, rfl, L0.out.1⟩
    case round =>
      obtain ⟨k, hkn, rfl, hrel⟩ := hrel
      by_cases hlt : k < n
      · obtain ⟨hlow, zk, s2, wr2, hp, hc, hrow, hgo, hrest, hin⟩ := hrel
        obtain ⟨xk, hxk⟩ : ∃ xk, zk.getD k default = xk := ⟨_, rfl⟩
        have hr0 := hrow.at_ k hlt
        rw [hxk] at hr0
        have hxi : elL.inn H wr xk := by rw [← hxk]; exact hin _ (getD_mem (by rw [hrow.len]; exact hlt))
        have hroom : s2.room lkSp.cost := hgo.room (c := lkSp.cost) (by
          have : Ps.room s1 (256 * lkSp.cost) := G1.out.room HR.out
          refine this.mono ?_
          have : (k + 1) * lkSp.cost ≤ 256 * lkSp.cost := Nat.mul_le_mul_right _ (by omega)
          rw [Nat.add_mul] at this
          omega)
        have HXK : Hid (xk = zs.getD k default) := Lib.hid (by rw [← hxk]; exact hrest k (Nat.le_refl _) hlt)
        have MID := Lib.hid (fun v1 s3 wr3 x' (hc1 : Calm H wr v1) hp1 hx1 hg1 => LMid.of (pb := pb) (E := elL) (rd := id) (S := lkSp) (lt := (fun a b : Lk => kLt a.key b.key)) (x' := x') (w1 := v1) (s2 := s3) (wr2 := wr3) hlow HL.out rfl hrow hgo hrest hin hc hlt hc1 hp1 hx1 hg1)
        have ROW : Hid (∀ v1, Calm H wr v1 → Row elL 112 v1 g n zk) := Lib.hid (fun v1 hc1 => hrow.calm rfl hc1)
        have HR0 : Hid (wr.rangeAt g (k * 2) (elL.cells xk)) := Lib.hid hr0
        have HBE : Hid (Bk (wr.alloc (.cells (elL.cells xk).toArray 112)) wr.heap.size 112 (elL.cells xk).toArray) := Lib.hid (Bk.new wr _ _)
        have hba : Below wr.heap.size wr (wr.alloc (.cells (elL.cells xk).toArray 112)) := (Below.refl _ _).alloc (Nat.le_refl _) _
        have CN := Lib.hid (HE.out (wr.alloc (.cells (elL.cells xk).toArray 112)) s2 wr2 xk (hc.trans (Calm.of_below hba)) (hp.keeps (Keeps.of_below hba)) (elL.calm H wr _ xk hxi (Calm.of_below hba)) hroom)
        have HBA := Lib.hid hba
        have hszk : (elL.cells xk).length = 2 := elL.len xk
        have HSK := Lib.hid hszk
        clear hlow hp hc hrow hgo hrest hin hr0 hxk hroom hxi hba hszk
        go_wp2_with (first
          | (refine wpList_load_mid rfl 112 _ rfl g (k * 2) rfl (elL.cells xk) _ HR0.out Tryz.underlying112 rfl (by rw [HSK.out]; exact info_L) ?_)
          | (refine wpList_store_new rfl (W := wr) rfl (c := #[.string ⟨#[]⟩, .bool false]) (c' := (elL.cells xk).toArray) rfl rfl rfl (by rw [List.size_toArray, HSK.out]; exact info_L) (by simp only [List.size_toArray]; rw [HSK.out]; rfl) (all_oneCell_toArray (elL.one xk)) ?_; simp only [Act.put])
          | (refine wpList_load_row rfl 112 _ rfl wr.heap.size rfl 112 _ (0, 0) _ HBE.out Tryz.underlying112 rfl (by rw [List.size_toArray, HSK.out]; exact info_L) ?_))
        refine CN.out.mono ?_
        rintro e v1 ⟨_, _, s3, wr3, rfl, ⟨y, rfl, hy, rfl⟩, hg3, hp3, hc3⟩
        have hc3' := (Calm.of_below HBA.out).trans hc3
        have RV := ROW.out v1 hc3'
        have hszy : (elL.cells y).length = 2 := elL.len y
        have HSY := Lib.hid hszy
        have TH : Hid (v1.there g (k * 2) (elL.cells y).toArray.size) := Lib.hid (by rw [List.size_toArray, hszy]; exact RV.there hlt)
        have M := MID.out v1 s3 wr3 y hc3' hp3 hy (by rw [HXK.out] at hg3; exact hg3)
        obtain ⟨W2, hW2⟩ : ∃ W2, W2 = v1.setCells g (k * 2) (elL.cells y) := ⟨_, rfl⟩
        have e2 : v1.setCells g (k * elL.size) (elL.cells y) = W2 := hW2.symm
        have HW2 : Hid (v1.setCells g (k * 2) (elL.cells y).toArray.toList = W2) := Lib.hid hW2.symm
        rw [e2] at M
        have M := Lib.hid M
        clear hW2 e2 RV hg3 hp3 hc3 hc3' MID ROW CN hszy HBE HBA HR0 HSK
        have HY := Lib.hid hy
        clear hy
        go_wp2_with (refine wpList_store_mid rfl 112 _ _ rfl g (k * 2) (elL.cells y).toArray rfl rfl TH.out (by rw [List.size_toArray, HSY.out]; exact info_L) (all_oneCell_toArray (elL.one y)) ?_; rw [HW2.out]; simp only [Act.put])
        clear HW2 TH
        by_cases hk0 : k = 0
        · subst hk0
          have CE := Lib.hid (fun b => expect_any (H := H) (pb := pb) (w := W2.drew) s3 wr3 b (M.out.pst.keeps ⟨Nat.le_refl _, fun _ _ => rfl⟩))
          have hS0 : True := trivial
          refine wp_region_noPanic ?_
          refine upto_start (fun _ => True) 19 (by kernel_rfl) ?_
          change Upto _ _ _ _ _ 20 _ _ _
          refine Upto.take (i := 0) (v := ?_) rfl (by kernel_rfl) (fun _ _ _ h => h) rfl (fun w' hS => ?_) hS0 ?_
          rotate_left
          · (try dsimp only at hS); go_split_ands; go_simp; (try with_reducible rfl)
          simp only [Act.put, List.setIfInBounds_toArray, List.set_cons_zero, List.set_cons_succ]
          refine Upto.take (i := 1) (v := ?_) rfl (by kernel_rfl) (fun _ _ _ h => h) rfl (fun w' hS => ?_) hS0 ?_
          rotate_left
          · (try dsimp only at hS); go_split_ands; go_simp; (try with_reducible rfl)
          simp only [Act.put, List.setIfInBounds_toArray, List.set_cons_zero, List.set_cons_succ]
          refine Upto.take (i := 2) (v := ?_) rfl (by kernel_rfl) (fun _ _ _ h => h) rfl (fun w' hS => ?_) hS0 ?_
          rotate_left
          · (try dsimp only at hS); go_split_ands; go_simp; (try with_reducible rfl)
          simp only [Act.put, List.setIfInBounds_toArray, List.set_cons_zero, List.set_cons_succ]
          refine Upto.take (i := 3) (v := ?_) rfl (by kernel_rfl) (fun _ _ _ h => h) rfl (fun w' hS => ?_) hS0 ?_
          rotate_left
          · (try dsimp only at hS); go_split_ands; go_simp; (try with_reducible rfl)
          simp only [Act.put, List.setIfInBounds_toArray, List.set_cons_zero, List.set_cons_succ]
          refine Upto.skip (i := 4) rfl (by kernel_rfl) (fun _ _ _ h => h) rfl hS0 ?_
          simp only [Act.put, List.setIfInBounds_toArray, List.set_cons_zero, List.set_cons_succ]
          refine Upto.skip (i := 5) rfl (by kernel_rfl) (fun _ _ _ h => h) rfl hS0 ?_
          simp only [Act.put, List.setIfInBounds_toArray, List.set_cons_zero, List.set_cons_succ]
          refine Upto.skip (i := 6) rfl (by kernel_rfl) (fun _ _ _ h => h) rfl hS0 ?_
          simp only [Act.put, List.setIfInBounds_toArray, List.set_cons_zero, List.set_cons_succ]
          refine Upto.skip (i := 7) rfl (by kernel_rfl) (fun _ _ _ h => h) rfl hS0 ?_
          simp only [Act.put, List.setIfInBounds_toArray, List.set_cons_zero, List.set_cons_succ]
          refine Upto.skip (i := 8) rfl (by kernel_rfl) (fun _ _ _ h => h) rfl hS0 ?_
          simp only [Act.put, List.setIfInBounds_toArray, List.set_cons_zero, List.set_cons_succ]
          refine Upto.skip (i := 9) rfl (by kernel_rfl) (fun _ _ _ h => h) rfl hS0 ?_
          simp only [Act.put, List.setIfInBounds_toArray, List.set_cons_zero, List.set_cons_succ]
          refine Upto.skip (i := 10) rfl (by kernel_rfl) (fun _ _ _ h => h) rfl hS0 ?_
          simp only [Act.put, List.setIfInBounds_toArray, List.set_cons_zero, List.set_cons_succ]
          refine Upto.skip (i := 11) rfl (by kernel_rfl) (fun _ _ _ h => h) rfl hS0 ?_
          simp only [Act.put, List.setIfInBounds_toArray, List.set_cons_zero, List.set_cons_succ]
          refine Upto.skip (i := 12) rfl (by kernel_rfl) (fun _ _ _ h => h) rfl hS0 ?_
          simp only [Act.put, List.setIfInBounds_toArray, List.set_cons_zero, List.set_cons_succ]
          refine Upto.skip (i := 13) rfl (by kernel_rfl) (fun _ _ _ h => h) rfl hS0 ?_
          simp only [Act.put, List.setIfInBounds_toArray, List.set_cons_zero, List.set_cons_succ]
          refine Upto.skip (i := 14) rfl (by kernel_rfl) (fun _ _ _ h => h) rfl hS0 ?_
          simp only [Act.put, List.setIfInBounds_toArray, List.set_cons_zero, List.set_cons_succ]
          refine Upto.skip (i := 15) rfl (by kernel_rfl) (fun _ _ _ h => h) rfl hS0 ?_
          simp only [Act.put, List.setIfInBounds_toArray, List.set_cons_zero, List.set_cons_succ]
          refine Upto.skip (i := 16) rfl (by kernel_rfl) (fun _ _ _ h => h) rfl hS0 ?_
          simp only [Act.put, List.setIfInBounds_toArray, List.set_cons_zero, List.set_cons_succ]
          refine Upto.skip (i := 17) rfl (by kernel_rfl) (fun _ _ _ h => h) rfl hS0 ?_
          simp only [Act.put, List.setIfInBounds_toArray, List.set_cons_zero, List.set_cons_succ]
          refine Upto.take (i := 18) (v := ?_) rfl (by kernel_rfl) (fun _ _ _ h => h) rfl (fun w' hS => ?_) hS0 ?_
          rotate_left
          · (try dsimp only at hS); go_split_ands; go_simp; (try with_reducible rfl)
          simp only [Act.put, List.setIfInBounds_toArray, List.set_cons_zero, List.set_cons_succ]
          refine Upto.tail rfl (by kernel_rfl) ?_
          simp only [List.drop_succ_cons, List.drop_zero]
          go_wp2_with fail
          refine (CE.out true).mono ?_
          rintro e v4 ⟨wr4, rfl, hiff, hp4, hc4⟩
          have N := Lib.hid (M.out.next rfl (fun _ => rfl) hlt L0.out.2.1 (w4 := v4) (by exact (⟨hc4.os, hc4.tape, hc4.output, hc4.size, hc4.block⟩ : Calm H W2 v4)) hp4 (hiff.trans ⟨fun q => ⟨q.1, fun h => absurd h (by omega)⟩, fun q => ⟨q.1, rfl⟩⟩))
          clear hiff hp4 hc4 CE M
          go_wp2_with fail
          refine NoPanic.normal ?_
          go_wp2_with fail
          go_roundw
          case rel => exact ⟨0 + 1, by omega, by go_num, N.out⟩
          case measure => simp [intOf]; omega
        · obtain ⟨j, hjk⟩ : ∃ j, j = k - 1 := ⟨_, rfl⟩
          have hj1 : (k : Int) - 1 = (j : Int) := by omega
          have hj2 : ((k : Int) == 0) = false := by simp; omega
          have hjn : j < n := by omega
          have hwj : IntKind.i64.wrap (j : Int) = (j : Int) := by rw [IntKind.wrap_i64]; omega
          have HJ := Lib.hid hjk
          clear hjk
          obtain ⟨xp, hxp⟩ : ∃ xp, (zk.set k y).getD j default = xp := ⟨_, rfl⟩
          have hr1 := M.out.row.at_ j hjn
          have hr2 := M.out.row.at_ k hlt
          rw [hxp] at hr1
          rw [getD_set (by rw [M.out.len]; exact hlt), if_pos rfl] at hr2
          have HXP := Lib.hid hxp
          clear hxp
          have hS0 : W2.drew.rangeAt g (j * 2) (elL.cells xp) ∧ W2.drew.rangeAt g (k * 2) (elL.cells y) := ⟨hr1, hr2⟩
          have hgl : g < W2.drew.heap.size := M.out.row.lt
          have HGL := Lib.hid hgl
          clear hr1 hr2 hgl
          refine wp_region_noPanic ?_
          refine upto_start (fun w' => w'.rangeAt g (j * 2) (elL.cells xp) ∧ w'.rangeAt g (k * 2) (elL.cells y)) 19 (by kernel_rfl) ?_
          change Upto _ _ _ _ _ 20 _ _ _
          refine Upto.take (i := 0) (v := ?_) rfl (by kernel_rfl) (fun _ _ _ h => h) rfl (fun w' hS => ?_) hS0 ?_
          rotate_left
          · (try dsimp only at hS); go_split_ands; go_simp; (try with_reducible rfl)
          simp only [Act.put, List.setIfInBounds_toArray, List.set_cons_zero, List.set_cons_succ]
          refine Upto.take (i := 1) (v := ?_) rfl (by kernel_rfl) (fun _ _ _ h => h) rfl (fun w' hS => ?_) hS0 ?_
          rotate_left
          · (try dsimp only at hS); go_split_ands; go_simp; (try with_reducible rfl)
          simp only [Act.put, List.setIfInBounds_toArray, List.set_cons_zero, List.set_cons_succ]
          refine Upto.take (i := 2) (v := ?_) rfl (by kernel_rfl) (fun _ _ _ h => h) rfl (fun w' hS => ?_) hS0 ?_
          rotate_left
          · (try dsimp only at hS); go_split_ands; go_simp; (try with_reducible rfl)
          simp only [Act.put, List.setIfInBounds_toArray, List.set_cons_zero, List.set_cons_succ]
          refine Upto.take (i := 3) (v := ?_) rfl (by kernel_rfl) (fun _ _ _ h => h) rfl (fun w' hS => ?_) hS0 ?_
          rotate_left
          · (try dsimp only at hS); go_split_ands; go_simp; (try with_reducible rfl)
          simp only [Act.put, List.setIfInBounds_toArray, List.set_cons_zero, List.set_cons_succ]
          refine Upto.takeG (i := 4) (v := ?_) rfl (by kernel_rfl) (fun _ _ _ h => h) rfl (fun w' hS => ?_) hS0 ?_
          rotate_left
          · (try dsimp only at hS); go_split_ands; go_simp; (try with_reducible rfl)
          simp only [Act.put, List.setIfInBounds_toArray, List.set_cons_zero, List.set_cons_succ]
          refine Upto.takeG (i := 5) (v := ?_) rfl (by kernel_rfl) (fun _ _ _ h => h) rfl (fun w' hS => ?_) hS0 ?_
          rotate_left
          · (try dsimp only at hS); go_split_ands; go_simp; (try with_reducible rfl)
          simp only [Act.put, List.setIfInBounds_toArray, List.set_cons_zero, List.set_cons_succ]
          refine Upto.takeG (i := 6) (v := ?_) rfl (by kernel_rfl) (fun _ _ _ h => h) rfl (fun w' hS => ?_) hS0 ?_
          rotate_left
          · (try dsimp only at hS); go_split_ands; go_simp; (try with_reducible rfl)
          simp only [Act.put, List.setIfInBounds_toArray, List.set_cons_zero, List.set_cons_succ]
          refine Upto.takeG (i := 7) (v := ?_) rfl (by kernel_rfl) (fun _ _ _ h => h) rfl (fun w' hS => ?_) hS0 ?_
          rotate_left
          · (try dsimp only at hS); go_split_ands; go_simp; (try with_reducible rfl)
          simp only [Act.put, List.setIfInBounds_toArray, List.set_cons_zero, List.set_cons_succ]
          refine Upto.takeG (i := 8) (v := ?_) rfl (by kernel_rfl) (fun _ _ _ h => h) rfl (fun w' hS => ?_) hS0 ?_
          rotate_left
          · (try dsimp only at hS); go_split_ands; go_simp; (try with_reducible rfl)
          simp only [Act.put, List.setIfInBounds_toArray, List.set_cons_zero, List.set_cons_succ]
          refine Upto.takeG (i := 9) rfl (by kernel_rfl) (fun _ _ _ h => h) rfl (fun w' hS => exec_load rfl (by rfl) hS.1 Tryz.underlying112 rfl (by rw [elL.len xp]; exact info_L)) hS0 ?_
          simp only [Act.put, List.setIfInBounds_toArray, List.set_cons_zero, List.set_cons_succ]
          refine Upto.takeG (i := 11) (v := ?_) rfl (by kernel_rfl) (fun _ _ _ h => h) rfl (fun w' hS => ?_) hS0 ?_
          rotate_left
          · (try dsimp only at hS); go_split_ands; go_simp; (try with_reducible rfl)
          simp only [Act.put, List.setIfInBounds_toArray, List.set_cons_zero, List.set_cons_succ]
          refine Upto.takeG (i := 12) (v := ?_) rfl (by kernel_rfl) (fun _ _ _ h => h) rfl (fun w' hS => ?_) hS0 ?_
          rotate_left
          · (try dsimp only at hS); go_split_ands; go_simp; (try with_reducible rfl)
          simp only [Act.put, List.setIfInBounds_toArray, List.set_cons_zero, List.set_cons_succ]
          refine Upto.takeG (i := 13) (v := ?_) rfl (by kernel_rfl) (fun _ _ _ h => h) rfl (fun w' hS => ?_) hS0 ?_
          rotate_left
          · (try dsimp only at hS); go_split_ands; go_simp; (try with_reducible rfl)
          simp only [Act.put, List.setIfInBounds_toArray, List.set_cons_zero, List.set_cons_succ]
          refine Upto.takeG (i := 14) (v := ?_) rfl (by kernel_rfl) (fun _ _ _ h => h) rfl (fun w' hS => ?_) hS0 ?_
          rotate_left
          · (try dsimp only at hS); go_split_ands; go_simp; (try with_reducible rfl)
          simp only [Act.put, List.setIfInBounds_toArray, List.set_cons_zero, List.set_cons_succ]
          refine Upto.takeG (i := 15) rfl (by kernel_rfl) (fun _ _ _ h => h) rfl (fun w' hS => exec_load rfl (by rfl) hS.2 Tryz.underlying112 rfl (by rw [elL.len y]; exact info_L)) hS0 ?_
          simp only [Act.put, List.setIfInBounds_toArray, List.set_cons_zero, List.set_cons_succ]
          refine Upto.lawG (i := 10) rfl (by kernel_rfl) rfl (fun K hK => ?_)
          refine wp_enter (f := 184) (args := #[.agg (elL.cells xp).toArray]) (by go_simp) (by_L xp _) ?_
          rintro e W3 ⟨rfl, hb3⟩
          have hS1 := And.intro (rangeAt_heap hS0.1 (hb3.block g HGL.out)) (rangeAt_heap hS0.2 (hb3.block g HGL.out))
          refine ⟨_, rfl, hK _ _ hS1 ?_⟩
          clear hK
          have HB3 := Lib.hid hb3
          clear hb3
          simp only [Act.put, List.setIfInBounds_toArray, List.set_cons_zero, List.set_cons_succ]
          refine Upto.lawG (i := 16) rfl (by kernel_rfl) rfl (fun K hK => ?_)
          refine wp_enter (f := 184) (args := #[.agg (elL.cells y).toArray]) (by go_simp) (by_L y _) ?_
          rintro e W4 ⟨rfl, hb4⟩
          have hgl3 : g < W3.heap.size := Nat.lt_of_lt_of_le HGL.out HB3.out.size
          have hS2 := And.intro (rangeAt_heap hS1.1 (hb4.block g hgl3)) (rangeAt_heap hS1.2 (hb4.block g hgl3))
          refine ⟨_, rfl, hK _ _ hS2 ?_⟩
          have HW4 : Hid (Pst H W4 pb s3 wr3 ∧ Calm H W2 W4) := Lib.hid (by
            have b4 : Below W2.heap.size W2 W4 := by
              have a := Below.then HB3.out hb4
              exact ⟨a.os, a.tape, a.output, a.size, a.block⟩
            exact ⟨M.out.pst.keeps (Keeps.of_below b4), Calm.of_below b4⟩)
          clear hK hS0 hS1 hb4 HB3 hgl3
          have hS0 := hS2
          clear hS2
          simp only [Act.put, List.setIfInBounds_toArray, List.set_cons_zero, List.set_cons_succ]
          refine Upto.takeG (i := 17) (v := ?_) rfl (by kernel_rfl) (fun _ _ _ h => h) rfl (fun w' hS => ?_) hS0 ?_
          rotate_left
          · (try dsimp only at hS); go_split_ands; go_simp; (try with_reducible rfl)
          simp only [Act.put, List.setIfInBounds_toArray, List.set_cons_zero, List.set_cons_succ]
          refine Upto.take (i := 18) (v := ?_) rfl (by kernel_rfl) (fun _ _ _ h => h) rfl (fun w' hS => ?_) hS0 ?_
          rotate_left
          · (try dsimp only at hS); go_split_ands; go_simp; (try with_reducible rfl)
          simp only [Act.put, List.setIfInBounds_toArray, List.set_cons_zero, List.set_cons_succ]
          have CE := Lib.hid (expect_any (H := H) (pb := pb) (w := W4) s3 wr3 (Op.bytesLess xp.key.toList y.key.toList) HW4.out.1)
          refine Upto.tail rfl (by kernel_rfl) ?_
          simp only [List.drop_succ_cons, List.drop_zero]
          go_wp2_with fail
          refine CE.out.mono ?_
          rintro e v4 ⟨wr4, rfl, hiff, hp4, hc4⟩
          have N := Lib.hid (M.out.next rfl (fun _ => rfl) hlt L0.out.2.1 (w4 := v4) (HW4.out.2.trans hc4) hp4 (hiff.trans (by
            have e1 : (zk.set k y).getD (k - 1) default = xp := by rw [← HJ.out]; exact HXP.out
            have e2 : (zk.set k y).getD k default = y := by rw [getD_set (by rw [M.out.len]; exact hlt), if_pos rfl]
            rw [e1, e2]
            exact ⟨fun q => ⟨q.1, fun _ => q.2⟩, fun q => ⟨q.1, q.2 (by omega)⟩⟩)))
          clear hiff hp4 hc4 CE M HW4 hS0
          go_wp2_with fail
          refine NoPanic.normal ?_
          go_wp2_with fail
          go_roundw
          case rel => exact ⟨k + 1, by omega, by go_num, N.out⟩
          case measure => simp [intOf]; omega
      · obtain rfl : k = n := by omega
        have R := Lib.hid (hrel.done HL.out (xs := xs) (most := 64) (by omega) rfl L0.out.2.1 G1.out HN.out L0.out.2.2)
        clear hrel
        go_wp2_with fail
        go_ret
        exact R.out
end
end
end Go.Proofs.YtjllpihkjlblaaaGreatDoor
