/- What it says: contracts and plain mathematics that the laws' walks use, 4 of 32: each part's own remark says what; no condition. -/
import Derived.Test.YtjllpihkjlblaaaGreatDoorPk1
import Derived.Test.YtjllpihkjlblaaaGreatDoorPk2
import Derived.Test.YtjllpihkjlblaaaGreatDoorPk3

set_option linter.unusedSimpArgs false
set_option linter.unusedVariables false
set_option linter.deprecated false
set_option linter.unusedSectionVars false
set_option linter.all false
namespace Go.Proofs.YtjllpihkjlblaaaGreatDoor

/- First, Last, Forced, Check, Used, Room, Forces and Inc of a log, and of none. -/
section
open Go.RowKit
def Lg.num (L : Lg) (z : Int) : Int := if L.down then 0 else z
theorem Lg.num_down {L : Lg} (h : L.down = true) (z : Int) : L.num z = 0 := if_pos h
theorem Lg.num_up {L : Lg} (h : ¬ L.down = true) (z : Int) : L.num z = z := if_neg h
theorem Lg.st_down {L : Lg} (h : L.down = true) : L.st = 40 := if_pos h
theorem Lg.st_up {L : Lg} (h : ¬ L.down = true) : L.st = 0 := if_neg h
section
variable {b d : Nat} {L : Lg} {A B : Option Addr} {n c p q : Nat} {w : World}
set_option maxHeartbeats 1000000 in
theorem wgFirst1_any (hb : Bk w b 103 (lgC d L (.slice A n c) (.slice B p q))) (q0 : Nat) (hq : w.cell? ⟨q0, 0, none⟩ = some (.pointer (some ⟨b, 0, none⟩))) : Calls Tryz.prog 62 #[.pointer (some ⟨q0, 0, none⟩)] w (Quiet (.int .i64 L.m.lsn) w) := by
  have y5 : w.cell? ⟨b, 5, none⟩ = some (.int .i64 L.m.lsn) := hb.cell 5
  clear hb
  go_enter Tryz.func62, Tryz.ntmps62
  go_wp2_with fail
  go_ret
  exact ⟨rfl, 0, rfl⟩
set_option maxHeartbeats 1000000 in
theorem wgNumber_nil (v : Value) (w : World) : Calls Tryz.prog 57 #[.pointer none, v] w (Quiet (.int .i64 0) w) := by
  have C := Lib.hid (wgState_nil w)
  go_enter Tryz.func57, Tryz.ntmps57
  go_wp2_with fail
  refine C.out.mono ?_
  rintro e w1 ⟨rfl, k, rfl⟩
  go_wp2_with fail
  go_ret
  exact ⟨rfl, _, rfl⟩
set_option maxHeartbeats 1000000 in
theorem wgNumber_down (hb : Bk w b 103 (lgC d L (.slice A n c) (.slice B p q))) (hd : L.down = true) (v : Value) : Calls Tryz.prog 57 #[.pointer (some ⟨b, 0, none⟩), v] w (Quiet (.int .i64 0) w) := by
  have C := Lib.hid (wgState_any hb)
  rw [Lg.st_down hd] at C
  clear hb hd
  go_enter Tryz.func57, Tryz.ntmps57
  go_wp2_with fail
  refine C.out.mono ?_
  rintro e w1 ⟨rfl, k, rfl⟩
  go_wp2_with fail
  go_ret
  exact ⟨rfl, _, rfl⟩
set_option maxHeartbeats 1000000 in
theorem wgNumFirst_any (hb : Bk w b 103 (lgC d L (.slice A n c) (.slice B p q))) (q0 : Nat) (hq : w.cell? ⟨q0, 0, none⟩ = some (.pointer (some ⟨b, 0, none⟩))) : Calls Tryz.prog 57 #[.pointer (some ⟨b, 0, none⟩), .func (.func 62) #[] #[.pointer (some ⟨q0, 0, none⟩)]] w (Quiet (.int .i64 (L.num (L.m.lsn))) w) := by
  by_cases hd : L.down = true
  · rw [Lg.num_down hd]
    exact wgNumber_down hb hd _
  · have C := Lib.hid (wgState_any hb)
    rw [Lg.st_up hd] at C
    rw [Lg.num_up hd]
    have C2 := Lib.hid (fun m => wgFirst1_any (w := w.drewN m) (b := b) (d := d) (L := L) hb q0 hq)
    obtain ⟨z, hz⟩ : ∃ z, L.m.lsn = z := ⟨_, rfl⟩
    rw [hz] at C2 ⊢
    clear hb hd hz
    go_enter Tryz.func57, Tryz.ntmps57
    go_wp2_with fail
    refine C.out.mono ?_
    rintro e w1 ⟨rfl, k, rfl⟩
    go_wp2_with fail
    refine (C2.out _).mono ?_
    rintro e w1 ⟨rfl, k2, rfl⟩
    go_wp2_with fail
    go_ret
    exact ⟨rfl, _, rfl⟩
set_option maxHeartbeats 1000000 in
theorem wgGetFirst_any (hb : Bk w b 103 (lgC d L (.slice A n c) (.slice B p q))) : Calls Tryz.prog 24 #[.pointer (some ⟨b, 0, none⟩)] w (Ret (.int .i64 (L.num (L.m.lsn))) w) := by
  obtain ⟨q0, hq0⟩ : ∃ q0, w.heap.size = q0 := ⟨_, rfl⟩
  obtain ⟨W, hW⟩ : ∃ W, W = w.alloc (.cells #[.pointer (some ⟨b, 0, none⟩)] 26) := ⟨_, rfl⟩
  have hB : Below w.heap.size w W := by rw [hW]; exact (Below.refl _ _).alloc (Nat.le_refl _) _
  have hqc : W.cell? ⟨q0, 0, none⟩ = some (.pointer (some ⟨b, 0, none⟩)) := by rw [hW, ← hq0]; exact (Bk.new w _ _).cell 0
  have C := Lib.hid (wgNumFirst_any (w := W) (hb.bel hB hb.lt) q0 hqc)
  have HB := Lib.hid hB
  have HW := Lib.hid hW
  obtain ⟨z, hz⟩ : ∃ z, L.num (L.m.lsn) = z := ⟨_, rfl⟩
  rw [hz] at C ⊢
  clear hb hB hz hW
  go_enter Tryz.func24, Tryz.ntmps24
  go_wp2_with fail
  rw [← HW.out]
  clear HW hq0
  refine C.out.mono ?_
  rintro e w1 ⟨rfl, k, rfl⟩
  go_wp2_with fail
  go_ret
  exact ⟨rfl, bel_dn HB.out k⟩
theorem wgGetFirst_nil (w : World) : Calls Tryz.prog 24 #[.pointer none] w (Ret (.int .i64 0) w) := by
  have C := Lib.hid (fun (W : World) (v : Value) => wgNumber_nil v W)
  go_enter Tryz.func24, Tryz.ntmps24
  go_wp2_with fail
  refine (C.out _ _).mono ?_
  rintro e w1 ⟨rfl, k, rfl⟩
  go_wp2_with fail
  go_ret
  exact ⟨rfl, bel_dn ((Below.refl _ _).alloc (Nat.le_refl _) _) k⟩
theorem wgGetCheck_nil (w : World) : Calls Tryz.prog 33 #[.pointer none] w (Ret (.int .i64 0) w) := by
  have C := Lib.hid (fun (W : World) (v : Value) => wgNumber_nil v W)
  go_enter Tryz.func33, Tryz.ntmps33
  go_wp2_with fail
  refine (C.out _ _).mono ?_
  rintro e w1 ⟨rfl, k, rfl⟩
  go_wp2_with fail
  go_ret
  exact ⟨rfl, bel_dn ((Below.refl _ _).alloc (Nat.le_refl _) _) k⟩
theorem wgGetForces_nil (w : World) : Calls Tryz.prog 38 #[.pointer none] w (Ret (.int .i64 0) w) := by
  have C := Lib.hid (fun (W : World) (v : Value) => wgNumber_nil v W)
  go_enter Tryz.func38, Tryz.ntmps38
  go_wp2_with fail
  refine (C.out _ _).mono ?_
  rintro e w1 ⟨rfl, k, rfl⟩
  go_wp2_with fail
  go_ret
  exact ⟨rfl, bel_dn ((Below.refl _ _).alloc (Nat.le_refl _) _) k⟩
set_option maxHeartbeats 1000000 in
theorem wgNumLast_any (hb : Bk w b 103 (lgC d L (.slice A n c) (.slice B p q))) (hf : L.Fit) (hn : L.recs.length = n) : Calls Tryz.prog 57 #[.pointer (some ⟨b, 0, none⟩), .func (.func 63) #[.pointer (some ⟨b, 0, none⟩)] #[]] w (Quiet (.int .i64 (L.num (L.last))) w) := by
  by_cases hd : L.down = true
  · rw [Lg.num_down hd]
    exact wgNumber_down hb hd _
  · have C := Lib.hid (wgState_any hb)
    rw [Lg.st_up hd] at C
    rw [Lg.num_up hd]
    have C2 := Lib.hid (fun m => wgLast_any (w := w.drewN m) (b := b) (d := d) (L := L) hb hf hn)
    obtain ⟨z, hz⟩ : ∃ z, L.last = z := ⟨_, rfl⟩
    rw [hz] at C2 ⊢
    clear hb hd hz
    go_enter Tryz.func57, Tryz.ntmps57
    go_wp2_with fail
    refine C.out.mono ?_
    rintro e w1 ⟨rfl, k, rfl⟩
    go_wp2_with fail
    refine (C2.out _).mono ?_
    rintro e w1 ⟨rfl, k2, rfl⟩
    go_wp2_with fail
    go_ret
    exact ⟨rfl, _, rfl⟩
set_option maxHeartbeats 1000000 in
theorem wgGetLast_any (hb : Bk w b 103 (lgC d L (.slice A n c) (.slice B p q))) (hf : L.Fit) (hn : L.recs.length = n) : Calls Tryz.prog 27 #[.pointer (some ⟨b, 0, none⟩)] w (Ret (.int .i64 (L.num (L.last))) w) := by
  have C := Lib.hid (wgNumLast_any hb hf hn)
  obtain ⟨z, hz⟩ : ∃ z, L.num (L.last) = z := ⟨_, rfl⟩
  rw [hz] at C ⊢
  clear hb hz
  go_enter Tryz.func27, Tryz.ntmps27
  go_wp2_with fail
  refine C.out.mono ?_
  rintro e w1 ⟨rfl, k, rfl⟩
  go_wp2_with fail
  go_ret
  exact ⟨rfl, bel_dn (Below.refl _ _) k⟩
theorem wgGetLast_nil (w : World) : Calls Tryz.prog 27 #[.pointer none] w (Ret (.int .i64 0) w) := by
  have C := Lib.hid (fun (v : Value) => wgNumber_nil v w)
  go_enter Tryz.func27, Tryz.ntmps27
  go_wp2_with fail
  refine (C.out _).mono ?_
  rintro e w1 ⟨rfl, k, rfl⟩
  go_wp2_with fail
  go_ret
  exact ⟨rfl, bel_dn (Below.refl _ _) k⟩
theorem wgGetForced_nil (w : World) : Calls Tryz.prog 23 #[.pointer none] w (Ret (.int .i64 0) w) := by
  have C := Lib.hid (fun (v : Value) => wgNumber_nil v w)
  go_enter Tryz.func23, Tryz.ntmps23
  go_wp2_with fail
  refine (C.out _).mono ?_
  rintro e w1 ⟨rfl, k, rfl⟩
  go_wp2_with fail
  go_ret
  exact ⟨rfl, bel_dn (Below.refl _ _) k⟩
set_option maxHeartbeats 1000000 in
theorem wgNumUsed_any (hb : Bk w b 103 (lgC d L (.slice A n c) (.slice B p q))) (hf : L.Fit) : Calls Tryz.prog 57 #[.pointer (some ⟨b, 0, none⟩), .func (.func 60) #[.pointer (some ⟨b, 0, none⟩)] #[]] w (Quiet (.int .i64 (L.num (L.used))) w) := by
  by_cases hd : L.down = true
  · rw [Lg.num_down hd]
    exact wgNumber_down hb hd _
  · have C := Lib.hid (wgState_any hb)
    rw [Lg.st_up hd] at C
    rw [Lg.num_up hd]
    have C2 := Lib.hid (fun m => wgUsed_any (w := w.drewN m) (b := b) (d := d) (L := L) hb hf)
    obtain ⟨z, hz⟩ : ∃ z, L.used = z := ⟨_, rfl⟩
    rw [hz] at C2 ⊢
    clear hb hd hz
    go_enter Tryz.func57, Tryz.ntmps57
    go_wp2_with fail
    refine C.out.mono ?_
    rintro e w1 ⟨rfl, k, rfl⟩
    go_wp2_with fail
    refine (C2.out _).mono ?_
    rintro e w1 ⟨rfl, k2, rfl⟩
    go_wp2_with fail
    go_ret
    exact ⟨rfl, _, rfl⟩
set_option maxHeartbeats 1000000 in
theorem wgGetUsed_any (hb : Bk w b 103 (lgC d L (.slice A n c) (.slice B p q))) (hf : L.Fit) : Calls Tryz.prog 19 #[.pointer (some ⟨b, 0, none⟩)] w (Ret (.int .i64 (L.num (L.used))) w) := by
  have C := Lib.hid (wgNumUsed_any hb hf)
  obtain ⟨z, hz⟩ : ∃ z, L.num (L.used) = z := ⟨_, rfl⟩
  rw [hz] at C ⊢
  clear hb hz
  go_enter Tryz.func19, Tryz.ntmps19
  go_wp2_with fail
  refine C.out.mono ?_
  rintro e w1 ⟨rfl, k, rfl⟩
  go_wp2_with fail
  go_ret
  exact ⟨rfl, bel_dn (Below.refl _ _) k⟩
theorem wgGetUsed_nil (w : World) : Calls Tryz.prog 19 #[.pointer none] w (Ret (.int .i64 0) w) := by
  have C := Lib.hid (fun (v : Value) => wgNumber_nil v w)
  go_enter Tryz.func19, Tryz.ntmps19
  go_wp2_with fail
  refine (C.out _).mono ?_
  rintro e w1 ⟨rfl, k, rfl⟩
  go_wp2_with fail
  go_ret
  exact ⟨rfl, bel_dn (Below.refl _ _) k⟩
end
end

/- which log records may be (stage 7), what Encode and Decode answer of them, in plain mathematics: what may be is read back, what is read has just its bytes, no beginning is read. No program is named. -/
section
open Go.RowKit
def kLt (a b : ByteArray) : Prop := Op.bytesLess a.toList b.toList = true
instance (a b : ByteArray) : Decidable (kLt a b) := by unfold kLt; infer_instance
instance : Inhabited Lk := ⟨⟨ByteArray.empty, false⟩⟩
instance : Inhabited Rw := ⟨⟨0, 0, 0, 0, 0, 0, [], []⟩⟩
instance : Inhabited Dt := ⟨⟨0, 0⟩⟩
instance : Inhabited Dd := ⟨⟨0, []⟩⟩
def seqOk (least z : Int) : Prop := least ≤ z ∧ z ≤ 1099511627776
instance (a b : Int) : Decidable (seqOk a b) := by unfold seqOk; infer_instance
def keyOk (k : ByteArray) : Prop := 1 ≤ k.size ∧ k.size ≤ 16
instance (k : ByteArray) : Decidable (keyOk k) := by unfold keyOk; infer_instance
def vlOk (v : Vl) : Prop := if v.has then (v.data.size : Int) ≤ 32 else v.data = ByteArray.empty
def rises {α : Type} [Inhabited α] (p : α → Prop) (q : α → α → Prop) (l : List α) : Prop := ∀ i, i < l.length → p (l.getD i default) ∧ (0 < i → q (l.getD (i - 1) default) (l.getD i default))
def memOk (l : List Int) : Prop := rises (fun x => 0 ≤ x ∧ x ≤ 7) (· < ·) l
def lksOk (l : List Lk) : Prop := l.length ≤ 64 ∧ rises (fun k => keyOk k.key) (fun a b => kLt a.key b.key) l
def rwOk (r : Rw) : Prop := seqOk 1 r.tx ∧ (1 ≤ r.st ∧ r.st ≤ 4) ∧ seqOk 0 r.fi ∧ seqOk 0 r.la ∧ seqOk 0 r.un ∧ (0 ≤ r.co ∧ r.co ≤ 7) ∧ memOk r.mem ∧ lksOk r.lks
def rwsOk (l : List Rw) : Prop := l.length ≤ 64 ∧ rises rwOk (fun a b => a.tx < b.tx) l
def dtsOk (l : List Dt) : Prop := l.length ≤ 64 ∧ rises (fun d => (0 ≤ d.page ∧ d.page ≤ 63) ∧ seqOk 1 d.lsn) (fun a b => a.page < b.page) l
def ddsOk (l : List Dd) : Prop := l.length ≤ 64 ∧ rises (fun d => seqOk 1 d.tx ∧ memOk d.mem) (fun a b => a.tx < b.tx) l
def pastOk (l : List Int) : Prop := l.length ≤ 256 ∧ rises (seqOk 1) (· < ·) l
def checkOk (r : Rc) : Prop := rwsOk r.rows ∧ dtsOk r.dirty ∧ ddsOk r.deeds ∧ pastOk r.past
def onlyRc (r : Rc) : Rc :=
  if r.kind = 1 then mkU (uU r) else if r.kind = 2 then mkC (uC r) else if r.kind = 3 then mkP (uP r) else if r.kind = 4 ∨ r.kind = 5 ∨ r.kind = 6 then mkE r.kind (uE r) else if r.kind = 7 then rc0 7 else if r.kind = 8 then mkK (uK r) else if r.kind = 9 then mkD (uD r) else mkF r.tx
structure Rc.ok (r : Rc) : Prop where
  kind : 1 ≤ r.kind ∧ r.kind ≤ 10
  only : onlyRc r = r
  check : r.kind = 8 → checkOk r
  seq : r.kind ≠ 7 → r.kind ≠ 8 → seqOk 1 r.tx ∧ seqOk 0 r.prev ∧ seqOk 0 r.next
  vals : r.kind = 1 ∨ r.kind = 2 → keyOk r.key ∧ vlOk r.old ∧ vlOk r.new
  rest : r.kind ≠ 7 → r.kind ≠ 8 → r.kind ≠ 1 → r.kind ≠ 2 → (0 ≤ r.co ∧ r.co ≤ 7) ∧ memOk r.mem ∧ lksOk r.lks
theorem rises_all {α : Type} [Inhabited α] {p : α → Prop} {q : α → α → Prop} {l : List α} (h : rises p q l) : ∀ x ∈ l, p x := fun x hx => by
  obtain ⟨i, hi, rfl⟩ := List.getElem_of_mem hx
  have := (h i hi).1
  rwa [List.getD_eq_getElem?_getD, List.getElem?_eq_getElem hi] at this
theorem memOk_len {l : List Int} (h : memOk l) : l.length ≤ 8 := by
  have key : ∀ i, i < l.length → (i : Int) ≤ l.getD i default := by
    intro i
    induction i with
    | zero => intro hi; have := (h 0 hi).1; omega
    | succ i ih =>
      intro hi
      have h1 := ih (by omega)
      have h2 := (h (i + 1) hi).2 (by omega)
      have e : i + 1 - 1 = i := by omega
      rw [e] at h2
      have h2' : l.getD i default < l.getD (i + 1) default := h2
      omega
  by_cases hl : l.length ≤ 8
  · exact hl
  · have h1 := key 8 (by omega)
    have h2 := (h 8 (by omega)).1
    omega
theorem seqOk_rd {least z : Int} (h : seqOk least z) (hl : 0 ≤ least) : rdNum z := ⟨by have := h.1; omega, h.2⟩
theorem memOk_rd {l : List Int} (h : memOk l) : rdInts l := ⟨by have := memOk_len h; omega, fun x hx => by have := rises_all h x hx; unfold rdNum; omega⟩
theorem lksOk_rd {l : List Lk} (h : lksOk l) : rdLks l := ⟨by have := h.1; omega, fun x hx => by
  have h1 := rises_all h.2 x hx
  have h2 := h1.2
  show (x.key.size : Int) ≤ 32
  omega⟩
theorem rwOk_rd {r : Rw} (h : rwOk r) : rdRw r := by
  obtain ⟨h1, h2, h3, h4, h5, h6, h7, h8⟩ := h
  exact ⟨⟨⟨⟨⟨⟨⟨seqOk_rd h1 (by omega), by unfold rdNum; omega⟩, seqOk_rd h3 (by omega)⟩, seqOk_rd h4 (by omega)⟩, seqOk_rd h5 (by omega)⟩, by unfold rdNum; omega⟩, memOk_rd h7⟩, lksOk_rd h8⟩
theorem pastOk_rd {l : List Int} (h : pastOk l) : rdInts l := ⟨by have := h.1; omega, fun x hx => seqOk_rd (rises_all h.2 x hx) (by omega)⟩
theorem keyOk_rd {k : ByteArray} (h : keyOk k) : (k.size : Int) ≤ 32 := by have := h.2; omega
def restLk (kind : Int) (r : Rc) : List Int :=
  if kind = 1 then bU r else if kind = 2 then bC r else if kind = 3 then bP r else if kind = 4 ∨ kind = 5 ∨ kind = 6 then bE r else if kind = 7 then [] else if kind = 8 then bK r else if kind = 9 then bD r else bF r
def rdU (r : Rc) : Prop := ((((rdNum r.tx ∧ rdNum r.prev) ∧ (r.key.size : Int) ≤ 32) ∧ rdVl r.old) ∧ rdVl r.new) ∧ mkU (uU r) = r
def rdC (r : Rc) : Prop := ((((rdNum r.tx ∧ rdNum r.prev) ∧ rdNum r.next) ∧ (r.key.size : Int) ≤ 32) ∧ rdVl r.new) ∧ mkC (uC r) = r
def rdP (r : Rc) : Prop := ((((rdNum r.tx ∧ rdNum r.prev) ∧ rdNum r.co) ∧ rdInts r.mem) ∧ rdLks r.lks) ∧ mkP (uP r) = r
def rdE_ (kind : Int) (r : Rc) : Prop := (rdNum r.tx ∧ rdNum r.prev) ∧ mkE kind (uE r) = r
def rdK (r : Rc) : Prop := (((((r.rows.length : Int) ≤ 256 ∧ ∀ x ∈ r.rows, rdRw x) ∧ ((r.dirty.length : Int) ≤ 256 ∧ ∀ x ∈ r.dirty, rdDt x)) ∧ ((r.deeds.length : Int) ≤ 256 ∧ ∀ x ∈ r.deeds, rdDd x)) ∧ rdInts r.past) ∧ mkK (uK r) = r
def rdD (r : Rc) : Prop := (rdNum r.tx ∧ rdInts r.mem) ∧ mkD (uD r) = r
def rdF (r : Rc) : Prop := rdNum r.tx ∧ mkF r.tx = r
def rdKind (kind : Int) (r : Rc) : Prop :=
  if kind = 1 then rdU r else if kind = 2 then rdC r else if kind = 3 then rdP r else if kind = 4 ∨ kind = 5 ∨ kind = 6 then rdE_ kind r else if kind = 7 then r = rc0 7 else if kind = 8 then rdK r else if kind = 9 then rdD r else rdF r
theorem codec_rest (kind : Int) : Codec (restP kind) (restLk kind) (rdKind kind) := by
  unfold restP restLk rdKind
  by_cases h1 : kind = 1
  · simp only [if_pos h1]; exact codec_U
  by_cases h2 : kind = 2
  · simp only [if_neg h1, if_pos h2]; exact codec_C
  by_cases h3 : kind = 3
  · simp only [if_neg h1, if_neg h2, if_pos h3]; exact codec_P
  by_cases h4 : kind = 4 ∨ kind = 5 ∨ kind = 6
  · simp only [if_neg h1, if_neg h2, if_neg h3, if_pos h4]; exact codec_E kind
  by_cases h7 : kind = 7
  · simp only [if_neg h1, if_neg h2, if_neg h3, if_neg h4, if_pos h7]; exact codec_B
  by_cases h8 : kind = 8
  · simp only [if_neg h1, if_neg h2, if_neg h3, if_neg h4, if_neg h7, if_pos h8]; exact codec_K
  by_cases h9 : kind = 9
  · simp only [if_neg h1, if_neg h2, if_neg h3, if_neg h4, if_neg h7, if_neg h8, if_pos h9]; exact codec_D
  · simp only [if_neg h1, if_neg h2, if_neg h3, if_neg h4, if_neg h7, if_neg h8, if_neg h9]; exact codec_F
theorem rdKind_kind {kind : Int} {r : Rc} (hk : 1 ≤ kind ∧ kind ≤ 10) (h : rdKind kind r) : r.kind = kind := by
  unfold rdKind at h
  by_cases h1 : kind = 1
  · rw [if_pos h1] at h; rw [← h.2, h1]; rfl
  rw [if_neg h1] at h
  by_cases h2 : kind = 2
  · rw [if_pos h2] at h; rw [← h.2, h2]; rfl
  rw [if_neg h2] at h
  by_cases h3 : kind = 3
  · rw [if_pos h3] at h; rw [← h.2, h3]; rfl
  rw [if_neg h3] at h
  by_cases h4 : kind = 4 ∨ kind = 5 ∨ kind = 6
  · rw [if_pos h4] at h; rw [← h.2]; rfl
  rw [if_neg h4] at h
  by_cases h7 : kind = 7
  · rw [if_pos h7] at h; rw [h, h7]; rfl
  rw [if_neg h7] at h
  by_cases h8 : kind = 8
  · rw [if_pos h8] at h; rw [← h.2, h8]; rfl
  rw [if_neg h8] at h
  by_cases h9 : kind = 9
  · rw [if_pos h9] at h; rw [← h.2, h9]; rfl
  rw [if_neg h9] at h
  have : kind = 10 := by omega
  rw [← h.2, this]; rfl
theorem ok_rd {r : Rc} (h : r.ok) : rdKind r.kind r := by
  have ho := h.only
  have hk := h.kind
  unfold onlyRc at ho
  unfold rdKind
  by_cases h1 : r.kind = 1
  · rw [if_pos h1] at ho ⊢
    obtain ⟨a, b, _⟩ := h.seq (by omega) (by omega)
    obtain ⟨c, d, e⟩ := h.vals (.inl h1)
    exact ⟨⟨⟨⟨⟨seqOk_rd a (by omega), seqOk_rd b (by omega)⟩, keyOk_rd c⟩, d⟩, e⟩, ho⟩
  rw [if_neg h1] at ho ⊢
  by_cases h2 : r.kind = 2
  · rw [if_pos h2] at ho ⊢
    obtain ⟨a, b, n⟩ := h.seq (by omega) (by omega)
    obtain ⟨c, d, e⟩ := h.vals (.inr h2)
    exact ⟨⟨⟨⟨⟨seqOk_rd a (by omega), seqOk_rd b (by omega)⟩, seqOk_rd n (by omega)⟩, keyOk_rd c⟩, e⟩, ho⟩
  rw [if_neg h2] at ho ⊢
  by_cases h3 : r.kind = 3
  · rw [if_pos h3] at ho ⊢
    obtain ⟨a, b, _⟩ := h.seq (by omega) (by omega)
    obtain ⟨c, d, e⟩ := h.rest (by omega) (by omega) (by omega) (by omega)
    exact ⟨⟨⟨⟨⟨seqOk_rd a (by omega), seqOk_rd b (by omega)⟩, by unfold rdNum; omega⟩, memOk_rd d⟩, lksOk_rd e⟩, ho⟩
  rw [if_neg h3] at ho ⊢
  by_cases h4 : r.kind = 4 ∨ r.kind = 5 ∨ r.kind = 6
  · rw [if_pos h4] at ho ⊢
    obtain ⟨a, b, _⟩ := h.seq (by omega) (by omega)
    exact ⟨⟨seqOk_rd a (by omega), seqOk_rd b (by omega)⟩, ho⟩
  rw [if_neg h4] at ho ⊢
  by_cases h7 : r.kind = 7
  · rw [if_pos h7] at ho ⊢
    exact ho.symm
  rw [if_neg h7] at ho ⊢
  by_cases h8 : r.kind = 8
  · rw [if_pos h8] at ho ⊢
    obtain ⟨a, b, c, d⟩ := h.check h8
    exact ⟨⟨⟨⟨⟨by have := a.1; omega, fun x hx => rwOk_rd (rises_all a.2 x hx)⟩, ⟨by have := b.1; omega, fun x hx => by
      have q := rises_all b.2 x hx
      exact ⟨by have := q.1; unfold rdNum; omega, seqOk_rd q.2 (by omega)⟩⟩⟩, ⟨by have := c.1; omega, fun x hx => by
      have q := rises_all c.2 x hx
      exact ⟨seqOk_rd q.1 (by omega), memOk_rd q.2⟩⟩⟩, pastOk_rd d⟩, ho⟩
  rw [if_neg h8] at ho ⊢
  by_cases h9 : r.kind = 9
  · rw [if_pos h9] at ho ⊢
    obtain ⟨a, _, _⟩ := h.seq (by omega) (by omega)
    obtain ⟨_, d, _⟩ := h.rest (by omega) (by omega) (by omega) (by omega)
    exact ⟨⟨seqOk_rd a (by omega), memOk_rd d⟩, ho⟩
  rw [if_neg h9] at ho ⊢
  obtain ⟨a, _, _⟩ := h.seq (by omega) (by omega)
  exact ⟨seqOk_rd a (by omega), ho⟩
def wholeP : Sg → (Int × Rc) × Sg := pBind pN restP
theorem codec_whole : Codec wholeP (fun x => numL x.1 ++ restLk x.1 x.2) (fun x => rdNum x.1 ∧ rdKind x.1 x.2) := Codec.bind codec_N codec_rest
def endS (σ : Sg) : Nat := if σ.2 = 0 ∧ 0 < σ.1.length then 13 else σ.2
def decRc (l : List Int) : Rc × Nat :=
  if (pN (l, 0)).2.2 = 0 ∧ ¬ (1 ≤ (pN (l, 0)).1 ∧ (pN (l, 0)).1 ≤ 10) then (rc0 0, 11)
  else ((wholeP (l, 0)).1.2, endS (wholeP (l, 0)).2)
theorem dec_back {r : Rc} (h : r.ok) : decRc (rcL r) = (r, 0) := by
  have hk := h.kind
  have hr : rdNum r.kind := by unfold rdNum; omega
  have b := codec_whole.back (r.kind, r) [] ⟨hr, ok_rd h⟩
  rw [List.append_nil] at b
  have b' : wholeP (rcL r, 0) = ((r.kind, r), ([], 0)) := b
  have k := codec_N.back r.kind (restL r) hr
  have k' : pN (rcL r, 0) = (r.kind, (restL r, 0)) := k
  unfold decRc
  rw [k', b', if_neg (by simp only; omega)]
  rfl
end

/- passing values on, one behind the other: where they are written, what is gathered; where they are read, what is left; and whether all of them are as they may be. Plain mathematics: no program is named. -/
section
open Go.RowKit
inductive Ps where
  | out (l : List Int) (B : Nat)
  | inp (σ : Sg)
/-- A kind of value: how it is read and written, when it may be, what is passed on of it, how many bytes it has at most. -/
structure Spc (α : Type) where
  p : Sg → α × Sg
  enc : α → List Int
  ok : α → Prop
  keep : α → α
  cost : Nat
def Goes {α : Type} (S : Spc α) (x : α) (s : Ps) (wr : Bool) (y : α) (s' : Ps) (wr' : Bool) : Prop :=
  match s with
  | .out l B => ∃ l', s' = .out l' (B + S.cost) ∧ (wr' = false ↔ wr = false ∧ S.ok x) ∧ (wr' = false → y = S.keep x ∧ l' = l ++ S.enc x)
  | .inp σ => s' = .inp (S.p σ).2 ∧ y = (S.p σ).1 ∧ (wr' = false ↔ wr = false ∧ S.ok y)
def Ps.room (s : Ps) (c : Nat) : Prop := match s with
  | .out _ B => B + c ≤ 100000000000000
  | .inp _ => True
theorem Ps.room.mono {s : Ps} {c d : Nat} (h : s.room c) (hd : d ≤ c) : s.room d := by
  cases s with
  | out l B => simp only [Ps.room] at h ⊢; omega
  | inp σ => trivial
theorem Goes.room {α : Type} {S : Spc α} {x y : α} {s s' : Ps} {wr wr' : Bool} (h : Goes S x s wr y s' wr') {c : Nat} (hr : s.room (S.cost + c)) : s'.room c := by
  cases s with
  | out l B =>
    obtain ⟨l', rfl, _⟩ := h
    simp only [Ps.room] at hr ⊢; omega
  | inp σ =>
    obtain ⟨rfl, _⟩ := h
    trivial
def Ps.le (s t : Ps) : Prop := match s, t with
  | .out l B, .out l' B' => l = l' ∧ B ≤ B'
  | .inp σ, .inp σ' => σ = σ'
  | _, _ => False
section
variable {α β : Type}
def Spc.pair (S : Spc α) (T : Spc β) : Spc (α × β) := ⟨pBind S.p (fun _ => T.p), fun x => S.enc x.1 ++ T.enc x.2, fun x => S.ok x.1 ∧ T.ok x.2, fun x => (S.keep x.1, T.keep x.2), S.cost + T.cost⟩
theorem Goes.pair {S : Spc α} {T : Spc β} {x y : α} {x2 y2 : β} {s s1 s2 : Ps} {wr wr1 wr2 : Bool} (h : Goes S x s wr y s1 wr1) (k : Goes T x2 s1 wr1 y2 s2 wr2) : Goes (S.pair T) (x, x2) s wr (y, y2) s2 wr2 := by
  cases s with
  | out l B =>
    obtain ⟨l1, rfl, h1, h2⟩ := h
    obtain ⟨l2, rfl, k1, k2⟩ := k
    refine ⟨l2, ?_, ?_, fun hw => ?_⟩
    · show Ps.out l2 (B + S.cost + T.cost) = Ps.out l2 (B + (S.cost + T.cost))
      rw [Nat.add_assoc]
    · rw [k1, h1, and_assoc]; rfl
    · obtain ⟨a, b⟩ := k2 hw
      obtain ⟨c, d⟩ := h2 (k1.1 hw).1
      subst a c d
      refine ⟨rfl, ?_⟩
      rw [b, List.append_assoc]; rfl
  | inp σ =>
    obtain ⟨rfl, rfl, h1⟩ := h
    obtain ⟨rfl, rfl, k1⟩ := k
    refine ⟨rfl, rfl, ?_⟩
    rw [k1, h1, and_assoc]; rfl
def Spc.map (S : Spc α) (f : α → β) (g : β → α) : Spc β := ⟨fun σ => (f (S.p σ).1, (S.p σ).2), fun b => S.enc (g b), fun b => S.ok (g b), fun b => f (S.keep (g b)), S.cost⟩
theorem Goes.map {S : Spc α} {f : α → β} {g : β → α} (hgf : ∀ a, g (f a) = a) {x : β} {y : α} {s s' : Ps} {wr wr' : Bool} (h : Goes S (g x) s wr y s' wr') : Goes (S.map f g) x s wr (f y) s' wr' := by
  cases s with
  | out l B =>
    obtain ⟨l1, rfl, h1, h2⟩ := h
    exact ⟨l1, rfl, h1, fun hw => ⟨by rw [(h2 hw).1]; rfl, (h2 hw).2⟩⟩
  | inp σ =>
    obtain ⟨rfl, rfl, h1⟩ := h
    refine ⟨rfl, rfl, ?_⟩
    rw [h1]
    show _ ↔ wr = false ∧ S.ok (g (f _))
    rw [hgf]
def cntS (most : Nat) : Spc Int := ⟨pNum 256, numL, fun z => z ≤ (most : Int), id, 10⟩
def Spc.list [Inhabited α] (S : Spc α) (most : Nat) (lt : α → α → Prop) : Spc (List α) := ⟨pList 256 S.p, encList S.enc, fun l => l.length ≤ most ∧ rises S.ok lt l, id, 10 + 256 * S.cost⟩
def GoesN [Inhabited α] (S : Spc α) (lt : α → α → Prop) (xs : List α) (s : Ps) (wr : Bool) (k : Nat) (ys : List α) (s' : Ps) (wr' : Bool) : Prop :=
  ys.length = k ∧ match s with
  | .out l B => ∃ l', s' = .out l' (B + k * S.cost) ∧ (wr' = false ↔ wr = false ∧ ∀ i, i < k → S.ok (xs.getD i default) ∧ (0 < i → lt (xs.getD (i - 1) default) (xs.getD i default))) ∧ (wr' = false → ys = xs.take k ∧ l' = l ++ (xs.take k).flatMap S.enc)
  | .inp σ => s' = .inp (pRep S.p σ k).2 ∧ ys = (pRep S.p σ k).1 ∧ (wr' = false ↔ wr = false ∧ ∀ i, i < k → S.ok (ys.getD i default) ∧ (0 < i → lt (ys.getD (i - 1) default) (ys.getD i default)))
theorem GoesN.zero [Inhabited α] (S : Spc α) (lt : α → α → Prop) (xs : List α) (s : Ps) (wr : Bool) : GoesN S lt xs s wr 0 [] s wr := by
  refine ⟨rfl, ?_⟩
  cases s with
  | out l B => exact ⟨l, by simp, by simp, fun _ => by simp⟩
  | inp σ => exact ⟨rfl, rfl, by simp⟩
theorem GoesN.room [Inhabited α] {S : Spc α} {lt : α → α → Prop} {xs ys : List α} {s s' : Ps} {wr wr' : Bool} {k : Nat} (h : GoesN S lt xs s wr k ys s' wr') {c : Nat} (hr : s.room (k * S.cost + c)) : s'.room c := by
  obtain ⟨_, h⟩ := h
  cases s with
  | out l B =>
    obtain ⟨l', rfl, _⟩ := h
    simp only [Ps.room] at hr ⊢; omega
  | inp σ =>
    obtain ⟨rfl, _⟩ := h
    trivial
theorem getD_snoc [Inhabited α] (ys : List α) (y : α) (i : Nat) : (ys ++ [y]).getD i default = if i < ys.length then ys.getD i default else if i = ys.length then y else default := by
  split
  · rename_i h; simp [List.getElem?_append_left h]
  · split
    · rename_i h; subst h; simp
    · rename_i h1 h2; simp [List.getElem?_eq_none (show (ys ++ [y]).length ≤ i by simp; omega)]
theorem forall_succ {p : Nat → Prop} {k : Nat} : (∀ i, i < k + 1 → p i) ↔ (∀ i, i < k → p i) ∧ p k :=
  ⟨fun h => ⟨fun i hi => h i (by omega), h k (by omega)⟩, fun ⟨h1, h2⟩ i hi => by
    by_cases e : i = k
    · subst e; exact h2
    · exact h1 i (by omega)⟩
theorem GoesN.succ [Inhabited α] {S : Spc α} {lt : α → α → Prop} {xs ys : List α} {y : α} {s s1 s2 : Ps} {wr wr1 wr2 wr3 : Bool} {k : Nat} (h : GoesN S lt xs s wr k ys s1 wr1) (hk : k < xs.length) (hkeep : ∀ x, S.keep x = x)
    (g : Goes S (xs.getD k default) s1 wr1 y s2 wr2) (h3 : wr3 = false ↔ wr2 = false ∧ (0 < k → lt (ys.getD (k - 1) default) y)) : GoesN S lt xs s wr (k + 1) (ys ++ [y]) s2 wr3 := by
  obtain ⟨hl, h⟩ := h
  refine ⟨by simp [hl], ?_⟩
  cases s with
  | out l B =>
    obtain ⟨l1, rfl, h1, h2⟩ := h
    obtain ⟨l2, rfl, g1, g2⟩ := g
    refine ⟨l2, ?_, ?_, fun hw => ?_⟩
    · show Ps.out l2 (B + k * S.cost + S.cost) = Ps.out l2 (B + (k + 1) * S.cost)
      congr 1
      rw [Nat.add_mul, Nat.one_mul, Nat.add_assoc]
    · rw [h3, forall_succ, g1]
      constructor
      · rintro ⟨⟨a, b⟩, c⟩
        obtain ⟨d, e⟩ := h1.1 a
        refine ⟨d, e, b, fun hk0 => ?_⟩
        have q := c hk0
        rw [(h2 a).1, (g2 (g1.2 ⟨a, b⟩)).1, hkeep] at q
        have e1 : (xs.take k).getD (k - 1) default = xs.getD (k - 1) default := by
          simp [List.getD_eq_getElem?_getD, List.getElem?_take, show k - 1 < k by omega]
        rw [e1] at q
        exact q
      · rintro ⟨a, b, c, d⟩
        have hw1 := h1.2 ⟨a, b⟩
        refine ⟨⟨hw1, c⟩, fun hk0 => ?_⟩
        have q := d hk0
        rw [(h2 hw1).1, (g2 (g1.2 ⟨hw1, c⟩)).1, hkeep]
        have e1 : (xs.take k).getD (k - 1) default = xs.getD (k - 1) default := by
          simp [List.getD_eq_getElem?_getD, List.getElem?_take, show k - 1 < k by omega]
        rw [e1]
        exact q
    · have hw2 := (h3.1 hw).1
      obtain ⟨a, b⟩ := g2 hw2
      obtain ⟨c, d⟩ := h2 (g1.1 hw2).1
      have e : xs.take (k + 1) = xs.take k ++ [xs.getD k default] := by
        rw [List.take_succ]
        congr 1
        simp [List.getElem?_eq_getElem hk]
      rw [e, c, a, hkeep, b, d, List.flatMap_append, List.flatMap_singleton, List.append_assoc]
      exact ⟨rfl, rfl⟩
  | inp σ =>
    obtain ⟨rfl, rfl, h1⟩ := h
    obtain ⟨rfl, rfl, g1⟩ := g
    refine ⟨rfl, rfl, ?_⟩
    rw [h3, g1, h1, forall_succ]
    have e1 : ∀ i, i < k → (((pRep S.p σ k).1 ++ [(S.p (pRep S.p σ k).2).1]).getD i default) = (pRep S.p σ k).1.getD i default := fun i hi => by rw [getD_snoc, if_pos (by omega)]
    have e2 : (((pRep S.p σ k).1 ++ [(S.p (pRep S.p σ k).2).1]).getD k default) = (S.p (pRep S.p σ k).2).1 := by rw [getD_snoc, if_neg (by omega), if_pos hl.symm]
    constructor
    · rintro ⟨⟨⟨a, b⟩, c⟩, d⟩
      refine ⟨a, fun i hi => ?_, ?_, fun hk0 => ?_⟩
      · rw [e1 i hi, e1 (i - 1) (by omega)]; exact b i hi
      · rw [e2]; exact c
      · rw [e2, e1 (k - 1) (by omega)]; exact d hk0
    · rintro ⟨a, b, c, d⟩
      refine ⟨⟨⟨a, fun i hi => ?_⟩, ?_⟩, fun hk0 => ?_⟩
      · have := b i hi; rw [e1 i hi, e1 (i - 1) (by omega)] at this; exact this
      · rw [e2] at c; exact c
      · have := d hk0; rw [e2, e1 (k - 1) (by omega)] at this; exact this
theorem Goes.list [Inhabited α] {S : Spc α} {most : Nat} {lt : α → α → Prop} (hm : most ≤ 256) {xs zs ys : List α} {z : Int} {n : Nat} {s s1 s2 : Ps} {wr wr1 wr2 : Bool} (c : Goes (cntS most) (xs.length : Int) s wr z s1 wr1)
    (hn : (n : Int) = min z 256) (hz : zs.length = n) (hzx : ∀ i, i < n → i < xs.length → zs.getD i default = xs.getD i default) (h : GoesN S lt zs s1 wr1 n ys s2 wr2) :
    ∃ s3, s2.le s3 ∧ Goes (S.list most lt) xs s wr ys s3 wr2 := by
  obtain ⟨hl, h⟩ := h
  cases s with
  | out l B =>
    obtain ⟨l1, rfl, c1, c2⟩ := c
    obtain ⟨l2, rfl, h1, h2⟩ := h
    have hn256 : n ≤ 256 := by omega
    have hmul : n * S.cost ≤ 256 * S.cost := Nat.mul_le_mul_right _ hn256
    have key : wr1 = false → zs = xs := fun hw => by
      have e := (c2 hw).1
      have e' : z = (xs.length : Int) := e
      have o := (c1.1 hw).2
      have o' : (xs.length : Int) ≤ (most : Int) := o
      have hnx : n = xs.length := by omega
      refine List.ext_getElem (by omega) fun i hi hi' => ?_
      have := hzx i (by omega) hi'
      simpa [List.getElem?_eq_getElem hi, List.getElem?_eq_getElem hi'] using this
    refine ⟨.out l2 (B + (10 + 256 * S.cost)), ⟨rfl, ?_⟩, l2, rfl, ?_, fun hw => ?_⟩
    · show B + 10 + n * S.cost ≤ B + (10 + 256 * S.cost); omega
    · rw [h1]
      constructor
      · rintro ⟨a, b⟩
        have e := key a
        subst e
        obtain ⟨w, o⟩ := c1.1 a
        have o' : (zs.length : Int) ≤ (most : Int) := o
        exact ⟨w, by omega, fun i hi => b i (by omega)⟩
      · rintro ⟨a, o, r⟩
        have hw1 : wr1 = false := c1.2 ⟨a, show (xs.length : Int) ≤ (most : Int) by omega⟩
        have e := key hw1
        subst e
        exact ⟨hw1, fun i hi => r i (by omega)⟩
    · obtain ⟨a, b⟩ := h1.1 hw
      have e := key a
      subst e
      obtain ⟨p, q⟩ := h2 hw
      have t : zs.take n = zs := List.take_of_length_le (by omega)
      rw [t] at p q
      obtain ⟨_, r⟩ := c2 a
      refine ⟨p, ?_⟩
      rw [q, r, List.append_assoc]
      rfl
  | inp σ =>
    obtain ⟨rfl, e, c1⟩ := c
    obtain ⟨rfl, rfl, h1⟩ := h
    have hz0 : z = (pNum 256 σ).1 := e
    have hb : 0 ≤ z ∧ z ≤ 256 := by
      rw [hz0]
      unfold pNum pPrim numI
      split
      · exact ⟨Int.le_refl _, by omega⟩
      · split
        · exact ⟨Int.le_refl _, by omega⟩
        · rename_i q
          show (0 : Int) ≤ ((numF σ.1 256).1 : Int) ∧ ((numF σ.1 256).1 : Int) ≤ 256
          refine ⟨by omega, ?_⟩
          unfold numF at q ⊢
          split
          · simp
          · split
            · simp
            · rename_i q2; simp only [not_or, Int.not_lt] at q2; exact q2.2
    have hzn : z.toNat = n := by omega
    have hp : (pList 256 S.p σ) = pRep S.p (pNum 256 σ).2 n := by
      unfold pList pBind
      rw [← hzn, hz0]
    refine ⟨.inp (pList 256 S.p σ).2, ?_, rfl, ?_, ?_⟩
    · show (pRep S.p (pNum 256 σ).2 n).2 = _
      rw [hp]
    · show _ = (pList 256 S.p σ).1
      rw [hp]; rfl
    · rw [h1, c1]
      have hlen : (pRep S.p (pNum 256 σ).2 n).1.length = n := pRep_len _ _ _
      constructor
      · rintro ⟨⟨a, b⟩, r⟩
        have b' : z ≤ (most : Int) := b
        refine ⟨a, ?_, fun i hi => r i ?_⟩
        · show (pRep S.p (pNum 256 σ).2 n).1.length ≤ most; omega
        · have hi' : i < (pRep S.p (pNum 256 σ).2 n).1.length := hi; omega
      · rintro ⟨a, b, r⟩
        have b' : (pRep S.p (pNum 256 σ).2 n).1.length ≤ most := b
        exact ⟨⟨a, show z ≤ (most : Int) by omega⟩, fun i hi => r i (show i < (pRep S.p (pNum 256 σ).2 n).1.length by omega)⟩
end
end

/- seal.Read lays a reader in new memory; Left, Err, End; a nil reader's methods. -/
section
open Go.RowKit
def endE (l : List Int) (e : Nat) : Nat := if e = 0 ∧ 0 < l.length then 13 else e
theorem rErr_any (b g : Nat) (l : List Int) (e0 : Nat) (w : World) (h : Rd w 211 b g l e0) :
    Calls Tryz.prog 119 #[.pointer (some ⟨b, 0, none⟩)] w (fun e w' => e = .returned (.int .i64 e0) ∧ w = w') := by
  obtain ⟨A, n, c, _, _, h1, _⟩ := h.byt
  clear h
  go_enter Tryz.func119, Tryz.ntmps119
  go_wp2_with fail
  go_ret
  exact ⟨rfl, rfl⟩
set_option maxHeartbeats 1000000 in
theorem rEnd_any (b g : Nat) (l : List Int) (e0 : Nat) (w : World) (h : Rd w 211 b g l e0) :
    Calls Tryz.prog 121 #[.pointer (some ⟨b, 0, none⟩)] w (RdPost 211 b g l (endE l e0) (.int .i64 (endE l e0)) w) := by
  have hf : w.frozen? ⟨b, 1, none⟩ = false := by obtain ⟨A, n, c, h1, _⟩ := h.ex; exact h1.frz 1
  obtain ⟨A, n, c, _, h0, h1, hn⟩ := h.byt
  have H := Lib.hid h
  have HN := Lib.hid hn
  clear h hn
  by_cases he : e0 = 0
  · subst he
    by_cases hl : 0 < n
    · have hl' : (0 : Int) < (n : Int) := by omega
      have E : Hid (endE l 0 = 13) := Lib.hid (if_pos ⟨rfl, by have := HN.out; omega⟩)
      have R := H.out.fail 0 13
      have R := Lib.hid R
      clear hl
      go_enter Tryz.func121, Tryz.ntmps121
      go_wp2_with fail
      go_ret
      rw [E.out]
      exact ⟨rfl, R.out⟩
    · have hl' : ¬ (0 : Int) < (n : Int) := by omega
      have E : Hid (endE l 0 = 0) := Lib.hid (if_neg (by have := HN.out; omega))
      clear hl
      go_enter Tryz.func121, Tryz.ntmps121
      go_wp2_with fail
      go_ret
      rw [E.out]
      exact ⟨rfl, H.out, grown_drewN w 0 _⟩
  · have hne : ((e0 : Int) == 0) = false := by simp; omega
    have E : Hid (endE l e0 = e0) := Lib.hid (if_neg (by omega))
    clear he
    go_enter Tryz.func121, Tryz.ntmps121
    go_wp2_with fail
    go_ret
    rw [E.out]
    exact ⟨rfl, H.out, grown_drewN w 0 _⟩
theorem Rd.new {w1 : World} (t : TypeId) {A : Option Addr} {n c : Nat} {l : List Int} (h : Byt w1 A n c l) (h0 : 0 < w1.heap.size) : ∃ g, g < w1.heap.size ∧ Rd (w1.alloc (.cells #[.slice A n c, .int .i64 0] t)) t w1.heap.size g l 0 := by
  by_cases hn : 0 < n
  · obtain ⟨g, off, rfl, hc⟩ := h.at_ hn
    have hg : g < w1.heap.size := World.block_lt_of_cell? w1 _ (hc 0 hn)
    exact ⟨g, hg, by omega, _, n, c, Bk.new _ _ _, h.alloc _, fun _ a ha => by injection ha with ha; rw [← ha]⟩
  · exact ⟨0, h0, by omega, A, n, c, Bk.new _ _ _, h.alloc _, fun h => absurd h hn⟩
theorem read_own (A : Option Addr) (n c : Nat) (l : List Int) (w : World) (h : Byt w A n c l) (hn : n ≤ 140737488355328) (h0 : 0 < l.length) :
    Calls Tryz.prog 117 #[.slice A n c] w (fun e w' => ∃ b g, e = .returned (.pointer (some ⟨b, 0, none⟩)) ∧ w.heap.size ≤ b ∧ w.heap.size ≤ g ∧ g < b ∧ Rd w' 211 b g l 0 ∧ Below w.heap.size w w') := by
  have C := Lib.hid (clone_all_own A n c l w h hn)
  clear h
  go_enter Tryz.func117, Tryz.ntmps117
  go_wp2_with fail
  refine C.out.mono ?_
  rintro e w1 ⟨A1, n1, c1, rfl, ho, hr, b1⟩
  have hb := Byt.of_own ho hr
  have hl1 : n1 = l.length := hb.len.symm
  obtain ⟨g, hg, hgl, R⟩ : ∃ g, w.heap.size ≤ g ∧ g < w1.heap.size ∧ Rd (w1.alloc (.cells #[.slice A1 n1 c1, .int .i64 0] 211)) 211 w1.heap.size g l 0 := by
    obtain ⟨g, off, rfl, hc⟩ := hb.at_ (by omega)
    have hlt := ho.lt g rfl
    exact ⟨g, hlt.1, hlt.2, by omega, _, n1, c1, Bk.new _ _ _, hb.alloc _, fun _ a ha => by injection ha with ha; rw [← ha]⟩
  have R := Lib.hid R
  have G := Lib.hid (And.intro hg hgl)
  have L := Lib.hid b1
  clear ho hr hb b1 hg hgl hl1
  go_wp2_with fail
  go_ret
  exact ⟨w1.heap.size, g, rfl, L.out.size, G.out.1, G.out.2, R.out, L.out.alloc L.out.size _⟩
end

/- which blocks a call may turn; things in memory, each with the blocks that are its own; two such things side by side. No program is named; no condition. -/
section
open Go.RowKit
structure Fr (F : Nat → Prop) (w w' : World) : Prop where
  os : w'.os = w.os
  tape : w'.tape = w.tape
  output : w'.output = w.output
  size : w.heap.size ≤ w'.heap.size
  block : ∀ k, k < w.heap.size → ¬ F k → w'.heap[k]? = w.heap[k]?
def grow (F : Nat → Prop) (w w' : World) : Nat → Prop := fun k => F k ∨ (w.heap.size ≤ k ∧ k < w'.heap.size)
def fresh (w w' : World) : Nat → Prop := fun k => w.heap.size ≤ k ∧ k < w'.heap.size
section
variable {F G : Nat → Prop} {w w1 w2 : World}
theorem Fr.refl (F : Nat → Prop) (w : World) : Fr F w w := ⟨rfl, rfl, rfl, Nat.le_refl _, fun _ _ _ => rfl⟩
theorem Fr.trans (h : Fr F w w1) (k : Fr (grow F w w1) w1 w2) : Fr F w w2 :=
  ⟨k.os.trans h.os, k.tape.trans h.tape, k.output.trans h.output, Nat.le_trans h.size k.size, fun i hi hn => (k.block i (Nat.lt_of_lt_of_le hi h.size) (fun g => by
    rcases g with g | g
    · exact hn g
    · omega)).trans (h.block i hi hn)⟩
theorem Fr.mono (h : Fr F w w1) (hFG : ∀ k, F k → G k) : Fr G w w1 := ⟨h.os, h.tape, h.output, h.size, fun k hk hn => h.block k hk (fun f => hn (hFG k f))⟩
theorem Fr.then (h : Fr F w w1) (k : Fr F w1 w2) : Fr F w w2 := h.trans (k.mono fun _ f => .inl f)
theorem Fr.of_below (h : Below w.heap.size w w1) : Fr F w w1 := ⟨h.os, h.tape, h.output, h.size, fun k hk _ => h.block k hk⟩
theorem Fr.below {B : Nat} (h : Fr F w w1) (hB : B ≤ w.heap.size) (hF : ∀ k, F k → B ≤ k) : Below B w w1 :=
  ⟨h.os, h.tape, h.output, h.size, fun k hk => h.block k (by omega) (fun f => by have := hF k f; omega)⟩
theorem Fr.setCell (h : Fr F w w1) {a : Addr} (ha : F a.block) (u : Value) : Fr F w (w1.setCell a u) :=
  ⟨h.os, h.tape, h.output, by simpa [World.setCell] using h.size, fun k hk hn => (Below.heap_setCell w1 a u k (fun e => hn (e ▸ ha))).trans (h.block k hk hn)⟩
theorem Fr.grown (h : Fr F w w1) {row : Option Nat} (hg : w1.grownBy w2 row) (hr : ∀ k, row = some k → F k ∨ w.heap.size ≤ k) : Fr F w w2 :=
  h.trans ⟨hg.os, hg.tape, hg.output, hg.size, fun k hk hn => hg.block k hk (fun e => by
    rcases hr k e.symm with h | h
    · exact hn (.inl h)
    · exact hn (.inr ⟨h, hk⟩))⟩
theorem Fr.alloc (h : Fr F w w1) (o : Obj) : Fr F w (w1.alloc o) := h.grown (row := none) (World.grownBy_alloc w1 o none) (fun _ e => nomatch e)
theorem Fr.drewN (h : Fr F w w1) (n : Nat) : Fr F w (w1.drewN n) := ⟨h.os, h.tape, h.output, h.size, h.block⟩
theorem Fr.cell1 (w : World) (b i : Nat) (u : Value) : Fr (fun k => k = b) w (w.setCell ⟨b, i, none⟩ u) := Fr.setCell (a := ⟨b, i, none⟩) (Fr.refl (fun k => k = b) w) (show (fun k => k = b) b from rfl) u
end
structure Res where
  is : World → (Nat → Prop) → Prop
  lt : ∀ w F, is w F → ∀ k, F k → k < w.heap.size
  keep : ∀ w w' F, is w F → w.heap.size ≤ w'.heap.size → (∀ k, F k → w'.heap[k]? = w.heap[k]?) → is w' F
def Turn (R : Res) (F : Nat → Prop) (w w' : World) : Prop := R.is w' (grow F w w') ∧ Fr F w w'
def Res.star (R S : Res) : Res where
  is w F := ∃ F1 F2, R.is w F1 ∧ S.is w F2 ∧ (∀ k, F1 k → ¬ F2 k) ∧ (∀ k, F1 k → F k) ∧ (∀ k, F2 k → F k) ∧ ∀ k, F k → k < w.heap.size
  lt _ _ := fun ⟨_, _, _, _, _, _, _, h⟩ => h
  keep w w' F := fun ⟨F1, F2, h1, h2, h3, h4, h5, h6⟩ hs hk => ⟨F1, F2, R.keep w w' F1 h1 hs (fun k f => hk k (h4 k f)), S.keep w w' F2 h2 hs (fun k f => hk k (h5 k f)), h3, h4, h5, fun k f => Nat.lt_of_lt_of_le (h6 k f) hs⟩
theorem Res.star_comm {R S : Res} {w : World} {F : Nat → Prop} (h : (R.star S).is w F) : (S.star R).is w F := by
  obtain ⟨F1, F2, h1, h2, h3, h4, h5, h6⟩ := h
  exact ⟨F2, F1, h2, h1, fun k f g => h3 k g f, h5, h4, h6⟩
theorem Res.star_turn {R S : Res} {w : World} {F : Nat → Prop} (h : (R.star S).is w F) : ∃ F1, R.is w F1 ∧ ∀ R' w', Turn R' F1 w w' → Turn (R'.star S) F w w' := by
  obtain ⟨F1, F2, h1, h2, h3, h4, h5, h6⟩ := h
  refine ⟨F1, h1, fun R' w' ⟨t1, t2⟩ => ⟨⟨grow F1 w w', F2, t1, ?_, ?_, ?_, fun k f => .inl (h5 k f), ?_⟩, t2.mono h4⟩⟩
  · exact S.keep w w' F2 h2 t2.size (fun k f => t2.block k (S.lt w F2 h2 k f) (fun g => h3 k g f))
  · intro k f g
    rcases f with f | f
    · exact h3 k f g
    · have := S.lt w F2 h2 k g
      omega
  · intro k f
    rcases f with f | f
    · exact .inl (h4 k f)
    · exact .inr f
  · intro k f
    rcases f with f | f
    · exact Nat.lt_of_lt_of_le (h6 k f) t2.size
    · exact f.2
def Has (B : Nat) (R : Res) (w : World) : Prop := ∃ F, R.is w F ∧ ∀ k, F k → B ≤ k
section
variable {B : Nat} {R S : Res} {w w' : World}
theorem Has.below (h : Has B R w) (hb : Below w.heap.size w w') : Has B R w' := by
  obtain ⟨F, h1, h2⟩ := h
  exact ⟨F, R.keep w w' F h1 hb.size (fun k f => hb.block k (R.lt w F h1 k f)), h2⟩
theorem Has.turn (h : Has B R w) (hB : B ≤ w.heap.size) : ∃ F, R.is w F ∧ ∀ R' w', Turn R' F w w' → Has B R' w' ∧ Below B w w' := by
  obtain ⟨F, h1, h2⟩ := h
  refine ⟨F, h1, fun R' w' ⟨t1, t2⟩ => ⟨⟨_, t1, fun k f => ?_⟩, t2.below hB h2⟩⟩
  rcases f with f | f
  · exact h2 k f
  · omega
theorem Has.comm (h : Has B (R.star S) w) : Has B (S.star R) w := by
  obtain ⟨F, h1, h2⟩ := h
  exact ⟨F, Res.star_comm h1, h2⟩
theorem Has.turn1 (h : Has B (R.star S) w) (hB : B ≤ w.heap.size) : ∃ F, R.is w F ∧ ∀ R' w', Turn R' F w w' → Has B (R'.star S) w' ∧ Below B w w' := by
  obtain ⟨F, h1, h2⟩ := h.turn hB
  obtain ⟨F1, h3, h4⟩ := Res.star_turn h1
  exact ⟨F1, h3, fun R' w' t => h2 _ _ (h4 R' w' t)⟩
theorem Has.fst (h : Has B (R.star S) w) : Has B R w := by
  obtain ⟨F, ⟨F1, F2, h1, h2, h3, h4, h5, h6⟩, h7⟩ := h
  exact ⟨F1, h1, fun k f => h7 k (h4 k f)⟩
theorem Has.snd (h : Has B (R.star S) w) : Has B S w := h.comm.fst
theorem Has.ex (h : Has B R w) : ∃ F, R.is w F := ⟨h.choose, h.choose_spec.1⟩
theorem Has.new (h : Has B S w) (hB : B ≤ w.heap.size) (hb : Below w.heap.size w w') (hr : R.is w' (fresh w w')) : Has B (R.star S) w' := by
  obtain ⟨F, h1, h2⟩ := h
  refine ⟨fun k => fresh w w' k ∨ F k, ⟨fresh w w', F, hr, S.keep w w' F h1 hb.size (fun k f => hb.block k (S.lt w F h1 k f)), ?_, fun _ f => .inl f, fun _ f => .inr f, ?_⟩, ?_⟩
  · intro k f g
    have := S.lt w F h1 k g
    have := f.1
    omega
  · intro k f
    rcases f with f | f
    · exact f.2
    · exact Nat.lt_of_lt_of_le (S.lt w F h1 k f) hb.size
  · intro k f
    rcases f with f | f
    · have := f.1
      omega
    · exact h2 k f
theorem Has.first (hB : B ≤ w.heap.size) (hr : R.is w' (fresh w w')) : Has B R w' := ⟨_, hr, fun k f => by have := f.1; omega⟩
theorem Has.assoc {T : Res} (h : Has B ((R.star S).star T) w) : Has B (R.star (S.star T)) w := by
  obtain ⟨F, ⟨F1, F2, ⟨F3, F4, a1, a2, a3, a4, a5, a6⟩, h2, h3, h4, h5, h6⟩, h7⟩ := h
  refine ⟨F, ⟨F3, fun k => F4 k ∨ F2 k, a1, ⟨F4, F2, a2, h2, fun k f => h3 k (a5 k f), fun _ f => .inl f, fun _ f => .inr f, ?_⟩, ?_, fun k f => h4 k (a4 k f), ?_, h6⟩, h7⟩
  · intro k f
    rcases f with f | f
    · exact a6 k (a5 k f)
    · exact h6 k (h5 k f)
  · intro k f g
    rcases g with g | g
    · exact a3 k f g
    · exact h3 k (a4 k f) g
  · intro k f
    rcases f with f | f
    · exact h4 k (a5 k f)
    · exact h5 k f
theorem Has.assoc' {T : Res} (h : Has B (R.star (S.star T)) w) : Has B ((R.star S).star T) w := h.comm.assoc.comm.assoc.comm
end
theorem owns_keep {w w' : World} {base : Nat} {e : TypeId} {size : Nat} {v : Value} {n : Nat} {xs : List Value} (h : w.ownsRow base e size v n xs) (hk : ∀ k, v.ownBlock = some k → w'.heap[k]? = w.heap[k]?) : w'.ownsRow base e size v n xs := by
  obtain ⟨h1, h2⟩ := h
  refine ⟨h1, ?_⟩
  rcases h2 with h2 | ⟨g, cap, cur, hv, hb, hg, r⟩
  · exact .inl h2
  · exact .inr ⟨g, cap, cur, hv, hb, (hk g (by rw [hv]; rfl)).trans hg, r⟩
theorem owns_low {w : World} {base base' : Nat} {e : TypeId} {size : Nat} {v : Value} {n : Nat} {xs : List Value} (h : w.ownsRow base e size v n xs) (hb : base' ≤ base) : w.ownsRow base' e size v n xs := by
  obtain ⟨h1, h2⟩ := h
  refine ⟨h1, ?_⟩
  rcases h2 with h2 | ⟨g, cap, cur, hv, hg, r⟩
  · exact .inl h2
  · exact .inr ⟨g, cap, cur, hv, Nat.le_trans hb hg, r⟩
theorem Bk.eq {w w' : World} {g : Nat} {t : TypeId} {cs : Array Value} (h : Bk w g t cs) (hk : w'.heap[g]? = w.heap[g]?) : Bk w' g t cs := hk.trans h
end
end Go.Proofs.YtjllpihkjlblaaaGreatDoor
