/- What it says: contracts and plain mathematics that the laws' walks use, 4 of 33: each part's own remark says what; no condition. -/
import Derived.Test.YtfmfmdiegabobabGreatDoorPw1
import Derived.Test.YtfmfmdiegabobabGreatDoorPw2
import Derived.Test.YtfmfmdiegabobabGreatDoorPw3
import Derived.Test.YtfmfmdiegabobabGreatDoorRows
import Derived.Deep.Slices
import Derived.ProofKit
import Derived.OpenShut
import Derived.SizedLaws

set_option linter.unusedSimpArgs false
set_option linter.unusedVariables false
set_option linter.deprecated false
set_option linter.unusedSectionVars false
set_option linter.all false
set_option maxRecDepth 100000
set_option maxHeartbeats 16000000
namespace Go.Proofs.YtfmfmdiegabobabGreatDoor

/- which log records may be (stage 7), what Encode and Decode answer of them, in plain mathematics: what may be is read back, what is read has just its bytes, no beginning is read. No program is named. -/
section
open Go.RowKit
def kLt (a b : ByteArray) : Prop := Op.bytesLess a.toList b.toList = true
instance (a b : ByteArray) : Decidable (kLt a b) := by unfold kLt; infer_instance
instance : Inhabited Lk := ⟨⟨ByteArray.empty, false⟩⟩
instance : Inhabited Rw := ⟨⟨0, 0, 0, 0, 0, 0, [], []⟩⟩
instance : Inhabited Dt := ⟨⟨0, 0⟩⟩
instance : Inhabited Dd := ⟨⟨0, []⟩⟩
def seqOk (least z : Int) : Prop := least ≤ z ∧ z ≤ 1099511627776
instance (a b : Int) : Decidable (seqOk a b) := by unfold seqOk; infer_instance
def keyOk (k : ByteArray) : Prop := 1 ≤ k.size ∧ k.size ≤ 16
instance (k : ByteArray) : Decidable (keyOk k) := by unfold keyOk; infer_instance
def vlOk (v : Vl) : Prop := if v.has then (v.data.size : Int) ≤ 32 else v.data = ByteArray.empty
def rises {α : Type} [Inhabited α] (p : α → Prop) (q : α → α → Prop) (l : List α) : Prop := ∀ i, i < l.length → p (l.getD i default) ∧ (0 < i → q (l.getD (i - 1) default) (l.getD i default))
def memOk (l : List Int) : Prop := rises (fun x => 0 ≤ x ∧ x ≤ 7) (· < ·) l
def lksOk (l : List Lk) : Prop := l.length ≤ 64 ∧ rises (fun k => keyOk k.key) (fun a b => kLt a.key b.key) l
def rwOk (r : Rw) : Prop := seqOk 1 r.tx ∧ (1 ≤ r.st ∧ r.st ≤ 4) ∧ seqOk 0 r.fi ∧ seqOk 0 r.la ∧ seqOk 0 r.un ∧ (0 ≤ r.co ∧ r.co ≤ 7) ∧ memOk r.mem ∧ lksOk r.lks
def rwsOk (l : List Rw) : Prop := l.length ≤ 64 ∧ rises rwOk (fun a b => a.tx < b.tx) l
def dtsOk (l : List Dt) : Prop := l.length ≤ 64 ∧ rises (fun d => (0 ≤ d.page ∧ d.page ≤ 63) ∧ seqOk 1 d.lsn) (fun a b => a.page < b.page) l
def ddsOk (l : List Dd) : Prop := l.length ≤ 64 ∧ rises (fun d => seqOk 1 d.tx ∧ memOk d.mem) (fun a b => a.tx < b.tx) l
def pastOk (l : List Int) : Prop := l.length ≤ 256 ∧ rises (seqOk 1) (· < ·) l
def checkOk (r : Rc) : Prop := rwsOk r.rows ∧ dtsOk r.dirty ∧ ddsOk r.deeds ∧ pastOk r.past
def onlyRc (r : Rc) : Rc :=
 if r.kind = 1 then mkU (uU r) else if r.kind = 2 then mkC (uC r) else if r.kind = 3 then mkP (uP r) else if r.kind = 4 ∨ r.kind = 5 ∨ r.kind = 6 then mkE r.kind (uE r) else if r.kind = 7 then rc0 7 else if r.kind = 8 then mkK (uK r) else if r.kind = 9 then mkD (uD r) else mkF r.tx
structure Rc.ok (r : Rc) : Prop where
 kind : 1 ≤ r.kind ∧ r.kind ≤ 10
 only : onlyRc r = r
 check : r.kind = 8 → checkOk r
 seq : r.kind ≠ 7 → r.kind ≠ 8 → seqOk 1 r.tx ∧ seqOk 0 r.prev ∧ seqOk 0 r.next
 vals : r.kind = 1 ∨ r.kind = 2 → keyOk r.key ∧ vlOk r.old ∧ vlOk r.new
 rest : r.kind ≠ 7 → r.kind ≠ 8 → r.kind ≠ 1 → r.kind ≠ 2 → (0 ≤ r.co ∧ r.co ≤ 7) ∧ memOk r.mem ∧ lksOk r.lks
theorem rises_all {α : Type} [Inhabited α] {p : α → Prop} {q : α → α → Prop} {l : List α} (h : rises p q l) : ∀ x ∈ l, p x := fun x hx => by
 obtain ⟨i, hi, rfl⟩ := List.getElem_of_mem hx
 have := (h i hi).1
 rwa [List.getD_eq_getElem?_getD, List.getElem?_eq_getElem hi] at this
theorem memOk_len {l : List Int} (h : memOk l) : l.length ≤ 8 := by
 have key : ∀ i, i < l.length → (i : Int) ≤ l.getD i default := by
  intro i
  induction i with
  | zero => intro hi; have := (h 0 hi).1; omega
  | succ i ih =>
   intro hi
   have h1 := ih (by omega)
   have h2 := (h (i + 1) hi).2 (by omega)
   have e : i + 1 - 1 = i := by omega
   rw [e] at h2
   have h2' : l.getD i default < l.getD (i + 1) default := h2
   omega
 by_cases hl : l.length ≤ 8
 ·exact hl
 ·have h1 := key 8 (by omega)
  have h2 := (h 8 (by omega)).1
  omega
theorem seqOk_rd {least z : Int} (h : seqOk least z) (hl : 0 ≤ least) : rdNum z := ⟨by have := h.1; omega, h.2⟩
theorem memOk_rd {l : List Int} (h : memOk l) : rdInts l := ⟨by have := memOk_len h; omega, fun x hx => by have := rises_all h x hx; unfold rdNum; omega⟩
theorem lksOk_rd {l : List Lk} (h : lksOk l) : rdLks l := ⟨by have := h.1; omega, fun x hx => by
 have h1 := rises_all h.2 x hx
 have h2 := h1.2
 show (x.key.size : Int) ≤ 32
 omega⟩
theorem rwOk_rd {r : Rw} (h : rwOk r) : rdRw r := by
 obtain ⟨h1, h2, h3, h4, h5, h6, h7, h8⟩ := h
 exact ⟨⟨⟨⟨⟨⟨⟨seqOk_rd h1 (by omega), by unfold rdNum; omega⟩, seqOk_rd h3 (by omega)⟩, seqOk_rd h4 (by omega)⟩, seqOk_rd h5 (by omega)⟩, by unfold rdNum; omega⟩, memOk_rd h7⟩, lksOk_rd h8⟩
theorem pastOk_rd {l : List Int} (h : pastOk l) : rdInts l := ⟨by have := h.1; omega, fun x hx => seqOk_rd (rises_all h.2 x hx) (by omega)⟩
theorem keyOk_rd {k : ByteArray} (h : keyOk k) : (k.size : Int) ≤ 32 := by have := h.2; omega
def restLk (kind : Int) (r : Rc) : List Int :=
 if kind = 1 then bU r else if kind = 2 then bC r else if kind = 3 then bP r else if kind = 4 ∨ kind = 5 ∨ kind = 6 then bE r else if kind = 7 then [] else if kind = 8 then bK r else if kind = 9 then bD r else bF r
def rdU (r : Rc) : Prop := ((((rdNum r.tx ∧ rdNum r.prev) ∧ (r.key.size : Int) ≤ 32) ∧ rdVl r.old) ∧ rdVl r.new) ∧ mkU (uU r) = r
def rdC (r : Rc) : Prop := ((((rdNum r.tx ∧ rdNum r.prev) ∧ rdNum r.next) ∧ (r.key.size : Int) ≤ 32) ∧ rdVl r.new) ∧ mkC (uC r) = r
def rdP (r : Rc) : Prop := ((((rdNum r.tx ∧ rdNum r.prev) ∧ rdNum r.co) ∧ rdInts r.mem) ∧ rdLks r.lks) ∧ mkP (uP r) = r
def rdE_ (kind : Int) (r : Rc) : Prop := (rdNum r.tx ∧ rdNum r.prev) ∧ mkE kind (uE r) = r
def rdK (r : Rc) : Prop := (((((r.rows.length : Int) ≤ 256 ∧ ∀ x ∈ r.rows, rdRw x) ∧ ((r.dirty.length : Int) ≤ 256 ∧ ∀ x ∈ r.dirty, rdDt x)) ∧ ((r.deeds.length : Int) ≤ 256 ∧ ∀ x ∈ r.deeds, rdDd x)) ∧ rdInts r.past) ∧ mkK (uK r) = r
def rdD (r : Rc) : Prop := (rdNum r.tx ∧ rdInts r.mem) ∧ mkD (uD r) = r
def rdF (r : Rc) : Prop := rdNum r.tx ∧ mkF r.tx = r
def rdKind (kind : Int) (r : Rc) : Prop :=
 if kind = 1 then rdU r else if kind = 2 then rdC r else if kind = 3 then rdP r else if kind = 4 ∨ kind = 5 ∨ kind = 6 then rdE_ kind r else if kind = 7 then r = rc0 7 else if kind = 8 then rdK r else if kind = 9 then rdD r else rdF r
theorem codec_rest (kind : Int) : Codec (restP kind) (restLk kind) (rdKind kind) := by
 unfold restP restLk rdKind
 by_cases h1 : kind = 1
 ·simp only [if_pos h1]; exact codec_U
 by_cases h2 : kind = 2
 ·simp only [if_neg h1, if_pos h2]; exact codec_C
 by_cases h3 : kind = 3
 ·simp only [if_neg h1, if_neg h2, if_pos h3]; exact codec_P
 by_cases h4 : kind = 4 ∨ kind = 5 ∨ kind = 6
 ·simp only [if_neg h1, if_neg h2, if_neg h3, if_pos h4]; exact codec_E kind
 by_cases h7 : kind = 7
 ·simp only [if_neg h1, if_neg h2, if_neg h3, if_neg h4, if_pos h7]; exact codec_B
 by_cases h8 : kind = 8
 ·simp only [if_neg h1, if_neg h2, if_neg h3, if_neg h4, if_neg h7, if_pos h8]; exact codec_K
 by_cases h9 : kind = 9
 ·simp only [if_neg h1, if_neg h2, if_neg h3, if_neg h4, if_neg h7, if_neg h8, if_pos h9]; exact codec_D
 ·simp only [if_neg h1, if_neg h2, if_neg h3, if_neg h4, if_neg h7, if_neg h8, if_neg h9]; exact codec_F
theorem rdKind_kind {kind : Int} {r : Rc} (hk : 1 ≤ kind ∧ kind ≤ 10) (h : rdKind kind r) : r.kind = kind := by
 unfold rdKind at h
 by_cases h1 : kind = 1
 ·rw [if_pos h1] at h; rw [← h.2, h1]; rfl
 rw [if_neg h1] at h
 by_cases h2 : kind = 2
 ·rw [if_pos h2] at h; rw [← h.2, h2]; rfl
 rw [if_neg h2] at h
 by_cases h3 : kind = 3
 ·rw [if_pos h3] at h; rw [← h.2, h3]; rfl
 rw [if_neg h3] at h
 by_cases h4 : kind = 4 ∨ kind = 5 ∨ kind = 6
 ·rw [if_pos h4] at h; rw [← h.2]; rfl
 rw [if_neg h4] at h
 by_cases h7 : kind = 7
 ·rw [if_pos h7] at h; rw [h, h7]; rfl
 rw [if_neg h7] at h
 by_cases h8 : kind = 8
 ·rw [if_pos h8] at h; rw [← h.2, h8]; rfl
 rw [if_neg h8] at h
 by_cases h9 : kind = 9
 ·rw [if_pos h9] at h; rw [← h.2, h9]; rfl
 rw [if_neg h9] at h
 have : kind = 10 := by omega
 rw [← h.2, this]; rfl
theorem ok_rd {r : Rc} (h : r.ok) : rdKind r.kind r := by
 have ho := h.only
 have hk := h.kind
 unfold onlyRc at ho
 unfold rdKind
 by_cases h1 : r.kind = 1
 ·rw [if_pos h1] at ho ⊢
  obtain ⟨a, b, _⟩ := h.seq (by omega) (by omega)
  obtain ⟨c, d, e⟩ := h.vals (.inl h1)
  exact ⟨⟨⟨⟨⟨seqOk_rd a (by omega), seqOk_rd b (by omega)⟩, keyOk_rd c⟩, d⟩, e⟩, ho⟩
 rw [if_neg h1] at ho ⊢
 by_cases h2 : r.kind = 2
 ·rw [if_pos h2] at ho ⊢
  obtain ⟨a, b, n⟩ := h.seq (by omega) (by omega)
  obtain ⟨c, d, e⟩ := h.vals (.inr h2)
  exact ⟨⟨⟨⟨⟨seqOk_rd a (by omega), seqOk_rd b (by omega)⟩, seqOk_rd n (by omega)⟩, keyOk_rd c⟩, e⟩, ho⟩
 rw [if_neg h2] at ho ⊢
 by_cases h3 : r.kind = 3
 ·rw [if_pos h3] at ho ⊢
  obtain ⟨a, b, _⟩ := h.seq (by omega) (by omega)
  obtain ⟨c, d, e⟩ := h.rest (by omega) (by omega) (by omega) (by omega)
  exact ⟨⟨⟨⟨⟨seqOk_rd a (by omega), seqOk_rd b (by omega)⟩, by unfold rdNum; omega⟩, memOk_rd d⟩, lksOk_rd e⟩, ho⟩
 rw [if_neg h3] at ho ⊢
 by_cases h4 : r.kind = 4 ∨ r.kind = 5 ∨ r.kind = 6
 ·rw [if_pos h4] at ho ⊢
  obtain ⟨a, b, _⟩ := h.seq (by omega) (by omega)
  exact ⟨⟨seqOk_rd a (by omega), seqOk_rd b (by omega)⟩, ho⟩
 rw [if_neg h4] at ho ⊢
 by_cases h7 : r.kind = 7
 ·rw [if_pos h7] at ho ⊢
  exact ho.symm
 rw [if_neg h7] at ho ⊢
 by_cases h8 : r.kind = 8
 ·rw [if_pos h8] at ho ⊢
  obtain ⟨a, b, c, d⟩ := h.check h8
  exact ⟨⟨⟨⟨⟨by have := a.1; omega, fun x hx => rwOk_rd (rises_all a.2 x hx)⟩, ⟨by have := b.1; omega, fun x hx => by
   have q := rises_all b.2 x hx
   exact ⟨by have := q.1; unfold rdNum; omega, seqOk_rd q.2 (by omega)⟩⟩⟩, ⟨by have := c.1; omega, fun x hx => by
   have q := rises_all c.2 x hx
   exact ⟨seqOk_rd q.1 (by omega), memOk_rd q.2⟩⟩⟩, pastOk_rd d⟩, ho⟩
 rw [if_neg h8] at ho ⊢
 by_cases h9 : r.kind = 9
 ·rw [if_pos h9] at ho ⊢
  obtain ⟨a, _, _⟩ := h.seq (by omega) (by omega)
  obtain ⟨_, d, _⟩ := h.rest (by omega) (by omega) (by omega) (by omega)
  exact ⟨⟨seqOk_rd a (by omega), memOk_rd d⟩, ho⟩
 rw [if_neg h9] at ho ⊢
 obtain ⟨a, _, _⟩ := h.seq (by omega) (by omega)
 exact ⟨seqOk_rd a (by omega), ho⟩
def wholeP : Sg → (Int × Rc) × Sg := pBind pN restP
theorem codec_whole : Codec wholeP (fun x => numL x.1 ++ restLk x.1 x.2) (fun x => rdNum x.1 ∧ rdKind x.1 x.2) := Codec.bind codec_N codec_rest
def endS (σ : Sg) : Nat := if σ.2 = 0 ∧ 0 < σ.1.length then 13 else σ.2
def decRc (l : List Int) : Rc × Nat :=
 if (pN (l, 0)).2.2 = 0 ∧ ¬ (1 ≤ (pN (l, 0)).1 ∧ (pN (l, 0)).1 ≤ 10) then (rc0 0, 11)
 else ((wholeP (l, 0)).1.2, endS (wholeP (l, 0)).2)
theorem dec_back {r : Rc} (h : r.ok) : decRc (rcL r) = (r, 0) := by
 have hk := h.kind
 have hr : rdNum r.kind := by unfold rdNum; omega
 have b := codec_whole.back (r.kind, r) [] ⟨hr, ok_rd h⟩
 rw [List.append_nil] at b
 have b' : wholeP (rcL r, 0) = ((r.kind, r), ([], 0)) := b
 have k := codec_N.back r.kind (restL r) hr
 have k' : pN (rcL r, 0) = (r.kind, (restL r, 0)) := k
 unfold decRc
 rw [k', b', if_neg (by simp only; omega)]
 rfl
end

/- passing values on, one behind the other: where they are written, what is gathered; where they are read, what is left; and whether all of them are as they may be. Plain mathematics: no program is named. -/
section
open Go.RowKit
inductive Ps where
 | out (l : List Int) (B : Nat)
 | inp (σ : Sg)
/-- A kind of value: how it is read and written, when it may be, what is passed on of it, how many bytes it has at most. -/
structure Spc (α : Type) where
 p : Sg → α × Sg
 enc : α → List Int
 ok : α → Prop
 keep : α → α
 cost : Nat
def Goes {α : Type} (S : Spc α) (x : α) (s : Ps) (wr : Bool) (y : α) (s' : Ps) (wr' : Bool) : Prop :=
 match s with
 | .out l B => ∃ l', s' = .out l' (B + S.cost) ∧ (wr' = false ↔ wr = false ∧ S.ok x) ∧ (wr' = false → y = S.keep x ∧ l' = l ++ S.enc x)
 | .inp σ => s' = .inp (S.p σ).2 ∧ y = (S.p σ).1 ∧ (wr' = false ↔ wr = false ∧ S.ok y)
def Ps.room (s : Ps) (c : Nat) : Prop := match s with
 | .out _ B => B + c ≤ 100000000000000
 | .inp _ => True
theorem Ps.room.mono {s : Ps} {c d : Nat} (h : s.room c) (hd : d ≤ c) : s.room d := by
 cases s with
 | out l B => simp only [Ps.room] at h ⊢; omega
 | inp σ => trivial
theorem Goes.room {α : Type} {S : Spc α} {x y : α} {s s' : Ps} {wr wr' : Bool} (h : Goes S x s wr y s' wr') {c : Nat} (hr : s.room (S.cost + c)) : s'.room c := by
 cases s with
 | out l B =>
  obtain ⟨l', rfl, _⟩ := h
  simp only [Ps.room] at hr ⊢; omega
 | inp σ =>
  obtain ⟨rfl, _⟩ := h
  trivial
def Ps.le (s t : Ps) : Prop := match s, t with
 | .out l B, .out l' B' => l = l' ∧ B ≤ B'
 | .inp σ, .inp σ' => σ = σ'
 | _, _ => False
section
variable {α β : Type}
def Spc.pair (S : Spc α) (T : Spc β) : Spc (α × β) := ⟨pBind S.p (fun _ => T.p), fun x => S.enc x.1 ++ T.enc x.2, fun x => S.ok x.1 ∧ T.ok x.2, fun x => (S.keep x.1, T.keep x.2), S.cost + T.cost⟩
theorem Goes.pair {S : Spc α} {T : Spc β} {x y : α} {x2 y2 : β} {s s1 s2 : Ps} {wr wr1 wr2 : Bool} (h : Goes S x s wr y s1 wr1) (k : Goes T x2 s1 wr1 y2 s2 wr2) : Goes (S.pair T) (x, x2) s wr (y, y2) s2 wr2 := by
 cases s with
 | out l B =>
  obtain ⟨l1, rfl, h1, h2⟩ := h
  obtain ⟨l2, rfl, k1, k2⟩ := k
  refine ⟨l2, ?_, ?_, fun hw => ?_⟩
  ·show Ps.out l2 (B + S.cost + T.cost) = Ps.out l2 (B + (S.cost + T.cost))
   rw [Nat.add_assoc]
  ·rw [k1, h1, and_assoc]; rfl
  ·obtain ⟨a, b⟩ := k2 hw
   obtain ⟨c, d⟩ := h2 (k1.1 hw).1
   subst a c d
   refine ⟨rfl, ?_⟩
   rw [b, List.append_assoc]; rfl
 | inp σ =>
  obtain ⟨rfl, rfl, h1⟩ := h
  obtain ⟨rfl, rfl, k1⟩ := k
  refine ⟨rfl, rfl, ?_⟩
  rw [k1, h1, and_assoc]; rfl
def Spc.map (S : Spc α) (f : α → β) (g : β → α) : Spc β := ⟨fun σ => (f (S.p σ).1, (S.p σ).2), fun b => S.enc (g b), fun b => S.ok (g b), fun b => f (S.keep (g b)), S.cost⟩
theorem Goes.map {S : Spc α} {f : α → β} {g : β → α} (hgf : ∀ a, g (f a) = a) {x : β} {y : α} {s s' : Ps} {wr wr' : Bool} (h : Goes S (g x) s wr y s' wr') : Goes (S.map f g) x s wr (f y) s' wr' := by
 cases s with
 | out l B =>
  obtain ⟨l1, rfl, h1, h2⟩ := h
  exact ⟨l1, rfl, h1, fun hw => ⟨by rw [(h2 hw).1]; rfl, (h2 hw).2⟩⟩
 | inp σ =>
  obtain ⟨rfl, rfl, h1⟩ := h
  refine ⟨rfl, rfl, ?_⟩
  rw [h1]
  show _ ↔ wr = false ∧ S.ok (g (f _))
  rw [hgf]
def cntS (most : Nat) : Spc Int := ⟨pNum 256, numL, fun z => z ≤ (most : Int), id, 10⟩
def Spc.list [Inhabited α] (S : Spc α) (most : Nat) (lt : α → α → Prop) : Spc (List α) := ⟨pList 256 S.p, encList S.enc, fun l => l.length ≤ most ∧ rises S.ok lt l, id, 10 + 256 * S.cost⟩
def GoesN [Inhabited α] (S : Spc α) (lt : α → α → Prop) (xs : List α) (s : Ps) (wr : Bool) (k : Nat) (ys : List α) (s' : Ps) (wr' : Bool) : Prop :=
 ys.length = k ∧ match s with
 | .out l B => ∃ l', s' = .out l' (B + k * S.cost) ∧ (wr' = false ↔ wr = false ∧ ∀ i, i < k → S.ok (xs.getD i default) ∧ (0 < i → lt (xs.getD (i - 1) default) (xs.getD i default))) ∧ (wr' = false → ys = xs.take k ∧ l' = l ++ (xs.take k).flatMap S.enc)
 | .inp σ => s' = .inp (pRep S.p σ k).2 ∧ ys = (pRep S.p σ k).1 ∧ (wr' = false ↔ wr = false ∧ ∀ i, i < k → S.ok (ys.getD i default) ∧ (0 < i → lt (ys.getD (i - 1) default) (ys.getD i default)))
theorem GoesN.zero [Inhabited α] (S : Spc α) (lt : α → α → Prop) (xs : List α) (s : Ps) (wr : Bool) : GoesN S lt xs s wr 0 [] s wr := by
 refine ⟨rfl, ?_⟩
 cases s with
 | out l B => exact ⟨l, by simp, by simp, fun _ => by simp⟩
 | inp σ => exact ⟨rfl, rfl, by simp⟩
theorem GoesN.room [Inhabited α] {S : Spc α} {lt : α → α → Prop} {xs ys : List α} {s s' : Ps} {wr wr' : Bool} {k : Nat} (h : GoesN S lt xs s wr k ys s' wr') {c : Nat} (hr : s.room (k * S.cost + c)) : s'.room c := by
 obtain ⟨_, h⟩ := h
 cases s with
 | out l B =>
  obtain ⟨l', rfl, _⟩ := h
  simp only [Ps.room] at hr ⊢; omega
 | inp σ =>
  obtain ⟨rfl, _⟩ := h
  trivial
theorem getD_snoc [Inhabited α] (ys : List α) (y : α) (i : Nat) : (ys ++ [y]).getD i default = if i < ys.length then ys.getD i default else if i = ys.length then y else default := by
 split
 ·rename_i h; simp [List.getElem?_append_left h]
 ·split
  ·rename_i h; subst h; simp
  ·rename_i h1 h2; simp [List.getElem?_eq_none (show (ys ++ [y]).length ≤ i by simp; omega)]
theorem forall_succ {p : Nat → Prop} {k : Nat} : (∀ i, i < k + 1 → p i) ↔ (∀ i, i < k → p i) ∧ p k :=
 ⟨fun h => ⟨fun i hi => h i (by omega), h k (by omega)⟩, fun ⟨h1, h2⟩ i hi => by
  by_cases e : i = k
  ·subst e; exact h2
  ·exact h1 i (by omega)⟩
theorem GoesN.succ [Inhabited α] {S : Spc α} {lt : α → α → Prop} {xs ys : List α} {y : α} {s s1 s2 : Ps} {wr wr1 wr2 wr3 : Bool} {k : Nat} (h : GoesN S lt xs s wr k ys s1 wr1) (hk : k < xs.length) (hkeep : ∀ x, S.keep x = x)
  (g : Goes S (xs.getD k default) s1 wr1 y s2 wr2) (h3 : wr3 = false ↔ wr2 = false ∧ (0 < k → lt (ys.getD (k - 1) default) y)) : GoesN S lt xs s wr (k + 1) (ys ++ [y]) s2 wr3 := by
 obtain ⟨hl, h⟩ := h
 refine ⟨by simp [hl], ?_⟩
 cases s with
 | out l B =>
  obtain ⟨l1, rfl, h1, h2⟩ := h
  obtain ⟨l2, rfl, g1, g2⟩ := g
  refine ⟨l2, ?_, ?_, fun hw => ?_⟩
  ·show Ps.out l2 (B + k * S.cost + S.cost) = Ps.out l2 (B + (k + 1) * S.cost)
   congr 1
   rw [Nat.add_mul, Nat.one_mul, Nat.add_assoc]
  ·rw [h3, forall_succ, g1]
   constructor
   ·rintro ⟨⟨a, b⟩, c⟩
    obtain ⟨d, e⟩ := h1.1 a
    refine ⟨d, e, b, fun hk0 => ?_⟩
    have q := c hk0
    rw [(h2 a).1, (g2 (g1.2 ⟨a, b⟩)).1, hkeep] at q
    have e1 : (xs.take k).getD (k - 1) default = xs.getD (k - 1) default := by
     simp [List.getD_eq_getElem?_getD, List.getElem?_take, show k - 1 < k by omega]
    rw [e1] at q
    exact q
   ·rintro ⟨a, b, c, d⟩
    have hw1 := h1.2 ⟨a, b⟩
    refine ⟨⟨hw1, c⟩, fun hk0 => ?_⟩
    have q := d hk0
    rw [(h2 hw1).1, (g2 (g1.2 ⟨hw1, c⟩)).1, hkeep]
    have e1 : (xs.take k).getD (k - 1) default = xs.getD (k - 1) default := by
     simp [List.getD_eq_getElem?_getD, List.getElem?_take, show k - 1 < k by omega]
    rw [e1]
    exact q
  ·have hw2 := (h3.1 hw).1
   obtain ⟨a, b⟩ := g2 hw2
   obtain ⟨c, d⟩ := h2 (g1.1 hw2).1
   have e : xs.take (k + 1) = xs.take k ++ [xs.getD k default] := by
    rw [List.take_succ]
    congr 1
    simp [List.getElem?_eq_getElem hk]
   rw [e, c, a, hkeep, b, d, List.flatMap_append, List.flatMap_singleton, List.append_assoc]
   exact ⟨rfl, rfl⟩
 | inp σ =>
  obtain ⟨rfl, rfl, h1⟩ := h
  obtain ⟨rfl, rfl, g1⟩ := g
  refine ⟨rfl, rfl, ?_⟩
  rw [h3, g1, h1, forall_succ]
  have e1 : ∀ i, i < k → (((pRep S.p σ k).1 ++ [(S.p (pRep S.p σ k).2).1]).getD i default) = (pRep S.p σ k).1.getD i default := fun i hi => by rw [getD_snoc, if_pos (by omega)]
  have e2 : (((pRep S.p σ k).1 ++ [(S.p (pRep S.p σ k).2).1]).getD k default) = (S.p (pRep S.p σ k).2).1 := by rw [getD_snoc, if_neg (by omega), if_pos hl.symm]
  constructor
  ·rintro ⟨⟨⟨a, b⟩, c⟩, d⟩
   refine ⟨a, fun i hi => ?_, ?_, fun hk0 => ?_⟩
   ·rw [e1 i hi, e1 (i - 1) (by omega)]; exact b i hi
   ·rw [e2]; exact c
   ·rw [e2, e1 (k - 1) (by omega)]; exact d hk0
  ·rintro ⟨a, b, c, d⟩
   refine ⟨⟨⟨a, fun i hi => ?_⟩, ?_⟩, fun hk0 => ?_⟩
   ·have := b i hi; rw [e1 i hi, e1 (i - 1) (by omega)] at this; exact this
   ·rw [e2] at c; exact c
   ·have := d hk0; rw [e2, e1 (k - 1) (by omega)] at this; exact this
theorem Goes.list [Inhabited α] {S : Spc α} {most : Nat} {lt : α → α → Prop} (hm : most ≤ 256) {xs zs ys : List α} {z : Int} {n : Nat} {s s1 s2 : Ps} {wr wr1 wr2 : Bool} (c : Goes (cntS most) (xs.length : Int) s wr z s1 wr1)
  (hn : (n : Int) = min z 256) (hz : zs.length = n) (hzx : ∀ i, i < n → i < xs.length → zs.getD i default = xs.getD i default) (h : GoesN S lt zs s1 wr1 n ys s2 wr2) :
  ∃ s3, s2.le s3 ∧ Goes (S.list most lt) xs s wr ys s3 wr2 := by
 obtain ⟨hl, h⟩ := h
 cases s with
 | out l B =>
  obtain ⟨l1, rfl, c1, c2⟩ := c
  obtain ⟨l2, rfl, h1, h2⟩ := h
  have hn256 : n ≤ 256 := by omega
  have hmul : n * S.cost ≤ 256 * S.cost := Nat.mul_le_mul_right _ hn256
  have key : wr1 = false → zs = xs := fun hw => by
   have e := (c2 hw).1
   have e' : z = (xs.length : Int) := e
   have o := (c1.1 hw).2
   have o' : (xs.length : Int) ≤ (most : Int) := o
   have hnx : n = xs.length := by omega
   refine List.ext_getElem (by omega) fun i hi hi' => ?_
   have := hzx i (by omega) hi'
   simpa [List.getElem?_eq_getElem hi, List.getElem?_eq_getElem hi'] using this
  refine ⟨.out l2 (B + (10 + 256 * S.cost)), ⟨rfl, ?_⟩, l2, rfl, ?_, fun hw => ?_⟩
  ·show B + 10 + n * S.cost ≤ B + (10 + 256 * S.cost); omega
  ·rw [h1]
   constructor
   ·rintro ⟨a, b⟩
    have e := key a
    subst e
    obtain ⟨w, o⟩ := c1.1 a
    have o' : (zs.length : Int) ≤ (most : Int) := o
    exact ⟨w, by omega, fun i hi => b i (by omega)⟩
   ·rintro ⟨a, o, r⟩
    have hw1 : wr1 = false := c1.2 ⟨a, show (xs.length : Int) ≤ (most : Int) by omega⟩
    have e := key hw1
    subst e
    exact ⟨hw1, fun i hi => r i (by omega)⟩
  ·obtain ⟨a, b⟩ := h1.1 hw
   have e := key a
   subst e
   obtain ⟨p, q⟩ := h2 hw
   have t : zs.take n = zs := List.take_of_length_le (by omega)
   rw [t] at p q
   obtain ⟨_, r⟩ := c2 a
   refine ⟨p, ?_⟩
   rw [q, r, List.append_assoc]
   rfl
 | inp σ =>
  obtain ⟨rfl, e, c1⟩ := c
  obtain ⟨rfl, rfl, h1⟩ := h
  have hz0 : z = (pNum 256 σ).1 := e
  have hb : 0 ≤ z ∧ z ≤ 256 := by
   rw [hz0]
   unfold pNum pPrim numI
   split
   ·exact ⟨Int.le_refl _, by omega⟩
   ·split
    ·exact ⟨Int.le_refl _, by omega⟩
    ·rename_i q
     show (0 : Int) ≤ ((numF σ.1 256).1 : Int) ∧ ((numF σ.1 256).1 : Int) ≤ 256
     refine ⟨by omega, ?_⟩
     unfold numF at q ⊢
     split
     ·simp
     ·split
      ·simp
      ·rename_i q2; simp only [not_or, Int.not_lt] at q2; exact q2.2
  have hzn : z.toNat = n := by omega
  have hp : (pList 256 S.p σ) = pRep S.p (pNum 256 σ).2 n := by
   unfold pList pBind
   rw [← hzn, hz0]
  refine ⟨.inp (pList 256 S.p σ).2, ?_, rfl, ?_, ?_⟩
  ·show (pRep S.p (pNum 256 σ).2 n).2 = _
   rw [hp]
  ·show _ = (pList 256 S.p σ).1
   rw [hp]; rfl
  ·rw [h1, c1]
   have hlen : (pRep S.p (pNum 256 σ).2 n).1.length = n := pRep_len _ _ _
   constructor
   ·rintro ⟨⟨a, b⟩, r⟩
    have b' : z ≤ (most : Int) := b
    refine ⟨a, ?_, fun i hi => r i ?_⟩
    ·show (pRep S.p (pNum 256 σ).2 n).1.length ≤ most; omega
    ·have hi' : i < (pRep S.p (pNum 256 σ).2 n).1.length := hi; omega
   ·rintro ⟨a, b, r⟩
    have b' : (pRep S.p (pNum 256 σ).2 n).1.length ≤ most := b
    exact ⟨⟨a, show z ≤ (most : Int) by omega⟩, fun i hi => r i (show i < (pRep S.p (pNum 256 σ).2 n).1.length by omega)⟩
end
end

/- seal.Read lays a reader in new memory; Left, Err, End; a nil reader's methods. -/
section
open Go.RowKit
def endE (l : List Int) (e : Nat) : Nat := if e = 0 ∧ 0 < l.length then 13 else e
theorem rErr_any (b g : Nat) (l : List Int) (e0 : Nat) (w : World) (h : Rd w 169 b g l e0) :
  Calls Tryz.prog 70 #[.pointer (some ⟨b, 0, none⟩)] w (fun e w' => e = .returned (.int .i64 e0) ∧ w = w') := by
 obtain ⟨A, n, c, _, _, h1, _⟩ := h.byt
 clear h
 go_enter Tryz.func70, Tryz.ntmps70
 go_wp2_with fail
 go_ret
 exact ⟨rfl, rfl⟩
theorem rEnd_any (b g : Nat) (l : List Int) (e0 : Nat) (w : World) (h : Rd w 169 b g l e0) :
  Calls Tryz.prog 71 #[.pointer (some ⟨b, 0, none⟩)] w (RdPost 169 b g l (endE l e0) (.int .i64 (endE l e0)) w) := by
 have hf : w.frozen? ⟨b, 1, none⟩ = false := by obtain ⟨A, n, c, h1, _⟩ := h.ex; exact h1.frz 1
 obtain ⟨A, n, c, _, h0, h1, hn⟩ := h.byt
 have H := Lib.hid h
 have HN := Lib.hid hn
 clear h hn
 by_cases he : e0 = 0
 ·subst he
  by_cases hl : 0 < n
  ·have hl' : (0 : Int) < (n : Int) := by omega
   have E : Hid (endE l 0 = 13) := Lib.hid (if_pos ⟨rfl, by have := HN.out; omega⟩)
   have R := H.out.fail 0 13
   have R := Lib.hid R
   clear hl
   go_enter Tryz.func71, Tryz.ntmps71
   go_wp2_with fail
   go_ret
   rw [E.out]
   exact ⟨rfl, R.out⟩
  ·have hl' : ¬ (0 : Int) < (n : Int) := by omega
   have E : Hid (endE l 0 = 0) := Lib.hid (if_neg (by have := HN.out; omega))
   clear hl
   go_enter Tryz.func71, Tryz.ntmps71
   go_wp2_with fail
   go_ret
   rw [E.out]
   exact ⟨rfl, H.out, grown_drewN w 0 _⟩
 ·have hne : ((e0 : Int) == 0) = false := by simp; omega
  have E : Hid (endE l e0 = e0) := Lib.hid (if_neg (by omega))
  clear he
  go_enter Tryz.func71, Tryz.ntmps71
  go_wp2_with fail
  go_ret
  rw [E.out]
  exact ⟨rfl, H.out, grown_drewN w 0 _⟩
theorem Rd.new {w1 : World} (t : TypeId) {A : Option Addr} {n c : Nat} {l : List Int} (h : Byt w1 A n c l) (h0 : 0 < w1.heap.size) : ∃ g, g < w1.heap.size ∧ Rd (w1.alloc (.cells #[.slice A n c, .int .i64 0] t)) t w1.heap.size g l 0 := by
 by_cases hn : 0 < n
 ·obtain ⟨g, off, rfl, hc⟩ := h.at_ hn
  have hg : g < w1.heap.size := World.block_lt_of_cell? w1 _ (hc 0 hn)
  exact ⟨g, hg, by omega, _, n, c, Bk.new _ _ _, h.alloc _, fun _ a ha => by injection ha with ha; rw [← ha]⟩
 ·exact ⟨0, h0, by omega, A, n, c, Bk.new _ _ _, h.alloc _, fun h => absurd h hn⟩
theorem read_own (A : Option Addr) (n c : Nat) (l : List Int) (w : World) (h : Byt w A n c l) (hn : n ≤ 140737488355328) (h0 : 0 < l.length) :
  Calls Tryz.prog 69 #[.slice A n c] w (fun e w' => ∃ b g, e = .returned (.pointer (some ⟨b, 0, none⟩)) ∧ w.heap.size ≤ b ∧ w.heap.size ≤ g ∧ g < b ∧ Rd w' 169 b g l 0 ∧ Below w.heap.size w w') := by
 have C := Lib.hid (clone_all_own A n c l w h hn)
 clear h
 go_enter Tryz.func69, Tryz.ntmps69
 go_wp2_with fail
 refine C.out.mono ?_
 rintro e w1 ⟨A1, n1, c1, rfl, ho, hr, b1⟩
 have hb := Byt.of_own ho hr
 have hl1 : n1 = l.length := hb.len.symm
 obtain ⟨g, hg, hgl, R⟩ : ∃ g, w.heap.size ≤ g ∧ g < w1.heap.size ∧ Rd (w1.alloc (.cells #[.slice A1 n1 c1, .int .i64 0] 169)) 169 w1.heap.size g l 0 := by
  obtain ⟨g, off, rfl, hc⟩ := hb.at_ (by omega)
  have hlt := ho.lt g rfl
  exact ⟨g, hlt.1, hlt.2, by omega, _, n1, c1, Bk.new _ _ _, hb.alloc _, fun _ a ha => by injection ha with ha; rw [← ha]⟩
 have R := Lib.hid R
 have G := Lib.hid (And.intro hg hgl)
 have L := Lib.hid b1
 clear ho hr hb b1 hg hgl hl1
 go_wp2_with fail
 go_ret
 exact ⟨w1.heap.size, g, rfl, L.out.size, G.out.1, G.out.2, R.out, L.out.alloc L.out.size _⟩
end

/- which blocks a call may turn; things in memory, each with the blocks that are its own; two such things side by side. No program is named; no condition. -/
section
open Go.RowKit
structure Fr (F : Nat → Prop) (w w' : World) : Prop where
 os : w'.os = w.os
 tape : w'.tape = w.tape
 output : w'.output = w.output
 size : w.heap.size ≤ w'.heap.size
 block : ∀ k, k < w.heap.size → ¬ F k → w'.heap[k]? = w.heap[k]?
def grow (F : Nat → Prop) (w w' : World) : Nat → Prop := fun k => F k ∨ (w.heap.size ≤ k ∧ k < w'.heap.size)
def fresh (w w' : World) : Nat → Prop := fun k => w.heap.size ≤ k ∧ k < w'.heap.size
section
variable {F G : Nat → Prop} {w w1 w2 : World}
theorem Fr.refl (F : Nat → Prop) (w : World) : Fr F w w := ⟨rfl, rfl, rfl, Nat.le_refl _, fun _ _ _ => rfl⟩
theorem Fr.trans (h : Fr F w w1) (k : Fr (grow F w w1) w1 w2) : Fr F w w2 :=
 ⟨k.os.trans h.os, k.tape.trans h.tape, k.output.trans h.output, Nat.le_trans h.size k.size, fun i hi hn => (k.block i (Nat.lt_of_lt_of_le hi h.size) (fun g => by
  rcases g with g | g
  ·exact hn g
  ·omega)).trans (h.block i hi hn)⟩
theorem Fr.mono (h : Fr F w w1) (hFG : ∀ k, F k → G k) : Fr G w w1 := ⟨h.os, h.tape, h.output, h.size, fun k hk hn => h.block k hk (fun f => hn (hFG k f))⟩
theorem Fr.then (h : Fr F w w1) (k : Fr F w1 w2) : Fr F w w2 := h.trans (k.mono fun _ f => .inl f)
theorem Fr.of_below (h : Below w.heap.size w w1) : Fr F w w1 := ⟨h.os, h.tape, h.output, h.size, fun k hk _ => h.block k hk⟩
theorem Fr.below {B : Nat} (h : Fr F w w1) (hB : B ≤ w.heap.size) (hF : ∀ k, F k → B ≤ k) : Below B w w1 :=
 ⟨h.os, h.tape, h.output, h.size, fun k hk => h.block k (by omega) (fun f => by have := hF k f; omega)⟩
theorem Fr.setCell (h : Fr F w w1) {a : Addr} (ha : F a.block) (u : Value) : Fr F w (w1.setCell a u) :=
 ⟨h.os, h.tape, h.output, by simpa [World.setCell] using h.size, fun k hk hn => (Below.heap_setCell w1 a u k (fun e => hn (e ▸ ha))).trans (h.block k hk hn)⟩
theorem Fr.grown (h : Fr F w w1) {row : Option Nat} (hg : w1.grownBy w2 row) (hr : ∀ k, row = some k → F k ∨ w.heap.size ≤ k) : Fr F w w2 :=
 h.trans ⟨hg.os, hg.tape, hg.output, hg.size, fun k hk hn => hg.block k hk (fun e => by
  rcases hr k e.symm with h | h
  ·exact hn (.inl h)
  ·exact hn (.inr ⟨h, hk⟩))⟩
theorem Fr.cell1 (w : World) (b i : Nat) (u : Value) : Fr (fun k => k = b) w (w.setCell ⟨b, i, none⟩ u) := Fr.setCell (a := ⟨b, i, none⟩) (Fr.refl (fun k => k = b) w) (show (fun k => k = b) b from rfl) u
end
structure Res where
 is : World → (Nat → Prop) → Prop
 lt : ∀ w F, is w F → ∀ k, F k → k < w.heap.size
 keep : ∀ w w' F, is w F → w.heap.size ≤ w'.heap.size → (∀ k, F k → w'.heap[k]? = w.heap[k]?) → is w' F
def Turn (R : Res) (F : Nat → Prop) (w w' : World) : Prop := R.is w' (grow F w w') ∧ Fr F w w'
def Res.star (R S : Res) : Res where
 is w F := ∃ F1 F2, R.is w F1 ∧ S.is w F2 ∧ (∀ k, F1 k → ¬ F2 k) ∧ (∀ k, F1 k → F k) ∧ (∀ k, F2 k → F k) ∧ ∀ k, F k → k < w.heap.size
 lt _ _ := fun ⟨_, _, _, _, _, _, _, h⟩ => h
 keep w w' F := fun ⟨F1, F2, h1, h2, h3, h4, h5, h6⟩ hs hk => ⟨F1, F2, R.keep w w' F1 h1 hs (fun k f => hk k (h4 k f)), S.keep w w' F2 h2 hs (fun k f => hk k (h5 k f)), h3, h4, h5, fun k f => Nat.lt_of_lt_of_le (h6 k f) hs⟩
theorem Res.star_comm {R S : Res} {w : World} {F : Nat → Prop} (h : (R.star S).is w F) : (S.star R).is w F := by
 obtain ⟨F1, F2, h1, h2, h3, h4, h5, h6⟩ := h
 exact ⟨F2, F1, h2, h1, fun k f g => h3 k g f, h5, h4, h6⟩
theorem Res.star_turn {R S : Res} {w : World} {F : Nat → Prop} (h : (R.star S).is w F) : ∃ F1, R.is w F1 ∧ ∀ R' w', Turn R' F1 w w' → Turn (R'.star S) F w w' := by
 obtain ⟨F1, F2, h1, h2, h3, h4, h5, h6⟩ := h
 refine ⟨F1, h1, fun R' w' ⟨t1, t2⟩ => ⟨⟨grow F1 w w', F2, t1, ?_, ?_, ?_, fun k f => .inl (h5 k f), ?_⟩, t2.mono h4⟩⟩
 ·exact S.keep w w' F2 h2 t2.size (fun k f => t2.block k (S.lt w F2 h2 k f) (fun g => h3 k g f))
 ·intro k f g
  rcases f with f | f
  ·exact h3 k f g
  ·have := S.lt w F2 h2 k g
   omega
 ·intro k f
  rcases f with f | f
  ·exact .inl (h4 k f)
  ·exact .inr f
 ·intro k f
  rcases f with f | f
  ·exact Nat.lt_of_lt_of_le (h6 k f) t2.size
  ·exact f.2
def Has (B : Nat) (R : Res) (w : World) : Prop := ∃ F, R.is w F ∧ ∀ k, F k → B ≤ k
section
variable {B : Nat} {R S : Res} {w w' : World}
theorem Has.below (h : Has B R w) (hb : Below w.heap.size w w') : Has B R w' := by
 obtain ⟨F, h1, h2⟩ := h
 exact ⟨F, R.keep w w' F h1 hb.size (fun k f => hb.block k (R.lt w F h1 k f)), h2⟩
theorem Has.turn (h : Has B R w) (hB : B ≤ w.heap.size) : ∃ F, R.is w F ∧ ∀ R' w', Turn R' F w w' → Has B R' w' ∧ Below B w w' := by
 obtain ⟨F, h1, h2⟩ := h
 refine ⟨F, h1, fun R' w' ⟨t1, t2⟩ => ⟨⟨_, t1, fun k f => ?_⟩, t2.below hB h2⟩⟩
 rcases f with f | f
 ·exact h2 k f
 ·omega
theorem Has.comm (h : Has B (R.star S) w) : Has B (S.star R) w := by
 obtain ⟨F, h1, h2⟩ := h
 exact ⟨F, Res.star_comm h1, h2⟩
theorem Has.turn1 (h : Has B (R.star S) w) (hB : B ≤ w.heap.size) : ∃ F, R.is w F ∧ ∀ R' w', Turn R' F w w' → Has B (R'.star S) w' ∧ Below B w w' := by
 obtain ⟨F, h1, h2⟩ := h.turn hB
 obtain ⟨F1, h3, h4⟩ := Res.star_turn h1
 exact ⟨F1, h3, fun R' w' t => h2 _ _ (h4 R' w' t)⟩
theorem Has.fst (h : Has B (R.star S) w) : Has B R w := by
 obtain ⟨F, ⟨F1, F2, h1, h2, h3, h4, h5, h6⟩, h7⟩ := h
 exact ⟨F1, h1, fun k f => h7 k (h4 k f)⟩
theorem Has.snd (h : Has B (R.star S) w) : Has B S w := h.comm.fst
theorem Has.ex (h : Has B R w) : ∃ F, R.is w F := ⟨h.choose, h.choose_spec.1⟩
theorem Has.new (h : Has B S w) (hB : B ≤ w.heap.size) (hb : Below w.heap.size w w') (hr : R.is w' (fresh w w')) : Has B (R.star S) w' := by
 obtain ⟨F, h1, h2⟩ := h
 refine ⟨fun k => fresh w w' k ∨ F k, ⟨fresh w w', F, hr, S.keep w w' F h1 hb.size (fun k f => hb.block k (S.lt w F h1 k f)), ?_, fun _ f => .inl f, fun _ f => .inr f, ?_⟩, ?_⟩
 ·intro k f g
  have := S.lt w F h1 k g
  have := f.1
  omega
 ·intro k f
  rcases f with f | f
  ·exact f.2
  ·exact Nat.lt_of_lt_of_le (S.lt w F h1 k f) hb.size
 ·intro k f
  rcases f with f | f
  ·have := f.1
   omega
  ·exact h2 k f
theorem Has.assoc {T : Res} (h : Has B ((R.star S).star T) w) : Has B (R.star (S.star T)) w := by
 obtain ⟨F, ⟨F1, F2, ⟨F3, F4, a1, a2, a3, a4, a5, a6⟩, h2, h3, h4, h5, h6⟩, h7⟩ := h
 refine ⟨F, ⟨F3, fun k => F4 k ∨ F2 k, a1, ⟨F4, F2, a2, h2, fun k f => h3 k (a5 k f), fun _ f => .inl f, fun _ f => .inr f, ?_⟩, ?_, fun k f => h4 k (a4 k f), ?_, h6⟩, h7⟩
 ·intro k f
  rcases f with f | f
  ·exact a6 k (a5 k f)
  ·exact h6 k (h5 k f)
 ·intro k f g
  rcases g with g | g
  ·exact a3 k f g
  ·exact h3 k (a4 k f) g
 ·intro k f
  rcases f with f | f
  ·exact h4 k (a5 k f)
  ·exact h5 k f
theorem Has.assoc' {T : Res} (h : Has B (R.star (S.star T)) w) : Has B ((R.star S).star T) w := h.comm.assoc.comm.assoc.comm
end
theorem owns_keep {w w' : World} {base : Nat} {e : TypeId} {size : Nat} {v : Value} {n : Nat} {xs : List Value} (h : w.ownsRow base e size v n xs) (hk : ∀ k, v.ownBlock = some k → w'.heap[k]? = w.heap[k]?) : w'.ownsRow base e size v n xs := by
 obtain ⟨h1, h2⟩ := h
 refine ⟨h1, ?_⟩
 rcases h2 with h2 | ⟨g, cap, cur, hv, hb, hg, r⟩
 ·exact .inl h2
 ·exact .inr ⟨g, cap, cur, hv, hb, (hk g (by rw [hv]; rfl)).trans hg, r⟩
theorem owns_low {w : World} {base base' : Nat} {e : TypeId} {size : Nat} {v : Value} {n : Nat} {xs : List Value} (h : w.ownsRow base e size v n xs) (hb : base' ≤ base) : w.ownsRow base' e size v n xs := by
 obtain ⟨h1, h2⟩ := h
 refine ⟨h1, ?_⟩
 rcases h2 with h2 | ⟨g, cap, cur, hv, hg, r⟩
 ·exact .inl h2
 ·exact .inr ⟨g, cap, cur, hv, Nat.le_trans hb hg, r⟩
theorem Bk.eq {w w' : World} {g : Nat} {t : TypeId} {cs : Array Value} (h : Bk w g t cs) (hk : w'.heap[g]? = w.heap[g]?) : Bk w' g t cs := hk.trans h
end

/- the blocks that a pass may turn are known by their types; all others stand; a pass in memory, with the writer, or the reader, behind it; what a writer's methods turn. -/
section
open Go.RowKit
def spT (t : TypeId) : Bool := t == 5 || t == 129 || t == 125 || t == 169
def special (w : World) (k : Nat) : Prop := ∃ cs t fr, w.heap[k]? = some (.cells cs t fr) ∧ spT t = true
def plainAt (w : World) (k : Nat) : Prop := ∃ cs t fr, w.heap[k]? = some (.cells cs t fr) ∧ spT t = false
theorem plain_not_special {w : World} {k : Nat} (h : plainAt w k) : ¬ special w k := by
 rintro ⟨cs, t, fr, h1, h2⟩
 obtain ⟨cs', t', fr', h3, h4⟩ := h
 rw [h1] at h3
 injection h3 with h3
 injection h3 with _ e _
 rw [e, h4] at h2
 cases h2
structure Calm (H : Nat) (w w' : World) : Prop where
 os : w'.os = w.os
 tape : w'.tape = w.tape
 output : w'.output = w.output
 size : w.heap.size ≤ w'.heap.size
 block : ∀ k, k < w.heap.size → (k < H ∨ plainAt w k) → w'.heap[k]? = w.heap[k]?
section
variable {H : Nat} {w w1 w2 : World}
theorem Calm.refl (H : Nat) (w : World) : Calm H w w := ⟨rfl, rfl, rfl, Nat.le_refl _, fun _ _ _ => rfl⟩
theorem Calm.trans (h : Calm H w w1) (k : Calm H w1 w2) : Calm H w w2 :=
 ⟨k.os.trans h.os, k.tape.trans h.tape, k.output.trans h.output, Nat.le_trans h.size k.size, fun i hi hp => by
  have e := h.block i hi hp
  refine (k.block i (Nat.lt_of_lt_of_le hi h.size) ?_).trans e
  rcases hp with hp | ⟨cs, t, fr, h1, h2⟩
  ·exact .inl hp
  ·exact .inr ⟨cs, t, fr, e.trans h1, h2⟩⟩
theorem Calm.of_below (h : Below w.heap.size w w1) : Calm H w w1 := ⟨h.os, h.tape, h.output, h.size, fun k hk _ => h.block k hk⟩
theorem Calm.below (h : Calm H w w1) (hH : H ≤ w.heap.size) : Below H w w1 := ⟨h.os, h.tape, h.output, h.size, fun k hk => h.block k (by omega) (.inl hk)⟩
theorem Calm.grown {row : Option Nat} (hg : w.grownBy w1 row) (hr : ∀ k, row = some k → H ≤ k ∧ special w k) : Calm H w w1 :=
 ⟨hg.os, hg.tape, hg.output, hg.size, fun k hk hp => hg.block k hk (fun e => by
  obtain ⟨h1, h2⟩ := hr k e.symm
  rcases hp with hp | hp
  ·omega
  ·exact plain_not_special hp h2)⟩
def stab (H : Nat) (w : World) (k : Nat) : Prop := k < w.heap.size ∧ (k < H ∨ plainAt w k)
theorem Calm.same (h : Calm H w w1) {k : Nat} (hs : stab H w k) : w1.heap[k]? = w.heap[k]? := h.block k hs.1 hs.2
theorem stab.calm (h : Calm H w w1) {k : Nat} (hs : stab H w k) : stab H w1 k := by
 refine ⟨Nat.lt_of_lt_of_le hs.1 h.size, ?_⟩
 rcases hs.2 with hp | ⟨cs, t, fr, h1, h2⟩
 ·exact .inl hp
 ·exact .inr ⟨cs, t, fr, (h.same hs).trans h1, h2⟩
theorem Calm.cell (h : Calm H w w1) {p : Addr} (hs : stab H w p.block) : w1.cell? p = w.cell? p := World.cell?_of_block (h.same hs)
theorem Bk.plain {g : Nat} {t : TypeId} {cs : Array Value} (h : Bk w g t cs) (ht : spT t = false) : plainAt w g := ⟨cs, t, (0, 0), h, ht⟩
theorem Bk.stab {g : Nat} {t : TypeId} {cs : Array Value} (h : Bk w g t cs) (ht : spT t = false) : stab H w g := ⟨h.lt, .inr (h.plain ht)⟩
theorem Bk.calm {g : Nat} {t : TypeId} {cs : Array Value} (h : Bk w g t cs) (ht : spT t = false) (hc : Calm H w w1) : Bk w1 g t cs := (hc.same (h.stab ht)).trans h
theorem Bk.special {g : Nat} {t : TypeId} {cs : Array Value} (h : Bk w g t cs) (ht : spT t = true) : special w g := ⟨cs, t, (0, 0), h, ht⟩
structure Keeps (w w' : World) : Prop where
 size : w.heap.size ≤ w'.heap.size
 block : ∀ k, special w k → w'.heap[k]? = w.heap[k]?
theorem special.lt {k : Nat} (h : special w k) : k < w.heap.size := by
 obtain ⟨cs, t, fr, h1, _⟩ := h
 exact (Array.getElem?_eq_some_iff.1 h1).1
theorem Keeps.of_below (h : Below w.heap.size w w1) : Keeps w w1 := ⟨h.size, fun k hk => h.block k hk.lt⟩
theorem Keeps.grown {g : Nat} (hg : w.grownBy w1 (some g)) (hp : plainAt w g) : Keeps w w1 := ⟨hg.size, fun k hk => hg.block k hk.lt (fun e => by
 injection e with e
 subst e
 exact plain_not_special hp hk)⟩
theorem own_special {base : Nat} {A : Option Addr} {n c k : Nat} {xs : List Value} (h : w.ownsRow base 5 1 (.slice A n c) n xs) (hk : Value.ownBlock (.slice A n c) = some k) : base ≤ k ∧ special w k := by
 rcases h.2 with ⟨hv, _⟩ | ⟨g, cap, cur, hv, hb, hg, _⟩
 ·injection hv with e1
  subst e1
  simp [Value.ownBlock] at hk
 ·injection hv with e1
  subst e1
  simp [Value.ownBlock] at hk
  subst hk
  exact ⟨hb, cur, _, _, hg, rfl⟩
theorem Wrt.keeps {base b : Nat} {l : List Int} (h : Wrt w base b l) (hk : Keeps w w1) : Wrt w1 base b l := by
 obtain ⟨A, n, c, h1, h2⟩ := h.ex
 exact ⟨h.low, h.rng, A, n, c, (hk.block b (h1.special rfl)).trans h1, owns_keep h2 (fun k hk' => hk.block k (own_special h2 hk').2)⟩
structure Rdt (w : World) (b g : Nat) (l : List Int) (e : Nat) : Prop where
 rd : Rd w 169 b g l e
 ty : 0 < l.length → special w g
theorem Rdt.keeps {b g : Nat} {l : List Int} {e : Nat} (h : Rdt w b g l e) (hk : Keeps w w1) : Rdt w1 b g l e := by
 obtain ⟨A, n, c, h1, h2, h3⟩ := h.rd.ex
 have sg : ∀ k, special w k → special w1 k := fun k ⟨cs, t, fr, a, b⟩ => ⟨cs, t, fr, (hk.block k ⟨cs, t, fr, a, b⟩).trans a, b⟩
 refine ⟨⟨h.rd.ne, A, n, c, (hk.block b (h1.special rfl)).trans h1, ⟨h2.len, h2.cap, h2.max, h2.rng, h2.nil_, fun hn => ?_⟩, h3⟩, fun hl => sg g (h.ty hl)⟩
 obtain ⟨g', off, e', hc⟩ := h2.at_ hn
 have e2 : g' = g := h3 hn _ e'
 subst e2
 refine ⟨g', off, e', fun i hi => ?_⟩
 rw [World.cell?_of_block (w := w) (w' := w1) (a := ⟨g', off + i, none⟩) (hk.block g' (h.ty (by rw [h2.len]; exact hn)))]
 exact hc i hi
def Pst (H : Nat) (w : World) (pb : Nat) (s : Ps) (wr : Bool) : Prop :=
 match s with
 | .out l B => ∃ wb m, (H ≤ pb ∧ wb + 1 = pb) ∧ Bk w pb 129 #[.pointer (some ⟨wb, 0, none⟩), .pointer none, .bool wr] ∧ Wrt w H wb m ∧ m.length ≤ B ∧ (wr = false → m = l)
 | .inp σ => ∃ rb g, H ≤ pb ∧ Bk w pb 129 #[.pointer none, .pointer (some ⟨rb, 0, none⟩), .bool wr] ∧ H ≤ rb ∧ Rdt w rb g σ.1 σ.2
theorem Pst.keeps {pb : Nat} {s : Ps} {wr : Bool} (h : Pst H w pb s wr) (hk : Keeps w w1) : Pst H w1 pb s wr := by
 cases s with
 | out l B =>
  obtain ⟨wb, m, h1, h2, h3, h4⟩ := h
  exact ⟨wb, m, h1, (hk.block pb (h2.special rfl)).trans h2, h3.keeps hk, h4⟩
 | inp σ =>
  obtain ⟨rb, g, h1, h2, h3, h4⟩ := h
  exact ⟨rb, g, h1, (hk.block pb (h2.special rfl)).trans h2, h3, h4.keeps hk⟩
theorem Pst.le {pb : Nat} {s t : Ps} {wr : Bool} (h : Pst H w pb s wr) (hl : s.le t) : Pst H w pb t wr := by
 cases s with
 | out l B =>
  cases t with
  | out l' B' =>
   obtain ⟨rfl, hB⟩ := hl
   obtain ⟨wb, m, h1, h2, h3, h4, h5⟩ := h
   exact ⟨wb, m, h1, h2, h3, by omega, h5⟩
  | inp σ => exact hl.elim
 | inp σ =>
  cases t with
  | out l' B' => exact hl.elim
  | inp σ' =>
   have e : σ = σ' := hl
   subst e
   exact h
theorem Pst.low {pb : Nat} {s : Ps} {wr : Bool} (h : Pst H w pb s wr) : H ≤ w.heap.size := by
 cases s with
 | out l B =>
  obtain ⟨wb, m, h1, h2, _⟩ := h
  have := h2.lt; omega
 | inp σ =>
  obtain ⟨rb, g, h1, h2, _⟩ := h
  have := h2.lt; omega
theorem Pst.mono {pb : Nat} {l : List Int} {B B' : Nat} {wr : Bool} (h : Pst H w pb (.out l B) wr) (hB : B ≤ B') : Pst H w pb (.out l B') wr := h.le ⟨rfl, hB⟩
end
def Only (b : Nat) (w w' : World) : Prop := ∀ k cs t fr, w.heap[k]? = some (.cells cs t fr) → t ≠ 5 → k ≠ b → w'.heap[k]? = some (.cells cs t fr)
def RetC (H b : Nat) (l : List Int) (w : World) (e : Ending) (w' : World) : Prop := e = .returned (.tuple #[]) ∧ Wrt w' H b l ∧ Calm H w w' ∧ Only b w w'
theorem RetC.snd {H b : Nat} {l : List Int} {w w1 w2 : World} {e : Ending} (h : Below w.heap.size w w1) (k : RetC H b l w1 e w2) : RetC H b l w e w2 :=
 ⟨k.1, k.2.1, (Calm.of_below h).trans k.2.2.1, fun i cs t fr hi ht hb => k.2.2.2 i cs t fr ((h.block i (Array.getElem?_eq_some_iff.1 hi).1).trans hi) ht hb⟩
theorem RetC.then {H b : Nat} {l l1 : List Int} {w w1 w2 : World} {e e1 : Ending} (h : RetC H b l1 w e1 w1) (k : RetC H b l w1 e w2) : RetC H b l w e w2 :=
 ⟨k.1, k.2.1, h.2.2.1.trans k.2.2.1, fun i cs t fr hi ht hb => k.2.2.2 i cs t fr (h.2.2.2 i cs t fr hi ht hb) ht hb⟩
theorem put_endC {base b : Nat} {l m : List Int} {w w1 : World} {A A' : Option Addr} {n c n' c' : Nat} (hlow : base ≤ b) (hb : Bk w b 125 #[.slice A n c]) (hbz : base ≤ w.heap.size)
  (ho : w.ownsRow base 5 1 (.slice A n c) n (l.map (Value.int .u8))) (hl : ∀ x ∈ l, 0 ≤ x ∧ x < 256) (hm : ∀ x ∈ m, 0 ≤ x ∧ x < 256)
  (h1 : w1.ownsRow base 5 1 (.slice A' n' c') n' (l.map (Value.int .u8) ++ m.map (Value.int .u8))) (h2 : w.grownBy w1 (Value.ownBlock (.slice A n c))) :
  RetC base b (l ++ m) w (.returned (.tuple #[])) (w1.setCell ⟨b, 0, none⟩ (.slice A' n' c')) := by
 obtain ⟨e, hw, _⟩ := put_end hlow hb hbz ho hl hm h1 h2
 refine ⟨e, hw, ?_⟩
 have hb1 : Bk w1 b 125 #[.slice A n c] := (h2.block b hb.lt (fun e => apart_row (by decide) hb ho e.symm)).trans hb
 have c1 : Calm base w w1 := Calm.grown h2 (fun k hk => own_special ho hk)
 refine ⟨c1.trans (Calm.grown (grown_set w1 b 0 _) (fun k hk => by injection hk with hk; subst hk; exact ⟨hlow, hb1.special rfl⟩)), fun i cs t fr hi ht hib => ?_⟩
 have e1 : w1.heap[i]? = w.heap[i]? := h2.block i (Array.getElem?_eq_some_iff.1 hi).1 (fun q => by
  rcases ho.2 with ⟨hv, _⟩ | ⟨g, cap, cur, hv, _, hg, _⟩
  ·injection hv with a
   subst a
   simp [Value.ownBlock] at q
  ·injection hv with a
   subst a
   simp [Value.ownBlock] at q
   subst q
   rw [hi] at hg
   injection hg with hg
   injection hg with _ a
   exact ht a)
 exact (((grown_set w1 b 0 (.slice A' n' c')).block i (Array.getElem?_eq_some_iff.1 (e1.trans hi)).1 (fun q => by injection q with q; exact hib q)).trans e1).trans hi
theorem put_calm (base b : Nat) (l m : List Int) (A : Option Addr) (n c : Nat) (w : World) (h : Wrt w base b l) (hm : Byt w A n c m) (hn : l.length + n ≤ 140737488355328) :
  Calls Tryz.prog 105 #[.pointer (some ⟨b, 0, none⟩), .slice A n c] w (RetC base b (l ++ m) w) := by
 obtain ⟨i0, hi, hz0, hz1, hz2⟩ := info_parts info_u8
 obtain ⟨A0, n0, c0, hb, ho⟩ := h.ex
 have hl0 : l.length = n0 := by simpa using ho.1
 have hcell : w.cell? ⟨b, 0, none⟩ = some (.slice A0 n0 c0) := hb.cell 0
 have hbz : base ≤ w.heap.size := by have := hb.lt; have := h.low; omega
 have HE := fun A' n' c' w1 h1 h2 => @put_endC base b l m w w1 A0 A' n0 c0 n' c' h.low hb hbz ho h.rng hm.rng h1 h2
 have HC := fun w1 h2 => @put_cell base b l w w1 A0 n0 c0 hb ho h2
 have HE := Lib.hid HE
 have HC := Lib.hid HC
 have HO := Lib.hid ho
 clear h hb ho
 go_enter Tryz.func105, Tryz.ntmps105
 go_wp2_with (at_builtin; refine wpList_append_byt rfl _ _ 59 rfl base 5 i0 Tryz.underlying59 hi hz0 hz1 hz2 _ n0 l rfl (by exact HO.out) A n c m rfl hm (by omega) hbz ?_)
 intro A' c' w1 h1 h2
 obtain ⟨hc1, hf1⟩ := HC.out w1 h2
 have R := Lib.hid (HE.out _ _ _ w1 h1 h2)
 clear h1 h2 hcell hm HC HE
 go_wp2
 go_end0
 exact R.out
theorem wNum_calm (base b : Nat) (l : List Int) (n : Int) (w : World) (h : Wrt w base b l) (h0 : 0 ≤ n) (hn : n ≤ 9223372036854775807) (hl : l.length ≤ 140737488350000) :
  Calls Tryz.prog 82 #[.pointer (some ⟨b, 0, none⟩), .int .i64 n] w (RetC base b (l ++ numL n) w) := by
 have go : ∀ z : Nat, z ≤ 9223372036854775807 → ∀ (A : Option Addr) (k c : Nat) (w1 : World), Byt w1 A k c (shortL z) → Below w.heap.size w w1 → Calls Tryz.prog 105 #[.pointer (some ⟨b, 0, none⟩), .slice A k c] w1 (RetC base b (l ++ shortL z) w) := by
  intro z hz A k c w1 hb hbel
  have hk : k ≤ 10 := by rw [← hb.len]; exact shortL_len z (by omega)
  exact (put_calm base b l (shortL z) A k c w1 (h.ret hbel) hb (by omega)).mono fun e w2 hr => hr.snd hbel
 have GO := Lib.hid go
 clear go h
 obtain ⟨z, rfl⟩ := Int.eq_ofNat_of_zero_le h0
 rw [numL_nat]
 have hz := hn
 clear hn h0
 go_enter Tryz.func82, Tryz.ntmps82
 go_wp2_with fail
 refine (numShort_any z (by omega) w).mono ?_
 rintro e w1 ⟨A, k, c, rfl, hb, hbel⟩
 have C := Lib.hid (GO.out z (by omega) A k c w1 hb hbel)
 clear hb hbel
 go_wp2_with fail
 refine C.out.mono ?_
 rintro e w2 ⟨rfl, R⟩
 have R := Lib.hid R
 go_wp2_with fail
 go_end0
 exact ⟨rfl, R.out⟩
theorem put_oneC {w : World} {base b : Nat} {l : List Int} (h : Wrt w base b l) (x : Int) (hx : 0 ≤ x ∧ x < 256) (hl : l.length ≤ 140737488350000) :
  Calls Tryz.prog 105 #[.pointer (some ⟨b, 0, none⟩), .slice (some ⟨w.heap.size, 0, none⟩) 1 1] (w.alloc (.cells #[.int .u8 x] 5)) (RetC base b (l ++ [x]) w) :=
 (put_calm base b l [x] _ 1 1 _ (h.ret ((Below.refl _ _).alloc (Nat.le_refl _) _)) (one_byt w x hx) (by omega)).mono fun e w2 hr => hr.snd ((Below.refl _ _).alloc (Nat.le_refl _) _)
theorem wFlag_calm (base b : Nat) (l : List Int) (is : Bool) (w : World) (h : Wrt w base b l) (hl : l.length ≤ 140737488350000) :
  Calls Tryz.prog 139 #[.pointer (some ⟨b, 0, none⟩), .bool is] w (RetC base b (l ++ flagL is) w) := by
 cases is with
 | true =>
  have C : Hid _ := Lib.hid (put_oneC h 1 (by omega) hl)
  clear h
  go_enter Tryz.func139, Tryz.ntmps139
  go_wp2_with fail
  refine C.out.mono ?_
  rintro e w2 ⟨rfl, R⟩
  have R := Lib.hid R
  go_wp2_with fail
  go_end0
  exact ⟨rfl, R.out⟩
 | false =>
  have C : Hid _ := Lib.hid (put_oneC h 0 (by omega) hl)
  clear h
  go_enter Tryz.func139, Tryz.ntmps139
  go_wp2_with fail
  refine C.out.mono ?_
  rintro e w2 ⟨rfl, R⟩
  have R := Lib.hid R
  go_wp2_with fail
  go_end0
  exact ⟨rfl, R.out⟩
theorem wText_calm (base b : Nat) (l : List Int) (s : ByteArray) (w : World) (h : Wrt w base b l) (hs : l.length + s.size ≤ 140737488350000) :
  Calls Tryz.prog 104 #[.pointer (some ⟨b, 0, none⟩), .string s] w (RetC base b (l ++ textL (nums s)) w) := by
 have go : ∀ w1, RetC base b (l ++ numL (s.size : Int)) w (.returned (.tuple #[])) w1 → Calls Tryz.prog 105 #[.pointer (some ⟨b, 0, none⟩), .slice (some ⟨w1.heap.size, 0, none⟩) s.size (grownCap w1 s.size 0 5)] (Lib.bytesWorld w1 5 s) (RetC base b (l ++ textL (nums s)) w) := by
  intro w1 hr
  have hlen : (numL (s.size : Int)).length ≤ 10 := numL_len _ (by omega)
  have hb := bytesWorld_below w1 5 s
  have := put_calm base b (l ++ numL (s.size : Int)) (nums s) _ _ _ _ (hr.2.1.ret hb) (Byt.ofString w1 5 s (by unfold maxLen; omega)) (by simp; omega)
  refine this.mono fun e w2 h2 => ?_
  have h3 := RetC.then hr (RetC.snd hb h2)
  rw [List.append_assoc, numL_nat] at h3
  unfold textL
  rw [nums_len]
  exact h3
 have GO := Lib.hid go
 have CN := Lib.hid (wNum_calm base b l (s.size : Int) w h (by omega) (by omega) (by omega))
 have kc := conv_str
 clear go h
 go_enter Tryz.func104, Tryz.ntmps104
 go_wp2_with fail
 refine CN.out.mono ?_
 rintro e w1 ⟨rfl, R⟩
 have C := Lib.hid (GO.out w1 ⟨rfl, R⟩)
 clear R
 go_wp2_with fail
 refine C.out.mono ?_
 rintro e w2 ⟨rfl, R⟩
 have R := Lib.hid R
 go_wp2_with fail
 go_end0
 exact ⟨rfl, R.out⟩
end

/- a pass's expect, and its steps: a number, a text, a flag, how many. -/
section
open Go.RowKit
def i64 (z : Int) : Prop := -9223372036854775808 ≤ z ∧ z ≤ 9223372036854775807
def RetV {α : Type} (S : Spc α) (V : World → Value → α → Prop) (x : α) (H pb : Nat) (s : Ps) (wr : Bool) (w : World) (e : Ending) (w' : World) : Prop :=
 ∃ v y s' wr', e = .returned v ∧ V w' v y ∧ Goes S x s wr y s' wr' ∧ Pst H w' pb s' wr' ∧ Calm H w w'
def VI (_ : World) (v : Value) (y : Int) : Prop := v = .int .i64 y ∧ i64 y
def VS (_ : World) (v : Value) (y : ByteArray) : Prop := v = .string y ∧ 0 ≤ y.size
def VB (_ : World) (v : Value) (y : Bool) : Prop := v = .bool y
def numS (least most : Int) : Spc Int := ⟨pNum 1099511627776, numL, fun z => least ≤ z ∧ z ≤ most, id, 10⟩
def textSp (least most : Int) : Spc ByteArray := ⟨pText 32, fun s => textL (nums s), fun s => least ≤ (s.size : Int) ∧ (s.size : Int) ≤ most, id, 60⟩
def flagSp : Spc Bool := ⟨pFlag, flagL, fun _ => True, id, 1⟩
section
variable {H pb : Nat} {w : World}
theorem Pst.ptrs {s : Ps} {wr : Bool} (h : Pst H w pb s wr) : w.cell? ⟨pb, 2, none⟩ = some (.bool wr) ∧ w.frozen? ⟨pb, 2, none⟩ = false := by
 cases s with
 | out l B => obtain ⟨wb, m, h1, h2, _⟩ := h; exact ⟨h2.cell 2, h2.frz 2⟩
 | inp σ => obtain ⟨rb, g, h1, h2, _⟩ := h; exact ⟨h2.cell 2, h2.frz 2⟩
theorem rdt_ne {t t' : TypeId} {b : Nat} {cs : Array Value} (hne : t ≠ t') (h : Bk w pb t cs) {cs' : Array Value} (k : Bk w b t' cs') : pb ≠ b := by
 intro e
 subst e
 unfold Bk at h k
 rw [h] at k
 injection k with k
 injection k with _ e2
 exact hne e2
theorem Pst.flag {s : Ps} {wr : Bool} (h : Pst H w pb s wr) (wr' : Bool) (hw : wr' = false → wr = false) : Pst H (w.setCell ⟨pb, 2, none⟩ (.bool wr')) pb s wr' ∧ Calm H w (w.setCell ⟨pb, 2, none⟩ (.bool wr')) := by
 have hg := grown_set w pb 2 (.bool wr')
 cases s with
 | out l B =>
  obtain ⟨wb, m, h1, h2, h3, h4, h5⟩ := h
  refine ⟨⟨wb, m, h1, by have := h2.setc 2 (.bool wr'); simpa using this, ?_, h4, fun e => h5 (hw e)⟩, Calm.grown hg (fun k hk => by injection hk with hk; subst hk; exact ⟨h1.1, h2.special rfl⟩)⟩
  obtain ⟨A, n, c, k1, k2⟩ := h3.ex
  refine ⟨h3.low, h3.rng, A, n, c, (hg.block wb k1.lt (fun e => by injection e with e; exact rdt_ne (by decide) h2 k1 e.symm)).trans k1, ?_⟩
  exact owns_keep k2 (fun k hk => hg.block k (own_special k2 hk).2.lt (fun e => by
   injection e with e
   subst e
   exact apart_row (by decide) h2 k2 hk))
 | inp σ =>
  obtain ⟨rb, g, h1, h2, h3, h4⟩ := h
  refine ⟨⟨rb, g, h1, by have := h2.setc 2 (.bool wr'); simpa using this, h3, ?_⟩, Calm.grown hg (fun k hk => by injection hk with hk; subst hk; exact ⟨h1, h2.special rfl⟩)⟩
  obtain ⟨A, n, c, k1, k2, k3⟩ := h4.rd.ex
  have hne : rb ≠ pb := fun e => rdt_ne (by decide) h2 k1 e.symm
  have hgne : 0 < σ.1.length → some g ≠ some pb := fun hl e => by
   injection e with e
   subst e
   obtain ⟨g', off, e', hc⟩ := k2.at_ (by rw [← k2.len]; exact hl)
   have e2 : g' = g := k3 (by rw [← k2.len]; exact hl) _ e'
   subst e2
   have a := hc 0 (by rw [← k2.len]; exact hl)
   rw [h2.cell] at a
   match off, a with
   | 0, a => simp at a
   | 1, a => simp at a
   | 2, a => simp at a
   | n + 3, a => simp at a
  refine ⟨⟨h4.rd.ne, A, n, c, (hg.block rb k1.lt (fun e => by injection e with e; exact hne e)).trans k1, k2.grown hg (fun hn a ha => by rw [k3 hn a ha]; exact hgne (by rw [k2.len]; exact hn)), k3⟩, fun hl => ?_⟩
  obtain ⟨cs, t, fr, a, b⟩ := h4.ty hl
  exact ⟨cs, t, fr, (hg.block g (Array.getElem?_eq_some_iff.1 a).1 (hgne hl)).trans a, b⟩
theorem expect_any (s : Ps) (wr : Bool) (b : Bool) (h : Pst H w pb s wr) :
  Calls Tryz.prog 114 #[.pointer (some ⟨pb, 0, none⟩), .bool b] w (fun e w' => ∃ wr', e = .returned (.bool (!wr')) ∧ (wr' = false ↔ wr = false ∧ b = true) ∧ Pst H w' pb s wr' ∧ Calm H w w') := by
 obtain ⟨h2, f2⟩ := h.ptrs
 have F := Lib.hid (fun wr' hw => Pst.flag h wr' hw)
 clear h
 cases wr with
 | true =>
  have R := Lib.hid (F.out true (fun e => e))
  clear F
  go_enter Tryz.func114, Tryz.ntmps114
  go_wp2_with fail
  go_ret
  exact ⟨true, rfl, by simp, R.out⟩
 | false =>
  have R := Lib.hid (F.out (!b) (fun _ => rfl))
  clear F
  cases b with
  | true =>
   go_enter Tryz.func114, Tryz.ntmps114
   go_wp2_with fail
   go_ret
   exact ⟨false, rfl, by simp, R.out⟩
  | false =>
   go_enter Tryz.func114, Tryz.ntmps114
   go_wp2_with fail
   go_ret
   exact ⟨true, rfl, by simp, R.out⟩
theorem pPrim_val {α : Type} (F : List Int → α × Nat × Nat) (z : α) (l : List Int) (e : Nat) (mk : α → Value) : stepV (mk z) (mk (F l).1) e (F l).2.2 = mk (pPrim F z (l, e)).1 := by
 unfold stepV pPrim
 simp only
 split
 ·rfl
 ·split <;> rfl
theorem pPrim_len {α : Type} (F : List Int → α × Nat × Nat) (z : α) (σ : Sg) : (pPrim F z σ).2.1.length ≤ σ.1.length := by
 show (stepL _ _ _ _).length ≤ _
 unfold stepL
 split
 ·exact Nat.le_refl _
 ·split
  ·exact Nat.le_refl _
  ·simp
theorem Rdt.step {b g : Nat} {l l' : List Int} {e e' : Nat} {w' : World} (h : Rdt w b g l e) (hr : Rd w' 169 b g l' e') (hg : w.grownBy w' (some b)) (hl : l'.length ≤ l.length) : Rdt w' b g l' e' :=
 ⟨hr, fun h0 => by
  obtain ⟨cs, t, fr, a, b'⟩ := h.ty (by omega)
  exact ⟨cs, t, fr, (hg.block g (Array.getElem?_eq_some_iff.1 a).1 (fun q => by injection q with q; exact h.rd.ne q)).trans a, b'⟩⟩
theorem Pst.reader {σ : Sg} {wr : Bool} (h : Pst H w pb (.inp σ) wr) : ∃ rb g, w.cell? ⟨pb, 1, none⟩ = some (.pointer (some ⟨rb, 0, none⟩)) ∧ Rdt w rb g σ.1 σ.2 ∧
  ∀ (w' : World) (σ' : Sg), Rd w' 169 rb g σ'.1 σ'.2 → w.grownBy w' (some rb) → σ'.1.length ≤ σ.1.length → Pst H w' pb (.inp σ') wr ∧ Calm H w w' := by
 obtain ⟨rb, g, h1, h2, h3, h4⟩ := h
 refine ⟨rb, g, h2.cell 1, h4, fun w' σ' hr hg hl => ?_⟩
 obtain ⟨A, n, c, k1, _⟩ := h4.rd.ex
 have hne : pb ≠ rb := rdt_ne (by decide) h2 k1
 exact ⟨⟨rb, g, h1, (hg.block pb h2.lt (fun e => by injection e with e; exact hne e)).trans h2, h3, h4.step hr hg hl⟩, Calm.grown hg (fun k hk => by injection hk with hk; subst hk; exact ⟨h3, k1.special rfl⟩)⟩
theorem Pst.writer {l : List Int} {B : Nat} {wr : Bool} (h : Pst H w pb (.out l B) wr) : ∃ wb m, w.cell? ⟨pb, 0, none⟩ = some (.pointer (some ⟨wb, 0, none⟩)) ∧ w.cell? ⟨pb, 1, none⟩ = some (.pointer none) ∧ Wrt w H wb m ∧ m.length ≤ B ∧ (wr = false → m = l) ∧
  ∀ (w' : World) (e : Ending) (x : List Int) (c : Nat), RetC H wb (m ++ x) w e w' → x.length ≤ c → Pst H w' pb (.out (l ++ x) (B + c)) wr ∧ Calm H w w' := by
 obtain ⟨wb, m, h1, h2, h3, h4, h5⟩ := h
 refine ⟨wb, m, h2.cell 0, h2.cell 1, h3, h4, h5, fun w' e x c hc hx => ⟨⟨wb, m ++ x, h1, ?_, hc.2.1, by rw [List.length_append]; omega, fun e => by rw [h5 e]⟩, hc.2.2.1⟩⟩
 obtain ⟨A, n, c', k1, _⟩ := h3.ex
 exact hc.2.2.2 pb _ _ _ h2 (by decide) (rdt_ne (by decide) h2 k1)
theorem Pst.bytes {l : List Int} {B : Nat} (h : Pst H w pb (.out l B) false) : Wrt w H (pb - 1) l ∧ l.length ≤ B := by
 obtain ⟨wb, m, h1, h2, h3, h4, h5⟩ := h
 obtain rfl := h5 rfl
 obtain rfl : wb = pb - 1 := by omega
 exact ⟨h3, h4⟩
end
end

/- a slice of ints that came in: what it reads as. -/
section
open Go.ChangeShapes Go.WideShapes Go.ChangeAt Go.RowKit
theorem wf_i64 {x : Int} (h : (Lit.int .i64 x).wf = true) : -9223372036854775808 ≤ x ∧ x ≤ 9223372036854775807 := by
 simp [Lit.wf, IntKind.min, IntKind.max, IntKind.signed, IntKind.bits] at h
 exact ⟨by omega, by omega⟩
end
end Go.Proofs.YtfmfmdiegabobabGreatDoor
