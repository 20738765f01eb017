/- What it says: contracts and plain mathematics that the laws' walks use, 3 of 9: each part's own remark says what; no condition. -/
import Derived.Test.YtfldcddbmikfiaaPw22
import Derived.Test.YtfldcddbmikfiaaPw31
import Derived.Test.YtfldcddbmikfiaaPv2

set_option linter.unusedSimpArgs false
set_option linter.unusedVariables false
set_option linter.deprecated false
set_option linter.unusedSectionVars false
set_option linter.all false

/- what trothref07.Decode has while it reads. -/
namespace Go.Proofs.Ytfldcddbmikfiaa
open Go.RowKit

theorem row_belowR {B : Nat} {a w : World} (h : Below B a w) (hB : B ≤ w.heap.size) {g : Nat} (hg : B ≤ g) (cs : Array Value) : Below B a (w.setRow g cs) :=
  h.grown (w' := w.setRow g cs) (row := some g) ⟨rfl, rfl, rfl, by simp [World.setRow], fun k _ hk => setRow_other w g k cs (fun q => hk (by simp [q]))⟩ hB (fun k hk => by simp at hk; omega)
theorem row_bkR {w : World} {g : Nat} {t : TypeId} {old : Array Value} (h : Bk w g t old) (cs : Array Value) : Bk (w.setRow g cs) g t cs := setRow_heap w g old cs _ _ h
/-- A record's lists are own, its numbers are int's. -/
structure XrOwn (base : Nat) (w : World) (y : Xr) : Prop where
  kind : i64 y.kind
  tx : i64 y.tx
  prev : i64 y.prev
  next : i64 y.next
  co : i64 y.co
  mem : OwnL elI base w y.mA y.mn y.mc y.mem
  lks : OwnL elL base w y.kA y.kn y.kc y.lks
  rows : OwnL elRt base w y.rA y.rn y.rc y.rows
  dirty : OwnL elDt base w y.dA y.dn y.dc y.dirty
  deeds : OwnL elEt base w y.eA y.en y.ec y.deeds
  past : OwnL elI base w y.pA y.pn y.pc y.past
  em : ∀ x ∈ y.mem, i64 x
  er : ∀ z ∈ y.rows, XwNew base w z
  ed : ∀ d ∈ y.dirty, i64 d.page ∧ i64 d.lsn
  ee : ∀ z ∈ y.deeds, XdNew base w z
  ep : ∀ x ∈ y.past, i64 x
section
variable {base : Nat} {w w' : World} {y : Xr}
theorem XrOwn.stay (h : XrOwn base w y) (hs : Stay5 w w') : XrOwn base w' y :=
  ⟨h.kind, h.tx, h.prev, h.next, h.co, h.mem.stay hs.i, h.lks.stay hs.l, h.rows.stay hs.r, h.dirty.stay hs.d, h.deeds.stay hs.e, h.past.stay hs.i, h.em, fun z hz => (h.er z hz).stay hs.i hs.l, h.ed, fun z hz => (h.ee z hz).stay hs.i, h.ep⟩
theorem XrOwn.of_kind (base : Nat) (w : World) (k : Int) (hk : i64 k) : XrOwn base w (xk k) :=
  ⟨hk, i64_of _ rfl, i64_of _ rfl, i64_of _ rfl, i64_of _ rfl, OwnL.nil _ _ _, OwnL.nil _ _ _, OwnL.nil _ _ _, OwnL.nil _ _ _, OwnL.nil _ _ _, OwnL.nil _ _ _, (fun _ h => nomatch h), (fun _ h => nomatch h), (fun _ h => nomatch h), (fun _ h => nomatch h), (fun _ h => nomatch h)⟩
theorem XrOwn.inn [Inhabited Prop] {H : Nat} (h : XrOwn base w y) (hH : H ≤ base) : XrIn H w y := by
  refine ⟨h.kind, h.tx, h.prev, h.next, Nat.zero_le _, Nat.zero_le _, Nat.zero_le _, h.co, ?_, ?_, ?_, ?_, ?_, ?_⟩
  · exact Sl.of_ownI h.mem.own hH h.mem.len h.em
  · exact Sl.of_ownI h.lks.own hH h.lks.len (fun _ _ => Nat.zero_le _)
  · refine Sl.of_ownI (E := elR) h.rows.own hH h.rows.len (fun z hz => ?_)
    have q := h.er z hz
    exact ⟨q.tx, q.st, q.fi, q.la, q.un, q.co, Sl.of_ownI q.mem.own hH q.mem.len q.each, Sl.of_ownI q.lks.own hH q.lks.len (fun _ _ => Nat.zero_le _)⟩
  · exact Sl.of_ownI (E := elD) h.dirty.own hH h.dirty.len h.ed
  · refine Sl.of_ownI (E := elE) h.deeds.own hH h.deeds.len (fun z hz => ?_)
    have q := h.ee z hz
    exact ⟨q.tx, Sl.of_ownI q.mem.own hH q.mem.len q.each⟩
  · exact Sl.of_ownI h.past.own hH h.past.len h.ep
end

/-- What Decode has: the reader, the result's block, the record's block X. -/
structure DcW (w wr : World) (rb g X : Nat) (y : Xr) (σ : Sg) : Prop where
  ord : w.heap.size < rb ∧ g < rb ∧ rb < X
  rd : Rd wr 76 rb g σ.1 σ.2
  res : Bk wr w.heap.size 30 xr0.cells
  blk : Bk wr X 30 y.cells
  bel : Below w.heap.size w wr
  own : XrOwn w.heap.size wr y
section
variable {w wr w' : World} {rb g X : Nat} {y y' : Xr} {σ σ' : Sg}
theorem DcW.read (h : DcW w wr rb g X y σ) (hr : Rd w' 76 rb g σ'.1 σ'.2) (hg : wr.grownBy w' (some rb)) : DcW w w' rb g X y σ' := by
  obtain ⟨h1, h2, h3⟩ := h.ord
  exact ⟨h.ord, hr, (hg.block _ h.res.lt (fun q => by injection q with q; omega)).trans h.res, (hg.block _ h.blk.lt (fun q => by injection q with q; omega)).trans h.blk, h.bel.grown hg h.bel.size (fun k hk => by injection hk with hk; omega), h.own.stay (Stay5.of_read h.rd hg)⟩
theorem DcW.new (h : DcW w wr rb g X y σ) (hb : Below wr.heap.size wr w') : DcW w w' rb g X y σ :=
  have hg : wr.grownBy w' none := ⟨hb.os, hb.tape, hb.output, hb.size, fun k hk _ => hb.block k hk⟩
  ⟨h.ord, h.rd.grown hg (by simp) (by simp), (hb.block _ h.res.lt).trans h.res, (hb.block _ h.blk.lt).trans h.blk, Below.then h.bel hb, h.own.stay (Stay5.of_below hb)⟩
/-- A cell of the record's block is written, or two; or the whole. -/
theorem DcW.put1 (h : DcW w wr rb g X y σ) (i : Nat) (v : Value) (hc : y.cells.setIfInBounds i v = y'.cells) (ho : XrOwn w.heap.size wr y') : DcW w (wr.setCell ⟨X, i, none⟩ v) rb g X y' σ := by
  obtain ⟨h1, h2, h3⟩ := h.ord
  have hgr := grown_set wr X i v
  exact ⟨h.ord, h.rd.setNewR (by omega) (by omega) v, (hgr.block _ h.res.lt (fun q => by injection q with q; omega)).trans h.res, by rw [← hc]; exact h.blk.setc i v, h.bel.setCell (p := ⟨X, i, none⟩) (by show w.heap.size ≤ X; omega) v, ho.stay (Stay5.set h.blk (by decide) (by decide) (by decide) (by decide) (by decide) v)⟩
theorem DcW.put2 (h : DcW w wr rb g X y σ) (i : Nat) (v v' : Value) (hc : (y.cells.setIfInBounds i v).setIfInBounds (i + 1) v' = y'.cells) (ho : XrOwn w.heap.size wr y') : DcW w ((wr.setCell ⟨X, i, none⟩ v).setCell ⟨X, i + 1, none⟩ v') rb g X y' σ := by
  obtain ⟨h1, h2, h3⟩ := h.ord
  have hgr := grown_set wr X i v
  have hgr2 := grown_set (wr.setCell ⟨X, i, none⟩ v) X (i + 1) v'
  have b1 := h.blk.setc i v
  have r1 : Bk (wr.setCell ⟨X, i, none⟩ v) w.heap.size 30 xr0.cells := (hgr.block _ h.res.lt (fun q => by injection q with q; omega)).trans h.res
  exact ⟨h.ord, (h.rd.setNewR (by omega) (by omega) v).setNewR (by omega) (by omega) v', (hgr2.block _ r1.lt (fun q => by injection q with q; omega)).trans r1, by rw [← hc]; exact b1.setc (i + 1) v', (h.bel.setCell (p := ⟨X, i, none⟩) (by show w.heap.size ≤ X; omega) v).setCell (p := ⟨X, i + 1, none⟩) (by show w.heap.size ≤ X; omega) v', (ho.stay (Stay5.set h.blk (by decide) (by decide) (by decide) (by decide) (by decide) v)).stay (Stay5.set b1 (by decide) (by decide) (by decide) (by decide) (by decide) v')⟩
theorem DcW.row (h : DcW w wr rb g X y σ) (ho : XrOwn w.heap.size wr y') : DcW w (wr.setRow X y'.cells) rb g X y' σ := by
  obtain ⟨h1, h2, h3⟩ := h.ord
  have hgr := grown_setRow wr X y'.cells
  exact ⟨h.ord, h.rd.grown hgr (fun q => by injection q with q; omega) (fun q => by injection q with q; omega), (hgr.block _ h.res.lt (fun q => by injection q with q; omega)).trans h.res, row_bkR h.blk _, row_belowR h.bel h.bel.size (by show w.heap.size ≤ X; omega) _, ho.stay ⟨.grown hgr h.blk (by decide), .grown hgr h.blk (by decide), .grown hgr h.blk (by decide), .grown hgr h.blk (by decide), .grown hgr h.blk (by decide)⟩⟩
/-- What is answered: the zero record and an error, or the record. -/
theorem DcW.zero [Inhabited Prop] (h : DcW w wr rb g X y σ) {l : List Int} {k : Nat} (hd : decF l = (rc0 0, k)) : Bk (wr.setRow w.heap.size xr0.cells) w.heap.size 30 xr0.cells ∧ RetDec l w (.returned (.tuple #[xr0.val, .int .i64 k])) (wr.setRow w.heap.size xr0.cells) :=
  ⟨row_bkR h.res _, xr0, by rw [hd], xr0_in _ _, by rw [hd]; rfl, row_belowR h.bel h.bel.size (Nat.le_refl _) _⟩
theorem DcW.done [Inhabited Prop] (h : DcW w wr rb g X y σ) {l : List Int} (hd : decF l = (y.read, 0)) : Bk (wr.setRow w.heap.size y.cells) w.heap.size 30 y.cells ∧ RetDec l w (.returned (.tuple #[y.val, .int .i64 0])) (wr.setRow w.heap.size y.cells) := by
  have hgr := grown_setRow wr w.heap.size y.cells
  refine ⟨row_bkR h.res _, y, by rw [hd]; rfl, ?_, by rw [hd], row_belowR h.bel h.bel.size (Nat.le_refl _) _⟩
  exact (h.own.stay ⟨.grown hgr h.res (by decide), .grown hgr h.res (by decide), .grown hgr h.res (by decide), .grown hgr h.res (by decide), .grown hgr h.res (by decide)⟩).inn (Nat.le_refl _)
end

/-- The value that is read where the reader has failed. -/
theorem pN_failed {σ : Sg} (h : (pN σ).2.2 ≠ 0) : (pN σ).1 = 0 := by
  unfold pN pNum pPrim at h ⊢
  dsimp only at h ⊢
  by_cases e : σ.2 = 0
  · rw [if_neg (by omega)]
    by_cases f : (numI 1099511627776 σ.1).2.2 = 0
    · exfalso
      apply h
      unfold stepE
      rw [e, f]
      rfl
    · rw [if_pos f]
  · rw [if_pos e]
theorem pN_stuck {σ : Sg} (h : σ.2 ≠ 0) : pN σ = (0, σ) := by
  exact Prod.ext (by unfold pN pNum pPrim; exact if_pos h) (codec_N.stick σ h)
/-- The answer, of what has been read. -/
theorem decF_end {l : List Int} {k : Int} {σ σ3 : Sg} {x : Rc} (hl : ¬ 4096 < l.length) (hp : pN (l, 0) = (k, σ)) (hk : 1 ≤ k ∧ k ≤ 10) (hr : restP k σ = (x, σ3)) : (endS σ3 ≠ 0 → decF l = (rc0 0, endS σ3)) ∧ (endS σ3 = 0 → (x.ok → decF l = (x, 0)) ∧ (¬ x.ok → decF l = (rc0 0, 11))) := by
  have hd := dec_go hp hk
  rw [hr] at hd
  simp only at hd
  refine ⟨fun e => ?_, fun e => ⟨fun o => ?_, fun o => ?_⟩⟩
  · have := decF_err hl (by rw [hd]; exact e)
    rw [hd] at this; exact this
  · have := decF_ok hl (by rw [hd]; exact e) (by rw [hd]; exact o)
    rw [hd] at this; exact this
  · exact decF_no hl (by rw [hd]; exact e) (by rw [hd]; exact o)
end Go.Proofs.Ytfldcddbmikfiaa
