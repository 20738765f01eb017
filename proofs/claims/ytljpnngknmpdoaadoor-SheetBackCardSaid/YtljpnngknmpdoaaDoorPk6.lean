/- What it says: contracts and plain mathematics that the laws' walks use, 6 of 7: each part's own remark says what; no condition. -/
import Derived.Test.YtljpnngknmpdoaaDoorPk1
import Derived.Test.YtljpnngknmpdoaaDoorPk2
import Derived.Test.YtljpnngknmpdoaaDoorPk4
import Derived.Test.YtljpnngknmpdoaaDoorRows
import Derived.Lib.LaidTab
import Derived.LaidMore
import Derived.Stop.Joined

set_option linter.unusedSimpArgs false
set_option linter.unusedVariables false
set_option linter.deprecated false
set_option linter.unusedSectionVars false
set_option linter.all false

/- trothref08.Find finds what the plain search finds, in new memory. -/
namespace Go.Proofs.YtljpnngknmpdoaaDoor
open Go.RowKit

/-- 's[j:]' of bytes in a block of bytes. -/
theorem cut_lt {w : World} {A : Option Addr} {n c : Nat} {l : List Int} (h : Bty w A n c l) (j : Nat) (hj : j ≤ n) :
    ∃ B d, (∀ v, (Instr.slice 24 (.slice A n c) (some (.int .i64 (j : Int))) none none).run Tryd.prog v = .ok (.slice B (n - j) d) v) ∧ Bty w B (n - j) d (l.drop j) := by
  obtain ⟨B, m, d, h1, h2, h3, h4⟩ := cut_lb h.byt j hj (j : Int) rfl
  subst h2
  refine ⟨B, d, h1, h3, fun a ha => ?_⟩
  obtain ⟨a', e1, e2⟩ := h4 a ha
  obtain ⟨cs, fr, e3⟩ := h.ty a' e1
  exact ⟨cs, fr, by rw [e2]; exact e3⟩

/-- Two rows of one's own: what was found, and what there is of a body that is begun. -/
structure Two8 (base : Nat) (w : World) (A : Option Addr) (n c : Nat) (out : List (List Int × Int)) (B : Option Addr) (m d : Nat) (lw : List Int) : Prop where
  own : w.ownsRow base 55 2 (.slice A n c) n (out.flatMap fndC)
  len : out.length = n
  way : w.ownsRow base 5 1 (.slice B m d) m (lw.map (Value.int .u8))
  rng : isB lw
theorem Two8.below {base : Nat} {w w' : World} {A : Option Addr} {n c : Nat} {out : List (List Int × Int)} {B : Option Addr} {m d : Nat} {lw : List Int} (h : Two8 base w A n c out B m d lw) (hb : Below w.heap.size w w') : Two8 base w' A n c out B m d lw :=
  ⟨own_stay h.own (fun q hq => hb.block q (h.own.lt q hq).2), h.len, own_stay h.way (fun q hq => hb.block q (h.way.lt q hq).2), h.rng⟩
theorem Two8.end_ {w w2 : World} {A : Option Addr} {n c : Nat} {out : List (List Int × Int)} {B : Option Addr} {m d : Nat} {lw : List Int} (h : Two8 w.heap.size w2 A n c out B m d lw) (hb : Below w.heap.size w w2) (ok : ∀ x ∈ out, isB x.1 ∧ x.1.length ≤ 4096) : RetFnd out w (.returned (.slice A n c)) w2 :=
  ⟨A, n, c, rfl, Flt.of_own h.own, h.len, ok, hb⟩
/-- One more found. -/
theorem Two8.more {base : Nat} {w w2 w' : World} {A A' : Option Addr} {n c c' : Nat} {out : List (List Int × Int)} {B : Option Addr} {m d : Nat} {lw : List Int} {x : List Int} {i : Int} (h : Two8 base w A n c out B m d lw) (hb : Below w.heap.size w w2)
    (k1 : w'.ownsRow base 55 2 (.slice A' (n + 1) c') (n + 1) (out.flatMap fndC ++ (#[Value.string (strOfNums x), .int .i64 i] : Array Value).toList)) (k2 : w2.grownBy w' (Value.slice A n c).ownBlock) (hbase : base ≤ w.heap.size) :
    Two8 base w' A' (n + 1) c' (out ++ [(x, i)]) B m d lw ∧ Below base w w' ∧ ∀ (A5 : Option Addr) (n5 c5 : Nat) (l5 : List Int), Bty w A5 n5 c5 l5 → Bty w' A5 n5 c5 l5 := by
  have h2 := h.below hb
  refine ⟨⟨by rw [List.flatMap_append]; simpa [fndC] using k1, by simp [h.len], own_apart h2.own h2.way (by decide) k2, h.rng⟩, (hb.mono hbase).grown k2 (Nat.le_trans hbase hb.size) (fun q hq => (h2.own.lt q hq).1), fun A5 n5 c5 l5 k => (k.below hb).apart h2.own (by decide) k2⟩
/-- The way goes on. -/
theorem Two8.go {base : Nat} {w w' : World} {A : Option Addr} {n c : Nat} {out : List (List Int × Int)} {B B' : Option Addr} {m m' d d' : Nat} {lw lh : List Int} (h : Two8 base w A n c out B m d lw)
    (k1 : w'.ownsRow base 5 1 (.slice B' m' d') m' ((lw ++ lh).map (Value.int .u8))) (k2 : w.grownBy w' (Value.slice B m d).ownBlock) (hh : isB lh) (hbase : base ≤ w.heap.size) :
    Two8 base w' A n c out B' m' d' (lw ++ lh) ∧ Below base w w' :=
  ⟨⟨own_apart h.way h.own (by decide) k2, h.len, k1, h.rng.app hh⟩, (Below.refl _ _).grown k2 hbase (fun q hq => (h.way.lt q hq).1)⟩

/-- Where trothref08.Find stands. -/
structure RfRel (w : World) (l : List Sh) (i : Nat) (s : Fs) (wr : World) (A : Option Addr) (n c : Nat) (B : Option Addr) (m d : Nat) (lw : List Int) (frm : Int) (und : Bool) : Prop where
  two : Two8 w.heap.size wr A n c s.out B m d lw
  bel : Below w.heap.size w wr
  go : found (l.map Sh.fd) = findF s i ((l.drop i).map Sh.fd)
  ok : s.Ok
  beg : s.beg.length ≤ 242 * i
  num : s.out.length ≤ 243 * i
  und : (und = false → s.beg = []) ∧ (und = true → s.beg ≠ [] ∧ lw = s.beg ∧ frm = s.frm)

theorem RfRel.next {w wr w2 : World} {i : Nat} {l : List Sh} {s : Fs} {A A2 : Option Addr} {n c n2 c2 : Nat} {B B2 : Option Addr} {m d m2 d2 : Nat} {lw lw2 : List Int} {frm frm2 : Int} {und und2 : Bool} (h : RfRel w l i s wr A n c B m d lw frm und) (hi : i < l.length) (h242 : (l.getD i sh0).data.size ≤ 242)
    (hok : (sheetF s i (l.getD i sh0).first (nums (l.getD i sh0).data)).2 = true) (ht : Two8 w.heap.size w2 A2 n2 c2 (sheetF s i (l.getD i sh0).first (nums (l.getD i sh0).data)).1.out B2 m2 d2 lw2) (hb : Below w.heap.size w w2)
    (hu : (und2 = false → (sheetF s i (l.getD i sh0).first (nums (l.getD i sh0).data)).1.beg = []) ∧ (und2 = true → (sheetF s i (l.getD i sh0).first (nums (l.getD i sh0).data)).1.beg ≠ [] ∧ lw2 = (sheetF s i (l.getD i sh0).first (nums (l.getD i sh0).data)).1.beg ∧ frm2 = (sheetF s i (l.getD i sh0).first (nums (l.getD i sh0).data)).1.frm)) :
    RfRel w l (i + 1) (sheetF s i (l.getD i sh0).first (nums (l.getD i sh0).data)).1 w2 A2 n2 c2 B2 m2 d2 lw2 frm2 und2 := by
  have hl := @sheetF_len s i (l.getD i sh0).first (nums (l.getD i sh0).data) (nums_rng _)
  rw [nums_len] at hl
  have := h.beg
  have := h.num
  refine ⟨ht, hb, ?_, sheetF_ok h.ok (nums_rng _), by omega, by omega, hu⟩
  rw [h.go, drop_getD_cons l sh0 i hi, List.map_cons, findF]
  exact if_pos hok
theorem RfRel.last {w wr : World} {i : Nat} {l : List Sh} {s : Fs} {A : Option Addr} {n c : Nat} {B : Option Addr} {m d : Nat} {lw : List Int} {frm : Int} {und : Bool} (h : RfRel w l i s wr A n c B m d lw frm und) (hi : i < l.length) (hok : (sheetF s i (l.getD i sh0).first (nums (l.getD i sh0).data)).2 = false) :
    found (l.map Sh.fd) = (sheetF s i (l.getD i sh0).first (nums (l.getD i sh0).data)).1.out := by
  rw [h.go, drop_getD_cons l sh0 i hi, List.map_cons, findF]
  refine if_neg ?_
  show ¬ (sheetF s i (l.getD i sh0).first (nums (l.getD i sh0).data)).2 = true
  rw [hok]
  simp

/-- Where its inner loop stands. -/
structure RbRel (w : World) (s1 : Fs) (b : List Int) (i : Int) (wr : World) (A : Option Addr) (n c : Nat) (B : Option Addr) (m d : Nat) (lw : List Int) (R : Option Addr) (r k : Nat) (b' : List Int) (xs : List (List Int)) : Prop where
  two : Two8 w.heap.size wr A n c (s1.out ++ xs.map (fun x => (x, i))) B m d lw
  bel : Below w.heap.size w wr
  bty : Bty wr R r k b'
  ops : opens b = (xs ++ (opens b').1, (opens b').2)
  num : s1.out.length + xs.length + r ≤ 900000
theorem RbRel.stop {w wr : World} {s1 : Fs} {b : List Int} {i : Int} {A : Option Addr} {n c : Nat} {B : Option Addr} {m d : Nat} {lw : List Int} {R : Option Addr} {r k : Nat} {xs : List (List Int)} (h : RbRel w s1 b i wr A n c B m d lw R r k [] xs) : bodsF s1 b i = (⟨s1.out ++ xs.map (fun x => (x, i)), [], i⟩, true) := by
  unfold bodsF; rw [h.ops, opens_nil]; simp
theorem RbRel.short {w wr : World} {s1 : Fs} {b b' x : List Int} {u : Nat} {i : Int} {A : Option Addr} {n c : Nat} {B : Option Addr} {m d : Nat} {lw : List Int} {R : Option Addr} {r k : Nat} {xs : List (List Int)} (h : RbRel w s1 b i wr A n c B m d lw R r k b' xs) (h0 : b' ≠ []) (hO : openF b' = (x, u, 10)) : bodsF s1 b i = (⟨s1.out ++ xs.map (fun x => (x, i)), b', i⟩, true) := by
  unfold bodsF; rw [h.ops, opens_short h0 hO]; simp
theorem RbRel.bad {w wr : World} {s1 : Fs} {b b' x : List Int} {u e0 : Nat} {i : Int} {A : Option Addr} {n c : Nat} {B : Option Addr} {m d : Nat} {lw : List Int} {R : Option Addr} {r k : Nat} {xs : List (List Int)} (h : RbRel w s1 b i wr A n c B m d lw R r k b' xs) (h0 : b' ≠ []) (hO : openF b' = (x, u, e0)) (h1 : e0 ≠ 0) (h2 : e0 ≠ 10) : bodsF s1 b i = (⟨s1.out ++ xs.map (fun x => (x, i)), [], i⟩, false) := by
  unfold bodsF; rw [h.ops, opens_bad h0 hO h1 h2]; simp
theorem RbRel.below {w wr w2 : World} {s1 : Fs} {b b' : List Int} {i : Int} {A : Option Addr} {n c : Nat} {B : Option Addr} {m d : Nat} {lw : List Int} {R : Option Addr} {r k : Nat} {xs : List (List Int)} (h : RbRel w s1 b i wr A n c B m d lw R r k b' xs) (hb : Below wr.heap.size wr w2) : RbRel w s1 b i w2 A n c B m d lw R r k b' xs :=
  ⟨h.two.below hb, h.bel.trans (hb.mono h.bel.size), h.bty.below hb, h.ops, h.num⟩
theorem RbRel.next {w wr w4 w' : World} {s1 : Fs} {b b' x : List Int} {u : Nat} {i : Int} {A A' : Option Addr} {n c c' : Nat} {B : Option Addr} {m d : Nat} {lw : List Int} {R : Option Addr} {r k : Nat} {xs : List (List Int)} (h : RbRel w s1 b i wr A n c B m d lw R r k b' xs) (h0 : b' ≠ []) (hO : openF b' = (x, u, 0))
    (hb : Below wr.heap.size wr w4) (k1 : w'.ownsRow w.heap.size 55 2 (.slice A' (n + 1) c') (n + 1) ((s1.out ++ xs.map (fun x => (x, i))).flatMap fndC ++ (#[Value.string (strOfNums x), .int .i64 i] : Array Value).toList)) (k2 : w4.grownBy w' (Value.slice A n c).ownBlock) :
    u ≤ r ∧ 0 < u ∧ Bty w' R r k b' ∧ ∀ R2 k2, Bty w' R2 (r - u) k2 (b'.drop u) → RbRel w s1 b i w' A' (n + 1) c' B m d lw R2 (r - u) k2 (b'.drop u) (xs ++ [x]) := by
  have hr := h.bty.byt.rng
  obtain ⟨hu, ht, _⟩ := openF_ok hr hO
  have hp := sealL_pos x
  have e1 : (b'.take u).length = (sealL x).length := by rw [ht]
  rw [List.length_take] at e1
  have hk : b'.length = r := h.bty.byt.len
  obtain ⟨t, bel, ty⟩ := h.two.more hb k1 k2 h.bel.size
  refine ⟨by omega, by omega, ty _ _ _ _ h.bty, fun R2 k2 h2 => ⟨?_, h.bel.trans bel, h2, ?_, ?_⟩⟩
  · have : s1.out ++ xs.map (fun x => (x, i)) ++ [(x, i)] = s1.out ++ (xs ++ [x]).map (fun x => (x, i)) := by simp
    rw [← this]
    exact t
  · rw [h.ops, opens_ok hr h0 hO]
    simp
  · have := h.num
    simp
    omega

set_option maxRecDepth 100000 in
set_option maxHeartbeats 8000000 in
theorem refFind_any (A : Option Addr) (n c : Nat) (l : List Sh) (w : World) (h : Shs w A n c l) (hn : n ≤ 1000) (h242 : ∀ x ∈ l, x.data.size ≤ 242) (hw0 : 0 < w.heap.size) :
    Calls Tryd.prog 21 #[.slice A n c] w (RetFnd (found (l.map Sh.fd)) w) := by
  have R0 : Hid (RfRel w l 0 fs0 w none 0 0 none 0 0 [] 0 false) := Lib.hid ⟨⟨World.ownsRow_nil _ _ _ _, rfl, World.ownsRow_nil _ _ _ _, fun x hx => (by cases hx)⟩, Below.refl _ _, by simp [found], ⟨fun x hx => (by cases hx), fun x hx => (by cases hx)⟩, by simp [fs0], by simp [fs0], fun _ => rfl, fun e => (by cases e)⟩
  obtain ⟨i0, hi, hz0, hz1, hz2⟩ := info_parts info_u8
  obtain ⟨j0, hj0, hy0, hy1, hy2⟩ := info_parts info_fnd
  have HS := Lib.hid h
  have H242 := Lib.hid h242
  have hcap := h.flt.cap
  have hmax := h.flt.max
  unfold maxLen at hmax
  clear h h242
  go_enter Tryd.func21, Tryd.ntmps21
  go_wp2_with fail
  go_loopw [3, 4, 5, 6, 7] (fun o y z v q wr => ∃ (i : Nat) (s : Fs) (A2 : Option Addr) (n2 c2 : Nat) (B : Option Addr) (m d : Nat) (lw : List Int) (frm : Int) (und : Bool), i ≤ n ∧ o = .slice A2 n2 c2 ∧ y = .slice B m d ∧ z = .int .i64 frm ∧ v = .bool und ∧ q = .int .i64 i ∧ RfRel w l i s wr A2 n2 c2 B m d lw frm und) (fun _ _ _ _ q _ => n - (intOf q).toNat)
  case atStart => exact ⟨0, fs0, none, 0, 0, none, 0, 0, [], 0, false, Nat.zero_le _, rfl, rfl, rfl, rfl, rfl, R0.out⟩
  case round =>
    obtain ⟨i, s, A2, n2, c2, B, m, d, lw, frm, und, hin, rfl, rfl, rfl, rfl, rfl, R⟩ := hrel
    have HR := Lib.hid R
    clear R R0
    by_cases hlt : i < n
    · obtain ⟨g, off, hA, hc⟩ := (HS.out.below HR.out.bel).flt.at_get sh0 Sh.cells Sh.cells_len HS.out.len (by omega)
      subst hA
      have hj : i < l.length := by rw [HS.out.len]; exact hlt
      have hmem : l.getD i sh0 ∈ l := by
        have e : l.getD i sh0 = l[i] := by simp [List.getD, List.getElem?_eq_getElem hj]
        rw [e]
        exact List.getElem_mem hj
      have hxin := HS.out.inn _ hmem
      have hx242 := H242.out _ hmem
      have NX := Lib.hid (fun (w2 : World) (A3 : Option Addr) (n3 c3 : Nat) (B3 : Option Addr) (m3 d3 : Nat) (lw3 : List Int) (frm3 : Int) (und3 : Bool) => HR.out.next (w2 := w2) (A2 := A3) (n2 := n3) (c2 := c3) (B2 := B3) (m2 := m3) (d2 := d3) (lw2 := lw3) (frm2 := frm3) (und2 := und3) hj hx242)
      have LS := Lib.hid (HR.out.last hj)
      obtain ⟨x, hx⟩ : ∃ x, l.getD i sh0 = x := ⟨_, rfl⟩
      have hci := hc i hlt
      rw [hx] at hci hxin hx242 NX LS
      obtain ⟨xi, xp, xf, xd⟩ := x
      have c2' := hci 2 _ rfl
      have c3 := hci 3 _ rfl
      obtain ⟨hf0, hf1⟩ : i64R xf := hxin.first
      obtain ⟨dl, hdl⟩ : ∃ dd, nums xd = dd := ⟨_, rfl⟩
      have hdlen : dl.length = xd.size := by rw [← hdl, nums_len]
      have hdrng : isB dl := by rw [← hdl]; exact nums_rng xd
      simp only at NX LS
      have hx242 : xd.size ≤ 242 := hx242
      rw [hdl] at NX LS
      have hglt : g < wr.heap.size := World.block_lt_of_cell? wr _ c3
      clear hci hc hx hxin hmem hj
      obtain ⟨W2, hW2⟩ : ∃ W2, W2 = Lib.bytesWorld wr 5 xd := ⟨_, rfl⟩
      have hconv := conv_str wr xd
      rw [← hW2] at hconv
      obtain ⟨dc, hdc⟩ : ∃ dc, dc = grownCap wr xd.size 0 5 := ⟨_, rfl⟩
      rw [← hdc] at hconv
      have b2 : Below wr.heap.size wr W2 := by rw [hW2]; exact bytesWorld_below wr 5 xd
      have t2 : Bty W2 (some ⟨wr.heap.size, 0, none⟩) xd.size dc dl := by rw [hW2, hdc, ← hdl]; exact Bty.ofString wr xd (by unfold maxLen; omega)
      obtain ⟨gd, hgd⟩ : ∃ gd, wr.heap.size = gd := ⟨_, rfl⟩
      have HGD := Lib.hid hgd
      rw [hgd] at hconv t2
      have c22 : W2.cell? ⟨g, off + i * 4 + 2, none⟩ = some (.int .i64 xf) := (b2.cell (p := ⟨g, off + i * 4 + 2, none⟩) hglt).trans c2'
      have hcx := t2.byt.cap
      have hcm := t2.byt.max
      unfold maxLen at hcm
      have HT2 := Lib.hid t2
      have HB2 := Lib.hid (HR.out.bel.trans (b2.mono HR.out.bel.size))
      have HW2 := Lib.hid (HR.out.two.below b2)
      have hlow : ∀ q, (Value.slice B m d).ownBlock = some q → q < gd := fun q hq => by rw [← hgd]; exact (HR.out.two.way.lt q hq).2
      have HLW := Lib.hid hlow
      have hm0 : lw.length = m := by simpa using HR.out.two.way.1
      clear hW2 hdc b2 t2 hgd hlow c2'
      by_cases hinS : inS xf dl
      · obtain ⟨k, hk⟩ : ∃ k, cutS xf dl = k := ⟨_, rfl⟩
        have hkx : xf = (k : Int) := by rw [← hk]; unfold cutS; rw [if_pos hinS]; have := hinS.1; omega
        have hkl : k ≤ dl.length := by rw [← hk]; exact cutS_le _ _
        have SF0 : Hid (sheetF s i xf dl = if (headF s (dl.take k)).2 = false then headF s (dl.take k) else bodsF (headF s (dl.take k)).1 (dl.drop k) i) := Lib.hid (by unfold sheetF; rw [hk, if_pos hinS])
        rw [hkx] at c22
        have HKX := Lib.hid hkx
        obtain ⟨HA, HCc, hsH, hhb⟩ := cut_h HT2.out.byt k (by omega) (k : Int) rfl
        have HHB : Hid (Byt W2 HA k HCc (dl.take k)) := Lib.hid hhb
        clear hinS hk hkx hhb
        rcases Nat.lt_or_ge k xd.size with hks | hks
        · have hkq : ((k : Int) == (xd.size : Int)) = false := by simp; omega
          cases und with
          | false =>
            have hb0 := HR.out.und.1 rfl
            have hH : headF s (dl.take k) = (s, true) := by unfold headF; rw [if_pos hb0]
            have SF : Hid (sheetF s i xf dl = bodsF s (dl.drop k) i) := Lib.hid (by rw [SF0.out, hH]; rfl)
            have T5 := HW2
            have HB5 := HB2
            have D5 := HT2
            have OK5 := Lib.hid HR.out.ok
            have NUM : Hid (s.out.length ≤ 243 * i) := Lib.hid HR.out.num
            have UD : Hid ((false = false → s.beg = []) ∧ (false = true → s.beg ≠ [] ∧ lw = s.beg ∧ frm = s.frm)) := Lib.hid ⟨fun _ => hb0, fun e => (by cases e)⟩
            clear hb0 hH SF0 HW2 HB2 HT2 HLW
            obtain ⟨BR, dR, hsR, tR⟩ := cut_lt D5.out k (by omega)
            have Q0 : Hid (RbRel w s (dl.drop k) i W2 A2 n2 c2 B m d lw BR (xd.size - k) dR (dl.drop k) []) := Lib.hid ⟨by simpa using T5.out, HB5.out, tR, rfl, by have := NUM.out; simp; omega⟩
            have OKB := Lib.hid (bodsF_ok (s := s) (b := dl.drop k) i OK5.out (hdrng.drop k))
            have e5 : sheetF s i xf dl = bodsF s (dl.drop k) i := SF.out
            rw [e5] at NX LS
            clear e5 tR T5 D5 HR
            go_wp2_with fail
            go_loopw [3, 4, 5, 6, 14] (fun o y z v rr wq => ∃ (A6 : Option Addr) (n6 c6 : Nat) (R : Option Addr) (r k6 : Nat) (b' : List Int) (xs : List (List Int)), o = .slice A6 n6 c6 ∧ y = .slice B m d ∧ z = .int .i64 frm ∧ v = .bool false ∧ rr = .slice R r k6 ∧ RbRel w s (dl.drop k) i wq A6 n6 c6 B m d lw R r k6 b' xs) (fun _ _ _ _ rr _ => lenV rr)
            case atStart => exact ⟨A2, n2, c2, BR, xd.size - k, dR, dl.drop k, [], by go_num, by go_num, by go_num, by go_num, by go_num, Q0.out⟩
            case round =>
              obtain ⟨A6, n6, c6, R, r, k6, b', xs, rfl, rfl, rfl, rfl, rfl, Q⟩ := hrel
              have HQ := Lib.hid Q
              have hrl : b'.length = r := Q.bty.byt.len
              have hrc := Q.bty.byt.cap
              have hrm := Q.bty.byt.max
              unfold maxLen at hrm
              clear Q Q0
              by_cases h0 : b' = []
              · subst h0
                have hr0 : r = 0 := by simpa using hrl.symm
                subst hr0
                have e6 := HQ.out.stop
                rw [e6] at NX LS
                have N := Lib.hid (NX.out _ A6 n6 c6 B m d lw frm false (by first | rfl | trivial) HQ.out.two HQ.out.bel ⟨fun _ => rfl, fun e => (by cases e)⟩)
                clear e6 NX LS HQ HS
                go_wp2_with fail
                go_roundw
                case rel => exact ⟨i + 1, _, A6, n6, c6, B, m, d, lw, frm, false, by omega, by go_num, by go_num, by go_num, by go_num, by go_num, N.out⟩
                case measure => simp [intOf]; omega
              · have hpos : (0 : Int) < (r : Int) := by
                  rcases Nat.eq_zero_or_pos r with q | q
                  · exact absurd (List.eq_nil_of_length_eq_zero (by omega)) h0
                  · omega
                obtain ⟨x, u, e0, hO⟩ : ∃ x u e0, openF b' = (x, u, e0) := ⟨_, _, _, rfl⟩
                have hnm := HQ.out.num
                have CO := Lib.hid (refOpen_any R r k6 b' wr HQ.out.bty.byt (Nat.lt_of_lt_of_le hw0 HQ.out.bel.size) (by omega) x u e0 hO)
                have HO := Lib.hid hO
                have H0 := Lib.hid h0
                clear hO h0
                go_wp2_with fail
                refine CO.out.mono ?_
                rintro e w7 ⟨A7, n7, c7, rfl, hb7, b7⟩
                have HQ7 := Lib.hid (HQ.out.below b7)
                have B7 := Lib.hid b7
                have H7 := Lib.hid hb7
                clear b7 CO hb7
                by_cases he10 : e0 = 10
                · subst he10
                  have e6 := HQ7.out.short H0.out HO.out
                  rw [e6] at NX LS
                  have hown0 := World.ownsRow_made (base := w7.heap.size) (e := 5) (size := 1) w7 #[] 0 (Nat.le_refl _) (Nat.zero_le _) rfl
                  have HBB := HQ7.out.bty.byt.alloc (.cells #[] 5)
                  clear e6 HQ H7
                  go_wp2_with (at_builtin; refine wpList_append_byt rfl _ _ 24 rfl w7.heap.size 5 i0 Tryd.underlying24 hi hz0 hz1 hz2 _ 0 [] rfl (by exact hown0) R r k6 b' rfl HBB (by omega) (by simp) ?_)
                  intro B8 d8 w8 k1 k2
                  have bel8 : Below w7.heap.size w7 w8 := ((Below.refl _ _).alloc (Nat.le_refl _) _).grown k2 (by simp) (fun q hq => by simp [Value.ownBlock] at hq; omega)
                  have T8 := HQ7.out.two.below bel8
                  have own8 : w8.ownsRow w.heap.size 5 1 (.slice B8 (0 + r) d8) (0 + r) (b'.map (Value.int .u8)) := own_base (by simpa using k1) HQ7.out.bel.size
                  rw [Nat.zero_add] at own8
                  have N := Lib.hid (NX.out w8 A6 n6 c6 B8 r d8 b' i true (by first | rfl | trivial) ⟨T8.own, T8.len, own8, HQ7.out.bty.byt.rng⟩ (HQ7.out.bel.trans (bel8.mono HQ7.out.bel.size)) ⟨fun e => (by cases e), fun _ => ⟨H0.out, rfl, rfl⟩⟩)
                  clear k1 k2 bel8 T8 own8 NX LS HQ7 HBB hown0 HS
                  go_wp2_with fail
                  go_roundw
                  case rel => exact ⟨i + 1, _, A6, n6, c6, B8, r, d8, b', i, true, by omega, by go_num, by go_num, by go_num, by go_num, by go_num, N.out⟩
                  case measure => simp [intOf]; omega
                · have hne : ((e0 : Int) == 10) = false := by simp; omega
                  have HE10 := Lib.hid he10
                  clear he10
                  by_cases he0 : e0 = 0
                  · subst he0
                    have kc := conv_byt H7.out
                    have hnum' : n6 ≤ 900000 := by have := HQ7.out.two.len; simp at this; omega
                    have own7 := HQ7.out.two.own
                    have OW7 : Hid (∀ o, (w7.alloc o).ownsRow w.heap.size 55 2 (.slice A6 n6 c6) n6 ((s.out ++ xs.map (fun x => (x, (i : Int)))).flatMap fndC)) := Lib.hid (fun o => own_stay own7 (fun q hq => ((Below.refl w7.heap.size w7).alloc (Nat.le_refl _) o).block q (own7.lt q hq).2))
                    have BS7 : Hid (∀ o, w.heap.size ≤ (w7.alloc o).heap.size) := Lib.hid (fun o => Nat.le_trans HQ7.out.bel.size (by simp))
                    have KN := Lib.hid (fun A' c' w' o q1 q2 => HQ.out.next (w4 := w7.alloc o) (A' := A') (c' := c') (w' := w') H0.out HO.out (B7.out.trans ((((Below.refl w7.heap.size w7).alloc (Nat.le_refl _) o)).mono B7.out.size)) q1 q2)
                    have hne : ((0 : Int) == 10) = false := rfl
                    clear HQ HQ7 B7 own7
                    go_wp2_with (at_builtin; refine wpList_append_1 rfl _ _ 48 rfl w.heap.size 55 j0 _ 2 24 Tryd.underlying48 hj0 hy0 hy1 hy2 (by rfl) (by omega) (by rfl) (OW7.out _) (g := w7.heap.size) (cs := #[.string (strOfNums x), .int .i64 i]) (by rfl) (Bk.new _ _ _) (by rfl) (fnd_one _ _) (by omega) (by omega) (BS7.out _) ?_)
                    intro A8 c8 w8 k1 k2 _
                    obtain ⟨hu, hu0, t8, nx⟩ := KN.out A8 c8 w8 _ (by rw [List.flatMap_append, List.append_assoc]; exact k1) k2
                    obtain ⟨R2, k2', hs2, t9⟩ := cut_lt t8 u hu
                    have NR := Lib.hid (nx R2 k2' t9)
                    clear k1 k2 t8 nx t9 KN OW7 BS7 kc H7
                    go_wp2_with fail
                    go_roundw
                    case rel => exact ⟨A8, n6 + 1, c8, R2, r - u, k2', b'.drop u, xs ++ [x], by go_num, by go_num, by go_num, by go_num, by go_num, NR.out⟩
                    case measure => simp [lenV]; omega
                  · have hne0 : ((e0 : Int) != 0) = true := by simp; omega
                    have e6 := HQ7.out.bad H0.out HO.out he0 HE10.out
                    rw [e6] at NX LS OKB
                    have E := Lib.hid (LS.out (by first | rfl | trivial))
                    have RR := Lib.hid (HQ7.out.two.end_ HQ7.out.bel OKB.out.2)
                    clear e6 he0 HQ HQ7 NX LS HS H7
                    go_wp2_with fail
                    go_ret
                    rw [E.out]
                    exact RR.out
          | true =>
            obtain ⟨hbne, hlw, hfr⟩ := HR.out.und.2 rfl
            subst hlw
            have hm1 : 0 < m := by
              rcases Nat.eq_zero_or_pos m with q | q
              · exact absurd (List.eq_nil_of_length_eq_zero (by omega)) hbne
              · exact q
            obtain ⟨x, u, e0, hO⟩ : ∃ x u e0, openF (s.beg ++ dl.take k) = (x, u, e0) := ⟨_, _, _, rfl⟩
            have hxl : (s.beg ++ dl.take k).length = m + k := by rw [List.length_append, List.length_take, hm0]; omega
            have hH : headF s (dl.take k) = if e0 = 10 then (⟨s.out, s.beg ++ dl.take k, s.frm⟩, true) else if e0 = 0 ∧ u = m + k then (⟨s.out ++ [(x, s.frm)], [], s.frm⟩, true) else (s, false) := by
              unfold headF
              rw [if_neg hbne, hO, hxl]
            have OKH := Lib.hid (headF_ok (h := dl.take k) HR.out.ok (hdrng.take _))
            have hbg := HR.out.beg
            have hnu := HR.out.num
            have HOH := Lib.hid (headF_len (s := s) (h := dl.take k))
            have HW := HW2.out.way
            have HBS := HB2.out.size
            have hu : e0 = 0 → u ≤ m + k := fun e => by
              subst e
              rw [← hxl]
              exact (openF_ok (HR.out.ok.1.app (hdrng.take _)) hO).1
            have GO := Lib.hid (fun B' d' w' k1 k2 => @Two8.go w.heap.size W2 w' A2 n2 c2 s.out B B' m (m + k) d d' s.beg (dl.take k) HW2.out k1 k2 (hdrng.take _) HBS)
            have DD := Lib.hid (fun (w' : World) (k2 : W2.grownBy w' (Value.slice B m d).ownBlock) => HT2.out.stay (w' := w') (fun a ha => k2.block _ (HT2.out.ty.lt a ha) (fun e => by injection ha with ha; subst ha; exact Nat.lt_irrefl _ (HLW.out _ e.symm))))
            have HH := Lib.hid hH
            have HO := Lib.hid hO
            have HBN := Lib.hid hbne
            have HFR := Lib.hid hfr
            have HBX := Lib.hid (show Below w.heap.size w W2 from HB2.out)
            clear hH hO hbne hfr HW2 HT2 HLW HB2
            go_wp2_with (at_builtin; refine wpList_append_byt rfl _ _ 24 rfl w.heap.size 5 i0 Tryd.underlying24 hi hz0 hz1 hz2 _ m s.beg rfl (by exact HW) HA k HCc (dl.take k) rfl HHB.out (by omega) HBS ?_)
            intro B3 d3 w3 k1 k2
            obtain ⟨t3, bel3⟩ := GO.out B3 d3 w3 (by rw [List.map_append, List.map_take]; exact k1) k2
            have T3 := Lib.hid t3
            have D3 := Lib.hid (DD.out w3 k2)
            have L3 := Lib.hid (HBX.out.trans bel3)
            have CO := Lib.hid (refOpen_any B3 (m + k) d3 (s.beg ++ dl.take k) w3 (Byt.of_own t3.way t3.rng) (Nat.lt_of_lt_of_le hw0 L3.out.size) (by omega) x u e0 HO.out)
            clear k1 k2 t3 bel3 GO DD HW HHB HBX
            go_wp2_with fail
            refine CO.out.mono ?_
            rintro e w4 ⟨A4, n4, c4, rfl, hb4, b4⟩
            have T4 := Lib.hid (T3.out.below b4)
            have D4 := Lib.hid (D3.out.below b4)
            have L4 := Lib.hid (L3.out.trans (b4.mono L3.out.size))
            have H4 := Lib.hid hb4
            clear b4 hb4 CO T3 D3 L3
            by_cases he10 : e0 = 10
            · subst he10
              have hne : ((10 : Int) == 0) = false := rfl
              have hH := HH.out
              rw [if_pos rfl] at hH
              rw [hH] at OKH HOH SF0
              have hsf : sheetF s i xf dl = bodsF (⟨s.out, s.beg ++ dl.take k, s.frm⟩ : Fs) (dl.drop k) i := SF0.out
              obtain ⟨s1, hs1⟩ : ∃ s1, (⟨s.out, s.beg ++ dl.take k, s.frm⟩ : Fs) = s1 := ⟨_, rfl⟩
              have T5 : Hid (Two8 w.heap.size w4 A2 n2 c2 s1.out B3 (m + k) d3 (s.beg ++ dl.take k)) := Lib.hid (by rw [← hs1]; exact T4.out)
              have NUM : Hid (s1.out.length ≤ 243 * i + 1) := Lib.hid (by have := HOH.out.2; rw [← hs1]; simp only at this ⊢; omega)
              have UD : Hid ((true = false → s1.beg = []) ∧ (true = true → s1.beg ≠ [] ∧ (s.beg ++ dl.take k) = s1.beg ∧ frm = s1.frm)) := Lib.hid ⟨fun e => (by cases e), fun _ => by rw [← hs1]; exact ⟨by have := HBN.out; simp [this], rfl, HFR.out⟩⟩
              have OK5 : Hid s1.Ok := Lib.hid (by rw [← hs1]; exact OKH.out)
              rw [hs1] at hsf
              have SF := Lib.hid hsf
              have HB5 := L4
              have D5 := D4
              clear hH hs1 hsf SF0 HH HO OKH HOH T4 D4 L4 H4 HBN HFR hu
              obtain ⟨BR, dR, hsR, tR⟩ := cut_lt D5.out k (by omega)
              have Q0 : Hid (RbRel w s1 (dl.drop k) i w4 A2 n2 c2 B3 (m + k) d3 (s.beg ++ dl.take k) BR (xd.size - k) dR (dl.drop k) []) := Lib.hid ⟨by simpa using T5.out, HB5.out, tR, rfl, by have := NUM.out; simp; omega⟩
              have OKB := Lib.hid (bodsF_ok (s := s1) (b := dl.drop k) i OK5.out (hdrng.drop k))
              have e5 : sheetF s i xf dl = bodsF s1 (dl.drop k) i := SF.out
              rw [e5] at NX LS
              clear e5 tR T5 D5 HR
              go_wp2_with fail
              go_loopw [3, 4, 5, 6, 14] (fun o y z v rr wq => ∃ (A6 : Option Addr) (n6 c6 : Nat) (R : Option Addr) (r k6 : Nat) (b' : List Int) (xs : List (List Int)), o = .slice A6 n6 c6 ∧ y = .slice B3 (m + k) d3 ∧ z = .int .i64 frm ∧ v = .bool false ∧ rr = .slice R r k6 ∧ RbRel w s1 (dl.drop k) i wq A6 n6 c6 B3 (m + k) d3 (s.beg ++ dl.take k) R r k6 b' xs) (fun _ _ _ _ rr _ => lenV rr)
              case atStart => exact ⟨A2, n2, c2, BR, xd.size - k, dR, dl.drop k, [], by go_num, by go_num, by go_num, by go_num, by go_num, Q0.out⟩
              case round =>
                obtain ⟨A6, n6, c6, R, r, k6, b', xs, rfl, rfl, rfl, rfl, rfl, Q⟩ := hrel
                have HQ := Lib.hid Q
                have hrl : b'.length = r := Q.bty.byt.len
                have hrc := Q.bty.byt.cap
                have hrm := Q.bty.byt.max
                unfold maxLen at hrm
                clear Q Q0
                by_cases h0 : b' = []
                · subst h0
                  have hr0 : r = 0 := by simpa using hrl.symm
                  subst hr0
                  have e6 := HQ.out.stop
                  rw [e6] at NX LS
                  have N := Lib.hid (NX.out _ A6 n6 c6 B3 (m + k) d3 (s.beg ++ dl.take k) frm false (by first | rfl | trivial) HQ.out.two HQ.out.bel ⟨fun _ => rfl, fun e => (by cases e)⟩)
                  clear e6 NX LS HQ HS
                  go_wp2_with fail
                  go_roundw
                  case rel => exact ⟨i + 1, _, A6, n6, c6, B3, (m + k), d3, (s.beg ++ dl.take k), frm, false, by omega, by go_num, by go_num, by go_num, by go_num, by go_num, N.out⟩
                  case measure => simp [intOf]; omega
                · have hpos : (0 : Int) < (r : Int) := by
                    rcases Nat.eq_zero_or_pos r with q | q
                    · exact absurd (List.eq_nil_of_length_eq_zero (by omega)) h0
                    · omega
                  obtain ⟨x, u, e0, hO⟩ : ∃ x u e0, openF b' = (x, u, e0) := ⟨_, _, _, rfl⟩
                  have hnm := HQ.out.num
                  have CO := Lib.hid (refOpen_any R r k6 b' wr HQ.out.bty.byt (Nat.lt_of_lt_of_le hw0 HQ.out.bel.size) (by omega) x u e0 hO)
                  have HO := Lib.hid hO
                  have H0 := Lib.hid h0
                  clear hO h0
                  go_wp2_with fail
                  refine CO.out.mono ?_
                  rintro e w7 ⟨A7, n7, c7, rfl, hb7, b7⟩
                  have HQ7 := Lib.hid (HQ.out.below b7)
                  have B7 := Lib.hid b7
                  have H7 := Lib.hid hb7
                  clear b7 CO hb7
                  by_cases he10 : e0 = 10
                  · subst he10
                    have e6 := HQ7.out.short H0.out HO.out
                    rw [e6] at NX LS
                    have hown0 := World.ownsRow_made (base := w7.heap.size) (e := 5) (size := 1) w7 #[] 0 (Nat.le_refl _) (Nat.zero_le _) rfl
                    have HBB := HQ7.out.bty.byt.alloc (.cells #[] 5)
                    clear e6 HQ H7
                    go_wp2_with (at_builtin; refine wpList_append_byt rfl _ _ 24 rfl w7.heap.size 5 i0 Tryd.underlying24 hi hz0 hz1 hz2 _ 0 [] rfl (by exact hown0) R r k6 b' rfl HBB (by omega) (by simp) ?_)
                    intro B8 d8 w8 k1 k2
                    have bel8 : Below w7.heap.size w7 w8 := ((Below.refl _ _).alloc (Nat.le_refl _) _).grown k2 (by simp) (fun q hq => by simp [Value.ownBlock] at hq; omega)
                    have T8 := HQ7.out.two.below bel8
                    have own8 : w8.ownsRow w.heap.size 5 1 (.slice B8 (0 + r) d8) (0 + r) (b'.map (Value.int .u8)) := own_base (by simpa using k1) HQ7.out.bel.size
                    rw [Nat.zero_add] at own8
                    have N := Lib.hid (NX.out w8 A6 n6 c6 B8 r d8 b' i true (by first | rfl | trivial) ⟨T8.own, T8.len, own8, HQ7.out.bty.byt.rng⟩ (HQ7.out.bel.trans (bel8.mono HQ7.out.bel.size)) ⟨fun e => (by cases e), fun _ => ⟨H0.out, rfl, rfl⟩⟩)
                    clear k1 k2 bel8 T8 own8 NX LS HQ7 HBB hown0 HS
                    go_wp2_with fail
                    go_roundw
                    case rel => exact ⟨i + 1, _, A6, n6, c6, B8, r, d8, b', i, true, by omega, by go_num, by go_num, by go_num, by go_num, by go_num, N.out⟩
                    case measure => simp [intOf]; omega
                  · have hne : ((e0 : Int) == 10) = false := by simp; omega
                    have HE10 := Lib.hid he10
                    clear he10
                    by_cases he0 : e0 = 0
                    · subst he0
                      have kc := conv_byt H7.out
                      have hnum' : n6 ≤ 900000 := by have := HQ7.out.two.len; simp at this; omega
                      have own7 := HQ7.out.two.own
                      have OW7 : Hid (∀ o, (w7.alloc o).ownsRow w.heap.size 55 2 (.slice A6 n6 c6) n6 ((s1.out ++ xs.map (fun x => (x, (i : Int)))).flatMap fndC)) := Lib.hid (fun o => own_stay own7 (fun q hq => ((Below.refl w7.heap.size w7).alloc (Nat.le_refl _) o).block q (own7.lt q hq).2))
                      have BS7 : Hid (∀ o, w.heap.size ≤ (w7.alloc o).heap.size) := Lib.hid (fun o => Nat.le_trans HQ7.out.bel.size (by simp))
                      have KN := Lib.hid (fun A' c' w' o q1 q2 => HQ.out.next (w4 := w7.alloc o) (A' := A') (c' := c') (w' := w') H0.out HO.out (B7.out.trans ((((Below.refl w7.heap.size w7).alloc (Nat.le_refl _) o)).mono B7.out.size)) q1 q2)
                      have hne : ((0 : Int) == 10) = false := rfl
                      clear HQ HQ7 B7 own7
                      go_wp2_with (at_builtin; refine wpList_append_1 rfl _ _ 48 rfl w.heap.size 55 j0 _ 2 24 Tryd.underlying48 hj0 hy0 hy1 hy2 (by rfl) (by omega) (by rfl) (OW7.out _) (g := w7.heap.size) (cs := #[.string (strOfNums x), .int .i64 i]) (by rfl) (Bk.new _ _ _) (by rfl) (fnd_one _ _) (by omega) (by omega) (BS7.out _) ?_)
                      intro A8 c8 w8 k1 k2 _
                      obtain ⟨hu, hu0, t8, nx⟩ := KN.out A8 c8 w8 _ (by rw [List.flatMap_append, List.append_assoc]; exact k1) k2
                      obtain ⟨R2, k2', hs2, t9⟩ := cut_lt t8 u hu
                      have NR := Lib.hid (nx R2 k2' t9)
                      clear k1 k2 t8 nx t9 KN OW7 BS7 kc H7
                      go_wp2_with fail
                      go_roundw
                      case rel => exact ⟨A8, n6 + 1, c8, R2, r - u, k2', b'.drop u, xs ++ [x], by go_num, by go_num, by go_num, by go_num, by go_num, NR.out⟩
                      case measure => simp [lenV]; omega
                    · have hne0 : ((e0 : Int) != 0) = true := by simp; omega
                      have e6 := HQ7.out.bad H0.out HO.out he0 HE10.out
                      rw [e6] at NX LS OKB
                      have E := Lib.hid (LS.out (by first | rfl | trivial))
                      have RR := Lib.hid (HQ7.out.two.end_ HQ7.out.bel OKB.out.2)
                      clear e6 he0 HQ HQ7 NX LS HS H7
                      go_wp2_with fail
                      go_ret
                      rw [E.out]
                      exact RR.out
            · have hne10 : ((e0 : Int) != 10) = true := by simp; omega
              have HE10 := Lib.hid he10
              clear he10
              by_cases hgood : e0 = 0 ∧ u = m + k
              · obtain ⟨rfl, rfl⟩ := hgood
                have hH := HH.out
                rw [if_neg (by omega), if_pos ⟨rfl, rfl⟩] at hH
                rw [hH] at OKH HOH SF0
                have hsf : sheetF s i xf dl = bodsF (⟨s.out ++ [(x, s.frm)], [], s.frm⟩ : Fs) (dl.drop k) i := SF0.out
                have kc := conv_byt H4.out
                have hnum' : n2 ≤ 900000 := by have := T4.out.len; omega
                have own7 := T4.out.own
                have OW7 : Hid (∀ o, (w4.alloc o).ownsRow w.heap.size 55 2 (.slice A2 n2 c2) n2 (s.out.flatMap fndC)) := Lib.hid (fun o => own_stay own7 (fun q hq => ((Below.refl w4.heap.size w4).alloc (Nat.le_refl _) o).block q (own7.lt q hq).2))
                have BS7 : Hid (∀ o, w.heap.size ≤ (w4.alloc o).heap.size) := Lib.hid (fun o => Nat.le_trans L4.out.size (by simp))
                have hfe := HFR.out
                subst hfe
                have KN := Lib.hid (fun A' c' w' o q1 q2 => T4.out.more (w2 := w4.alloc o) (A' := A') (c' := c') (w' := w') (x := x) (i := s.frm) ((Below.refl w4.heap.size w4).alloc (Nat.le_refl _) o) q1 q2 L4.out.size)
                obtain ⟨sf, hsf'⟩ : ∃ sf, s.frm = sf := ⟨_, rfl⟩
                have HSF := Lib.hid hsf'
                rw [hsf'] at KN
                rw [hsf'] at hsf OKH HOH
                (try rw [hsf'])
                clear own7 hH HH HO H4
                go_wp2_with (at_builtin; refine wpList_append_1 rfl _ _ 48 rfl w.heap.size 55 j0 _ 2 24 Tryd.underlying48 hj0 hy0 hy1 hy2 (by rfl) (by omega) (by rfl) (OW7.out _) (g := w4.heap.size) (cs := #[.string (strOfNums x), .int .i64 sf]) (by rfl) (Bk.new _ _ _) (by rfl) (fnd_one _ _) (by omega) (by omega) (BS7.out _) ?_)
                intro A8 c8 w8 k1 k2 _
                obtain ⟨t8, b8, dd8⟩ := KN.out A8 c8 w8 _ k1 k2
                obtain ⟨s1, hs1⟩ : ∃ s1, (⟨s.out ++ [(x, sf)], [], sf⟩ : Fs) = s1 := ⟨_, rfl⟩
                have T5 : Hid (Two8 w.heap.size w8 A8 (n2 + 1) c8 s1.out B3 (m + k) d3 (s.beg ++ dl.take k)) := Lib.hid (by rw [← hs1]; exact t8)
                have NUM : Hid (s1.out.length ≤ 243 * i + 1) := Lib.hid (by have := HOH.out.2; rw [← hs1]; simp only at this ⊢; omega)
                have UD : Hid ((false = false → s1.beg = []) ∧ (false = true → s1.beg ≠ [] ∧ (s.beg ++ dl.take k) = s1.beg ∧ sf = s1.frm)) := Lib.hid ⟨fun _ => by rw [← hs1], fun e => (by cases e)⟩
                have OK5 : Hid s1.Ok := Lib.hid (by rw [← hs1]; exact OKH.out)
                rw [hs1] at hsf
                have SF := Lib.hid hsf
                have HB5 := Lib.hid (L4.out.trans b8)
                have D5 := Lib.hid (dd8 _ _ _ _ D4.out)
                clear k1 k2 t8 b8 dd8 hs1 hsf hsf' HSF SF0 KN OW7 BS7 OKH HOH T4 D4 L4 HBN HFR hu kc
                obtain ⟨BR, dR, hsR, tR⟩ := cut_lt D5.out k (by omega)
                have Q0 : Hid (RbRel w s1 (dl.drop k) i w8 A8 (n2 + 1) c8 B3 (m + k) d3 (s.beg ++ dl.take k) BR (xd.size - k) dR (dl.drop k) []) := Lib.hid ⟨by simpa using T5.out, HB5.out, tR, rfl, by have := NUM.out; simp; omega⟩
                have OKB := Lib.hid (bodsF_ok (s := s1) (b := dl.drop k) i OK5.out (hdrng.drop k))
                have e5 : sheetF s i xf dl = bodsF s1 (dl.drop k) i := SF.out
                rw [e5] at NX LS
                clear e5 tR T5 D5 HR
                go_wp2_with fail
                go_loopw [3, 4, 5, 6, 14] (fun o y z v rr wq => ∃ (A6 : Option Addr) (n6 c6 : Nat) (R : Option Addr) (r k6 : Nat) (b' : List Int) (xs : List (List Int)), o = .slice A6 n6 c6 ∧ y = .slice B3 (m + k) d3 ∧ z = .int .i64 sf ∧ v = .bool false ∧ rr = .slice R r k6 ∧ RbRel w s1 (dl.drop k) i wq A6 n6 c6 B3 (m + k) d3 (s.beg ++ dl.take k) R r k6 b' xs) (fun _ _ _ _ rr _ => lenV rr)
                case atStart => exact ⟨A8, (n2 + 1), c8, BR, xd.size - k, dR, dl.drop k, [], by go_num, by go_num, by go_num, by go_num, by go_num, Q0.out⟩
                case round =>
                  obtain ⟨A6, n6, c6, R, r, k6, b', xs, rfl, rfl, rfl, rfl, rfl, Q⟩ := hrel
                  have HQ := Lib.hid Q
                  have hrl : b'.length = r := Q.bty.byt.len
                  have hrc := Q.bty.byt.cap
                  have hrm := Q.bty.byt.max
                  unfold maxLen at hrm
                  clear Q Q0
                  by_cases h0 : b' = []
                  · subst h0
                    have hr0 : r = 0 := by simpa using hrl.symm
                    subst hr0
                    have e6 := HQ.out.stop
                    rw [e6] at NX LS
                    have N := Lib.hid (NX.out _ A6 n6 c6 B3 (m + k) d3 (s.beg ++ dl.take k) sf false (by first | rfl | trivial) HQ.out.two HQ.out.bel ⟨fun _ => rfl, fun e => (by cases e)⟩)
                    clear e6 NX LS HQ HS
                    go_wp2_with fail
                    go_roundw
                    case rel => exact ⟨i + 1, _, A6, n6, c6, B3, (m + k), d3, (s.beg ++ dl.take k), sf, false, by omega, by go_num, by go_num, by go_num, by go_num, by go_num, N.out⟩
                    case measure => simp [intOf]; omega
                  · have hpos : (0 : Int) < (r : Int) := by
                      rcases Nat.eq_zero_or_pos r with q | q
                      · exact absurd (List.eq_nil_of_length_eq_zero (by omega)) h0
                      · omega
                    obtain ⟨x, u, e0, hO⟩ : ∃ x u e0, openF b' = (x, u, e0) := ⟨_, _, _, rfl⟩
                    have hnm := HQ.out.num
                    have CO := Lib.hid (refOpen_any R r k6 b' wr HQ.out.bty.byt (Nat.lt_of_lt_of_le hw0 HQ.out.bel.size) (by omega) x u e0 hO)
                    have HO := Lib.hid hO
                    have H0 := Lib.hid h0
                    clear hO h0
                    go_wp2_with fail
                    refine CO.out.mono ?_
                    rintro e w7 ⟨A7, n7, c7, rfl, hb7, b7⟩
                    have HQ7 := Lib.hid (HQ.out.below b7)
                    have B7 := Lib.hid b7
                    have H7 := Lib.hid hb7
                    clear b7 CO hb7
                    by_cases he10 : e0 = 10
                    · subst he10
                      have e6 := HQ7.out.short H0.out HO.out
                      rw [e6] at NX LS
                      have hown0 := World.ownsRow_made (base := w7.heap.size) (e := 5) (size := 1) w7 #[] 0 (Nat.le_refl _) (Nat.zero_le _) rfl
                      have HBB := HQ7.out.bty.byt.alloc (.cells #[] 5)
                      clear e6 HQ H7
                      go_wp2_with (at_builtin; refine wpList_append_byt rfl _ _ 24 rfl w7.heap.size 5 i0 Tryd.underlying24 hi hz0 hz1 hz2 _ 0 [] rfl (by exact hown0) R r k6 b' rfl HBB (by omega) (by simp) ?_)
                      intro B9 d9 w9 k1 k2
                      have bel8 : Below w7.heap.size w7 w9 := ((Below.refl _ _).alloc (Nat.le_refl _) _).grown k2 (by simp) (fun q hq => by simp [Value.ownBlock] at hq; omega)
                      have T8 := HQ7.out.two.below bel8
                      have own8 : w9.ownsRow w.heap.size 5 1 (.slice B9 (0 + r) d9) (0 + r) (b'.map (Value.int .u8)) := own_base (by simpa using k1) HQ7.out.bel.size
                      rw [Nat.zero_add] at own8
                      have N := Lib.hid (NX.out w9 A6 n6 c6 B9 r d9 b' i true (by first | rfl | trivial) ⟨T8.own, T8.len, own8, HQ7.out.bty.byt.rng⟩ (HQ7.out.bel.trans (bel8.mono HQ7.out.bel.size)) ⟨fun e => (by cases e), fun _ => ⟨H0.out, rfl, rfl⟩⟩)
                      clear k1 k2 bel8 T8 own8 NX LS HQ7 HBB hown0 HS
                      go_wp2_with fail
                      go_roundw
                      case rel => exact ⟨i + 1, _, A6, n6, c6, B9, r, d9, b', i, true, by omega, by go_num, by go_num, by go_num, by go_num, by go_num, N.out⟩
                      case measure => simp [intOf]; omega
                    · have hne : ((e0 : Int) == 10) = false := by simp; omega
                      have HE10 := Lib.hid he10
                      clear he10
                      by_cases he0 : e0 = 0
                      · subst he0
                        have kc := conv_byt H7.out
                        have hnum' : n6 ≤ 900000 := by have := HQ7.out.two.len; simp at this; omega
                        have own7 := HQ7.out.two.own
                        have OW7 : Hid (∀ o, (w7.alloc o).ownsRow w.heap.size 55 2 (.slice A6 n6 c6) n6 ((s1.out ++ xs.map (fun x => (x, (i : Int)))).flatMap fndC)) := Lib.hid (fun o => own_stay own7 (fun q hq => ((Below.refl w7.heap.size w7).alloc (Nat.le_refl _) o).block q (own7.lt q hq).2))
                        have BS7 : Hid (∀ o, w.heap.size ≤ (w7.alloc o).heap.size) := Lib.hid (fun o => Nat.le_trans HQ7.out.bel.size (by simp))
                        have KN := Lib.hid (fun A' c' w' o q1 q2 => HQ.out.next (w4 := w7.alloc o) (A' := A') (c' := c') (w' := w') H0.out HO.out (B7.out.trans ((((Below.refl w7.heap.size w7).alloc (Nat.le_refl _) o)).mono B7.out.size)) q1 q2)
                        have hne : ((0 : Int) == 10) = false := rfl
                        clear HQ HQ7 B7 own7
                        go_wp2_with (at_builtin; refine wpList_append_1 rfl _ _ 48 rfl w.heap.size 55 j0 _ 2 24 Tryd.underlying48 hj0 hy0 hy1 hy2 (by rfl) (by omega) (by rfl) (OW7.out _) (g := w7.heap.size) (cs := #[.string (strOfNums x), .int .i64 i]) (by rfl) (Bk.new _ _ _) (by rfl) (fnd_one _ _) (by omega) (by omega) (BS7.out _) ?_)
                        intro A9 c9 w9 k1 k2 _
                        obtain ⟨hu, hu0, t8, nx⟩ := KN.out A9 c9 w9 _ (by rw [List.flatMap_append, List.append_assoc]; exact k1) k2
                        obtain ⟨R2, k2', hs2, t9⟩ := cut_lt t8 u hu
                        have NR := Lib.hid (nx R2 k2' t9)
                        clear k1 k2 t8 nx t9 KN OW7 BS7 kc H7
                        go_wp2_with fail
                        go_roundw
                        case rel => exact ⟨A9, n6 + 1, c9, R2, r - u, k2', b'.drop u, xs ++ [x], by go_num, by go_num, by go_num, by go_num, by go_num, NR.out⟩
                        case measure => simp [lenV]; omega
                      · have hne0 : ((e0 : Int) != 0) = true := by simp; omega
                        have e6 := HQ7.out.bad H0.out HO.out he0 HE10.out
                        rw [e6] at NX LS OKB
                        have E := Lib.hid (LS.out (by first | rfl | trivial))
                        have RR := Lib.hid (HQ7.out.two.end_ HQ7.out.bel OKB.out.2)
                        clear e6 he0 HQ HQ7 NX LS HS H7
                        go_wp2_with fail
                        go_ret
                        rw [E.out]
                        exact RR.out
              · have hH := HH.out
                rw [if_neg HE10.out, if_neg hgood] at hH
                rw [hH] at OKH SF0
                have hsf : sheetF s i xf dl = (s, false) := SF0.out
                rw [hsf] at LS
                have E := Lib.hid (LS.out (by first | rfl | trivial))
                have RR := Lib.hid (T4.out.end_ L4.out OKH.out.2)
                clear hH HH hsf SF0 NX LS HS HR T4 D4 L4 H4 HO OKH HOH
                by_cases he0 : e0 = 0
                · subst he0
                  have hune : ((u : Int) == (m : Int) + ((k : Nat) : Int)) = false := by
                    have : u ≠ m + k := fun q => hgood ⟨rfl, q⟩
                    simp
                    omega
                  have hne10 : ((0 : Int) != 10) = true := rfl
                  clear hgood hu
                  go_wp2_with fail
                  go_ret
                  rw [E.out]
                  exact RR.out
                · have hne0 : ((e0 : Int) == 0) = false := by simp; omega
                  clear hgood hu he0
                  go_wp2_with fail
                  go_ret
                  rw [E.out]
                  exact RR.out
        · have hkq : ((k : Int) == (xd.size : Int)) = true := by simp; omega
          have hkq2 : ((k : Int) != (xd.size : Int)) = false := by simp; omega
          clear hks
          cases und with
          | false =>
            have hb0 := HR.out.und.1 rfl
            have hH : headF s (dl.take k) = (s, true) := by unfold headF; rw [if_pos hb0]
            have SF : Hid (sheetF s i xf dl = bodsF s (dl.drop k) i) := Lib.hid (by rw [SF0.out, hH]; rfl)
            have T5 := HW2
            have HB5 := HB2
            have D5 := HT2
            have OK5 := Lib.hid HR.out.ok
            have NUM : Hid (s.out.length ≤ 243 * i) := Lib.hid HR.out.num
            have UD : Hid ((false = false → s.beg = []) ∧ (false = true → s.beg ≠ [] ∧ lw = s.beg ∧ frm = s.frm)) := Lib.hid ⟨fun _ => hb0, fun e => (by cases e)⟩
            clear hb0 hH SF0 HW2 HB2 HT2 HLW
            obtain ⟨BR, dR, hsR, tR⟩ := cut_lt D5.out k (by omega)
            have Q0 : Hid (RbRel w s (dl.drop k) i W2 A2 n2 c2 B m d lw BR (xd.size - k) dR (dl.drop k) []) := Lib.hid ⟨by simpa using T5.out, HB5.out, tR, rfl, by have := NUM.out; simp; omega⟩
            have OKB := Lib.hid (bodsF_ok (s := s) (b := dl.drop k) i OK5.out (hdrng.drop k))
            have e5 : sheetF s i xf dl = bodsF s (dl.drop k) i := SF.out
            rw [e5] at NX LS
            clear e5 tR T5 D5 HR
            go_wp2_with fail
            go_loopw [3, 4, 5, 6, 14] (fun o y z v rr wq => ∃ (A6 : Option Addr) (n6 c6 : Nat) (R : Option Addr) (r k6 : Nat) (b' : List Int) (xs : List (List Int)), o = .slice A6 n6 c6 ∧ y = .slice B m d ∧ z = .int .i64 frm ∧ v = .bool false ∧ rr = .slice R r k6 ∧ RbRel w s (dl.drop k) i wq A6 n6 c6 B m d lw R r k6 b' xs) (fun _ _ _ _ rr _ => lenV rr)
            case atStart => exact ⟨A2, n2, c2, BR, xd.size - k, dR, dl.drop k, [], by go_num, by go_num, by go_num, by go_num, by go_num, Q0.out⟩
            case round =>
              obtain ⟨A6, n6, c6, R, r, k6, b', xs, rfl, rfl, rfl, rfl, rfl, Q⟩ := hrel
              have HQ := Lib.hid Q
              have hrl : b'.length = r := Q.bty.byt.len
              have hrc := Q.bty.byt.cap
              have hrm := Q.bty.byt.max
              unfold maxLen at hrm
              clear Q Q0
              by_cases h0 : b' = []
              · subst h0
                have hr0 : r = 0 := by simpa using hrl.symm
                subst hr0
                have e6 := HQ.out.stop
                rw [e6] at NX LS
                have N := Lib.hid (NX.out _ A6 n6 c6 B m d lw frm false (by first | rfl | trivial) HQ.out.two HQ.out.bel ⟨fun _ => rfl, fun e => (by cases e)⟩)
                clear e6 NX LS HQ HS
                go_wp2_with fail
                go_roundw
                case rel => exact ⟨i + 1, _, A6, n6, c6, B, m, d, lw, frm, false, by omega, by go_num, by go_num, by go_num, by go_num, by go_num, N.out⟩
                case measure => simp [intOf]; omega
              · have hpos : (0 : Int) < (r : Int) := by
                  rcases Nat.eq_zero_or_pos r with q | q
                  · exact absurd (List.eq_nil_of_length_eq_zero (by omega)) h0
                  · omega
                obtain ⟨x, u, e0, hO⟩ : ∃ x u e0, openF b' = (x, u, e0) := ⟨_, _, _, rfl⟩
                have hnm := HQ.out.num
                have CO := Lib.hid (refOpen_any R r k6 b' wr HQ.out.bty.byt (Nat.lt_of_lt_of_le hw0 HQ.out.bel.size) (by omega) x u e0 hO)
                have HO := Lib.hid hO
                have H0 := Lib.hid h0
                clear hO h0
                go_wp2_with fail
                refine CO.out.mono ?_
                rintro e w7 ⟨A7, n7, c7, rfl, hb7, b7⟩
                have HQ7 := Lib.hid (HQ.out.below b7)
                have B7 := Lib.hid b7
                have H7 := Lib.hid hb7
                clear b7 CO hb7
                by_cases he10 : e0 = 10
                · subst he10
                  have e6 := HQ7.out.short H0.out HO.out
                  rw [e6] at NX LS
                  have hown0 := World.ownsRow_made (base := w7.heap.size) (e := 5) (size := 1) w7 #[] 0 (Nat.le_refl _) (Nat.zero_le _) rfl
                  have HBB := HQ7.out.bty.byt.alloc (.cells #[] 5)
                  clear e6 HQ H7
                  go_wp2_with (at_builtin; refine wpList_append_byt rfl _ _ 24 rfl w7.heap.size 5 i0 Tryd.underlying24 hi hz0 hz1 hz2 _ 0 [] rfl (by exact hown0) R r k6 b' rfl HBB (by omega) (by simp) ?_)
                  intro B8 d8 w8 k1 k2
                  have bel8 : Below w7.heap.size w7 w8 := ((Below.refl _ _).alloc (Nat.le_refl _) _).grown k2 (by simp) (fun q hq => by simp [Value.ownBlock] at hq; omega)
                  have T8 := HQ7.out.two.below bel8
                  have own8 : w8.ownsRow w.heap.size 5 1 (.slice B8 (0 + r) d8) (0 + r) (b'.map (Value.int .u8)) := own_base (by simpa using k1) HQ7.out.bel.size
                  rw [Nat.zero_add] at own8
                  have N := Lib.hid (NX.out w8 A6 n6 c6 B8 r d8 b' i true (by first | rfl | trivial) ⟨T8.own, T8.len, own8, HQ7.out.bty.byt.rng⟩ (HQ7.out.bel.trans (bel8.mono HQ7.out.bel.size)) ⟨fun e => (by cases e), fun _ => ⟨H0.out, rfl, rfl⟩⟩)
                  clear k1 k2 bel8 T8 own8 NX LS HQ7 HBB hown0 HS
                  go_wp2_with fail
                  go_roundw
                  case rel => exact ⟨i + 1, _, A6, n6, c6, B8, r, d8, b', i, true, by omega, by go_num, by go_num, by go_num, by go_num, by go_num, N.out⟩
                  case measure => simp [intOf]; omega
                · have hne : ((e0 : Int) == 10) = false := by simp; omega
                  have HE10 := Lib.hid he10
                  clear he10
                  by_cases he0 : e0 = 0
                  · subst he0
                    have kc := conv_byt H7.out
                    have hnum' : n6 ≤ 900000 := by have := HQ7.out.two.len; simp at this; omega
                    have own7 := HQ7.out.two.own
                    have OW7 : Hid (∀ o, (w7.alloc o).ownsRow w.heap.size 55 2 (.slice A6 n6 c6) n6 ((s.out ++ xs.map (fun x => (x, (i : Int)))).flatMap fndC)) := Lib.hid (fun o => own_stay own7 (fun q hq => ((Below.refl w7.heap.size w7).alloc (Nat.le_refl _) o).block q (own7.lt q hq).2))
                    have BS7 : Hid (∀ o, w.heap.size ≤ (w7.alloc o).heap.size) := Lib.hid (fun o => Nat.le_trans HQ7.out.bel.size (by simp))
                    have KN := Lib.hid (fun A' c' w' o q1 q2 => HQ.out.next (w4 := w7.alloc o) (A' := A') (c' := c') (w' := w') H0.out HO.out (B7.out.trans ((((Below.refl w7.heap.size w7).alloc (Nat.le_refl _) o)).mono B7.out.size)) q1 q2)
                    have hne : ((0 : Int) == 10) = false := rfl
                    clear HQ HQ7 B7 own7
                    go_wp2_with (at_builtin; refine wpList_append_1 rfl _ _ 48 rfl w.heap.size 55 j0 _ 2 24 Tryd.underlying48 hj0 hy0 hy1 hy2 (by rfl) (by omega) (by rfl) (OW7.out _) (g := w7.heap.size) (cs := #[.string (strOfNums x), .int .i64 i]) (by rfl) (Bk.new _ _ _) (by rfl) (fnd_one _ _) (by omega) (by omega) (BS7.out _) ?_)
                    intro A8 c8 w8 k1 k2 _
                    obtain ⟨hu, hu0, t8, nx⟩ := KN.out A8 c8 w8 _ (by rw [List.flatMap_append, List.append_assoc]; exact k1) k2
                    obtain ⟨R2, k2', hs2, t9⟩ := cut_lt t8 u hu
                    have NR := Lib.hid (nx R2 k2' t9)
                    clear k1 k2 t8 nx t9 KN OW7 BS7 kc H7
                    go_wp2_with fail
                    go_roundw
                    case rel => exact ⟨A8, n6 + 1, c8, R2, r - u, k2', b'.drop u, xs ++ [x], by go_num, by go_num, by go_num, by go_num, by go_num, NR.out⟩
                    case measure => simp [lenV]; omega
                  · have hne0 : ((e0 : Int) != 0) = true := by simp; omega
                    have e6 := HQ7.out.bad H0.out HO.out he0 HE10.out
                    rw [e6] at NX LS OKB
                    have E := Lib.hid (LS.out (by first | rfl | trivial))
                    have RR := Lib.hid (HQ7.out.two.end_ HQ7.out.bel OKB.out.2)
                    clear e6 he0 HQ HQ7 NX LS HS H7
                    go_wp2_with fail
                    go_ret
                    rw [E.out]
                    exact RR.out
          | true =>
            obtain ⟨hbne, hlw, hfr⟩ := HR.out.und.2 rfl
            subst hlw
            have hm1 : 0 < m := by
              rcases Nat.eq_zero_or_pos m with q | q
              · exact absurd (List.eq_nil_of_length_eq_zero (by omega)) hbne
              · exact q
            obtain ⟨x, u, e0, hO⟩ : ∃ x u e0, openF (s.beg ++ dl.take k) = (x, u, e0) := ⟨_, _, _, rfl⟩
            have hxl : (s.beg ++ dl.take k).length = m + k := by rw [List.length_append, List.length_take, hm0]; omega
            have hH : headF s (dl.take k) = if e0 = 10 then (⟨s.out, s.beg ++ dl.take k, s.frm⟩, true) else if e0 = 0 ∧ u = m + k then (⟨s.out ++ [(x, s.frm)], [], s.frm⟩, true) else (s, false) := by
              unfold headF
              rw [if_neg hbne, hO, hxl]
            have OKH := Lib.hid (headF_ok (h := dl.take k) HR.out.ok (hdrng.take _))
            have hbg := HR.out.beg
            have hnu := HR.out.num
            have HOH := Lib.hid (headF_len (s := s) (h := dl.take k))
            have HW := HW2.out.way
            have HBS := HB2.out.size
            have hu : e0 = 0 → u ≤ m + k := fun e => by
              subst e
              rw [← hxl]
              exact (openF_ok (HR.out.ok.1.app (hdrng.take _)) hO).1
            have GO := Lib.hid (fun B' d' w' k1 k2 => @Two8.go w.heap.size W2 w' A2 n2 c2 s.out B B' m (m + k) d d' s.beg (dl.take k) HW2.out k1 k2 (hdrng.take _) HBS)
            have DD := Lib.hid (fun (w' : World) (k2 : W2.grownBy w' (Value.slice B m d).ownBlock) => HT2.out.stay (w' := w') (fun a ha => k2.block _ (HT2.out.ty.lt a ha) (fun e => by injection ha with ha; subst ha; exact Nat.lt_irrefl _ (HLW.out _ e.symm))))
            have HH := Lib.hid hH
            have HO := Lib.hid hO
            have HBN := Lib.hid hbne
            have HFR := Lib.hid hfr
            have HBX := Lib.hid (show Below w.heap.size w W2 from HB2.out)
            clear hH hO hbne hfr HW2 HT2 HLW HB2
            go_wp2_with (at_builtin; refine wpList_append_byt rfl _ _ 24 rfl w.heap.size 5 i0 Tryd.underlying24 hi hz0 hz1 hz2 _ m s.beg rfl (by exact HW) HA k HCc (dl.take k) rfl HHB.out (by omega) HBS ?_)
            intro B3 d3 w3 k1 k2
            obtain ⟨t3, bel3⟩ := GO.out B3 d3 w3 (by rw [List.map_append, List.map_take]; exact k1) k2
            have T3 := Lib.hid t3
            have D3 := Lib.hid (DD.out w3 k2)
            have L3 := Lib.hid (HBX.out.trans bel3)
            have CO := Lib.hid (refOpen_any B3 (m + k) d3 (s.beg ++ dl.take k) w3 (Byt.of_own t3.way t3.rng) (Nat.lt_of_lt_of_le hw0 L3.out.size) (by omega) x u e0 HO.out)
            clear k1 k2 t3 bel3 GO DD HW HHB HBX
            go_wp2_with fail
            refine CO.out.mono ?_
            rintro e w4 ⟨A4, n4, c4, rfl, hb4, b4⟩
            have T4 := Lib.hid (T3.out.below b4)
            have D4 := Lib.hid (D3.out.below b4)
            have L4 := Lib.hid (L3.out.trans (b4.mono L3.out.size))
            have H4 := Lib.hid hb4
            clear b4 hb4 CO T3 D3 L3
            by_cases he10 : e0 = 10
            · subst he10
              have hne : ((10 : Int) == 0) = false := rfl
              have hH := HH.out
              rw [if_pos rfl] at hH
              rw [hH] at OKH HOH SF0
              have hsf : sheetF s i xf dl = bodsF (⟨s.out, s.beg ++ dl.take k, s.frm⟩ : Fs) (dl.drop k) i := SF0.out
              obtain ⟨s1, hs1⟩ : ∃ s1, (⟨s.out, s.beg ++ dl.take k, s.frm⟩ : Fs) = s1 := ⟨_, rfl⟩
              have T5 : Hid (Two8 w.heap.size w4 A2 n2 c2 s1.out B3 (m + k) d3 (s.beg ++ dl.take k)) := Lib.hid (by rw [← hs1]; exact T4.out)
              have NUM : Hid (s1.out.length ≤ 243 * i + 1) := Lib.hid (by have := HOH.out.2; rw [← hs1]; simp only at this ⊢; omega)
              have UD : Hid ((true = false → s1.beg = []) ∧ (true = true → s1.beg ≠ [] ∧ (s.beg ++ dl.take k) = s1.beg ∧ frm = s1.frm)) := Lib.hid ⟨fun e => (by cases e), fun _ => by rw [← hs1]; exact ⟨by have := HBN.out; simp [this], rfl, HFR.out⟩⟩
              have OK5 : Hid s1.Ok := Lib.hid (by rw [← hs1]; exact OKH.out)
              rw [hs1] at hsf
              have SF := Lib.hid hsf
              have HB5 := L4
              have D5 := D4
              clear hH hs1 hsf SF0 HH HO OKH HOH T4 D4 L4 H4 HBN HFR hu
              obtain ⟨BR, dR, hsR, tR⟩ := cut_lt D5.out k (by omega)
              have Q0 : Hid (RbRel w s1 (dl.drop k) i w4 A2 n2 c2 B3 (m + k) d3 (s.beg ++ dl.take k) BR (xd.size - k) dR (dl.drop k) []) := Lib.hid ⟨by simpa using T5.out, HB5.out, tR, rfl, by have := NUM.out; simp; omega⟩
              have OKB := Lib.hid (bodsF_ok (s := s1) (b := dl.drop k) i OK5.out (hdrng.drop k))
              have e5 : sheetF s i xf dl = bodsF s1 (dl.drop k) i := SF.out
              rw [e5] at NX LS
              clear e5 tR T5 D5 HR
              go_wp2_with fail
              go_loopw [3, 4, 5, 6, 14] (fun o y z v rr wq => ∃ (A6 : Option Addr) (n6 c6 : Nat) (R : Option Addr) (r k6 : Nat) (b' : List Int) (xs : List (List Int)), o = .slice A6 n6 c6 ∧ y = .slice B3 (m + k) d3 ∧ z = .int .i64 frm ∧ v = .bool false ∧ rr = .slice R r k6 ∧ RbRel w s1 (dl.drop k) i wq A6 n6 c6 B3 (m + k) d3 (s.beg ++ dl.take k) R r k6 b' xs) (fun _ _ _ _ rr _ => lenV rr)
              case atStart => exact ⟨A2, n2, c2, BR, xd.size - k, dR, dl.drop k, [], by go_num, by go_num, by go_num, by go_num, by go_num, Q0.out⟩
              case round =>
                obtain ⟨A6, n6, c6, R, r, k6, b', xs, rfl, rfl, rfl, rfl, rfl, Q⟩ := hrel
                have HQ := Lib.hid Q
                have hrl : b'.length = r := Q.bty.byt.len
                have hrc := Q.bty.byt.cap
                have hrm := Q.bty.byt.max
                unfold maxLen at hrm
                clear Q Q0
                by_cases h0 : b' = []
                · subst h0
                  have hr0 : r = 0 := by simpa using hrl.symm
                  subst hr0
                  have e6 := HQ.out.stop
                  rw [e6] at NX LS
                  have N := Lib.hid (NX.out _ A6 n6 c6 B3 (m + k) d3 (s.beg ++ dl.take k) frm false (by first | rfl | trivial) HQ.out.two HQ.out.bel ⟨fun _ => rfl, fun e => (by cases e)⟩)
                  clear e6 NX LS HQ HS
                  go_wp2_with fail
                  go_roundw
                  case rel => exact ⟨i + 1, _, A6, n6, c6, B3, (m + k), d3, (s.beg ++ dl.take k), frm, false, by omega, by go_num, by go_num, by go_num, by go_num, by go_num, N.out⟩
                  case measure => simp [intOf]; omega
                · have hpos : (0 : Int) < (r : Int) := by
                    rcases Nat.eq_zero_or_pos r with q | q
                    · exact absurd (List.eq_nil_of_length_eq_zero (by omega)) h0
                    · omega
                  obtain ⟨x, u, e0, hO⟩ : ∃ x u e0, openF b' = (x, u, e0) := ⟨_, _, _, rfl⟩
                  have hnm := HQ.out.num
                  have CO := Lib.hid (refOpen_any R r k6 b' wr HQ.out.bty.byt (Nat.lt_of_lt_of_le hw0 HQ.out.bel.size) (by omega) x u e0 hO)
                  have HO := Lib.hid hO
                  have H0 := Lib.hid h0
                  clear hO h0
                  go_wp2_with fail
                  refine CO.out.mono ?_
                  rintro e w7 ⟨A7, n7, c7, rfl, hb7, b7⟩
                  have HQ7 := Lib.hid (HQ.out.below b7)
                  have B7 := Lib.hid b7
                  have H7 := Lib.hid hb7
                  clear b7 CO hb7
                  by_cases he10 : e0 = 10
                  · subst he10
                    have e6 := HQ7.out.short H0.out HO.out
                    rw [e6] at NX LS
                    have hown0 := World.ownsRow_made (base := w7.heap.size) (e := 5) (size := 1) w7 #[] 0 (Nat.le_refl _) (Nat.zero_le _) rfl
                    have HBB := HQ7.out.bty.byt.alloc (.cells #[] 5)
                    clear e6 HQ H7
                    go_wp2_with (at_builtin; refine wpList_append_byt rfl _ _ 24 rfl w7.heap.size 5 i0 Tryd.underlying24 hi hz0 hz1 hz2 _ 0 [] rfl (by exact hown0) R r k6 b' rfl HBB (by omega) (by simp) ?_)
                    intro B8 d8 w8 k1 k2
                    have bel8 : Below w7.heap.size w7 w8 := ((Below.refl _ _).alloc (Nat.le_refl _) _).grown k2 (by simp) (fun q hq => by simp [Value.ownBlock] at hq; omega)
                    have T8 := HQ7.out.two.below bel8
                    have own8 : w8.ownsRow w.heap.size 5 1 (.slice B8 (0 + r) d8) (0 + r) (b'.map (Value.int .u8)) := own_base (by simpa using k1) HQ7.out.bel.size
                    rw [Nat.zero_add] at own8
                    have N := Lib.hid (NX.out w8 A6 n6 c6 B8 r d8 b' i true (by first | rfl | trivial) ⟨T8.own, T8.len, own8, HQ7.out.bty.byt.rng⟩ (HQ7.out.bel.trans (bel8.mono HQ7.out.bel.size)) ⟨fun e => (by cases e), fun _ => ⟨H0.out, rfl, rfl⟩⟩)
                    clear k1 k2 bel8 T8 own8 NX LS HQ7 HBB hown0 HS
                    go_wp2_with fail
                    go_roundw
                    case rel => exact ⟨i + 1, _, A6, n6, c6, B8, r, d8, b', i, true, by omega, by go_num, by go_num, by go_num, by go_num, by go_num, N.out⟩
                    case measure => simp [intOf]; omega
                  · have hne : ((e0 : Int) == 10) = false := by simp; omega
                    have HE10 := Lib.hid he10
                    clear he10
                    by_cases he0 : e0 = 0
                    · subst he0
                      have kc := conv_byt H7.out
                      have hnum' : n6 ≤ 900000 := by have := HQ7.out.two.len; simp at this; omega
                      have own7 := HQ7.out.two.own
                      have OW7 : Hid (∀ o, (w7.alloc o).ownsRow w.heap.size 55 2 (.slice A6 n6 c6) n6 ((s1.out ++ xs.map (fun x => (x, (i : Int)))).flatMap fndC)) := Lib.hid (fun o => own_stay own7 (fun q hq => ((Below.refl w7.heap.size w7).alloc (Nat.le_refl _) o).block q (own7.lt q hq).2))
                      have BS7 : Hid (∀ o, w.heap.size ≤ (w7.alloc o).heap.size) := Lib.hid (fun o => Nat.le_trans HQ7.out.bel.size (by simp))
                      have KN := Lib.hid (fun A' c' w' o q1 q2 => HQ.out.next (w4 := w7.alloc o) (A' := A') (c' := c') (w' := w') H0.out HO.out (B7.out.trans ((((Below.refl w7.heap.size w7).alloc (Nat.le_refl _) o)).mono B7.out.size)) q1 q2)
                      have hne : ((0 : Int) == 10) = false := rfl
                      clear HQ HQ7 B7 own7
                      go_wp2_with (at_builtin; refine wpList_append_1 rfl _ _ 48 rfl w.heap.size 55 j0 _ 2 24 Tryd.underlying48 hj0 hy0 hy1 hy2 (by rfl) (by omega) (by rfl) (OW7.out _) (g := w7.heap.size) (cs := #[.string (strOfNums x), .int .i64 i]) (by rfl) (Bk.new _ _ _) (by rfl) (fnd_one _ _) (by omega) (by omega) (BS7.out _) ?_)
                      intro A8 c8 w8 k1 k2 _
                      obtain ⟨hu, hu0, t8, nx⟩ := KN.out A8 c8 w8 _ (by rw [List.flatMap_append, List.append_assoc]; exact k1) k2
                      obtain ⟨R2, k2', hs2, t9⟩ := cut_lt t8 u hu
                      have NR := Lib.hid (nx R2 k2' t9)
                      clear k1 k2 t8 nx t9 KN OW7 BS7 kc H7
                      go_wp2_with fail
                      go_roundw
                      case rel => exact ⟨A8, n6 + 1, c8, R2, r - u, k2', b'.drop u, xs ++ [x], by go_num, by go_num, by go_num, by go_num, by go_num, NR.out⟩
                      case measure => simp [lenV]; omega
                    · have hne0 : ((e0 : Int) != 0) = true := by simp; omega
                      have e6 := HQ7.out.bad H0.out HO.out he0 HE10.out
                      rw [e6] at NX LS OKB
                      have E := Lib.hid (LS.out (by first | rfl | trivial))
                      have RR := Lib.hid (HQ7.out.two.end_ HQ7.out.bel OKB.out.2)
                      clear e6 he0 HQ HQ7 NX LS HS H7
                      go_wp2_with fail
                      go_ret
                      rw [E.out]
                      exact RR.out
            · have hne10 : ((e0 : Int) != 10) = true := by simp; omega
              have HE10 := Lib.hid he10
              clear he10
              by_cases hgood : e0 = 0 ∧ u = m + k
              · obtain ⟨rfl, rfl⟩ := hgood
                have hH := HH.out
                rw [if_neg (by omega), if_pos ⟨rfl, rfl⟩] at hH
                rw [hH] at OKH HOH SF0
                have hsf : sheetF s i xf dl = bodsF (⟨s.out ++ [(x, s.frm)], [], s.frm⟩ : Fs) (dl.drop k) i := SF0.out
                have kc := conv_byt H4.out
                have hnum' : n2 ≤ 900000 := by have := T4.out.len; omega
                have own7 := T4.out.own
                have OW7 : Hid (∀ o, (w4.alloc o).ownsRow w.heap.size 55 2 (.slice A2 n2 c2) n2 (s.out.flatMap fndC)) := Lib.hid (fun o => own_stay own7 (fun q hq => ((Below.refl w4.heap.size w4).alloc (Nat.le_refl _) o).block q (own7.lt q hq).2))
                have BS7 : Hid (∀ o, w.heap.size ≤ (w4.alloc o).heap.size) := Lib.hid (fun o => Nat.le_trans L4.out.size (by simp))
                have hfe := HFR.out
                subst hfe
                have KN := Lib.hid (fun A' c' w' o q1 q2 => T4.out.more (w2 := w4.alloc o) (A' := A') (c' := c') (w' := w') (x := x) (i := s.frm) ((Below.refl w4.heap.size w4).alloc (Nat.le_refl _) o) q1 q2 L4.out.size)
                obtain ⟨sf, hsf'⟩ : ∃ sf, s.frm = sf := ⟨_, rfl⟩
                have HSF := Lib.hid hsf'
                rw [hsf'] at KN
                rw [hsf'] at hsf OKH HOH
                (try rw [hsf'])
                clear own7 hH HH HO H4
                go_wp2_with (at_builtin; refine wpList_append_1 rfl _ _ 48 rfl w.heap.size 55 j0 _ 2 24 Tryd.underlying48 hj0 hy0 hy1 hy2 (by rfl) (by omega) (by rfl) (OW7.out _) (g := w4.heap.size) (cs := #[.string (strOfNums x), .int .i64 sf]) (by rfl) (Bk.new _ _ _) (by rfl) (fnd_one _ _) (by omega) (by omega) (BS7.out _) ?_)
                intro A8 c8 w8 k1 k2 _
                obtain ⟨t8, b8, dd8⟩ := KN.out A8 c8 w8 _ k1 k2
                obtain ⟨s1, hs1⟩ : ∃ s1, (⟨s.out ++ [(x, sf)], [], sf⟩ : Fs) = s1 := ⟨_, rfl⟩
                have T5 : Hid (Two8 w.heap.size w8 A8 (n2 + 1) c8 s1.out B3 (m + k) d3 (s.beg ++ dl.take k)) := Lib.hid (by rw [← hs1]; exact t8)
                have NUM : Hid (s1.out.length ≤ 243 * i + 1) := Lib.hid (by have := HOH.out.2; rw [← hs1]; simp only at this ⊢; omega)
                have UD : Hid ((false = false → s1.beg = []) ∧ (false = true → s1.beg ≠ [] ∧ (s.beg ++ dl.take k) = s1.beg ∧ sf = s1.frm)) := Lib.hid ⟨fun _ => by rw [← hs1], fun e => (by cases e)⟩
                have OK5 : Hid s1.Ok := Lib.hid (by rw [← hs1]; exact OKH.out)
                rw [hs1] at hsf
                have SF := Lib.hid hsf
                have HB5 := Lib.hid (L4.out.trans b8)
                have D5 := Lib.hid (dd8 _ _ _ _ D4.out)
                clear k1 k2 t8 b8 dd8 hs1 hsf hsf' HSF SF0 KN OW7 BS7 OKH HOH T4 D4 L4 HBN HFR hu kc
                obtain ⟨BR, dR, hsR, tR⟩ := cut_lt D5.out k (by omega)
                have Q0 : Hid (RbRel w s1 (dl.drop k) i w8 A8 (n2 + 1) c8 B3 (m + k) d3 (s.beg ++ dl.take k) BR (xd.size - k) dR (dl.drop k) []) := Lib.hid ⟨by simpa using T5.out, HB5.out, tR, rfl, by have := NUM.out; simp; omega⟩
                have OKB := Lib.hid (bodsF_ok (s := s1) (b := dl.drop k) i OK5.out (hdrng.drop k))
                have e5 : sheetF s i xf dl = bodsF s1 (dl.drop k) i := SF.out
                rw [e5] at NX LS
                clear e5 tR T5 D5 HR
                go_wp2_with fail
                go_loopw [3, 4, 5, 6, 14] (fun o y z v rr wq => ∃ (A6 : Option Addr) (n6 c6 : Nat) (R : Option Addr) (r k6 : Nat) (b' : List Int) (xs : List (List Int)), o = .slice A6 n6 c6 ∧ y = .slice B3 (m + k) d3 ∧ z = .int .i64 sf ∧ v = .bool false ∧ rr = .slice R r k6 ∧ RbRel w s1 (dl.drop k) i wq A6 n6 c6 B3 (m + k) d3 (s.beg ++ dl.take k) R r k6 b' xs) (fun _ _ _ _ rr _ => lenV rr)
                case atStart => exact ⟨A8, (n2 + 1), c8, BR, xd.size - k, dR, dl.drop k, [], by go_num, by go_num, by go_num, by go_num, by go_num, Q0.out⟩
                case round =>
                  obtain ⟨A6, n6, c6, R, r, k6, b', xs, rfl, rfl, rfl, rfl, rfl, Q⟩ := hrel
                  have HQ := Lib.hid Q
                  have hrl : b'.length = r := Q.bty.byt.len
                  have hrc := Q.bty.byt.cap
                  have hrm := Q.bty.byt.max
                  unfold maxLen at hrm
                  clear Q Q0
                  by_cases h0 : b' = []
                  · subst h0
                    have hr0 : r = 0 := by simpa using hrl.symm
                    subst hr0
                    have e6 := HQ.out.stop
                    rw [e6] at NX LS
                    have N := Lib.hid (NX.out _ A6 n6 c6 B3 (m + k) d3 (s.beg ++ dl.take k) sf false (by first | rfl | trivial) HQ.out.two HQ.out.bel ⟨fun _ => rfl, fun e => (by cases e)⟩)
                    clear e6 NX LS HQ HS
                    go_wp2_with fail
                    go_roundw
                    case rel => exact ⟨i + 1, _, A6, n6, c6, B3, (m + k), d3, (s.beg ++ dl.take k), sf, false, by omega, by go_num, by go_num, by go_num, by go_num, by go_num, N.out⟩
                    case measure => simp [intOf]; omega
                  · have hpos : (0 : Int) < (r : Int) := by
                      rcases Nat.eq_zero_or_pos r with q | q
                      · exact absurd (List.eq_nil_of_length_eq_zero (by omega)) h0
                      · omega
                    obtain ⟨x, u, e0, hO⟩ : ∃ x u e0, openF b' = (x, u, e0) := ⟨_, _, _, rfl⟩
                    have hnm := HQ.out.num
                    have CO := Lib.hid (refOpen_any R r k6 b' wr HQ.out.bty.byt (Nat.lt_of_lt_of_le hw0 HQ.out.bel.size) (by omega) x u e0 hO)
                    have HO := Lib.hid hO
                    have H0 := Lib.hid h0
                    clear hO h0
                    go_wp2_with fail
                    refine CO.out.mono ?_
                    rintro e w7 ⟨A7, n7, c7, rfl, hb7, b7⟩
                    have HQ7 := Lib.hid (HQ.out.below b7)
                    have B7 := Lib.hid b7
                    have H7 := Lib.hid hb7
                    clear b7 CO hb7
                    by_cases he10 : e0 = 10
                    · subst he10
                      have e6 := HQ7.out.short H0.out HO.out
                      rw [e6] at NX LS
                      have hown0 := World.ownsRow_made (base := w7.heap.size) (e := 5) (size := 1) w7 #[] 0 (Nat.le_refl _) (Nat.zero_le _) rfl
                      have HBB := HQ7.out.bty.byt.alloc (.cells #[] 5)
                      clear e6 HQ H7
                      go_wp2_with (at_builtin; refine wpList_append_byt rfl _ _ 24 rfl w7.heap.size 5 i0 Tryd.underlying24 hi hz0 hz1 hz2 _ 0 [] rfl (by exact hown0) R r k6 b' rfl HBB (by omega) (by simp) ?_)
                      intro B9 d9 w9 k1 k2
                      have bel8 : Below w7.heap.size w7 w9 := ((Below.refl _ _).alloc (Nat.le_refl _) _).grown k2 (by simp) (fun q hq => by simp [Value.ownBlock] at hq; omega)
                      have T8 := HQ7.out.two.below bel8
                      have own8 : w9.ownsRow w.heap.size 5 1 (.slice B9 (0 + r) d9) (0 + r) (b'.map (Value.int .u8)) := own_base (by simpa using k1) HQ7.out.bel.size
                      rw [Nat.zero_add] at own8
                      have N := Lib.hid (NX.out w9 A6 n6 c6 B9 r d9 b' i true (by first | rfl | trivial) ⟨T8.own, T8.len, own8, HQ7.out.bty.byt.rng⟩ (HQ7.out.bel.trans (bel8.mono HQ7.out.bel.size)) ⟨fun e => (by cases e), fun _ => ⟨H0.out, rfl, rfl⟩⟩)
                      clear k1 k2 bel8 T8 own8 NX LS HQ7 HBB hown0 HS
                      go_wp2_with fail
                      go_roundw
                      case rel => exact ⟨i + 1, _, A6, n6, c6, B9, r, d9, b', i, true, by omega, by go_num, by go_num, by go_num, by go_num, by go_num, N.out⟩
                      case measure => simp [intOf]; omega
                    · have hne : ((e0 : Int) == 10) = false := by simp; omega
                      have HE10 := Lib.hid he10
                      clear he10
                      by_cases he0 : e0 = 0
                      · subst he0
                        have kc := conv_byt H7.out
                        have hnum' : n6 ≤ 900000 := by have := HQ7.out.two.len; simp at this; omega
                        have own7 := HQ7.out.two.own
                        have OW7 : Hid (∀ o, (w7.alloc o).ownsRow w.heap.size 55 2 (.slice A6 n6 c6) n6 ((s1.out ++ xs.map (fun x => (x, (i : Int)))).flatMap fndC)) := Lib.hid (fun o => own_stay own7 (fun q hq => ((Below.refl w7.heap.size w7).alloc (Nat.le_refl _) o).block q (own7.lt q hq).2))
                        have BS7 : Hid (∀ o, w.heap.size ≤ (w7.alloc o).heap.size) := Lib.hid (fun o => Nat.le_trans HQ7.out.bel.size (by simp))
                        have KN := Lib.hid (fun A' c' w' o q1 q2 => HQ.out.next (w4 := w7.alloc o) (A' := A') (c' := c') (w' := w') H0.out HO.out (B7.out.trans ((((Below.refl w7.heap.size w7).alloc (Nat.le_refl _) o)).mono B7.out.size)) q1 q2)
                        have hne : ((0 : Int) == 10) = false := rfl
                        clear HQ HQ7 B7 own7
                        go_wp2_with (at_builtin; refine wpList_append_1 rfl _ _ 48 rfl w.heap.size 55 j0 _ 2 24 Tryd.underlying48 hj0 hy0 hy1 hy2 (by rfl) (by omega) (by rfl) (OW7.out _) (g := w7.heap.size) (cs := #[.string (strOfNums x), .int .i64 i]) (by rfl) (Bk.new _ _ _) (by rfl) (fnd_one _ _) (by omega) (by omega) (BS7.out _) ?_)
                        intro A9 c9 w9 k1 k2 _
                        obtain ⟨hu, hu0, t8, nx⟩ := KN.out A9 c9 w9 _ (by rw [List.flatMap_append, List.append_assoc]; exact k1) k2
                        obtain ⟨R2, k2', hs2, t9⟩ := cut_lt t8 u hu
                        have NR := Lib.hid (nx R2 k2' t9)
                        clear k1 k2 t8 nx t9 KN OW7 BS7 kc H7
                        go_wp2_with fail
                        go_roundw
                        case rel => exact ⟨A9, n6 + 1, c9, R2, r - u, k2', b'.drop u, xs ++ [x], by go_num, by go_num, by go_num, by go_num, by go_num, NR.out⟩
                        case measure => simp [lenV]; omega
                      · have hne0 : ((e0 : Int) != 0) = true := by simp; omega
                        have e6 := HQ7.out.bad H0.out HO.out he0 HE10.out
                        rw [e6] at NX LS OKB
                        have E := Lib.hid (LS.out (by first | rfl | trivial))
                        have RR := Lib.hid (HQ7.out.two.end_ HQ7.out.bel OKB.out.2)
                        clear e6 he0 HQ HQ7 NX LS HS H7
                        go_wp2_with fail
                        go_ret
                        rw [E.out]
                        exact RR.out
              · have hH := HH.out
                rw [if_neg HE10.out, if_neg hgood] at hH
                rw [hH] at OKH SF0
                have hsf : sheetF s i xf dl = (s, false) := SF0.out
                rw [hsf] at LS
                have E := Lib.hid (LS.out (by first | rfl | trivial))
                have RR := Lib.hid (T4.out.end_ L4.out OKH.out.2)
                clear hH HH hsf SF0 NX LS HS HR T4 D4 L4 H4 HO OKH HOH
                by_cases he0 : e0 = 0
                · subst he0
                  have hune : ((u : Int) == (m : Int) + ((k : Nat) : Int)) = false := by
                    have : u ≠ m + k := fun q => hgood ⟨rfl, q⟩
                    simp
                    omega
                  have hne10 : ((0 : Int) != 10) = true := rfl
                  clear hgood hu
                  go_wp2_with fail
                  go_ret
                  rw [E.out]
                  exact RR.out
                · have hne0 : ((e0 : Int) == 0) = false := by simp; omega
                  clear hgood hu he0
                  go_wp2_with fail
                  go_ret
                  rw [E.out]
                  exact RR.out
      · obtain ⟨k, hk⟩ : ∃ k, cutS xf dl = k := ⟨_, rfl⟩
        have hkx : k = xd.size := by rw [← hk]; unfold cutS; rw [if_neg hinS]; exact hdlen
        have SF0 : Hid (sheetF s i xf dl = if (headF s (dl.take k)).2 = false then headF s (dl.take k) else headF s (dl.take k)) := Lib.hid (by unfold sheetF; rw [hk, if_neg hinS])
        subst hkx
        have HHB : Hid (Byt W2 (some ⟨gd, 0, none⟩) xd.size dc (dl.take xd.size)) := Lib.hid (by rw [List.take_of_length_le (by omega)]; exact HT2.out.byt)
        have hxs : xf < 0 ∨ (0 ≤ xf ∧ ¬ xf ≤ (xd.size : Int)) := by
          by_cases q : xf < 0
          · exact .inl q
          · refine .inr ⟨by omega, fun q2 => hinS ⟨by omega, by rw [hdlen]; exact q2⟩⟩
        clear hinS hk
        rcases hxs with hx1 | ⟨hx1, hx2⟩
        · have hxn : (xf != (xd.size : Int)) = true := by simp; omega
          cases und with
          | false =>
            have hb0 := HR.out.und.1 rfl
            have hH : headF s (dl.take xd.size) = (s, true) := by unfold headF; rw [if_pos hb0]
            have SF : Hid (sheetF s i xf dl = (s, true)) := Lib.hid (by rw [SF0.out, hH]; rfl)
            have T5 := HW2
            have HB5 := HB2
            have D5 := HT2
            have OK5 := Lib.hid HR.out.ok
            have NUM : Hid (s.out.length ≤ 243 * i) := Lib.hid HR.out.num
            have UD : Hid ((false = false → s.beg = []) ∧ (false = true → s.beg ≠ [] ∧ lw = s.beg ∧ frm = s.frm)) := Lib.hid ⟨fun _ => hb0, fun e => (by cases e)⟩
            clear hb0 hH SF0 HW2 HB2 HT2 HLW
            have e5 : sheetF s i xf dl = (s, true) := SF.out
            rw [e5] at NX LS
            have N := Lib.hid (NX.out W2 A2 n2 c2 B m d lw frm false (by first | rfl | trivial) T5.out HB5.out UD.out)
            clear e5 NX LS HR HS T5 HB5 D5
            go_wp2_with fail
            go_roundw
            case rel => exact ⟨i + 1, s, A2, n2, c2, B, m, d, lw, frm, false, by omega, by go_num, by go_num, by go_num, by go_num, by go_num, N.out⟩
            case measure => simp [intOf]; omega
          | true =>
            obtain ⟨hbne, hlw, hfr⟩ := HR.out.und.2 rfl
            subst hlw
            have hm1 : 0 < m := by
              rcases Nat.eq_zero_or_pos m with q | q
              · exact absurd (List.eq_nil_of_length_eq_zero (by omega)) hbne
              · exact q
            obtain ⟨x, u, e0, hO⟩ : ∃ x u e0, openF (s.beg ++ dl.take xd.size) = (x, u, e0) := ⟨_, _, _, rfl⟩
            have hxl : (s.beg ++ dl.take xd.size).length = m + xd.size := by rw [List.length_append, List.length_take, hm0]; omega
            have hH : headF s (dl.take xd.size) = if e0 = 10 then (⟨s.out, s.beg ++ dl.take xd.size, s.frm⟩, true) else if e0 = 0 ∧ u = m + xd.size then (⟨s.out ++ [(x, s.frm)], [], s.frm⟩, true) else (s, false) := by
              unfold headF
              rw [if_neg hbne, hO, hxl]
            have OKH := Lib.hid (headF_ok (h := dl.take xd.size) HR.out.ok (hdrng.take _))
            have hbg := HR.out.beg
            have hnu := HR.out.num
            have HOH := Lib.hid (headF_len (s := s) (h := dl.take xd.size))
            have HW := HW2.out.way
            have HBS := HB2.out.size
            have hu : e0 = 0 → u ≤ m + xd.size := fun e => by
              subst e
              rw [← hxl]
              exact (openF_ok (HR.out.ok.1.app (hdrng.take _)) hO).1
            have GO := Lib.hid (fun B' d' w' k1 k2 => @Two8.go w.heap.size W2 w' A2 n2 c2 s.out B B' m (m + xd.size) d d' s.beg (dl.take xd.size) HW2.out k1 k2 (hdrng.take _) HBS)
            have DD := Lib.hid (fun (w' : World) (k2 : W2.grownBy w' (Value.slice B m d).ownBlock) => HT2.out.stay (w' := w') (fun a ha => k2.block _ (HT2.out.ty.lt a ha) (fun e => by injection ha with ha; subst ha; exact Nat.lt_irrefl _ (HLW.out _ e.symm))))
            have HH := Lib.hid hH
            have HO := Lib.hid hO
            have HBN := Lib.hid hbne
            have HFR := Lib.hid hfr
            have HBX := Lib.hid (show Below w.heap.size w W2 from HB2.out)
            clear hH hO hbne hfr HW2 HT2 HLW HB2
            go_wp2_with (at_builtin; refine wpList_append_byt rfl _ _ 24 rfl w.heap.size 5 i0 Tryd.underlying24 hi hz0 hz1 hz2 _ m s.beg rfl (by exact HW) (some ⟨gd, 0, none⟩) xd.size dc (dl.take xd.size) rfl HHB.out (by omega) HBS ?_)
            intro B3 d3 w3 k1 k2
            obtain ⟨t3, bel3⟩ := GO.out B3 d3 w3 (by rw [List.map_append, List.map_take]; exact k1) k2
            have T3 := Lib.hid t3
            have D3 := Lib.hid (DD.out w3 k2)
            have L3 := Lib.hid (HBX.out.trans bel3)
            have CO := Lib.hid (refOpen_any B3 (m + xd.size) d3 (s.beg ++ dl.take xd.size) w3 (Byt.of_own t3.way t3.rng) (Nat.lt_of_lt_of_le hw0 L3.out.size) (by omega) x u e0 HO.out)
            clear k1 k2 t3 bel3 GO DD HW HHB HBX
            go_wp2_with fail
            refine CO.out.mono ?_
            rintro e w4 ⟨A4, n4, c4, rfl, hb4, b4⟩
            have T4 := Lib.hid (T3.out.below b4)
            have D4 := Lib.hid (D3.out.below b4)
            have L4 := Lib.hid (L3.out.trans (b4.mono L3.out.size))
            have H4 := Lib.hid hb4
            clear b4 hb4 CO T3 D3 L3
            by_cases he10 : e0 = 10
            · subst he10
              have hne : ((10 : Int) == 0) = false := rfl
              have hH := HH.out
              rw [if_pos rfl] at hH
              rw [hH] at OKH HOH SF0
              have hsf : sheetF s i xf dl = ((⟨s.out, s.beg ++ dl.take xd.size, s.frm⟩ : Fs), true) := SF0.out
              obtain ⟨s1, hs1⟩ : ∃ s1, (⟨s.out, s.beg ++ dl.take xd.size, s.frm⟩ : Fs) = s1 := ⟨_, rfl⟩
              have T5 : Hid (Two8 w.heap.size w4 A2 n2 c2 s1.out B3 (m + xd.size) d3 (s.beg ++ dl.take xd.size)) := Lib.hid (by rw [← hs1]; exact T4.out)
              have NUM : Hid (s1.out.length ≤ 243 * i + 1) := Lib.hid (by have := HOH.out.2; rw [← hs1]; simp only at this ⊢; omega)
              have UD : Hid ((true = false → s1.beg = []) ∧ (true = true → s1.beg ≠ [] ∧ (s.beg ++ dl.take xd.size) = s1.beg ∧ frm = s1.frm)) := Lib.hid ⟨fun e => (by cases e), fun _ => by rw [← hs1]; exact ⟨by have := HBN.out; simp [this], rfl, HFR.out⟩⟩
              have OK5 : Hid s1.Ok := Lib.hid (by rw [← hs1]; exact OKH.out)
              rw [hs1] at hsf
              have SF := Lib.hid hsf
              have HB5 := L4
              have D5 := D4
              clear hH hs1 hsf SF0 HH HO OKH HOH T4 D4 L4 H4 HBN HFR hu
              have e5 : sheetF s i xf dl = (s1, true) := SF.out
              rw [e5] at NX LS
              have N := Lib.hid (NX.out w4 A2 n2 c2 B3 (m + xd.size) d3 (s.beg ++ dl.take xd.size) frm true (by first | rfl | trivial) T5.out HB5.out UD.out)
              clear e5 NX LS HR HS T5 HB5 D5
              go_wp2_with fail
              go_roundw
              case rel => exact ⟨i + 1, s1, A2, n2, c2, B3, (m + xd.size), d3, (s.beg ++ dl.take xd.size), frm, true, by omega, by go_num, by go_num, by go_num, by go_num, by go_num, N.out⟩
              case measure => simp [intOf]; omega
            · have hne10 : ((e0 : Int) != 10) = true := by simp; omega
              have HE10 := Lib.hid he10
              clear he10
              by_cases hgood : e0 = 0 ∧ u = m + xd.size
              · obtain ⟨rfl, rfl⟩ := hgood
                have hH := HH.out
                rw [if_neg (by omega), if_pos ⟨rfl, rfl⟩] at hH
                rw [hH] at OKH HOH SF0
                have hsf : sheetF s i xf dl = ((⟨s.out ++ [(x, s.frm)], [], s.frm⟩ : Fs), true) := SF0.out
                have kc := conv_byt H4.out
                have hnum' : n2 ≤ 900000 := by have := T4.out.len; omega
                have own7 := T4.out.own
                have OW7 : Hid (∀ o, (w4.alloc o).ownsRow w.heap.size 55 2 (.slice A2 n2 c2) n2 (s.out.flatMap fndC)) := Lib.hid (fun o => own_stay own7 (fun q hq => ((Below.refl w4.heap.size w4).alloc (Nat.le_refl _) o).block q (own7.lt q hq).2))
                have BS7 : Hid (∀ o, w.heap.size ≤ (w4.alloc o).heap.size) := Lib.hid (fun o => Nat.le_trans L4.out.size (by simp))
                have hfe := HFR.out
                subst hfe
                have KN := Lib.hid (fun A' c' w' o q1 q2 => T4.out.more (w2 := w4.alloc o) (A' := A') (c' := c') (w' := w') (x := x) (i := s.frm) ((Below.refl w4.heap.size w4).alloc (Nat.le_refl _) o) q1 q2 L4.out.size)
                obtain ⟨sf, hsf'⟩ : ∃ sf, s.frm = sf := ⟨_, rfl⟩
                have HSF := Lib.hid hsf'
                rw [hsf'] at KN
                rw [hsf'] at hsf OKH HOH
                (try rw [hsf'])
                clear own7 hH HH HO H4
                go_wp2_with (at_builtin; refine wpList_append_1 rfl _ _ 48 rfl w.heap.size 55 j0 _ 2 24 Tryd.underlying48 hj0 hy0 hy1 hy2 (by rfl) (by omega) (by rfl) (OW7.out _) (g := w4.heap.size) (cs := #[.string (strOfNums x), .int .i64 sf]) (by rfl) (Bk.new _ _ _) (by rfl) (fnd_one _ _) (by omega) (by omega) (BS7.out _) ?_)
                intro A8 c8 w8 k1 k2 _
                obtain ⟨t8, b8, dd8⟩ := KN.out A8 c8 w8 _ k1 k2
                obtain ⟨s1, hs1⟩ : ∃ s1, (⟨s.out ++ [(x, sf)], [], sf⟩ : Fs) = s1 := ⟨_, rfl⟩
                have T5 : Hid (Two8 w.heap.size w8 A8 (n2 + 1) c8 s1.out B3 (m + xd.size) d3 (s.beg ++ dl.take xd.size)) := Lib.hid (by rw [← hs1]; exact t8)
                have NUM : Hid (s1.out.length ≤ 243 * i + 1) := Lib.hid (by have := HOH.out.2; rw [← hs1]; simp only at this ⊢; omega)
                have UD : Hid ((false = false → s1.beg = []) ∧ (false = true → s1.beg ≠ [] ∧ (s.beg ++ dl.take xd.size) = s1.beg ∧ sf = s1.frm)) := Lib.hid ⟨fun _ => by rw [← hs1], fun e => (by cases e)⟩
                have OK5 : Hid s1.Ok := Lib.hid (by rw [← hs1]; exact OKH.out)
                rw [hs1] at hsf
                have SF := Lib.hid hsf
                have HB5 := Lib.hid (L4.out.trans b8)
                have D5 := Lib.hid (dd8 _ _ _ _ D4.out)
                clear k1 k2 t8 b8 dd8 hs1 hsf hsf' HSF SF0 KN OW7 BS7 OKH HOH T4 D4 L4 HBN HFR hu kc
                have e5 : sheetF s i xf dl = (s1, true) := SF.out
                rw [e5] at NX LS
                have N := Lib.hid (NX.out w8 A8 (n2 + 1) c8 B3 (m + xd.size) d3 (s.beg ++ dl.take xd.size) sf false (by first | rfl | trivial) T5.out HB5.out UD.out)
                clear e5 NX LS HR HS T5 HB5 D5
                go_wp2_with fail
                go_roundw
                case rel => exact ⟨i + 1, s1, A8, (n2 + 1), c8, B3, (m + xd.size), d3, (s.beg ++ dl.take xd.size), sf, false, by omega, by go_num, by go_num, by go_num, by go_num, by go_num, N.out⟩
                case measure => simp [intOf]; omega
              · have hH := HH.out
                rw [if_neg HE10.out, if_neg hgood] at hH
                rw [hH] at OKH SF0
                have hsf : sheetF s i xf dl = (s, false) := SF0.out
                rw [hsf] at LS
                have E := Lib.hid (LS.out (by first | rfl | trivial))
                have RR := Lib.hid (T4.out.end_ L4.out OKH.out.2)
                clear hH HH hsf SF0 NX LS HS HR T4 D4 L4 H4 HO OKH HOH
                by_cases he0 : e0 = 0
                · subst he0
                  have hune : ((u : Int) == (m : Int) + ((xd.size : Nat) : Int)) = false := by
                    have : u ≠ m + xd.size := fun q => hgood ⟨rfl, q⟩
                    simp
                    omega
                  have hne10 : ((0 : Int) != 10) = true := rfl
                  clear hgood hu
                  go_wp2_with fail
                  go_ret
                  rw [E.out]
                  exact RR.out
                · have hne0 : ((e0 : Int) == 0) = false := by simp; omega
                  clear hgood hu he0
                  go_wp2_with fail
                  go_ret
                  rw [E.out]
                  exact RR.out
        · have hxn : (xf != (xd.size : Int)) = true := by simp; omega
          cases und with
          | false =>
            have hb0 := HR.out.und.1 rfl
            have hH : headF s (dl.take xd.size) = (s, true) := by unfold headF; rw [if_pos hb0]
            have SF : Hid (sheetF s i xf dl = (s, true)) := Lib.hid (by rw [SF0.out, hH]; rfl)
            have T5 := HW2
            have HB5 := HB2
            have D5 := HT2
            have OK5 := Lib.hid HR.out.ok
            have NUM : Hid (s.out.length ≤ 243 * i) := Lib.hid HR.out.num
            have UD : Hid ((false = false → s.beg = []) ∧ (false = true → s.beg ≠ [] ∧ lw = s.beg ∧ frm = s.frm)) := Lib.hid ⟨fun _ => hb0, fun e => (by cases e)⟩
            clear hb0 hH SF0 HW2 HB2 HT2 HLW
            have e5 : sheetF s i xf dl = (s, true) := SF.out
            rw [e5] at NX LS
            have N := Lib.hid (NX.out W2 A2 n2 c2 B m d lw frm false (by first | rfl | trivial) T5.out HB5.out UD.out)
            clear e5 NX LS HR HS T5 HB5 D5
            go_wp2_with fail
            go_roundw
            case rel => exact ⟨i + 1, s, A2, n2, c2, B, m, d, lw, frm, false, by omega, by go_num, by go_num, by go_num, by go_num, by go_num, N.out⟩
            case measure => simp [intOf]; omega
          | true =>
            obtain ⟨hbne, hlw, hfr⟩ := HR.out.und.2 rfl
            subst hlw
            have hm1 : 0 < m := by
              rcases Nat.eq_zero_or_pos m with q | q
              · exact absurd (List.eq_nil_of_length_eq_zero (by omega)) hbne
              · exact q
            obtain ⟨x, u, e0, hO⟩ : ∃ x u e0, openF (s.beg ++ dl.take xd.size) = (x, u, e0) := ⟨_, _, _, rfl⟩
            have hxl : (s.beg ++ dl.take xd.size).length = m + xd.size := by rw [List.length_append, List.length_take, hm0]; omega
            have hH : headF s (dl.take xd.size) = if e0 = 10 then (⟨s.out, s.beg ++ dl.take xd.size, s.frm⟩, true) else if e0 = 0 ∧ u = m + xd.size then (⟨s.out ++ [(x, s.frm)], [], s.frm⟩, true) else (s, false) := by
              unfold headF
              rw [if_neg hbne, hO, hxl]
            have OKH := Lib.hid (headF_ok (h := dl.take xd.size) HR.out.ok (hdrng.take _))
            have hbg := HR.out.beg
            have hnu := HR.out.num
            have HOH := Lib.hid (headF_len (s := s) (h := dl.take xd.size))
            have HW := HW2.out.way
            have HBS := HB2.out.size
            have hu : e0 = 0 → u ≤ m + xd.size := fun e => by
              subst e
              rw [← hxl]
              exact (openF_ok (HR.out.ok.1.app (hdrng.take _)) hO).1
            have GO := Lib.hid (fun B' d' w' k1 k2 => @Two8.go w.heap.size W2 w' A2 n2 c2 s.out B B' m (m + xd.size) d d' s.beg (dl.take xd.size) HW2.out k1 k2 (hdrng.take _) HBS)
            have DD := Lib.hid (fun (w' : World) (k2 : W2.grownBy w' (Value.slice B m d).ownBlock) => HT2.out.stay (w' := w') (fun a ha => k2.block _ (HT2.out.ty.lt a ha) (fun e => by injection ha with ha; subst ha; exact Nat.lt_irrefl _ (HLW.out _ e.symm))))
            have HH := Lib.hid hH
            have HO := Lib.hid hO
            have HBN := Lib.hid hbne
            have HFR := Lib.hid hfr
            have HBX := Lib.hid (show Below w.heap.size w W2 from HB2.out)
            clear hH hO hbne hfr HW2 HT2 HLW HB2
            go_wp2_with (at_builtin; refine wpList_append_byt rfl _ _ 24 rfl w.heap.size 5 i0 Tryd.underlying24 hi hz0 hz1 hz2 _ m s.beg rfl (by exact HW) (some ⟨gd, 0, none⟩) xd.size dc (dl.take xd.size) rfl HHB.out (by omega) HBS ?_)
            intro B3 d3 w3 k1 k2
            obtain ⟨t3, bel3⟩ := GO.out B3 d3 w3 (by rw [List.map_append, List.map_take]; exact k1) k2
            have T3 := Lib.hid t3
            have D3 := Lib.hid (DD.out w3 k2)
            have L3 := Lib.hid (HBX.out.trans bel3)
            have CO := Lib.hid (refOpen_any B3 (m + xd.size) d3 (s.beg ++ dl.take xd.size) w3 (Byt.of_own t3.way t3.rng) (Nat.lt_of_lt_of_le hw0 L3.out.size) (by omega) x u e0 HO.out)
            clear k1 k2 t3 bel3 GO DD HW HHB HBX
            go_wp2_with fail
            refine CO.out.mono ?_
            rintro e w4 ⟨A4, n4, c4, rfl, hb4, b4⟩
            have T4 := Lib.hid (T3.out.below b4)
            have D4 := Lib.hid (D3.out.below b4)
            have L4 := Lib.hid (L3.out.trans (b4.mono L3.out.size))
            have H4 := Lib.hid hb4
            clear b4 hb4 CO T3 D3 L3
            by_cases he10 : e0 = 10
            · subst he10
              have hne : ((10 : Int) == 0) = false := rfl
              have hH := HH.out
              rw [if_pos rfl] at hH
              rw [hH] at OKH HOH SF0
              have hsf : sheetF s i xf dl = ((⟨s.out, s.beg ++ dl.take xd.size, s.frm⟩ : Fs), true) := SF0.out
              obtain ⟨s1, hs1⟩ : ∃ s1, (⟨s.out, s.beg ++ dl.take xd.size, s.frm⟩ : Fs) = s1 := ⟨_, rfl⟩
              have T5 : Hid (Two8 w.heap.size w4 A2 n2 c2 s1.out B3 (m + xd.size) d3 (s.beg ++ dl.take xd.size)) := Lib.hid (by rw [← hs1]; exact T4.out)
              have NUM : Hid (s1.out.length ≤ 243 * i + 1) := Lib.hid (by have := HOH.out.2; rw [← hs1]; simp only at this ⊢; omega)
              have UD : Hid ((true = false → s1.beg = []) ∧ (true = true → s1.beg ≠ [] ∧ (s.beg ++ dl.take xd.size) = s1.beg ∧ frm = s1.frm)) := Lib.hid ⟨fun e => (by cases e), fun _ => by rw [← hs1]; exact ⟨by have := HBN.out; simp [this], rfl, HFR.out⟩⟩
              have OK5 : Hid s1.Ok := Lib.hid (by rw [← hs1]; exact OKH.out)
              rw [hs1] at hsf
              have SF := Lib.hid hsf
              have HB5 := L4
              have D5 := D4
              clear hH hs1 hsf SF0 HH HO OKH HOH T4 D4 L4 H4 HBN HFR hu
              have e5 : sheetF s i xf dl = (s1, true) := SF.out
              rw [e5] at NX LS
              have N := Lib.hid (NX.out w4 A2 n2 c2 B3 (m + xd.size) d3 (s.beg ++ dl.take xd.size) frm true (by first | rfl | trivial) T5.out HB5.out UD.out)
              clear e5 NX LS HR HS T5 HB5 D5
              go_wp2_with fail
              go_roundw
              case rel => exact ⟨i + 1, s1, A2, n2, c2, B3, (m + xd.size), d3, (s.beg ++ dl.take xd.size), frm, true, by omega, by go_num, by go_num, by go_num, by go_num, by go_num, N.out⟩
              case measure => simp [intOf]; omega
            · have hne10 : ((e0 : Int) != 10) = true := by simp; omega
              have HE10 := Lib.hid he10
              clear he10
              by_cases hgood : e0 = 0 ∧ u = m + xd.size
              · obtain ⟨rfl, rfl⟩ := hgood
                have hH := HH.out
                rw [if_neg (by omega), if_pos ⟨rfl, rfl⟩] at hH
                rw [hH] at OKH HOH SF0
                have hsf : sheetF s i xf dl = ((⟨s.out ++ [(x, s.frm)], [], s.frm⟩ : Fs), true) := SF0.out
                have kc := conv_byt H4.out
                have hnum' : n2 ≤ 900000 := by have := T4.out.len; omega
                have own7 := T4.out.own
                have OW7 : Hid (∀ o, (w4.alloc o).ownsRow w.heap.size 55 2 (.slice A2 n2 c2) n2 (s.out.flatMap fndC)) := Lib.hid (fun o => own_stay own7 (fun q hq => ((Below.refl w4.heap.size w4).alloc (Nat.le_refl _) o).block q (own7.lt q hq).2))
                have BS7 : Hid (∀ o, w.heap.size ≤ (w4.alloc o).heap.size) := Lib.hid (fun o => Nat.le_trans L4.out.size (by simp))
                have hfe := HFR.out
                subst hfe
                have KN := Lib.hid (fun A' c' w' o q1 q2 => T4.out.more (w2 := w4.alloc o) (A' := A') (c' := c') (w' := w') (x := x) (i := s.frm) ((Below.refl w4.heap.size w4).alloc (Nat.le_refl _) o) q1 q2 L4.out.size)
                obtain ⟨sf, hsf'⟩ : ∃ sf, s.frm = sf := ⟨_, rfl⟩
                have HSF := Lib.hid hsf'
                rw [hsf'] at KN
                rw [hsf'] at hsf OKH HOH
                (try rw [hsf'])
                clear own7 hH HH HO H4
                go_wp2_with (at_builtin; refine wpList_append_1 rfl _ _ 48 rfl w.heap.size 55 j0 _ 2 24 Tryd.underlying48 hj0 hy0 hy1 hy2 (by rfl) (by omega) (by rfl) (OW7.out _) (g := w4.heap.size) (cs := #[.string (strOfNums x), .int .i64 sf]) (by rfl) (Bk.new _ _ _) (by rfl) (fnd_one _ _) (by omega) (by omega) (BS7.out _) ?_)
                intro A8 c8 w8 k1 k2 _
                obtain ⟨t8, b8, dd8⟩ := KN.out A8 c8 w8 _ k1 k2
                obtain ⟨s1, hs1⟩ : ∃ s1, (⟨s.out ++ [(x, sf)], [], sf⟩ : Fs) = s1 := ⟨_, rfl⟩
                have T5 : Hid (Two8 w.heap.size w8 A8 (n2 + 1) c8 s1.out B3 (m + xd.size) d3 (s.beg ++ dl.take xd.size)) := Lib.hid (by rw [← hs1]; exact t8)
                have NUM : Hid (s1.out.length ≤ 243 * i + 1) := Lib.hid (by have := HOH.out.2; rw [← hs1]; simp only at this ⊢; omega)
                have UD : Hid ((false = false → s1.beg = []) ∧ (false = true → s1.beg ≠ [] ∧ (s.beg ++ dl.take xd.size) = s1.beg ∧ sf = s1.frm)) := Lib.hid ⟨fun _ => by rw [← hs1], fun e => (by cases e)⟩
                have OK5 : Hid s1.Ok := Lib.hid (by rw [← hs1]; exact OKH.out)
                rw [hs1] at hsf
                have SF := Lib.hid hsf
                have HB5 := Lib.hid (L4.out.trans b8)
                have D5 := Lib.hid (dd8 _ _ _ _ D4.out)
                clear k1 k2 t8 b8 dd8 hs1 hsf hsf' HSF SF0 KN OW7 BS7 OKH HOH T4 D4 L4 HBN HFR hu kc
                have e5 : sheetF s i xf dl = (s1, true) := SF.out
                rw [e5] at NX LS
                have N := Lib.hid (NX.out w8 A8 (n2 + 1) c8 B3 (m + xd.size) d3 (s.beg ++ dl.take xd.size) sf false (by first | rfl | trivial) T5.out HB5.out UD.out)
                clear e5 NX LS HR HS T5 HB5 D5
                go_wp2_with fail
                go_roundw
                case rel => exact ⟨i + 1, s1, A8, (n2 + 1), c8, B3, (m + xd.size), d3, (s.beg ++ dl.take xd.size), sf, false, by omega, by go_num, by go_num, by go_num, by go_num, by go_num, N.out⟩
                case measure => simp [intOf]; omega
              · have hH := HH.out
                rw [if_neg HE10.out, if_neg hgood] at hH
                rw [hH] at OKH SF0
                have hsf : sheetF s i xf dl = (s, false) := SF0.out
                rw [hsf] at LS
                have E := Lib.hid (LS.out (by first | rfl | trivial))
                have RR := Lib.hid (T4.out.end_ L4.out OKH.out.2)
                clear hH HH hsf SF0 NX LS HS HR T4 D4 L4 H4 HO OKH HOH
                by_cases he0 : e0 = 0
                · subst he0
                  have hune : ((u : Int) == (m : Int) + ((xd.size : Nat) : Int)) = false := by
                    have : u ≠ m + xd.size := fun q => hgood ⟨rfl, q⟩
                    simp
                    omega
                  have hne10 : ((0 : Int) != 10) = true := rfl
                  clear hgood hu
                  go_wp2_with fail
                  go_ret
                  rw [E.out]
                  exact RR.out
                · have hne0 : ((e0 : Int) == 0) = false := by simp; omega
                  clear hgood hu he0
                  go_wp2_with fail
                  go_ret
                  rw [E.out]
                  exact RR.out
    · have hie : i = n := by omega
      subst hie
      have e : found (l.map Sh.fd) = s.out := by
        rw [HR.out.go, List.drop_of_length_le (by rw [HS.out.len]; exact Nat.le_refl _)]
        rfl
      have E := Lib.hid e
      have RR := Lib.hid (HR.out.two.end_ HR.out.bel HR.out.ok.2)
      clear e HR HS
      go_wp2_with fail
      go_ret
      rw [E.out]
      exact RR.out
end Go.Proofs.YtljpnngknmpdoaaDoor

/- where the listed variable reads as the program's text lays it, its cells are the table's. -/
namespace Go.Proofs.YtljpnngknmpdoaaDoor
open Go.RowKit

theorem tab_global : Tryd.prog.globalNamed "troth/crc.byNibble" = some 0 := by kernel_rfl
theorem tab_type : (Tryd.prog.globals[0]?).map (·.type) = some 111 := by kernel_rfl

def tabZs : List Int := [0, 498536548, 997073096, 651767980, 1994146192, 1802195444, 1303535960, 1342533948, 3988292384, 4027552580, 3604390888, 3412177804, 2607071920, 2262029012, 2685067896, 3183342108]

theorem tab_zs (i : Nat) (h : i < 16) : tabZs.getD i 0 = (nib i : Int) := by
  have : i = 0 ∨ i = 1 ∨ i = 2 ∨ i = 3 ∨ i = 4 ∨ i = 5 ∨ i = 6 ∨ i = 7 ∨ i = 8 ∨ i = 9 ∨ i = 10 ∨ i = 11 ∨ i = 12 ∨ i = 13 ∨ i = 14 ∨ i = 15 := by omega
  rcases this with h | h | h | h | h | h | h | h | h | h | h | h | h | h | h | h <;> subst h <;> rfl

theorem tab_of_laid {W : World} (h : laidMetH Tryd.prog [("troth/crc.byNibble", Rows.laid_troth_crc_byNibble)] W) : Tab W := by
  rw [MakeChecks.laidMetH_plain _ _ _ (by kernel_rfl)] at h
  have h' : laidMet Tryd.prog (("troth/crc.byNibble", Lib.tabData .u32 tabZs) :: []) W := h
  have ht := Lib.tabIs_of_head (n := 16) tab_global tab_type Tryd.underlying111 Tryd.underlying96 (by kernel_rfl) (by kernel_rfl) h'
  intro i hi
  have := ht.cell tab_global i hi
  rw [tab_zs i hi] at this
  exact this
end Go.Proofs.YtljpnngknmpdoaaDoor
