/- What it says: contracts and plain mathematics that the laws' walks use, 3 of 3: each part's own remark says what; no condition. -/
import Derived.Test.YtjieledaiipheaaPk2
import Derived.Lib.SmallJoins
import Derived.ChangeArms
import Derived.Deep.QuietTactic
import Derived.BigQuiet
import Derived.RegionTactic
import Derived.BigRegion
import Derived.Deep.RegionHeld3
import Derived.Test.YtjieledaiipheaaRows
import Derived.ProofKit
import Derived.OpenShut
import Derived.ShutString
import Derived.ChangeOld
import Derived.SizedLaws

/- the statements' awake() answers true: the document's example. -/
namespace Go.Proofs.Ytjieledaiipheaa
open Go.RowKit

def aw1 : St := (St.new 2).write 0 (fullL 1)
def aw2 : St := aw1.sync
def aw3 : St := aw2.write 0 (fullL 2)
def awC : Crs := ⟨[], true, 3⟩
theorem aw1_eq : aw1 = (St.new 2).wrote 0 (fullL 1) := by
  unfold aw1 St.write
  rw [if_neg (by decide), if_neg (by rw [(fullL_sec (x := 1) (by omega)).1]; decide), if_pos (by rfl)]
  rfl
theorem aw2_eq : aw2 = aw1.synced := by
  unfold aw2 St.sync
  rw [if_pos (by rw [aw1_eq]; rfl)]
theorem aw3_eq : aw3 = aw2.wrote 0 (fullL 2) := by
  unfold aw3 St.write
  rw [if_neg (by rw [aw2_eq, aw1_eq]; decide), if_neg (by rw [(fullL_sec (x := 2) (by omega)).1]; decide), if_pos (by rw [aw2_eq, aw1_eq]; rfl)]
  rfl
theorem aw_e1 : (St.new 2).wErr 0 (fullL 1) = 0 := by
  unfold St.wErr
  rw [if_neg (by decide), if_neg (by rw [(fullL_sec (x := 1) (by omega)).1]; decide), if_pos (by rfl)]
theorem aw_e2 : aw1.sErr = 0 := by
  unfold St.sErr
  rw [if_pos (by rw [aw1_eq]; rfl)]
theorem aw_e3 : aw2.wErr 0 (fullL 2) = 0 := by
  unfold St.wErr
  rw [if_neg (by rw [aw2_eq, aw1_eq]; decide), if_neg (by rw [(fullL_sec (x := 2) (by omega)).1]; decide), if_pos (by rw [aw2_eq, aw1_eq]; rfl)]
theorem aw_p1 : (St.new 2).pend.length = 0 := rfl
theorem aw_p2 : aw2.pend.length = 0 := by rw [aw2_eq]; rfl
theorem aw_s1 : aw1.syncs = 0 := by rw [aw1_eq]; rfl
theorem aw_p3 : aw3.pend.length = 1 := by rw [aw3_eq]; show (aw2.pend ++ [_]).length = 1; rw [List.length_append, aw_p2]; rfl
theorem aw_r : (aw3.crash awC).rErr 0 = 0 := by
  unfold St.rErr
  rw [if_neg (by rw [aw3_eq, aw2_eq, aw1_eq]; decide)]
  rfl
theorem aw_now : (aw3.crash awC).now 0 = over (fullL 2) (fullL 1) 3 := by
  rw [aw3_eq, aw2_eq, aw1_eq]
  rfl
theorem aw_b : (aw3.crash awC).rBytes 0 = over (fullL 2) (fullL 1) 3 := by
  unfold St.rBytes
  rw [if_pos aw_r]
  exact aw_now
theorem full_at (x : Int) (i : Nat) (hi : i < 256) : (fullL x)[i]? = some x := by
  unfold fullL
  rw [List.getElem?_replicate, if_pos hi]
theorem over_left {l m : List Int} (hl : Sec l) (k i : Nat) (hk : k ≤ 256) (h : i < k) : (over l m k)[i]? = l[i]? := by
  unfold over
  have : (l.take k).length = k := by rw [List.length_take, hl.1]; omega
  rw [List.getElem?_append_left (by omega), List.getElem?_take, if_pos h]
theorem over_right {l m : List Int} (hl : Sec l) (k i : Nat) (hk : k ≤ 256) (h : k ≤ i) : (over l m k)[i]? = m[i]? := by
  unfold over
  have : (l.take k).length = k := by rw [List.length_take, hl.1]; omega
  rw [List.getElem?_append_right (by omega), List.getElem?_drop, this]
  congr 1
  omega
theorem over_at1 : (over (fullL 2) (fullL 1) 3).getD 2 0 = 2 := by
  rw [List.getD_eq_getElem?_getD, over_left (fullL_sec (x := 2) (by omega)) 3 2 (by omega) (by omega), full_at 2 2 (by omega)]
  rfl
theorem over_at2 : (over (fullL 2) (fullL 1) 3).getD 3 0 = 1 := by
  rw [List.getD_eq_getElem?_getD, over_right (fullL_sec (x := 2) (by omega)) 3 3 (by omega) (by omega), full_at 1 3 (by omega)]
  rfl

theorem new_two (w : World) : Calls Try.prog 7 #[.int .i64 2] w (fun e w' => ∃ b, e = .returned (.tuple #[.pointer (some ⟨b, 0, none⟩), .int .i64 0]) ∧ Has w.heap.size ((dsk b (St.new 2)).star emp) w' ∧ Below w.heap.size w w') :=
  hasD_new (Has.emp _ _) (Nat.le_refl _) 2 (by omega)

theorem nts_nil (w : World) : Nts w none 0 0 [] := ⟨rfl, Nat.le_refl _, Nat.zero_le _, fun i hi => absurd hi (by omega), fun h => absurd h (by omega)⟩

end Go.Proofs.Ytjieledaiipheaa

/- the statements' awake() answers true: a record is saved, and loaded. -/
namespace Go.Proofs.Ytjieledaiipheaa
open Go.RowKit

def mA : Ms := ⟨1, 0, 0, 7, 0⟩
theorem mA_ok : mA.ok := ⟨⟨by decide, by decide⟩, ⟨by decide, by decide⟩, ⟨by decide, by decide⟩, ⟨by decide, by decide⟩, ⟨by decide, by decide⟩⟩
theorem mA_v : msV mA = .agg #[.int .i64 1, .int .i64 0, .int .i64 0, .int .i64 7, .int .i64 0] := rfl

set_option maxRecDepth 100000 in
set_option maxHeartbeats 2000000 in
theorem awakeM_any (w : World) : Calls Try.prog 12 #[] w (Ret (.bool true) w) := by
  have CN := Lib.hid (new_two w)
  obtain ⟨a1, a2, a3, _⟩ := Mst.start.save mA_ok
  have A1 := Lib.hid a1
  have A3 := Lib.hid a3
  have AL : Hid (loadM ((saveS (St.new 2) mA).syn 0) ((saveS (St.new 2) mA).syn 1) = mA ∧ lostE (loadM ((saveS (St.new 2) mA).syn 0) ((saveS (St.new 2) mA).syn 1)) = 0) := Lib.hid (by
    rw [a2]
    exact (Lst.first mA_ok (fun _ => rfl) (msL_rec mA_ok)).load)
  clear a1 a2 a3
  go_enter Try.func12, Try.ntmps12
  go_wp2_with fail
  refine CN.out.mono ?_
  rintro e w1 ⟨b, rfl, h1, b1⟩
  have CS := save_any h1 b1.size mA mA_ok.fits (Nat.zero_lt_succ _) (by rw [putS_syncs0 Mst.start]; exact Nat.zero_lt_succ _)
  rw [A1.out, mA_v] at CS
  have CS := Lib.hid CS
  have B1 := Lib.hid b1
  clear h1 b1 CN
  go_wp2_with fail
  refine CS.out.mono ?_
  rintro e w2 ⟨rfl, h2, b2⟩
  have CL := load_any h2
  rw [A3.out.load.1, A3.out.load.2, AL.out.2, AL.out.1, mA_v] at CL
  have CL := Lib.hid CL
  have B2 := Lib.hid (B1.out.trans b2)
  clear h2 b2 CS
  go_wp2_with fail
  refine CL.out.mono ?_
  rintro e w3 ⟨rfl, b3⟩
  have B3 := Lib.hid (B2.out.trans (b3.mono B2.out.size))
  clear b3 CL
  go_wp2_with fail
  go_ret
  exact ⟨rfl, B3.out.alloc B3.out.size _⟩
end Go.Proofs.Ytjieledaiipheaa

/- the statements' calls, and a crash, as they come in: what they read as; long() tells whether there is more than is played. -/
namespace Go.Proofs.Ytjieledaiipheaa
open Go.RowKit Go.ChangeShapes Go.WideShapes Go.ChangeAt

/-- A call as it came in. -/
structure Cal where
  kind : Int
  n : Int
  b : Int
  dA : Option Addr
  dn : Nat
  dc : Nat
  data : List Int
  kA : Option Addr
  kn : Nat
  kc : Nat
  crs : Crs

instance : Inhabited Cal := ⟨⟨0, 0, 0, none, 0, 0, [], none, 0, 0, ⟨[], false, 0⟩⟩⟩

/-- What is known of one. -/
structure Cal.In (w : World) (c : Cal) : Prop where
  kind : -9223372036854775808 ≤ c.kind ∧ c.kind ≤ 9223372036854775807
  n : -9223372036854775808 ≤ c.n ∧ c.n ≤ 9223372036854775807
  b : 0 ≤ c.b ∧ c.b < 256
  data : Byt w c.dA c.dn c.dc c.data
  keep : Nts w c.kA c.kn c.kc c.crs.keep
  cut : -9223372036854775808 ≤ c.crs.cut ∧ c.crs.cut ≤ 9223372036854775807

theorem Cal.In.below {w w' : World} {c : Cal} (h : c.In w) (hb : Below w.heap.size w w') : c.In w' := ⟨h.kind, h.n, h.b, h.data.below hb, h.keep.below hb, h.cut⟩

/-- The cells of one. -/
def Cal.cells (c : Cal) : List Value := [.int .i64 c.kind, .int .i64 c.n, .int .u8 c.b, .slice c.dA c.dn c.dc, .slice c.kA c.kn c.kc, .bool c.crs.torn, .int .i64 c.crs.cut]

/-- The slice reads as these calls. -/
structure Cls (w : World) (A : Option Addr) (n c : Nat) (cs : List Cal) : Prop where
  len : cs.length = n
  cap : n ≤ c
  max : c ≤ maxLen
  each : ∀ i, i < n → (cs.getD i default).In w
  at_ : 0 < n → ∃ g off, A = some ⟨g, off, none⟩ ∧ ∀ i, i < n → ∀ j v, (cs.getD i default).cells[j]? = some v → w.cell? ⟨g, off + i * 7 + j, none⟩ = some v

theorem Cls.below {w w' : World} {A : Option Addr} {n c : Nat} {cs : List Cal} (h : Cls w A n c cs) (hb : Below w.heap.size w w') : Cls w' A n c cs :=
  ⟨h.len, h.cap, h.max, fun i hi => (h.each i hi).below hb, fun hn => by
    obtain ⟨g, off, e, hc⟩ := h.at_ hn
    exact ⟨g, off, e, fun i hi j v hv => (hb.cell (World.block_lt_of_cell? w _ (hc i hi j v hv))).trans (hc i hi j v hv)⟩⟩

theorem list_of {α : Type} (d : α) (P : Nat → α → Prop) : ∀ n : Nat, (∀ i, i < n → ∃ x, P i x) → ∃ l : List α, l.length = n ∧ ∀ i, i < n → P i (l.getD i d)
  | 0, _ => ⟨[], rfl, fun i hi => absurd hi (by omega)⟩
  | n + 1, h => by
    obtain ⟨l, hl, hp⟩ := list_of d P n (fun i hi => h i (by omega))
    obtain ⟨x, hx⟩ := h n (by omega)
    refine ⟨l ++ [x], by simp [hl], fun i hi => ?_⟩
    by_cases he : i < n
    · have := hp i he
      have e : (l ++ [x]).getD i d = l.getD i d := by simp [List.getD, List.getElem?_append_left (show i < l.length by omega)]
      rwa [e]
    · obtain rfl : i = n := by omega
      have : (l ++ [x]).getD l.length d = x := by simp
      rw [hl] at this
      rw [this]
      exact hx

section
variable {H : Type} {enc : TypeId × Value → H} {W : World}

theorem cells_crash : Try.prog.cellsOf 47 = 3 := by kernel_rfl
theorem cells_byte : Try.prog.cellsOf 5 = 1 := by kernel_rfl
theorem cells_bool : Try.prog.cellsOf 4 = 1 := by kernel_rfl
theorem cells_bytes : Try.prog.cellsOf 34 = 1 := by kernel_rfl
theorem cells_nts : Try.prog.cellsOf 45 = 1 := by kernel_rfl

theorem open_nts1 {k : Nat} {v : Value} {x : DataW H × List MemPlace} (hf : DataW.trod enc Try.prog W 0 (fun _ => true) true k 45 [v] = some x) : ∃ A n c l, v = .slice A n c ∧ Nts W A n c l := by
  have hf' := hf
  rcases open_ints Try.underlying45 Try.underlying3 cells_int hf with ⟨hcs, _⟩ | ⟨y, len, cap, zs, hcs, _⟩
  · obtain rfl : v = .slice none 0 0 := by simpa using hcs
    obtain ⟨l, hl⟩ := open_i64s (enc := enc) (d := x.1) (p := x.2) ⟨k, hf'⟩
    exact ⟨_, _, _, l, rfl, hl⟩
  · obtain rfl : v = .slice (some y) len cap := by simpa using hcs
    obtain ⟨l, hl⟩ := open_i64s (enc := enc) (d := x.1) (p := x.2) ⟨k, hf'⟩
    exact ⟨_, _, _, l, rfl, hl⟩

theorem u8_bd' {x : Int} (h : (Lit.int .u8 x).wf = true) : 0 ≤ x ∧ x < 256 := by
  simp [Lit.wf, IntKind.min, IntKind.max, IntKind.signed, IntKind.bits] at h
  exact ⟨by omega, by omega⟩

theorem open_byt1 {k : Nat} {v : Value} {x : DataW H × List MemPlace} (hf : DataW.trod enc Try.prog W 0 (fun _ => true) true k 34 [v] = some x) : ∃ A n c l, v = .slice A n c ∧ Byt W A n c l := by
  rcases open_ints Try.underlying34 Try.underlying5 cells_byte hf with ⟨hcs, _⟩ | ⟨y, n, c, zs, hcs, _, hl, hm, hz, hx, hcell, hwz⟩
  · obtain rfl : v = .slice none 0 0 := by simpa using hcs
    exact ⟨_, _, _, [], rfl, Byt.nil W⟩
  · obtain rfl : v = .slice (some y) n c := by simpa using hcs
    have hzl : zs.length = c := by simpa using hz
    refine ⟨_, _, _, zs.take n, rfl, ⟨by simp; omega, hl, hm, fun y hy => u8_bd' (hwz y (List.mem_of_mem_take hy)), (fun h => nomatch h), fun hn => ?_⟩⟩
    obtain ⟨g, off, spot⟩ := y
    have hspot : spot = none := by simpa [Addr.add] using World.cell?_spot (hcell 0 (by omega))
    subst hspot
    refine ⟨g, off, rfl, fun i hi => ?_⟩
    have h1 := hcell i (by omega)
    have hadd : (⟨g, off, none⟩ : Addr).add i = ⟨g, off + i, none⟩ := by unfold Addr.add; split <;> simp_all
    rw [hadd] at h1
    rw [h1]
    congr 2
    simp [List.getD, hi]

/-- A crash's three cells. -/
theorem open_crash3 {k : Nat} {v0 v1 v2 : Value} {x : DataW H × List MemPlace} (hf : DataW.trod enc Try.prog W 0 (fun _ => true) true k 47 [v0, v1, v2] = some x) :
    ∃ A n c, ∃ cr : Crs, v0 = .slice A n c ∧ v1 = .bool cr.torn ∧ v2 = .int .i64 cr.cut ∧ Nts W A n c cr.keep ∧ -9223372036854775808 ≤ cr.cut ∧ cr.cut ≤ 9223372036854775807 := by
  obtain ⟨xs, k', _, _, _, hxl, hfld⟩ := DataW.trod_struct Try.underlying47 hf
  match xs, hxl with
  | [x0, x1, x2], _ =>
    have f0 : DataW.trod enc Try.prog W 0 (fun _ => true) true k' 45 (List.take (Try.prog.cellsOf 45) [v0, v1, v2]) = some x0 := hfld 0 _ rfl
    have f1 : DataW.trod enc Try.prog W 0 (fun _ => true) true k' 4 (List.take (Try.prog.cellsOf 4) [v1, v2]) = some x1 := hfld 1 _ rfl
    have f2 : DataW.trod enc Try.prog W 0 (fun _ => true) true k' 3 (List.take (Try.prog.cellsOf 3) [v2]) = some x2 := hfld 2 _ rfl
    rw [cells_nts] at f0
    rw [cells_bool] at f1
    rw [cells_int] at f2
    obtain ⟨A, n, c, l, rfl, hn⟩ := open_nts1 f0
    obtain ⟨t, e1, _⟩ := DataW.trod_bool Try.underlying4 f1
    obtain ⟨z, e2, _, wz⟩ := DataW.trod_int Try.underlying3 f2
    simp at e1 e2
    subst e1 e2
    exact ⟨A, n, c, ⟨l, t, z⟩, rfl, rfl, rfl, hn, wf_i64 wz⟩

set_option maxRecDepth 100000 in
theorem open_crash {r : Reach} {b0 : Nat} {v : Value} {d : DataW H} {p : List MemPlace} (hv : Value.okWide Try.prog W r b0 47 v) (h : DataW.Trod enc Try.prog W 0 (fun _ => true) true 47 v d p) :
    ∃ A n c, ∃ cr : Crs, v = .agg (#[.slice A n c, .bool cr.torn, .int .i64 cr.cut]) ∧ Nts W A n c cr.keep ∧ -9223372036854775808 ≤ cr.cut ∧ cr.cut ≤ 9223372036854775807 := by
  obtain ⟨cs, rfl, hsz⟩ := okWide_struct Try.underlying47 hv
  rw [cells_crash] at hsz
  obtain ⟨fuel, hf⟩ := h
  obtain ⟨l⟩ := cs
  match l, hsz with
  | [v0, v1, v2], _ =>
    obtain ⟨A, n, c, cr, rfl, rfl, rfl, hn⟩ := open_crash3 (v0 := v0) (v1 := v1) (v2 := v2) hf
    exact ⟨A, n, c, cr, rfl, hn⟩

end
end Go.Proofs.Ytjieledaiipheaa

/- a record, and the statements' list of records that are saved (Saved), as they come in: what they read as. -/
namespace Go.Proofs.Ytjieledaiipheaa
open Go.RowKit Go.ChangeShapes Go.WideShapes Go.ChangeAt

section
variable {H : Type} {enc : TypeId × Value → H} {W : World}

theorem cells_ms : Try.prog.cellsOf 23 = 5 := by kernel_rfl

set_option maxRecDepth 100000 in
theorem open_ms5 {k : Nat} {v0 v1 v2 v3 v4 : Value} {x : DataW H × List MemPlace} (hf : DataW.trod enc Try.prog W 0 (fun _ => true) true k 23 [v0, v1, v2, v3, v4] = some x) :
    ∃ m : Ms, .agg #[v0, v1, v2, v3, v4] = msV m ∧ m.fits := by
  obtain ⟨xs, k', _, _, _, hxl, hfld⟩ := DataW.trod_struct Try.underlying23 hf
  match xs, hxl with
  | [x0, x1, x2, x3, x4], _ =>
    have f0 : DataW.trod enc Try.prog W 0 (fun _ => true) true k' 3 (List.take (Try.prog.cellsOf 3) [v0, v1, v2, v3, v4]) = some x0 := hfld 0 _ rfl
    have f1 : DataW.trod enc Try.prog W 0 (fun _ => true) true k' 3 (List.take (Try.prog.cellsOf 3) [v1, v2, v3, v4]) = some x1 := hfld 1 _ rfl
    have f2 : DataW.trod enc Try.prog W 0 (fun _ => true) true k' 3 (List.take (Try.prog.cellsOf 3) [v2, v3, v4]) = some x2 := hfld 2 _ rfl
    have f3 : DataW.trod enc Try.prog W 0 (fun _ => true) true k' 3 (List.take (Try.prog.cellsOf 3) [v3, v4]) = some x3 := hfld 3 _ rfl
    have f4 : DataW.trod enc Try.prog W 0 (fun _ => true) true k' 3 (List.take (Try.prog.cellsOf 3) [v4]) = some x4 := hfld 4 _ rfl
    rw [cells_int] at f0 f1 f2 f3 f4
    obtain ⟨k0, e0, _, w0⟩ := DataW.trod_int Try.underlying3 f0
    obtain ⟨k1, e1, _, w1⟩ := DataW.trod_int Try.underlying3 f1
    obtain ⟨k2, e2, _, w2⟩ := DataW.trod_int Try.underlying3 f2
    obtain ⟨k3, e3, _, w3⟩ := DataW.trod_int Try.underlying3 f3
    obtain ⟨k4, e4, _, w4⟩ := DataW.trod_int Try.underlying3 f4
    simp at e0 e1 e2 e3 e4
    subst e0 e1 e2 e3 e4
    refine ⟨⟨k0, k1, k2, k3, k4⟩, rfl, fun k => ?_⟩
    match k with
    | 0 => exact wf_i64 w0
    | 1 => exact wf_i64 w1
    | 2 => exact wf_i64 w2
    | 3 => exact wf_i64 w3
    | _ + 4 => exact wf_i64 w4

set_option maxRecDepth 100000 in
theorem open_ms {r : Reach} {b0 : Nat} {v : Value} {d : DataW H} {p : List MemPlace} (hv : Value.okWide Try.prog W r b0 23 v) (h : DataW.Trod enc Try.prog W 0 (fun _ => true) true 23 v d p) :
    ∃ m : Ms, v = msV m ∧ m.fits := by
  obtain ⟨cs, rfl, hsz⟩ := okWide_struct Try.underlying23 hv
  rw [cells_ms] at hsz
  obtain ⟨fuel, hf⟩ := h
  obtain ⟨l⟩ := cs
  match l, hsz with
  | [v0, v1, v2, v3, v4], _ => exact open_ms5 (v0 := v0) (v1 := v1) (v2 := v2) (v3 := v3) (v4 := v4) hf
end

/-- One as it came in. -/
structure Sav where
  inc : Int
  first : Int
  lsn : Int
  chk : Int
  fuse : Int
  kA : Option Addr
  kn : Nat
  kc : Nat
  crs : Crs

instance : Inhabited Sav := ⟨⟨0, 0, 0, 0, 0, none, 0, 0, ⟨[], false, 0⟩⟩⟩

/-- What is known of one. -/
structure Sav.In (w : World) (c : Sav) : Prop where
  inc : -9223372036854775808 ≤ c.inc ∧ c.inc ≤ 9223372036854775807
  first : -9223372036854775808 ≤ c.first ∧ c.first ≤ 9223372036854775807
  lsn : -9223372036854775808 ≤ c.lsn ∧ c.lsn ≤ 9223372036854775807
  chk : -9223372036854775808 ≤ c.chk ∧ c.chk ≤ 9223372036854775807
  fuse : -9223372036854775808 ≤ c.fuse ∧ c.fuse ≤ 9223372036854775807
  keep : Nts w c.kA c.kn c.kc c.crs.keep
  cut : -9223372036854775808 ≤ c.crs.cut ∧ c.crs.cut ≤ 9223372036854775807

theorem Sav.In.below {w w' : World} {c : Sav} (h : c.In w) (hb : Below w.heap.size w w') : c.In w' := ⟨h.inc, h.first, h.lsn, h.chk, h.fuse, h.keep.below hb, h.cut⟩

/-- The cells of one. -/
def Sav.cells (c : Sav) : List Value := [.int .i64 c.inc, .int .i64 c.first, .int .i64 c.lsn, .int .i64 c.chk, .int .i64 c.fuse, .slice c.kA c.kn c.kc, .bool c.crs.torn, .int .i64 c.crs.cut]

/-- The slice reads as these. -/
structure Svs (w : World) (A : Option Addr) (n c : Nat) (cs : List Sav) : Prop where
  len : cs.length = n
  cap : n ≤ c
  max : c ≤ maxLen
  each : ∀ i, i < n → (cs.getD i default).In w
  at_ : 0 < n → ∃ g off, A = some ⟨g, off, none⟩ ∧ ∀ i, i < n → ∀ j v, (cs.getD i default).cells[j]? = some v → w.cell? ⟨g, off + i * 8 + j, none⟩ = some v

section
variable {H : Type} {enc : TypeId × Value → H} {W : World}

theorem cells_saved : Try.prog.cellsOf 49 = 8 := by kernel_rfl

set_option maxRecDepth 100000 in
set_option maxHeartbeats 1000000 in
theorem open_saveds {A : Option Addr} {n c : Nat} {d : DataW H} {p : List MemPlace} (h : DataW.Trod enc Try.prog W 0 (fun _ => true) true 44 (.slice A n c) d p) : ∃ cs, Svs W A n c cs := by
  obtain ⟨fuel, hf⟩ := h
  rcases Go.Deep.open_slice Try.underlying44 hf with ⟨hcs, _⟩ | ⟨a, len, cap, m, k, D, Pl, hcs, _, hl, hm, hmm, _, hx⟩
  · simp [Value.cells] at hcs
    obtain ⟨rfl, rfl, rfl⟩ := hcs
    exact ⟨[], rfl, Nat.le_refl _, Nat.zero_le _, fun i hi => absurd hi (by omega), fun h => absurd h (by omega)⟩
  · simp [Value.cells] at hcs
    obtain ⟨rfl, rfl, rfl⟩ := hcs
    have hmc : m = c := by simpa using hmm
    subst hmc
    have each : ∀ i, i < n → ∃ x : Sav, x.In W ∧ ∀ j v, x.cells[j]? = some v → W.cell? ((a.add (i * 8)).add j) = some v := by
      intro i hi
      obtain ⟨cs', hc, ht⟩ := hx i (by omega)
      rw [cells_saved] at hc
      obtain ⟨_, hcl, hat⟩ := World.cells?_some hc
      obtain ⟨xs, k', _, _, _, hxl, hfld⟩ := DataW.trod_struct Try.underlying49 ht
      match cs', hcl, xs, hxl with
      | [u0, u1, u2, u3, u4, u5, u6, u7], _, [x0, x1, x2, x3, x4, x5], _ =>
        have f0 : DataW.trod enc Try.prog W 0 (fun _ => true) true k' 3 (List.take (Try.prog.cellsOf 3) [u0, u1, u2, u3, u4, u5, u6, u7]) = some x0 := hfld 0 _ rfl
        have f1 : DataW.trod enc Try.prog W 0 (fun _ => true) true k' 3 (List.take (Try.prog.cellsOf 3) [u1, u2, u3, u4, u5, u6, u7]) = some x1 := hfld 1 _ rfl
        have f2 : DataW.trod enc Try.prog W 0 (fun _ => true) true k' 3 (List.take (Try.prog.cellsOf 3) [u2, u3, u4, u5, u6, u7]) = some x2 := hfld 2 _ rfl
        have f3 : DataW.trod enc Try.prog W 0 (fun _ => true) true k' 3 (List.take (Try.prog.cellsOf 3) [u3, u4, u5, u6, u7]) = some x3 := hfld 3 _ rfl
        have f4 : DataW.trod enc Try.prog W 0 (fun _ => true) true k' 3 (List.take (Try.prog.cellsOf 3) [u4, u5, u6, u7]) = some x4 := hfld 4 _ rfl
        have f5 : DataW.trod enc Try.prog W 0 (fun _ => true) true k' 47 (List.take (Try.prog.cellsOf 47) [u5, u6, u7]) = some x5 := hfld 5 _ rfl
        rw [cells_int] at f0 f1 f2 f3 f4
        rw [cells_crash] at f5
        obtain ⟨k0, e0, _, w0⟩ := DataW.trod_int Try.underlying3 f0
        obtain ⟨k1, e1, _, w1⟩ := DataW.trod_int Try.underlying3 f1
        obtain ⟨k2, e2, _, w2⟩ := DataW.trod_int Try.underlying3 f2
        obtain ⟨k3, e3, _, w3⟩ := DataW.trod_int Try.underlying3 f3
        obtain ⟨k4, e4, _, w4⟩ := DataW.trod_int Try.underlying3 f4
        obtain ⟨kA, kn, kc, cr, rfl, rfl, rfl, hk, hc1, hc2⟩ := open_crash3 f5
        simp at e0 e1 e2 e3 e4
        subst e0 e1 e2 e3 e4
        refine ⟨⟨k0, k1, k2, k3, k4, kA, kn, kc, cr⟩, ⟨wf_i64 w0, wf_i64 w1, wf_i64 w2, wf_i64 w3, wf_i64 w4, hk, hc1, hc2⟩, fun j v hv => ?_⟩
        have hj : j < 8 := by have := (List.getElem?_eq_some_iff.1 hv).1; simpa [Sav.cells] using this
        have := hat j (by simpa using hj)
        rw [this]
        exact hv
    obtain ⟨ps, hlen, hps⟩ := list_of (default : Sav) _ n each
    refine ⟨ps, hlen, hl, hm, fun i hi => (hps i hi).1, fun hn => ?_⟩
    obtain ⟨g, off, spot⟩ := a
    have hspot : spot = none := by
      have := (hps 0 hn).2 0 _ rfl
      have h2 := World.cell?_spot this
      simpa [Addr.add] using h2
    subst hspot
    have hadd : ∀ i j : Nat, ((⟨g, off, none⟩ : Addr).add i).add j = ⟨g, off + i + j, none⟩ := by
      intro i j
      by_cases hi : i = 0 <;> by_cases hj : j = 0 <;> simp [Addr.add, hi, hj]
    refine ⟨g, off, rfl, fun i hi j v hv => ?_⟩
    have := (hps i hi).2 j v hv
    rwa [hadd] at this
end
end Go.Proofs.Ytjieledaiipheaa

/- the document's Next, Wrap and Open (trothref05) answer what the plain mathematics says. -/
namespace Go.Proofs.Ytjieledaiipheaa
open Go.RowKit

set_option maxHeartbeats 4000000 in
theorem ropen_any (A : Option Addr) (n c : Nat) (l : List Int) (w : World) (h : Byt w A n c l) :
    Calls Try.prog 46 #[.slice A n c] w (RetByt2 (openB l) .i64 (openE l) w) := by
  have hl := h.len
  have hcap := h.cap
  have hmax := h.max
  unfold maxLen at hmax
  by_cases hn : n = 256
  · subst hn
    obtain ⟨g, off, rfl, h0, h1⟩ := h.ends
    have ra := h.lt_ 0 (by omega)
    have rb := h.lt_ 255 (by omega)
    have HB := Lib.hid h
    have HR : Hid (rightL l ↔ l.getD 0 0 = l.getD 255 0 ∧ 1 ≤ l.getD 0 0 ∧ l.getD 0 0 ≤ 3) := Lib.hid Iff.rfl
    have HL := Lib.hid hl
    obtain ⟨a, ha⟩ : ∃ a, l.getD 0 0 = a := ⟨_, rfl⟩
    obtain ⟨b, hb⟩ : ∃ b, l.getD 255 0 = b := ⟨_, rfl⟩
    rw [ha, hb] at HR
    rw [ha] at h0 ra
    rw [hb] at h1 rb
    clear ha hb h hl
    by_cases hab : a = b
    · subst hab
      have d1 : (a != a) = false := by simp
      by_cases hs : 1 ≤ a ∧ a ≤ 3
      · have E : Hid (openE l = 0 ∧ openB l = bodyL l) := Lib.hid ⟨openE_right HL.out (HR.out.2 ⟨rfl, hs⟩), openB_right HL.out (HR.out.2 ⟨rfl, hs⟩)⟩
        rw [E.out.1, E.out.2]
        obtain ⟨i0, hi, hz0, hz1, hz2⟩ := info_parts info_u8
        have d2 : decide (a < 1) = false := by simp; omega
        have d3 : decide (3 < a) = false := by simp; omega
        have HBD : Hid (∀ k, Byt (w.drewN k) (some ⟨g, off + 1, none⟩) 254 (c - 1) (bodyL l)) := Lib.hid (fun k => HB.out.body.drewN k)
        have HOW : Hid (∀ k, ((w.drewN k).alloc (.cells #[] 5)).ownsRow w.heap.size 5 1 (.slice (some ⟨w.heap.size, 0, none⟩) 0 0) 0 ([].map (Value.int .u8))) := Lib.hid (fun k => World.ownsRow_made (base := w.heap.size) (e := 5) (size := 1) (w.drewN k) #[] 0 (Nat.le_refl _) (Nat.zero_le _) rfl)
        clear hs E HR HL
        go_enter Try.func46, Try.ntmps46
        go_wp2_with fail
        go_quiet (fail)
        go_wp2_with (at_builtin; refine wpList_append_byt rfl _ _ 34 rfl w.heap.size 5 i0 Try.underlying34 hi hz0 hz1 hz2 _ 0 [] rfl (by exact HOW.out _) (some ⟨g, off + 1, none⟩) 254 (c - 1) (bodyL l) rfl ((HBD.out _).alloc _) (by omega) (by simp) ?_)
        intro A' c' w' h1' h2'
        have R : Hid (Byt w' A' (0 + 254) c' ([] ++ bodyL l) ∧ Below w.heap.size w w') := Lib.hid ⟨Byt.of_own h1' (bodyL_rng HB.out.rng), ((below_drewN (Below.refl w.heap.size w) _).alloc (Nat.le_refl _) _).grown h2' (by simp) (by intro k hk; simp [Value.ownBlock] at hk; omega)⟩
        clear h1' h2' HBD HOW
        go_wp2_with fail
        go_ret2
        exact ⟨_, _, _, rfl, R.out.1, R.out.2⟩
      · have E : Hid (openE l = 50 ∧ openB l = []) := Lib.hid ⟨openE_torn HL.out (fun q => hs (HR.out.1 q).2), openB_bad (by rw [openE_torn HL.out (fun q => hs (HR.out.1 q).2)]; omega)⟩
        rw [E.out.1, E.out.2]
        by_cases h1' : a < 1
        · have d2 : decide (a < 1) = true := by simpa using h1'
          clear hs E HR HL h1'
          go_enter Try.func46, Try.ntmps46
          go_wp2_with fail
          go_quiet (fail)
          go_wp2_with fail
          go_ret2
          exact ⟨none, 0, 0, rfl, Byt.nil _, below_drewN (Below.refl _ _) _⟩
        · have d2 : decide (a < 1) = false := by simp; omega
          have d3 : decide (3 < a) = true := by simp; omega
          clear hs E HR HL h1'
          go_enter Try.func46, Try.ntmps46
          go_wp2_with fail
          go_quiet (fail)
          go_wp2_with fail
          go_ret2
          exact ⟨none, 0, 0, rfl, Byt.nil _, below_drewN (Below.refl _ _) _⟩
    · have d1 : (a != b) = true := by simpa using hab
      have E : Hid (openE l = 50 ∧ openB l = []) := Lib.hid ⟨openE_torn HL.out (fun q => hab (HR.out.1 q).1), openB_bad (by rw [openE_torn HL.out (fun q => hab (HR.out.1 q).1)]; omega)⟩
      rw [E.out.1, E.out.2]
      clear E HR HL
      go_enter Try.func46, Try.ntmps46
      go_wp2_with fail
      go_quiet (fail)
      go_wp2_with fail
      go_ret2
      exact ⟨none, 0, 0, rfl, Byt.nil _, below_drewN (Below.refl _ _) _⟩
  · have E : Hid (openE l = 12 ∧ openB l = []) := Lib.hid ⟨openE_len (by omega), openB_bad (by rw [openE_len (by omega)]; omega)⟩
    have hd : ((n : Int) != 256) = true := by simp; omega
    rw [E.out.1, E.out.2]
    clear h hl E
    go_enter Try.func46, Try.ntmps46
    go_wp2_with fail
    go_ret2
    exact ⟨none, 0, 0, rfl, Byt.nil _, Below.refl _ _⟩

/-- What refWrap gathers: k bytes. -/
def gathL (m : Int) (p : List Int) (k : Nat) : List Int := m :: (p ++ List.replicate (k - 1 - p.length) 0)
theorem gathL_rng {m : Int} {p : List Int} (hm : 0 ≤ m ∧ m < 256) (hp : ∀ x ∈ p, 0 ≤ x ∧ x < 256) (k : Nat) : ∀ x ∈ gathL m p k, 0 ≤ x ∧ x < 256 := by
  intro x hx
  rcases List.mem_cons.1 hx with q | q
  · rw [q]; exact hm
  · rcases List.mem_append.1 q with q | q
    · exact hp x q
    · obtain ⟨_, rfl⟩ := List.mem_replicate.1 q
      omega
theorem gathL_next {m : Int} {p : List Int} {k : Nat} (h : 1 + p.length ≤ k) : gathL m p k ++ [0] = gathL m p (k + 1) := by
  unfold gathL
  rw [show k + 1 - 1 - p.length = (k - 1 - p.length) + 1 from by omega, List.replicate_succ']
  simp
theorem gathL_full {m : Int} {p : List Int} (h : p.length ≤ 254) : gathL m p 255 ++ [m] = wrapL m p := by
  unfold gathL wrapL padL
  simp

theorem byt_one (W : World) (x : Int) (hx : 0 ≤ x ∧ x < 256) : Byt (W.alloc (.cells #[.int .u8 x] 5)) (some ⟨W.heap.size, 0, none⟩) 1 1 [x] :=
  Byt.lit W 5 [x] 1 rfl (by unfold maxLen; omega) (fun y hy => by simp at hy; rw [hy]; exact hx)

set_option maxRecDepth 100000 in
set_option maxHeartbeats 4000000 in
theorem rwrap_any (m : Int) (hm : 0 ≤ m ∧ m < 256) (A : Option Addr) (n c : Nat) (p : List Int) (w : World) (h : Byt w A n c p) :
    Calls Try.prog 14 #[.int .u8 m, .slice A n c] w (RetByt2 (wrapB m p) .i64 (wrapE m p) w) := by
  have hcap := h.cap
  have hmax := h.max
  unfold maxLen at hmax
  have hpl := h.len
  by_cases h1 : m < 1
  · have E : Hid (wrapE m p = 1 ∧ wrapB m p = []) := Lib.hid ⟨wrapE_arg (.inl h1), wrapB_bad (by rw [wrapE_arg (.inl h1)]; omega)⟩
    rw [E.out.1, E.out.2]
    clear h E
    go_enter Try.func14, Try.ntmps14
    go_wp2_with fail
    go_ret2
    exact ⟨none, 0, 0, rfl, Byt.nil _, Below.refl _ _⟩
  · by_cases h3 : 3 < m
    · have E : Hid (wrapE m p = 1 ∧ wrapB m p = []) := Lib.hid ⟨wrapE_arg (.inr h3), wrapB_bad (by rw [wrapE_arg (.inr h3)]; omega)⟩
      rw [E.out.1, E.out.2]
      clear h E
      go_enter Try.func14, Try.ntmps14
      go_wp2_with fail
      go_ret2
      exact ⟨none, 0, 0, rfl, Byt.nil _, Below.refl _ _⟩
    · have hc1 : ¬ (m < 1 ∨ 3 < m) := by omega
      by_cases h2 : 254 < n
      · have E : Hid (wrapE m p = 12 ∧ wrapB m p = []) := Lib.hid ⟨wrapE_long hc1 (by omega), wrapB_bad (by rw [wrapE_long hc1 (by omega)]; omega)⟩
        rw [E.out.1, E.out.2]
        clear h E hc1
        go_enter Try.func14, Try.ntmps14
        go_wp2_with fail
        go_ret2
        exact ⟨none, 0, 0, rfl, Byt.nil _, Below.refl _ _⟩
      · have E : Hid (wrapE m p = 0 ∧ wrapB m p = wrapL m p) := Lib.hid ⟨wrapE_ok hc1 (by omega), wrapB_ok hc1 (by omega)⟩
        rw [E.out.1, E.out.2]
        obtain ⟨i0, hi, hz0, hz1, hz2⟩ := info_parts info_u8
        have hown0 := own_one w w.heap.size 5 m (Nat.le_refl _)
        have hB0 : Below w.heap.size w (w.alloc (.cells #[.int .u8 m] 5)) := (Below.refl _ _).alloc (Nat.le_refl _) _
        have HP := Lib.hid h
        have HPL := Lib.hid hpl
        clear h E hc1 hpl
        go_enter Try.func14, Try.ntmps14
        go_wp2_with (at_builtin; refine wpList_append_byt rfl _ _ 34 rfl w.heap.size 5 i0 Try.underlying34 hi hz0 hz1 hz2 _ 1 [m] rfl (by exact hown0) A n c p rfl (HP.out.below hB0) (by omega) (by simp) ?_)
        intro A' c' w' h1' h2'
        have R0 : Hid (w'.ownsRow w.heap.size 5 1 (.slice A' (1 + n) c') (1 + n) ((gathL m p (1 + n)).map (Value.int .u8)) ∧ Below w.heap.size w w') := Lib.hid ⟨by
          have e : gathL m p (1 + n) = [m] ++ p := by unfold gathL; rw [HPL.out, show 1 + n - 1 - n = 0 from by omega]; simp
          rw [e]; exact h1', hB0.grown h2' (by simp) (by intro k hk; simp [Value.ownBlock] at hk; omega)⟩
        clear h1' h2' hown0 hB0
        go_wp2_with fail
        go_loopw [6] (fun v wr => ∃ (B : Option Addr) (k d : Nat), 1 + n ≤ k ∧ k ≤ 255 ∧ v = .slice B k d ∧ wr.ownsRow w.heap.size 5 1 (.slice B k d) k ((gathL m p k).map (Value.int .u8)) ∧ Below w.heap.size w wr) (fun v _ => 255 - (match v with | .slice _ k _ => k | _ => 0))
        case atStart => exact ⟨A', 1 + n, c', Nat.le_refl _, by omega, rfl, R0.out⟩
        case round =>
          obtain ⟨B, k, d, hk1, hk2, rfl, ho, hb⟩ := hrel
          have HO := Lib.hid ho
          have HB := Lib.hid hb
          have HK1 := Lib.hid hk1
          clear ho hb hk1
          by_cases hlt : k < 255
          · have ho2 := HO.out.alloc (.cells #[.int .u8 0] 5)
            have hb2 := byt_one wr 0 (by omega)
            go_wp2_with (at_builtin; refine wpList_append_byt rfl _ _ 34 rfl w.heap.size 5 i0 Try.underlying34 hi hz0 hz1 hz2 _ k (gathL m p k) rfl (by exact ho2) _ 1 1 [0] rfl (by exact hb2) (by omega) (by have := HB.out.size; simp; omega) ?_)
            intro A2 c2 w2 h1' h2'
            have R : Hid (w2.ownsRow w.heap.size 5 1 (.slice A2 (k + 1) c2) (k + 1) ((gathL m p (k + 1)).map (Value.int .u8)) ∧ Below w.heap.size w w2) := Lib.hid ⟨by
              rw [← gathL_next (by have := HK1.out; rw [HPL.out]; omega), List.map_append]; exact h1', (HB.out.alloc HB.out.size _).grown h2' (by have := HB.out.size; simp; omega) (fun q hq => (HO.out.lt q hq).1)⟩
            clear h1' h2' ho2 hb2
            go_wp2_with fail
            go_roundw
            case rel => exact ⟨A2, k + 1, c2, by have := HK1.out; omega, by omega, rfl, R.out⟩
            case measure => simp; omega
          · obtain rfl : k = 255 := by omega
            have ho2 := HO.out.alloc (.cells #[.int .u8 m] 5)
            have hb2 := byt_one wr m hm
            go_wp2_with (at_builtin; refine wpList_append_byt rfl _ _ 34 rfl w.heap.size 5 i0 Try.underlying34 hi hz0 hz1 hz2 _ 255 (gathL m p 255) rfl (by exact ho2) _ 1 1 [m] rfl (by exact hb2) (by omega) (by have := HB.out.size; simp; omega) ?_)
            intro A2 c2 w2 h1' h2'
            have R : Hid (Byt w2 A2 (255 + 1) c2 (wrapL m p) ∧ Below w.heap.size w w2) := Lib.hid ⟨by
              rw [← gathL_full (by rw [HPL.out]; omega)]; exact app_byt h1' (gathL_rng hm HP.out.rng 255) (fun y hy => by simp at hy; rw [hy]; exact hm), (HB.out.alloc HB.out.size _).grown h2' (by have := HB.out.size; simp; omega) (fun q hq => (HO.out.lt q hq).1)⟩
            clear h1' h2' ho2 hb2
            go_wp2_with fail
            go_ret2
            exact ⟨_, _, _, rfl, R.out.1, R.out.2⟩
end Go.Proofs.Ytjieledaiipheaa

/- seal.Open answers the body at the beginning of bytes, how many bytes it has with its sum, or the first error. -/
namespace Go.Proofs.Ytjieledaiipheaa
open Go.RowKit

theorem textF_ok {l : List Int} (hr : ∀ x ∈ l, 0 ≤ x ∧ x < 256) {most : Int} (h : (textF l most).2.2 = 0) :
    (textF l most).2.1 ≤ l.length ∧ l.take (textF l most).2.1 = textL (textF l most).1 ∧ ((textF l most).1.length : Int) ≤ most := by
  unfold textF at h ⊢
  split at h
  · rename_i h0; exact absurd h h0
  · rename_i h0
    split at h
    · simp at h
    · rename_i h1
      rw [if_neg h0, if_neg h1]
      obtain ⟨hx, hk, hs⟩ := numF_ok hr (l := l) (most := most) (by omega)
      have hl : ((l.drop (numF l most).2.1).take (numF l most).1).length = (numF l most).1 := by rw [List.length_take, List.length_drop]; omega
      refine ⟨by simp only; omega, ?_, by simp only; rw [hl]; exact hx⟩
      simp only
      unfold textL
      rw [hl, hs, List.take_add]

theorem triple {α β γ : Type} {a a' : α} {b b' : β} {c c' : γ} (h : (a, b, c) = (a', b', c')) : a = a' ∧ b = b' ∧ c = c' := by
  injection h with e1 e2
  injection e2 with e2 e3
  exact ⟨e1, e2, e3⟩

/-- A row of the call's own, a number and an error. -/
def Ret3O (l : List Int) (u e0 : Nat) (w : World) (e : Ending) (w' : World) : Prop :=
  ∃ A n c, e = .returned (.tuple #[.slice A n c, .int .i64 u, .int .i64 e0]) ∧ w'.ownsRow w.heap.size 5 1 (.slice A n c) n (l.map (Value.int .u8)) ∧ (∀ x ∈ l, 0 ≤ x ∧ x < 256) ∧ Below w.heap.size w w'

theorem Ret3O.nil {w w' : World} (u e0 : Nat) (hb : Below w.heap.size w w') : Ret3O [] u e0 w (.returned (.tuple #[.slice none 0 0, .int .i64 u, .int .i64 e0])) w' := ⟨none, 0, 0, rfl, World.ownsRow_nil _ _ _ _, by simp, hb⟩

theorem own_base {w : World} {b b' n : Nat} {v : Value} {xs : List Value} (h : w.ownsRow b 5 1 v n xs) (hb : b' ≤ b) : w.ownsRow b' 5 1 v n xs := by
  refine ⟨h.1, ?_⟩
  rcases h.2 with h | ⟨g, cap, cur, h1, h2, h3⟩
  · exact .inl h
  · exact .inr ⟨g, cap, cur, h1, Nat.le_trans hb h2, h3⟩

end Go.Proofs.Ytjieledaiipheaa

/- the methods of trothref03.Reader step as seal.Reader's do; trothref03.Open answers what seal.Open answers. -/
namespace Go.Proofs.Ytjieledaiipheaa
open Go.RowKit

set_option maxHeartbeats 1000000 in
theorem mNum_any (b g : Nat) (l : List Int) (e0 : Nat) (most : Int) (w : World) (h : Rd w 90 b g l e0) (hm : -9223372036854775808 ≤ most ∧ most ≤ 9223372036854775807) (x k er : Nat) (hF : numF l most = (x, k, er)) :
    Calls Try.prog 47 #[.pointer (some ⟨b, 0, none⟩), .int .i64 most] w (RdPost 90 b g (stepL l k e0 er) (stepE e0 er) (stepV (.int .i64 0) (.int .i64 x) e0 er) w) := by
  have hf0 : w.frozen? ⟨b, 0, none⟩ = false := by obtain ⟨A, n, c, h1, _⟩ := h.ex; exact h1.frz 0
  have hf1 : w.frozen? ⟨b, 1, none⟩ = false := by obtain ⟨A, n, c, h1, _⟩ := h.ex; exact h1.frz 1
  have H := Lib.hid h
  by_cases he : e0 = 0
  · subst he
    obtain ⟨A, n, c, h1, h2, h3⟩ := h.ex
    have c0 : w.cell? ⟨b, 0, none⟩ = some (.slice A n c) := h1.cell 0
    have c1 : w.cell? ⟨b, 1, none⟩ = some (.int .i64 0) := h1.cell 1
    obtain ⟨x0, k0, e1, ht⟩ : ∃ x k e, takeF l 0 0 = (x, k, e) := ⟨_, _, _, rfl⟩
    have hlt : e1 = 0 → x0 < 18446744073709551616 ∧ k0 ≤ l.length := fun e => by have := takeF_read l h2.rng x0 k0 (by rw [ht, e]); exact ⟨this.1, this.2.1⟩
    have C := Lib.hid (refTake_is A n c l x0 k0 e1 w h2 ht)
    have hF' : (if e1 ≠ 0 then (0, 0, e1) else if most < 0 ∨ most < (x0 : Int) then (0, 0, 12) else (x0, k0, 0)) = (x, k, er) := by
      rw [← hF]; unfold numF; rw [ht]
    have hlen := h2.len
    clear ht hF
    by_cases h0 : e1 = 0
    · subst h0
      obtain ⟨hx, hk⟩ := hlt rfl
      rw [if_neg (by simp)] at hF'
      clear hlt
      by_cases hm1 : most < 0 ∨ most < (x0 : Int)
      · rw [if_pos hm1] at hF'
        obtain ⟨rfl, rfl, rfl⟩ := triple hF'
        have R := Lib.hid (fun m => H.out.fail m 12)
        have hm2 : (most < 0) ∨ (0 ≤ most ∧ most < (x0 : Int)) := by omega
        clear h h1 h2 h3 hm1 hF'
        rcases hm2 with q1 | ⟨q1, q2⟩
        · go_enter Try.func47, Try.ntmps47
          go_wp2_with fail
          refine C.out.mono ?_
          rintro e w1 ⟨rfl, m, rfl⟩
          go_wp2_with fail
          go_ret
          exact ⟨rfl, R.out m⟩
        · obtain ⟨z, rfl⟩ := Int.eq_ofNat_of_zero_le q1
          obtain ⟨_, hz⟩ := hm
          go_enter Try.func47, Try.ntmps47
          go_wp2_with fail
          refine C.out.mono ?_
          rintro e w1 ⟨rfl, m, rfl⟩
          go_wp2_with fail
          go_ret
          exact ⟨rfl, R.out m⟩
      · rw [if_neg hm1] at hF'
        obtain ⟨rfl, rfl, rfl⟩ := triple hF'
        obtain ⟨B, j, d, hs, hkn, hb, hB⟩ := cut_lb h2 k0 (by omega) (k0 : Int) rfl
        have R := Lib.hid (fun m => H.out.next m hb (fun hk a ha => by obtain ⟨a', e1, e2⟩ := hB a ha; rw [e2]; exact h3 (by omega) a' e1))
        obtain ⟨z, rfl⟩ := Int.eq_ofNat_of_zero_le (show 0 ≤ most by omega)
        obtain ⟨_, hz⟩ := hm
        have q2 : ¬ (z : Int) < (x0 : Int) := by omega
        clear h h1 h2 h3 hm1 hF' hb hB hkn
        go_enter Try.func47, Try.ntmps47
        go_wp2_with fail
        refine C.out.mono ?_
        rintro e w1 ⟨rfl, m, rfl⟩
        go_wp2_with fail
        go_ret
        exact ⟨rfl, R.out m⟩
    · rw [if_pos h0] at hF'
      obtain ⟨rfl, rfl, rfl⟩ := triple hF'
      have hne : ((e1 : Int) != 0) = true := by simp; omega
      have R := Lib.hid (fun m => H.out.fail m e1)
      have e2 : stepL l 0 0 e1 = l := by simp [stepL, h0]
      have e3 : stepE 0 e1 = e1 := rfl
      have e4 : stepV (.int .i64 0) (.int .i64 (0 : Nat)) 0 e1 = .int .i64 0 := by simp [stepV]
      rw [e2, e3, e4]
      clear hlt h h1 h2 h3 hF' h0 e2 e3 e4
      go_enter Try.func47, Try.ntmps47
      go_wp2_with fail
      refine C.out.mono ?_
      rintro e w1 ⟨rfl, m, rfl⟩
      go_wp2_with fail
      go_ret
      exact ⟨rfl, R.out m⟩
  · have c1 : w.cell? ⟨b, 1, none⟩ = some (.int .i64 e0) := by obtain ⟨A, n, c, h1, _⟩ := h.ex; exact h1.cell 1
    have hne : ((e0 : Int) != 0) = true := by simp; omega
    have e2 : stepL l k e0 er = l := by simp [stepL, he]
    have e3 : stepE e0 er = e0 := by simp [stepE, he]
    have e4 : stepV (.int .i64 0) (.int .i64 x) e0 er = .int .i64 0 := by simp [stepV, he]
    rw [e2, e3, e4]
    clear h he e2 e3 e4
    go_enter Try.func47, Try.ntmps47
    go_wp2_with fail
    go_ret
    exact ⟨rfl, H.out, grown_drewN w 0 _⟩

/-- A reader that is set back. -/
theorem Rd.back {w w1 : World} {t : TypeId} {b g : Nat} {l l1 : List Int} {e e1 er : Nat} {A : Option Addr} {n c : Nat} (h : Rd w t b g l e) (h1 : Rd w1 t b g l1 e1) (hg : w.grownBy w1 (some b)) (hb : Byt w A n c l) (hA : 0 < n → ∀ a, A = some a → a.block = g) :
    Rd ((w1.setCell ⟨b, 1, none⟩ (.int .i64 er)).setCell ⟨b, 0, none⟩ (.slice A n c)) t b g l er ∧ w.grownBy ((w1.setCell ⟨b, 1, none⟩ (.int .i64 er)).setCell ⟨b, 0, none⟩ (.slice A n c)) (some b) := by
  have g1 := grown_trans hg (grown_trans (grown_set w1 b 1 (.int .i64 er)) (grown_set (w1.setCell ⟨b, 1, none⟩ (.int .i64 er)) b 0 (.slice A n c)))
  obtain ⟨A1, n1, c1, k1, _, _⟩ := h1.ex
  refine ⟨⟨h.ne, A, n, c, ?_, hb.grown g1 (fun hn a ha => by rw [hA hn a ha]; simpa using h.ne), hA⟩, g1⟩
  have := (k1.setc 1 (.int .i64 er)).setc 0 (.slice A n c)
  simpa using this

theorem flagF_byte (l : List Int) : (byteF l).2.2 ≠ 0 → l = [] := by
  cases l with
  | nil => simp
  | cons x r => simp [byteF]

end Go.Proofs.Ytjieledaiipheaa

/- the document's May, Body, One and Load (trothref06) answer what the plain mathematics says. -/
namespace Go.Proofs.Ytjieledaiipheaa
open Go.RowKit

set_option maxRecDepth 100000 in
theorem rinM_any (n least : Int) (w : World) : Calls Try.prog 30 #[.int .i64 n, .int .i64 least] w (Same (.bool (decide (least ≤ n ∧ n ≤ 1099511627776))) w) := by
  by_cases h : n < least
  · rw [decide_eq_false (by omega)]
    go_enter Try.func30, Try.ntmps30
    go_wp2_with fail
    go_ret
    exact ⟨rfl, rfl⟩
  · by_cases h2 : 1099511627776 < n
    · rw [decide_eq_false (by omega)]
      go_enter Try.func30, Try.ntmps30
      go_wp2_with fail
      go_ret
      first | exact ⟨rfl, rfl⟩ | exact ⟨congrArg (fun b => Ending.returned (.bool b)) (decide_eq_false (by omega)), rfl⟩
    · rw [decide_eq_true (by omega)]
      go_enter Try.func30, Try.ntmps30
      go_wp2_with fail
      go_ret
      first | exact ⟨rfl, rfl⟩ | exact ⟨congrArg (fun b => Ending.returned (.bool b)) (decide_eq_true (by omega)), rfl⟩

set_option maxRecDepth 100000 in
set_option maxHeartbeats 4000000 in
theorem rmay_any (m : Ms) (w : World) : Calls Try.prog 10 #[msV m] w (Ret (.bool (decide m.ok)) w) := by
  obtain ⟨b0, e0⟩ : ∃ x, decide (1 ≤ m.gen ∧ m.gen ≤ 1099511627776) = x := ⟨_, rfl⟩
  obtain ⟨b1, e1⟩ : ∃ x, decide (0 ≤ m.inc ∧ m.inc ≤ 1099511627776) = x := ⟨_, rfl⟩
  obtain ⟨b2, e2⟩ : ∃ x, decide (0 ≤ m.first ∧ m.first ≤ 1099511627776) = x := ⟨_, rfl⟩
  obtain ⟨b3, e3⟩ : ∃ x, decide (0 ≤ m.lsn ∧ m.lsn ≤ 1099511627776) = x := ⟨_, rfl⟩
  obtain ⟨b4, e4⟩ : ∃ x, decide (0 ≤ m.chk ∧ m.chk ≤ 1099511627776) = x := ⟨_, rfl⟩
  have C0 := rinM_any m.gen 1 (w.alloc (.cells #[.int .i64 m.gen, .int .i64 m.inc, .int .i64 m.first, .int .i64 m.lsn, .int .i64 m.chk] 23))
  rw [e0] at C0
  have C0 := Lib.hid C0
  have C1 := rinM_any m.inc 0 (w.alloc (.cells #[.int .i64 m.gen, .int .i64 m.inc, .int .i64 m.first, .int .i64 m.lsn, .int .i64 m.chk] 23))
  rw [e1] at C1
  have C1 := Lib.hid C1
  have C2 := rinM_any m.first 0 (w.alloc (.cells #[.int .i64 m.gen, .int .i64 m.inc, .int .i64 m.first, .int .i64 m.lsn, .int .i64 m.chk] 23))
  rw [e2] at C2
  have C2 := Lib.hid C2
  have C3 := rinM_any m.lsn 0 (w.alloc (.cells #[.int .i64 m.gen, .int .i64 m.inc, .int .i64 m.first, .int .i64 m.lsn, .int .i64 m.chk] 23))
  rw [e3] at C3
  have C3 := Lib.hid C3
  have C4 := rinM_any m.chk 0 (w.alloc (.cells #[.int .i64 m.gen, .int .i64 m.inc, .int .i64 m.first, .int .i64 m.lsn, .int .i64 m.chk] 23))
  rw [e4] at C4
  have C4 := Lib.hid C4
  have E : Hid (decide m.ok = (b0 && b1 && b2 && b3 && b4)) := Lib.hid (by
    rw [← e0, ← e1, ← e2, ← e3, ← e4, ← Bool.decide_and, ← Bool.decide_and, ← Bool.decide_and, ← Bool.decide_and]
    refine decide_eq_decide.2 ⟨fun h => ⟨⟨⟨⟨h.gen, h.inc⟩, h.first⟩, h.lsn⟩, h.chk⟩, fun ⟨⟨⟨⟨a, b⟩, c⟩, d⟩, e⟩ => ⟨a, b, c, d, e⟩⟩)
  rw [E.out]
  unfold msV
  clear e0 e1 e2 e3 e4 E
  cases b0 with
  | false =>
    go_enter Try.func10, Try.ntmps10
    go_wp2_with fail
    refine C0.out.mono ?_
    rintro e w1 ⟨rfl, rfl⟩
    go_wp2_with fail
    go_ret
    exact ⟨rfl, (Below.refl _ _).alloc (Nat.le_refl _) _⟩
  | true =>
    cases b1 with
    | false =>
      go_enter Try.func10, Try.ntmps10
      go_wp2_with fail
      refine C0.out.mono ?_
      rintro e w1 ⟨rfl, rfl⟩
      go_wp2_with fail
      refine C1.out.mono ?_
      rintro e w1 ⟨rfl, rfl⟩
      go_wp2_with fail
      go_ret
      exact ⟨rfl, (Below.refl _ _).alloc (Nat.le_refl _) _⟩
    | true =>
      cases b2 with
      | false =>
        go_enter Try.func10, Try.ntmps10
        go_wp2_with fail
        refine C0.out.mono ?_
        rintro e w1 ⟨rfl, rfl⟩
        go_wp2_with fail
        refine C1.out.mono ?_
        rintro e w1 ⟨rfl, rfl⟩
        go_wp2_with fail
        refine C2.out.mono ?_
        rintro e w1 ⟨rfl, rfl⟩
        go_wp2_with fail
        go_ret
        exact ⟨rfl, (Below.refl _ _).alloc (Nat.le_refl _) _⟩
      | true =>
        cases b3 with
        | false =>
          go_enter Try.func10, Try.ntmps10
          go_wp2_with fail
          refine C0.out.mono ?_
          rintro e w1 ⟨rfl, rfl⟩
          go_wp2_with fail
          refine C1.out.mono ?_
          rintro e w1 ⟨rfl, rfl⟩
          go_wp2_with fail
          refine C2.out.mono ?_
          rintro e w1 ⟨rfl, rfl⟩
          go_wp2_with fail
          refine C3.out.mono ?_
          rintro e w1 ⟨rfl, rfl⟩
          go_wp2_with fail
          go_ret
          exact ⟨rfl, (Below.refl _ _).alloc (Nat.le_refl _) _⟩
        | true =>
          cases b4 with
          | false =>
            go_enter Try.func10, Try.ntmps10
            go_wp2_with fail
            refine C0.out.mono ?_
            rintro e w1 ⟨rfl, rfl⟩
            go_wp2_with fail
            refine C1.out.mono ?_
            rintro e w1 ⟨rfl, rfl⟩
            go_wp2_with fail
            refine C2.out.mono ?_
            rintro e w1 ⟨rfl, rfl⟩
            go_wp2_with fail
            refine C3.out.mono ?_
            rintro e w1 ⟨rfl, rfl⟩
            go_wp2_with fail
            refine C4.out.mono ?_
            rintro e w1 ⟨rfl, rfl⟩
            go_wp2_with fail
            go_ret
            exact ⟨rfl, (Below.refl _ _).alloc (Nat.le_refl _) _⟩
          | true =>
            go_enter Try.func10, Try.ntmps10
            go_wp2_with fail
            refine C0.out.mono ?_
            rintro e w1 ⟨rfl, rfl⟩
            go_wp2_with fail
            refine C1.out.mono ?_
            rintro e w1 ⟨rfl, rfl⟩
            go_wp2_with fail
            refine C2.out.mono ?_
            rintro e w1 ⟨rfl, rfl⟩
            go_wp2_with fail
            refine C3.out.mono ?_
            rintro e w1 ⟨rfl, rfl⟩
            go_wp2_with fail
            refine C4.out.mono ?_
            rintro e w1 ⟨rfl, rfl⟩
            go_wp2_with fail
            go_ret
            exact ⟨rfl, (Below.refl _ _).alloc (Nat.le_refl _) _⟩

set_option maxRecDepth 100000 in
set_option maxHeartbeats 4000000 in
theorem rbody_any (m : Ms) (hm : m.fits) (w : World) : Calls Try.prog 15 #[msV m] w (RetOwn (bodyM m) w) := by
  obtain ⟨i0, hi, hz0, hz1, hz2⟩ := info_parts info_u8
  have HM := Lib.hid hm
  have HLEN := Lib.hid (bodyN_len hm)
  have HALL := Lib.hid (bodyN_all m)
  obtain ⟨W0, hW0⟩ : ∃ W0, W0 = w.alloc (.cells #[.int .i64 m.gen, .int .i64 m.inc, .int .i64 m.first, .int .i64 m.lsn, .int .i64 m.chk] 23) := ⟨_, rfl⟩
  have K0 : Hid (Bk W0 w.heap.size 23 (msC m)) := Lib.hid (by rw [hW0]; exact Bk.new w _ _)
  have B0 : Hid (Below w.heap.size w W0) := Lib.hid (by rw [hW0]; exact (Below.refl _ _).alloc (Nat.le_refl _) _)
  have HW0 := Lib.hid hW0
  have HNL : Hid (∀ k, (numL (m.at_ k)).length ≤ 10) := Lib.hid (fun k => numL_len _ (hm k).2)
  have CN0 := Lib.hid (refNum_own m.gen W0 hm.all.1)
  unfold msV
  clear hm hW0
  go_enter Try.func15, Try.ntmps15
  go_wp2_with fail
  rw [← HW0.out]
  refine CN0.out.mono ?_
  rintro e w1 ⟨A1, n1, c1, rfl, ho, hr, hb⟩
  have K1 : Hid (Bk w1 w.heap.size 23 (msC m)) := Lib.hid (K0.out.later hb)
  have B1 : Hid (Below w.heap.size w w1) := Lib.hid (B0.out.trans (hb.mono B0.out.size))
  have O1 : Hid (w1.ownsRow W0.heap.size 5 1 (.slice A1 n1 c1) n1 ((bodyN m 1).map (Value.int .u8))) := Lib.hid (by
    have e : bodyN m 1 = numL m.gen := by simp [bodyN, Ms.at_]
    rw [e]; exact ho)
  have S1 : Hid (W0.heap.size ≤ w1.heap.size) := Lib.hid hb.size
  have HLT : Hid (w.heap.size < W0.heap.size) := Lib.hid K0.out.lt
  have N1 : n1 ≤ 10 := by
    have q := ho.1
    rw [List.length_map] at q
    have := HNL.out 0
    have e : (m.at_ 0) = m.gen := rfl
    rw [e] at this
    omega
  clear ho hr hb CN0 HW0
  have CN1 := Lib.hid (refNum_own m.inc w1 (HM.out 1))
  have c1' : w1.cell? ⟨w.heap.size, 1, none⟩ = some (.int .i64 m.inc) := K1.out.cell 1
  go_wp2_with fail
  refine CN1.out.mono ?_
  rintro e v1 ⟨D1, d1, f1, rfl, ho, hr, hb⟩
  have Y1 : Hid (Byt v1 D1 d1 f1 (numL m.inc)) := Lib.hid (Byt.of_own ho hr)
  have P1 : Hid (v1.ownsRow W0.heap.size 5 1 (.slice A1 n1 c1) n1 ((bodyN m 1).map (Value.int .u8))) := Lib.hid (O1.out.kept (row := none) ⟨hb.os, hb.tape, hb.output, hb.size, fun k hk _ => hb.block k hk⟩ (by
    cases A1 with
    | none => exact .inl rfl
    | some a => exact .inr (by simp [Value.ownBlock])))
  have L1 : Hid (Bk v1 w.heap.size 23 (msC m)) := Lib.hid (K1.out.later hb)
  have BB1 : Hid (Below w.heap.size w v1) := Lib.hid (B1.out.trans (hb.mono B1.out.size))
  have S1' : Hid (W0.heap.size ≤ v1.heap.size) := Lib.hid (Nat.le_trans S1.out hb.size)
  have M1 : d1 ≤ 10 := by
    have q := Y1.out.len
    have := HNL.out 1
    have e : (m.at_ 1) = m.inc := rfl
    rw [e] at this
    omega
  clear ho hr hb CN1 c1' O1 K1 B1 S1
  go_wp2_with (at_builtin; refine wpList_append_byt rfl _ _ 34 rfl W0.heap.size 5 i0 Try.underlying34 hi hz0 hz1 hz2 _ n1 (bodyN m 1) rfl (by exact P1.out) D1 d1 f1 (numL m.inc) rfl Y1.out (by omega) S1'.out ?_)
  intro A2 c2 w2 h1 h2
  have O2 : Hid (w2.ownsRow W0.heap.size 5 1 (.slice A2 (n1 + d1) c2) (n1 + d1) ((bodyN m 2).map (Value.int .u8))) := Lib.hid (by
    have e : bodyN m 2 = bodyN m 1 ++ numL m.inc := rfl
    rw [e, List.map_append]; exact h1)
  have K2 : Hid (Bk w2 w.heap.size 23 (msC m)) := Lib.hid ((h2.block _ L1.out.lt (fun q => by
    have := (P1.out.lt _ q.symm).1
    have := HLT.out
    omega)).trans L1.out)
  have B2 : Hid (Below w.heap.size w w2) := Lib.hid (BB1.out.grown h2 BB1.out.size (fun q hq => by
    have := (P1.out.lt q hq).1
    have := HLT.out
    omega))
  have S2 : Hid (W0.heap.size ≤ w2.heap.size) := Lib.hid (Nat.le_trans S1'.out h2.size)
  obtain ⟨n2, hn2⟩ : ∃ n2, n1 + d1 = n2 := ⟨_, rfl⟩
  have N2 : n2 ≤ 20 := by omega
  (try rw [hn2])
  rw [hn2] at O2
  clear h1 h2 P1 Y1 L1 BB1 S1' hn2 N1 M1
  have CN2 := Lib.hid (refNum_own m.first w2 (HM.out 2))
  have c2' : w2.cell? ⟨w.heap.size, 2, none⟩ = some (.int .i64 m.first) := K2.out.cell 2
  go_wp2_with fail
  refine CN2.out.mono ?_
  rintro e v2 ⟨D2, d2, f2, rfl, ho, hr, hb⟩
  have Y2 : Hid (Byt v2 D2 d2 f2 (numL m.first)) := Lib.hid (Byt.of_own ho hr)
  have P2 : Hid (v2.ownsRow W0.heap.size 5 1 (.slice A2 n2 c2) n2 ((bodyN m 2).map (Value.int .u8))) := Lib.hid (O2.out.kept (row := none) ⟨hb.os, hb.tape, hb.output, hb.size, fun k hk _ => hb.block k hk⟩ (by
    cases A2 with
    | none => exact .inl rfl
    | some a => exact .inr (by simp [Value.ownBlock])))
  have L2 : Hid (Bk v2 w.heap.size 23 (msC m)) := Lib.hid (K2.out.later hb)
  have BB2 : Hid (Below w.heap.size w v2) := Lib.hid (B2.out.trans (hb.mono B2.out.size))
  have S2' : Hid (W0.heap.size ≤ v2.heap.size) := Lib.hid (Nat.le_trans S2.out hb.size)
  have M2 : d2 ≤ 10 := by
    have q := Y2.out.len
    have := HNL.out 2
    have e : (m.at_ 2) = m.first := rfl
    rw [e] at this
    omega
  clear ho hr hb CN2 c2' O2 K2 B2 S2
  go_wp2_with (at_builtin; refine wpList_append_byt rfl _ _ 34 rfl W0.heap.size 5 i0 Try.underlying34 hi hz0 hz1 hz2 _ n2 (bodyN m 2) rfl (by exact P2.out) D2 d2 f2 (numL m.first) rfl Y2.out (by omega) S2'.out ?_)
  intro A3 c3 w3 h1 h2
  have O3 : Hid (w3.ownsRow W0.heap.size 5 1 (.slice A3 (n2 + d2) c3) (n2 + d2) ((bodyN m 3).map (Value.int .u8))) := Lib.hid (by
    have e : bodyN m 3 = bodyN m 2 ++ numL m.first := rfl
    rw [e, List.map_append]; exact h1)
  have K3 : Hid (Bk w3 w.heap.size 23 (msC m)) := Lib.hid ((h2.block _ L2.out.lt (fun q => by
    have := (P2.out.lt _ q.symm).1
    have := HLT.out
    omega)).trans L2.out)
  have B3 : Hid (Below w.heap.size w w3) := Lib.hid (BB2.out.grown h2 BB2.out.size (fun q hq => by
    have := (P2.out.lt q hq).1
    have := HLT.out
    omega))
  have S3 : Hid (W0.heap.size ≤ w3.heap.size) := Lib.hid (Nat.le_trans S2'.out h2.size)
  obtain ⟨n3, hn3⟩ : ∃ n3, n2 + d2 = n3 := ⟨_, rfl⟩
  have N3 : n3 ≤ 30 := by omega
  (try rw [hn3])
  rw [hn3] at O3
  clear h1 h2 P2 Y2 L2 BB2 S2' hn3 N2 M2
  have CN3 := Lib.hid (refNum_own m.lsn w3 (HM.out 3))
  have c3' : w3.cell? ⟨w.heap.size, 3, none⟩ = some (.int .i64 m.lsn) := K3.out.cell 3
  go_wp2_with fail
  refine CN3.out.mono ?_
  rintro e v3 ⟨D3, d3, f3, rfl, ho, hr, hb⟩
  have Y3 : Hid (Byt v3 D3 d3 f3 (numL m.lsn)) := Lib.hid (Byt.of_own ho hr)
  have P3 : Hid (v3.ownsRow W0.heap.size 5 1 (.slice A3 n3 c3) n3 ((bodyN m 3).map (Value.int .u8))) := Lib.hid (O3.out.kept (row := none) ⟨hb.os, hb.tape, hb.output, hb.size, fun k hk _ => hb.block k hk⟩ (by
    cases A3 with
    | none => exact .inl rfl
    | some a => exact .inr (by simp [Value.ownBlock])))
  have L3 : Hid (Bk v3 w.heap.size 23 (msC m)) := Lib.hid (K3.out.later hb)
  have BB3 : Hid (Below w.heap.size w v3) := Lib.hid (B3.out.trans (hb.mono B3.out.size))
  have S3' : Hid (W0.heap.size ≤ v3.heap.size) := Lib.hid (Nat.le_trans S3.out hb.size)
  have M3 : d3 ≤ 10 := by
    have q := Y3.out.len
    have := HNL.out 3
    have e : (m.at_ 3) = m.lsn := rfl
    rw [e] at this
    omega
  clear ho hr hb CN3 c3' O3 K3 B3 S3
  go_wp2_with (at_builtin; refine wpList_append_byt rfl _ _ 34 rfl W0.heap.size 5 i0 Try.underlying34 hi hz0 hz1 hz2 _ n3 (bodyN m 3) rfl (by exact P3.out) D3 d3 f3 (numL m.lsn) rfl Y3.out (by omega) S3'.out ?_)
  intro A4 c4 w4 h1 h2
  have O4 : Hid (w4.ownsRow W0.heap.size 5 1 (.slice A4 (n3 + d3) c4) (n3 + d3) ((bodyN m 4).map (Value.int .u8))) := Lib.hid (by
    have e : bodyN m 4 = bodyN m 3 ++ numL m.lsn := rfl
    rw [e, List.map_append]; exact h1)
  have K4 : Hid (Bk w4 w.heap.size 23 (msC m)) := Lib.hid ((h2.block _ L3.out.lt (fun q => by
    have := (P3.out.lt _ q.symm).1
    have := HLT.out
    omega)).trans L3.out)
  have B4 : Hid (Below w.heap.size w w4) := Lib.hid (BB3.out.grown h2 BB3.out.size (fun q hq => by
    have := (P3.out.lt q hq).1
    have := HLT.out
    omega))
  have S4 : Hid (W0.heap.size ≤ w4.heap.size) := Lib.hid (Nat.le_trans S3'.out h2.size)
  obtain ⟨n4, hn4⟩ : ∃ n4, n3 + d3 = n4 := ⟨_, rfl⟩
  have N4 : n4 ≤ 40 := by omega
  (try rw [hn4])
  rw [hn4] at O4
  clear h1 h2 P3 Y3 L3 BB3 S3' hn4 N3 M3
  have CN4 := Lib.hid (refNum_own m.chk w4 (HM.out 4))
  have c4' : w4.cell? ⟨w.heap.size, 4, none⟩ = some (.int .i64 m.chk) := K4.out.cell 4
  go_wp2_with fail
  refine CN4.out.mono ?_
  rintro e v4 ⟨D4, d4, f4, rfl, ho, hr, hb⟩
  have Y4 : Hid (Byt v4 D4 d4 f4 (numL m.chk)) := Lib.hid (Byt.of_own ho hr)
  have P4 : Hid (v4.ownsRow W0.heap.size 5 1 (.slice A4 n4 c4) n4 ((bodyN m 4).map (Value.int .u8))) := Lib.hid (O4.out.kept (row := none) ⟨hb.os, hb.tape, hb.output, hb.size, fun k hk _ => hb.block k hk⟩ (by
    cases A4 with
    | none => exact .inl rfl
    | some a => exact .inr (by simp [Value.ownBlock])))
  have L4 : Hid (Bk v4 w.heap.size 23 (msC m)) := Lib.hid (K4.out.later hb)
  have BB4 : Hid (Below w.heap.size w v4) := Lib.hid (B4.out.trans (hb.mono B4.out.size))
  have S4' : Hid (W0.heap.size ≤ v4.heap.size) := Lib.hid (Nat.le_trans S4.out hb.size)
  have M4 : d4 ≤ 10 := by
    have q := Y4.out.len
    have := HNL.out 4
    have e : (m.at_ 4) = m.chk := rfl
    rw [e] at this
    omega
  clear ho hr hb CN4 c4' O4 K4 B4 S4
  go_wp2_with (at_builtin; refine wpList_append_byt rfl _ _ 34 rfl W0.heap.size 5 i0 Try.underlying34 hi hz0 hz1 hz2 _ n4 (bodyN m 4) rfl (by exact P4.out) D4 d4 f4 (numL m.chk) rfl Y4.out (by omega) S4'.out ?_)
  intro A5 c5 w5 h1 h2
  have O5 : Hid (w5.ownsRow W0.heap.size 5 1 (.slice A5 (n4 + d4) c5) (n4 + d4) ((bodyN m 5).map (Value.int .u8))) := Lib.hid (by
    have e : bodyN m 5 = bodyN m 4 ++ numL m.chk := rfl
    rw [e, List.map_append]; exact h1)
  have K5 : Hid (Bk w5 w.heap.size 23 (msC m)) := Lib.hid ((h2.block _ L4.out.lt (fun q => by
    have := (P4.out.lt _ q.symm).1
    have := HLT.out
    omega)).trans L4.out)
  have B5 : Hid (Below w.heap.size w w5) := Lib.hid (BB4.out.grown h2 BB4.out.size (fun q hq => by
    have := (P4.out.lt q hq).1
    have := HLT.out
    omega))
  have S5 : Hid (W0.heap.size ≤ w5.heap.size) := Lib.hid (Nat.le_trans S4'.out h2.size)
  obtain ⟨n5, hn5⟩ : ∃ n5, n4 + d4 = n5 := ⟨_, rfl⟩
  have N5 : n5 ≤ 50 := by omega
  (try rw [hn5])
  rw [hn5] at O5
  clear h1 h2 P4 Y4 L4 BB4 S4' hn5 N4 M4
  go_wp2_with fail
  go_ret
  rw [HALL.out] at O5
  exact ⟨A5, n5, c5, rfl, owns_low O5.out (Nat.le_of_lt HLT.out), bodyM_rng m, B5.out⟩
end Go.Proofs.Ytjieledaiipheaa

/- what a row's step wants of arguments that are numbers or slices of bytes: how they read, and how long they are. No condition. -/
namespace Go.Proofs.Ytjieledaiipheaa
open Go.ChangeShapes Go.WideShapes Go.ChangeAt Go.RowKit

theorem own_knob : ownKnob Try.prog.godebug = none := by kernel_rfl
theorem laidOut : laidOutB Try.prog = true := by kernel_rfl

theorem u64_nat {x : Int} (h : (Lit.int .u64 x).wf = true) : ∃ m : Nat, x = m ∧ m < 18446744073709551616 := by
  simp [Lit.wf, IntKind.min, IntKind.max, IntKind.signed, IntKind.bits] at h
  exact ⟨x.toNat, by omega, by omega⟩

theorem u32_nat {x : Int} (h : (Lit.int .u32 x).wf = true) : ∃ m : Nat, x = m ∧ m < 4294967296 := by
  simp [Lit.wf, IntKind.min, IntKind.max, IntKind.signed, IntKind.bits] at h
  exact ⟨x.toNat, by omega, by omega⟩

theorem i64_bd {x : Int} (h : (Lit.int .i64 x).wf = true) : -9223372036854775808 ≤ x ∧ x ≤ 9223372036854775807 := by
  simp [Lit.wf, IntKind.min, IntKind.max, IntKind.signed, IntKind.bits] at h
  exact ⟨by omega, by omega⟩

theorem u8_bd {x : Int} (h : (Lit.int .u8 x).wf = true) : 0 ≤ x ∧ x < 256 := by
  simp [Lit.wf, IntKind.min, IntKind.max, IntKind.signed, IntKind.bits] at h
  exact ⟨by omega, by omega⟩

theorem bytes8 : Try.prog.bytesOf 5 = 1 := by kernel_rfl
theorem cells8 : Try.prog.cellsOf 5 = 1 := by kernel_rfl

section
variable {H : Type} {enc : TypeId × Value → H} {W : World}

theorem open_bytes {a : Option Addr} {n c : Nat} {d : DataW H} {p : List MemPlace} (h : DataW.Trod enc Try.prog W 0 (fun _ => true) true 34 (.slice a n c) d p) :
    ∃ l, Byt W a n c l ∧ (n = 0 ∨ ∃ el sp, d = .slice el sp ∧ el.length = n) := by
  obtain ⟨fuel, hf⟩ := h
  rcases open_ints Try.underlying34 Try.underlying5 cells8 hf with ⟨hcs, _⟩ | ⟨x, len, cap, zs, hcs, _, hl, hm, hz, hx, hcell, hwz⟩
  · simp [Value.cells] at hcs
    obtain ⟨rfl, rfl, rfl⟩ := hcs
    exact ⟨[], Byt.nil W, .inl rfl⟩
  · simp [Value.cells] at hcs
    obtain ⟨rfl, rfl, rfl⟩ := hcs
    simp only [Prod.mk.injEq] at hx
    have hzl : zs.length = c := by simpa using hz
    refine ⟨zs.take n, ⟨by simp; omega, hl, hm, fun y hy => u8_bd (hwz y (List.mem_of_mem_take hy)), (fun h => nomatch h), fun hn => ?_⟩, .inr ⟨_, _, hx.1, by simp [lits]; omega⟩⟩
    obtain ⟨g, off, spot⟩ := x
    have hspot : spot = none := by simpa [Addr.add] using World.cell?_spot (hcell 0 (by omega))
    subst hspot
    refine ⟨g, off, rfl, fun i hi => ?_⟩
    have h1 := hcell i (by omega)
    have hadd : (⟨g, off, none⟩ : Addr).add i = ⟨g, off + i, none⟩ := by unfold Addr.add; split <;> simp_all
    rw [hadd] at h1
    rw [h1]
    congr 2
    simp [List.getD, hi]

theorem bytes_reach {ts : List TypeId} {ds : List (DataW H)} (h : (DataW.weightsEach Try.prog ts ds).all (· ≤ reachBytes) = true) {j : Nat} {d : DataW H} {n : Nat} (ht : ts[j]? = some 34) (hd : ds[j]? = some d)
    (e : n = 0 ∨ ∃ el sp, d = .slice el sp ∧ el.length = n) : n ≤ 140737488351232 := by
  rcases e with rfl | ⟨el, sp, rfl, hn⟩
  · omega
  · have := sized_slice h ht hd Try.underlying34
    rw [bytes8] at this
    simp only [reachBytes] at this
    omega
end
end Go.Proofs.Ytjieledaiipheaa

/- trothref01.Same tells whether two slices read as the same bytes, and writes nothing. -/
namespace Go.Proofs.Ytjieledaiipheaa
open Go.RowKit

theorem take_one_more {l l' : List Int} {k : Nat} (h : l.take k = l'.take k) (hk : k < l.length) (hk' : k < l'.length) (he : l.getD k 0 = l'.getD k 0) : l.take (k + 1) = l'.take (k + 1) := by
  rw [List.take_succ_eq_append_getElem hk, List.take_succ_eq_append_getElem hk', h]
  simp [List.getD, List.getElem?_eq_getElem hk, List.getElem?_eq_getElem hk'] at he
  rw [he]

theorem same_ne {l l' : List Int} {k : Nat} (he : l.getD k 0 ≠ l'.getD k 0) : decide (l = l') = false := by
  simp only [decide_eq_false_iff_not]
  intro e
  rw [e] at he
  exact he rfl

theorem same_all {l l' : List Int} {n : Nat} (hl : l.length = n) (hl' : l'.length = n) (h : l.take n = l'.take n) : decide (l = l') = true := by
  simp only [decide_eq_true_eq]
  rwa [List.take_of_length_le (by omega), List.take_of_length_le (by omega)] at h

set_option maxHeartbeats 800000 in
theorem same_rows (g off n c g' off' c' : Nat) (l l' : List Int) (w : World) (h : Byt w (some ⟨g, off, none⟩) n c l) (h' : Byt w (some ⟨g', off', none⟩) n c' l') (hn : 0 < n) :
    Calls Try.prog 16 #[.slice (some ⟨g, off, none⟩) n c, .slice (some ⟨g', off', none⟩) n c'] w (Quiet (.bool (decide (l = l'))) w) := by
  have hc0 : ∀ i, i < n → w.cell? ⟨g, off + i, none⟩ = some (.int .u8 (l.getD i 0)) := by
    obtain ⟨g1, o1, e, hc⟩ := h.at_ hn
    injection e with e; injection e with e1 e2; subst e1; subst e2
    exact hc
  have hc1 : ∀ i, i < n → w.cell? ⟨g', off' + i, none⟩ = some (.int .u8 (l'.getD i 0)) := by
    obtain ⟨g1, o1, e, hc⟩ := h'.at_ hn
    injection e with e; injection e with e1 e2; subst e1; subst e2
    exact hc
  have hcap := h.cap
  have hmax := h.max
  unfold maxLen at hmax
  have HL := Lib.hid h.len
  have HL' := Lib.hid h'.len
  have HC0 := Lib.hid hc0
  have HC1 := Lib.hid hc1
  clear hc0 hc1 h h'
  go_enter Try.func16, Try.ntmps16
  go_wp2
  go_loopw [5] (fun i wr => ∃ k : Nat, k ≤ n ∧ i = .int .i64 k ∧ l.take k = l'.take k ∧ ∃ m, wr = w.drewN m) (fun i _ => n - (intOf i).toNat)
  case atStart => exact ⟨0, Nat.zero_le _, rfl, rfl, 0, rfl⟩
  case round =>
    obtain ⟨k, hk, rfl, htk, m, rfl⟩ := hrel
    have HT := Lib.hid htk
    clear htk
    by_cases hlt : k < n
    · have hx := HC0.out k hlt
      have hy := HC1.out k hlt
      have H1 := Lib.hid (take_one_more HT.out (by rw [HL.out]; exact hlt) (by rw [HL'.out]; exact hlt))
      have H2 := Lib.hid (@same_ne l l' k)
      obtain ⟨x, ex⟩ : ∃ x, x = l.getD k 0 := ⟨_, rfl⟩
      obtain ⟨y, ey⟩ : ∃ y, y = l'.getD k 0 := ⟨_, rfl⟩
      rw [← ex] at hx H1 H2
      rw [← ey] at hy H1 H2
      clear ex ey
      go_wp2
      go_quiet (fail)
      go_wp2
      · have hne : (x != y) = true := by assumption
        have e := H2.out (by simpa using hne)
        go_ret
        exact ⟨by rw [e]; rfl, _, World.drewN_drewN _ _ _⟩
      · have heq : (x != y) = false := by assumption
        have e := H1.out (by simpa using heq)
        go_roundw
        case rel => exact ⟨k + 1, by omega, by go_num, e, _, rfl⟩
        case measure => simp [intOf]; omega
    · have hkn : k = n := by omega
      subst hkn
      go_wp2
      have e := same_all HL.out HL'.out HT.out
      go_ret
      exact ⟨by rw [e]; rfl, _, rfl⟩

theorem same_any (A : Option Addr) (n c : Nat) (A' : Option Addr) (n' c' : Nat) (l l' : List Int) (w : World) (h : Byt w A n c l) (h' : Byt w A' n' c' l') :
    Calls Try.prog 16 #[.slice A n c, .slice A' n' c'] w (Quiet (.bool (decide (l = l'))) w) := by
  by_cases hnn : n = n'
  · subst hnn
    by_cases hn : 0 < n
    · obtain ⟨g, off, rfl, _⟩ := h.at_ hn
      obtain ⟨g', off', rfl, _⟩ := h'.at_ hn
      exact same_rows g off n c g' off' c' l l' w h h' hn
    · have h0 : n = 0 := by omega
      subst h0
      have e : l = [] := List.eq_nil_of_length_eq_zero h.len
      have e' : l' = [] := List.eq_nil_of_length_eq_zero h'.len
      subst e e'
      clear h h' hn
      go_enter Try.func16, Try.ntmps16
      go_wp2
      refine wp_loop_rounds 1 ?_
      rw [rounds_succ]
      go_wp2
      go_ret
      exact ⟨rfl, 0, rfl⟩
  · have hd : decide (l = l') = false := by
      simp only [decide_eq_false_iff_not]
      intro e
      exact hnn (by rw [← h.len, ← h'.len, e])
    have HD := Lib.hid hd
    have hne : ((n : Int) != (n' : Int)) = true := by simp; omega
    clear hd h h' hnn
    go_enter Try.func16, Try.ntmps16
    go_wp2
    go_ret
    exact ⟨by rw [HD.out]; rfl, 0, rfl⟩

theorem same_yes (A : Option Addr) (n c : Nat) (A' : Option Addr) (n' c' : Nat) (l l' : List Int) (w : World) (h : Byt w A n c l) (h' : Byt w A' n' c' l') (e : l = l') :
    Calls Try.prog 16 #[.slice A n c, .slice A' n' c'] w (Quiet (.bool true) w) := by
  have := same_any A n c A' n' c' l l' w h h'
  rw [show decide (l = l') = true from by simp [e]] at this
  exact this

theorem same_no (A : Option Addr) (n c : Nat) (A' : Option Addr) (n' c' : Nat) (l l' : List Int) (w : World) (h : Byt w A n c l) (h' : Byt w A' n' c' l') (e : l ≠ l') :
    Calls Try.prog 16 #[.slice A n c, .slice A' n' c'] w (Quiet (.bool false) w) := by
  have := same_any A n c A' n' c' l l' w h h'
  rw [show decide (l = l') = false from by simp [e]] at this
  exact this
end Go.Proofs.Ytjieledaiipheaa
