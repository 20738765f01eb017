/- What it says: crc.matrix's times is a linear change of a register; byteShift and squared are the changes of 8 shifts and of twice as many. -/
import Derived.Test.YteogchmhmgngnaaDoorCrcReg
import Derived.Test.YteogchmhmgngnaaDoorArr
import Derived.Deep.WholeRow
namespace Go.Proofs.YteogchmhmgngnaaDoor
open Go.RowKit

theorem matInfo : (Tryd.prog.info? 38).map (·.size) = some 32 := by kernel_rfl
theorem matUnder : Tryd.prog.underlying 38 = some (.array 32 24) := Tryd.underlying38
theorem wordInfo : (Tryd.prog.info? 24).map (·.size) = some 1 := by kernel_rfl

theorem index_mat (f : Nat → Nat) (i : Nat) (hi : i < 32) (w : World) : (Instr.index 38 (.agg (matC f)) (.int .i64 (i : Int))).run Tryd.prog w = .ok (.int .u32 (f i)) w :=
  run_index_mat w _ _ f i hi matUnder Tryd.underlying24 wordInfo

theorem times_next (f : Nat → Nat) (c n : Nat) : timesL f c (n + 1) = if c / 2 ^ n % 2 = 1 then timesL f c n ^^^ f n else timesL f c n := rfl

theorem timesL_lt (f : Nat → Nat) (hf : ∀ i, f i < 4294967296) (c n : Nat) : timesL f c n < 4294967296 := by
  induction n with
  | zero => simp [timesL]
  | succ n ih =>
    rw [times_next]
    split
    · exact Nat.xor_lt_two_pow (n := 32) ih (hf n)
    · exact ih

theorem bit_of (c i : Nat) (hc : c < 4294967296) : bits .and .u32 ((c : Int) / 2 ^ i) 1 = ((c / 2 ^ i % 2 : Nat) : Int) := by
  have e : (c : Int) / 2 ^ i = ((c / 2 ^ i : Nat) : Int) := by simp
  rw [e]
  have hlt : c / 2 ^ i < 4294967296 := Nat.lt_of_le_of_lt (Nat.div_le_self _ _) hc
  have := u32_and_nat (c / 2 ^ i) 1 hlt (by omega)
  rw [show ((1 : Nat) : Int) = 1 from rfl] at this
  rw [this, Nat.and_one_is_mod]

set_option maxHeartbeats 1000000 in
theorem times_any (f : Nat → Nat) (hf : ∀ i, f i < 4294967296) (r : Nat) (hr : r < 4294967296) (w : World) :
    Calls Tryd.prog 17 #[.agg (matC f), .int .u32 r] w (Ret (.int .u32 (timesL f r 32 : Nat)) w) := by
  have HF := Lib.hid hf
  have HX := Lib.hid (fun i hi w => index_mat f i hi w)
  obtain ⟨C, hC⟩ : ∃ C, C = matC f := ⟨_, rfl⟩
  have hsz : (Tryd.prog.info? 38).map (·.size) = some C.size := by rw [hC, matC_size]; exact matInfo
  have HS := Lib.hid hsz
  rw [← hC] at HX ⊢
  clear hf hC hsz
  go_enter Tryd.func17, Tryd.ntmps17
  go_wp2_with (refine wpList_load_row rfl 38 _ rfl w.heap.size rfl 38 _ (0, 0) _ (heap_alloc_new _ _) Tryd.underlying38 rfl HS.out ?_)
  go_loop [5, 9] (fun s j => ∃ i v : Nat, i ≤ 32 ∧ v < 4294967296 ∧ s = .int .u32 v ∧ j = .int .i64 i ∧ v = timesL f r i) (fun _ j => 32 - (intOf j).toNat)
  case atStart => exact ⟨0, 0, Nat.zero_le _, by omega, rfl, rfl, rfl⟩
  case round =>
    obtain ⟨i, v, hi, hv, rfl, rfl, ev⟩ := hrel
    have EV := Lib.hid ev
    clear ev
    by_cases hlt : i < 32
    · have hx := HX.out i hlt
      have hfi := HF.out i
      have hb := bit_of r i hr
      have hn := times_next f r i
      rw [← EV.out] at hn
      obtain ⟨y, ey⟩ : ∃ y, f i = y := ⟨_, rfl⟩
      rw [ey] at hx hfi hn
      clear ey
      by_cases h1 : r / 2 ^ i % 2 = 1
      · rw [if_pos h1] at hn
        rw [h1] at hb
        have hxor := xor32 v y hv hfi
        have hlt2 : v ^^^ y < 4294967296 := Nat.xor_lt_two_pow (n := 32) hv hfi
        obtain ⟨z, ez⟩ : ∃ z, v ^^^ y = z := ⟨_, rfl⟩
        rw [ez] at hxor hn hlt2
        have HN := Lib.hid hn
        clear hn h1 ez
        go_wp2_with fail
        clear hxor hb hx
        go_round
        case rel => exact ⟨i + 1, z, by omega, hlt2, rfl, by go_num, HN.out.symm⟩
        case measure => simp [intOf]; omega
      · rw [if_neg h1] at hn
        rw [show r / 2 ^ i % 2 = 0 from by omega] at hb
        have HN := Lib.hid hn
        clear hn h1
        go_wp2_with fail
        clear hb hx
        go_round
        case rel => exact ⟨i + 1, v, by omega, hv, rfl, by go_num, HN.out.symm⟩
        case measure => simp [intOf]; omega
    · have HI : Hid (i = 32) := Lib.hid (by omega)
      go_wp2_with fail
      go_ret
      exact ⟨by rw [EV.out, HI.out]; rfl, (Below.refl _ _).alloc (Nat.le_refl _) _⟩

/-- The change of k shifts. -/
def shiftC (k : Nat) : Array Value := matC fun i => steps k (2 ^ i)

/-- A call hands back a matrix; what was there reads as before. -/
def RetMat (C : Array Value) (w : World) (e : Ending) (w' : World) : Prop := e = .returned (.agg C) ∧ Below w.heap.size w w'

theorem shiftC_size (k : Nat) : (shiftC k).size = 32 := matC_size _
theorem shiftC_one (k : Nat) : (shiftC k).all (·.oneCell') = true := matC_one _

theorem RetMat.mk {w wr : World} {g : Nat} {old : Array Value} (h : Bk wr g 38 old) (hg : w.heap.size ≤ g) (hb : Below w.heap.size w wr) (C : Array Value) (_hs : C.size = 32) (_h1 : C.all (·.oneCell') = true) :
    (wr.setRow g C).heap[g]? = some (.cells C 38 (0, 0)) ∧ RetMat C w (.returned (.agg C)) (wr.setRow g C) := by
  refine ⟨setRow_heap wr g old C _ _ h, rfl, ?_⟩
  exact hb.trans ⟨rfl, rfl, rfl, by simp, fun k hk => setRow_other _ _ _ _ (by omega)⟩

/-- A matrix that is being filled, in block g + d; the result's block g. -/
structure MatRel (w : World) (g d : Nat) (F : Nat → Nat) (k : Nat) (wr : World) : Prop where
  new : Bk wr (g + d) 38 (matC (upTo F (fun _ => 0) k))
  res : Bk wr g 38 (matC fun _ => 0)
  own : w.heap.size ≤ g
  pos : 0 < d
  bel : Below w.heap.size w wr

theorem zeros_mat : (#[.int .u32 0, .int .u32 0, .int .u32 0, .int .u32 0, .int .u32 0, .int .u32 0, .int .u32 0, .int .u32 0, .int .u32 0, .int .u32 0, .int .u32 0, .int .u32 0, .int .u32 0, .int .u32 0, .int .u32 0, .int .u32 0, .int .u32 0, .int .u32 0, .int .u32 0, .int .u32 0, .int .u32 0, .int .u32 0, .int .u32 0, .int .u32 0, .int .u32 0, .int .u32 0, .int .u32 0, .int .u32 0, .int .u32 0, .int .u32 0, .int .u32 0, .int .u32 0] : Array Value) = matC fun _ => 0 := by kernel_rfl

theorem upTo_zero (F G : Nat → Nat) : upTo F G 0 = G := by funext i; simp [upTo]
theorem upTo_all (F G : Nat → Nat) : matC (upTo F G 32) = matC F := matC_congr _ _ fun i hi => by simp [upTo, hi]

theorem MatRel.cell {w wr : World} {g d : Nat} {F : Nat → Nat} {k : Nat} (h : MatRel w g d F k wr) (hk : k < 32) : ∃ u, wr.cell? ⟨g + d, k, none⟩ = some u := by
  rw [h.new.cell]
  exact ⟨_, matC_at _ k hk⟩

theorem MatRel.below {w wr w2 : World} {g d : Nat} {F : Nat → Nat} {k : Nat} (h : MatRel w g d F k wr) (hb : Below wr.heap.size wr w2) : MatRel w g d F k w2 :=
  ⟨h.new.bel hb h.new.lt, h.res.bel hb h.res.lt, h.own, h.pos, Below.then h.bel hb⟩

theorem MatRel.step {w wr : World} {g d : Nat} {F : Nat → Nat} {k y : Nat} (h : MatRel w g d F k wr) (hk : k < 32) (hy : F k = y) : MatRel w g d F (k + 1) (wr.setCell ⟨g + d, k, none⟩ (.int .u32 (y : Int))) := by
  subst hy
  refine ⟨?_, ?_, h.own, h.pos, h.bel.setCell (show w.heap.size ≤ g + d by have := h.own; omega) _⟩
  · have := h.new.setc k (.int .u32 (F k))
    rwa [matC_set F _ k hk] at this
  · have := h.res
    unfold Bk at this ⊢
    rw [heap_setCell_other _ _ _ _ (by have := h.pos; show g ≠ g + d; omega)]
    exact this

set_option maxHeartbeats 1000000 in
theorem byteShift_any (w : World) (hT : Tab w) :
    Calls Tryd.prog 16 #[] w (RetMat (shiftC 8) w) := by
  have HT := Lib.hid hT
  have hw0 : 0 < w.heap.size := World.block_lt_of_cell? w _ (hT 0 (by omega))
  have R0 : Hid (MatRel w w.heap.size 1 (fun i => steps 8 (2 ^ i)) 0 ((w.alloc (.cells #[.int .u32 0, .int .u32 0, .int .u32 0, .int .u32 0, .int .u32 0, .int .u32 0, .int .u32 0, .int .u32 0, .int .u32 0, .int .u32 0, .int .u32 0, .int .u32 0, .int .u32 0, .int .u32 0, .int .u32 0, .int .u32 0, .int .u32 0, .int .u32 0, .int .u32 0, .int .u32 0, .int .u32 0, .int .u32 0, .int .u32 0, .int .u32 0, .int .u32 0, .int .u32 0, .int .u32 0, .int .u32 0, .int .u32 0, .int .u32 0, .int .u32 0, .int .u32 0] 38)).alloc (.cells #[.int .u32 0, .int .u32 0, .int .u32 0, .int .u32 0, .int .u32 0, .int .u32 0, .int .u32 0, .int .u32 0, .int .u32 0, .int .u32 0, .int .u32 0, .int .u32 0, .int .u32 0, .int .u32 0, .int .u32 0, .int .u32 0, .int .u32 0, .int .u32 0, .int .u32 0, .int .u32 0, .int .u32 0, .int .u32 0, .int .u32 0, .int .u32 0, .int .u32 0, .int .u32 0, .int .u32 0, .int .u32 0, .int .u32 0, .int .u32 0, .int .u32 0, .int .u32 0] 38))) := by
    rw [zeros_mat]
    refine Lib.hid ⟨?_, heap_alloc2_old _ _ _, Nat.le_refl _, by omega, ((Below.refl _ _).alloc (Nat.le_refl _) _).alloc (by simp) _⟩
    rw [upTo_zero]
    exact heap_alloc2_new _ _ _
  clear hT
  go_enter Tryd.func16, Tryd.ntmps16
  go_wp2_with fail
  go_loopw [3] (fun j wr => ∃ i : Nat, i ≤ 32 ∧ j = .int .i64 i ∧ MatRel w w.heap.size 1 (fun i => steps 8 (2 ^ i)) i wr) (fun j _ => 32 - (intOf j).toNat)
  case atStart => exact ⟨0, Nat.zero_le _, rfl, R0.out⟩
  case round =>
    obtain ⟨i, hi, rfl, hr⟩ := hrel
    have HR := Lib.hid hr
    clear hr
    by_cases hlt : i < 32
    · obtain ⟨u, hc⟩ := HR.out.cell hlt
      have hfz := HR.out.new.frz i
      obtain ⟨p, ep⟩ : ∃ p, 2 ^ i = p := ⟨_, rfl⟩
      have hp : p < 4294967296 := by rw [← ep]; exact Nat.pow_lt_pow_right (by decide) (show i < 32 from hlt)
      have epi : (2 : Int) ^ i = (p : Int) := by rw [← ep]; simp
      go_wp2_with fail
      obtain ⟨y, ey⟩ : ∃ y, steps 8 p = y := ⟨_, rfl⟩
      have CS := shiftByte_any p hp wr (HT.out.below HR.out.bel hw0)
      rw [ey] at CS
      have R1 := Lib.hid (HR.out.step (y := y) hlt (by rw [← ey, ← ep]))
      clear epi ep ey
      refine CS.mono ?_
      rintro e w1 ⟨rfl, rfl⟩
      clear CS
      go_wp2_with fail
      go_roundw
      case rel => exact ⟨i + 1, by omega, by go_num, R1.out⟩
      case measure => simp [intOf]; omega
    · have HI : Hid (i = 32) := Lib.hid (by omega)
      have hnew : wr.heap[w.heap.size + 1]? = some (.cells (shiftC 8) 38 (0, 0)) := by
        have := HR.out.new
        rw [HI.out] at this
        unfold Bk at this
        rwa [upTo_all] at this
      have HN := Lib.hid hnew
      have E := Lib.hid (RetMat.mk HR.out.res HR.out.own HR.out.bel (shiftC 8) (shiftC_size 8) (shiftC_one 8))
      have HS := Lib.hid (shiftC_size 8)
      have HS1 := Lib.hid (shiftC_one 8)
      have HR1 := Lib.hid HR.out.res
      obtain ⟨C, hC⟩ : ∃ C, C = shiftC 8 := ⟨_, rfl⟩
      have HC := Lib.hid hC
      rw [← hC] at HN E HS HS1
      clear hnew hC
      go_wp2_with (first
        | (refine wpList_load_row rfl 38 _ rfl (w.heap.size + 1) rfl 38 C (0, 0) _ HN.out Tryd.underlying38 rfl (by rw [HS.out]; exact matInfo) ?_)
        | (refine wpList_store_row rfl 38 _ _ rfl w.heap.size C rfl rfl 38 _ HR1.out (by rw [HS.out]; exact matInfo) (by rw [HS.out, matC_size]) HS1.out ?_))
      exact bodyPost_ret (v := .agg C) (results_cell_row (p := 0) (ty := 38) Tryd.results16 _ _ w.heap.size 38 C (0, 0) _ rfl E.out.1 matUnder rfl (by rw [HS.out]; exact matInfo)) rfl ⟨by rw [← HC.out], E.out.2.2⟩

theorem timesL_steps2 (k : Nat) (c : Nat) (hc : c < 4294967296) : timesL (fun i => steps k (2 ^ i)) c 32 = steps k c :=
  timesL_all k c hc _ (fun _ _ => rfl)

theorem sq_step (k : Nat) (x : Nat) (hx : x < 4294967296) : timesL (fun i => steps k (2 ^ i)) (steps k x) 32 = steps (k + k) x := by
  rw [timesL_steps2 k _ (steps_lt k hx), steps_add]

theorem pow_lt32 (i : Nat) (h : i < 32) : 2 ^ i < 4294967296 := Nat.pow_lt_pow_right (by decide) (show i < 32 from h)

theorem Bk.below {w w' : World} {g : Nat} {t : TypeId} {cs : Array Value} (h : Bk w g t cs) (hb : Below w.heap.size w w') : Bk w' g t cs := h.bel hb h.lt

theorem setCell_bk {w : World} {g : Nat} {t : TypeId} {cs : Array Value} (h : Bk w g t cs) (a : Addr) (v : Value) (hne : g ≠ a.block) : Bk (w.setCell a v) g t cs := by
  unfold Bk at h ⊢
  rw [heap_setCell_other _ _ _ _ hne]
  exact h

/-- The first n columns of the change of k shifts, any number of them below 2^32. -/
def shiftF (k : Nat) (i : Nat) : Nat := if i < 32 then steps k (2 ^ i) else 0

theorem shiftF_lt (k i : Nat) : shiftF k i < 4294967296 := by
  unfold shiftF
  split
  · exact steps_lt k (pow_lt32 i ‹_›)
  · omega

theorem shiftC_F (k : Nat) : shiftC k = matC (shiftF k) := matC_congr _ _ fun i hi => by simp [shiftF, hi]

/-- A register behind k shifts, by the matrix. -/
theorem times_shift (k r : Nat) (hr : r < 4294967296) (w : World) :
    Calls Tryd.prog 17 #[.agg (shiftC k), .int .u32 r] w (Ret (.int .u32 (steps k r : Nat)) w) := by
  have h := times_any (shiftF k) (shiftF_lt k) r hr w
  rw [timesL_all k r hr (shiftF k) (fun i hi => by simp [shiftF, hi]), ← shiftC_F] at h
  exact h

set_option maxHeartbeats 1000000 in
theorem squared_any (k : Nat) (w : World) :
    Calls Tryd.prog 18 #[.agg (shiftC k)] w (RetMat (shiftC (k + k)) w) := by
  have HX := Lib.hid (fun i (hi : i < 32) w => index_mat (shiftF k) i hi w)
  have HT := Lib.hid (fun r hr w => times_shift k r hr w)
  have HS := Lib.hid (shiftC_size k)
  rw [← shiftC_F] at HX
  obtain ⟨C, hC⟩ : ∃ C, C = shiftC k := ⟨_, rfl⟩
  rw [← hC] at HX HT HS ⊢
  clear hC
  have R0 : Hid (MatRel w (w.heap.size + 1) 1 (fun i => steps (k + k) (2 ^ i)) 0 (((w.alloc (.cells C 38)).alloc (.cells (matC fun _ => 0) 38)).alloc (.cells (matC fun _ => 0) 38)) ∧ Bk (((w.alloc (.cells C 38)).alloc (.cells (matC fun _ => 0) 38)).alloc (.cells (matC fun _ => 0) 38)) w.heap.size 38 C) := by
    refine Lib.hid ⟨⟨?_, ?_, by omega, by omega, (((Below.refl _ _).alloc (Nat.le_refl _) _).alloc (by simp) _).alloc (by simp; omega) _⟩, ?_⟩
    · rw [upTo_zero]
      have := heap_alloc2_new (w.alloc (.cells C 38)) (.cells (matC fun _ => 0) 38) (.cells (matC fun _ => 0) 38)
      simpa [Bk] using this
    · have := heap_alloc2_old (w.alloc (.cells C 38)) (.cells (matC fun _ => 0) 38) (.cells (matC fun _ => 0) 38)
      simpa [Bk] using this
    · exact Bk.below (show Bk ((w.alloc (.cells C 38)).alloc (.cells (matC fun _ => 0) 38)) w.heap.size 38 C from heap_alloc2_old _ _ _) ((Below.refl _ _).alloc (Nat.le_refl _) _)
  rw [← zeros_mat] at R0
  go_enter Tryd.func18, Tryd.ntmps18
  go_wp2_with (refine wpList_load_row rfl 38 _ rfl w.heap.size rfl 38 C (0, 0) _ R0.out.2 Tryd.underlying38 rfl (by rw [HS.out]; exact matInfo) ?_)
  go_loopw [7] (fun j wr => ∃ i : Nat, i ≤ 32 ∧ j = .int .i64 i ∧ MatRel w (w.heap.size + 1) 1 (fun i => steps (k + k) (2 ^ i)) i wr ∧ Bk wr w.heap.size 38 C) (fun j _ => 32 - (intOf j).toNat)
  case atStart => exact ⟨0, Nat.zero_le _, rfl, R0.out⟩
  case round =>
    obtain ⟨i, hi, rfl, hr, hb⟩ := hrel
    have HR := Lib.hid hr
    have HB := Lib.hid hb
    clear hr hb R0
    by_cases hlt : i < 32
    · obtain ⟨y, ey⟩ : ∃ y, shiftF k i = y := ⟨_, rfl⟩
      have eyk : y = steps k (2 ^ i) := by rw [← ey]; simp [shiftF, hlt]
      have hy : y < 4294967296 := by rw [← ey]; exact shiftF_lt k i
      have hx := HX.out i hlt
      rw [ey] at hx
      obtain ⟨z, ez⟩ : ∃ z, steps k y = z := ⟨_, rfl⟩
      have EZ : Hid (steps (k + k) (2 ^ i) = z) := Lib.hid (by rw [steps_add, ← eyk, ez])
      have CT := Lib.hid (HT.out y hy)
      rw [ez] at CT
      clear ey eyk ez
      go_wp2_with (refine wpList_load_row rfl 38 _ rfl w.heap.size rfl 38 C (0, 0) _ HB.out Tryd.underlying38 rfl (by rw [HS.out]; exact matInfo) ?_)
      refine (CT.out _).mono ?_
      rintro e w1 ⟨rfl, b1⟩
      have HR1 := Lib.hid (HR.out.below b1)
      have HB1 := Lib.hid (HB.out.below b1)
      clear b1 hx CT
      obtain ⟨u, hc⟩ := HR1.out.cell hlt
      have hfz := HR1.out.new.frz i
      have R1 := Lib.hid (HR1.out.step (y := z) hlt EZ.out)
      have B1 := Lib.hid (setCell_bk HB1.out ⟨w.heap.size + 1 + 1, i, none⟩ (.int .u32 (z : Int)) (by show w.heap.size ≠ w.heap.size + 1 + 1; omega))
      go_wp2_with fail
      go_roundw
      case rel => exact ⟨i + 1, by omega, by go_num, R1.out, B1.out⟩
      case measure => simp [intOf]; omega
    · have HI : Hid (i = 32) := Lib.hid (by omega)
      have hnew : wr.heap[w.heap.size + 1 + 1]? = some (.cells (shiftC (k + k)) 38 (0, 0)) := by
        have := HR.out.new
        rw [HI.out] at this
        unfold Bk at this
        rwa [upTo_all] at this
      have HN := Lib.hid hnew
      have E := Lib.hid (RetMat.mk HR.out.res (Nat.le_of_lt (Nat.lt_succ_self _)) HR.out.bel (shiftC (k + k)) (shiftC_size _) (shiftC_one _))
      have HS := Lib.hid (shiftC_size (k + k))
      have HS1 := Lib.hid (shiftC_one (k + k))
      have HR1 := Lib.hid HR.out.res
      obtain ⟨D, hD⟩ : ∃ D, D = shiftC (k + k) := ⟨_, rfl⟩
      have HD := Lib.hid hD
      rw [← hD] at HN E HS HS1
      clear hnew hD
      go_wp2_with (first
        | (refine wpList_load_row rfl 38 _ rfl (w.heap.size + 1 + 1) rfl 38 D (0, 0) _ HN.out Tryd.underlying38 rfl (by rw [HS.out]; exact matInfo) ?_)
        | (refine wpList_store_row rfl 38 _ _ rfl (w.heap.size + 1) D rfl rfl 38 _ HR1.out (by rw [HS.out]; exact matInfo) (by rw [HS.out, matC_size]) HS1.out ?_))
      exact bodyPost_ret (v := .agg D) (results_cell_row (p := 2) (ty := 38) Tryd.results18 _ _ (w.heap.size + 1) 38 D (0, 0) _ rfl E.out.1 matUnder rfl (by rw [HS.out]; exact matInfo)) rfl ⟨by rw [← HD.out], E.out.2.2⟩
end Go.Proofs.YteogchmhmgngnaaDoor
