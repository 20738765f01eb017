/- What it says: 'Rows.MasterCrashesSaid': for every input trothlaw06.MasterCrashes answers true, and what came in reads behind the call as before. No condition. -/
import Derived.Test.YtllkdcnejobinaaPk3
import Derived.LoopTactic
import Derived.Deep.CutBlock

/- the walk of the law MasterCrashes: whatever comes in, it answers true and turns nothing that was there. -/
namespace Go.Proofs.Ytllkdcnejobinaa
open Go.RowKit

theorem build_cm (A : Option Addr) (m c : Nat) (t : Bool) (x : Int) : Try.prog.built 33 [(0, .slice A m c), (1, .bool t), (2, .int .i64 x)] = some #[.slice A m c, .bool t, .int .i64 x] := by
  kernel_rfl

/-- A block's cells are written anew. -/
theorem blkR_row {B g : Nat} {t : TypeId} {old : Array Value} {S : Res} {w : World} (h : Has B ((blkR g t old).star S) w) (hB : B ≤ w.heap.size) (cs : Array Value) : Has B ((blkR g t cs).star S) (w.setRow g cs) ∧ Below B w (w.setRow g cs) := by
  obtain ⟨F, ⟨hb, hg, hl⟩, ht⟩ := h.turn1 hB
  refine ht (blkR g t cs) (w.setRow g cs) ⟨⟨hb.row cs, .inl hg, fun k f => ?_⟩, ⟨rfl, rfl, rfl, by simp, fun k hk hn => setRow_other _ _ _ _ (fun e => hn (e ▸ hg))⟩⟩
  have e : (w.setRow g cs).heap.size = w.heap.size := by simp
  rw [e]
  rcases f with f | f
  · exact hl k f
  · have := f.2
    rw [e] at this
    exact this
theorem keepL {B : Nat} {D : Res} {g : Nat} {t : TypeId} {old : Array Value} {S : Res} {w : World} (h : Has B (D.star ((blkR g t old).star S)) w) (hB : B ≤ w.heap.size) (cs : Array Value) : Has B (D.star ((blkR g t cs).star S)) (w.setRow g cs) ∧ Below B w (w.setRow g cs) := by
  have q := blkR_row h.sw hB cs
  exact ⟨q.1.wsBack, q.2⟩

/-- The record that is saved in a round. -/
def nextM (lg : Nat) (cl : Sav) : Ms := ⟨(lg : Int) + 1, cl.inc, cl.first, cl.lsn, cl.chk⟩
theorem nextM_fits {lg : Nat} {cl : Sav} {w : World} (h : cl.In w) (hl : lg ≤ 100) : (nextM lg cl).fits := fun k => by
  match k with
  | 0 => show _ ≤ (lg : Int) + 1 ∧ (lg : Int) + 1 ≤ _; omega
  | 1 => exact h.inc
  | 2 => exact h.first
  | 3 => exact h.lsn
  | _ + 4 => exact h.chk

def m1 : Ms := ⟨1, 0, 0, 0, 0⟩
theorem m1_ok : m1.ok := ⟨⟨by decide, by decide⟩, ⟨by decide, by decide⟩, ⟨by decide, by decide⟩, ⟨by decide, by decide⟩, ⟨by decide, by decide⟩⟩
theorem m1_v : msV m1 = .agg #[.int .i64 1, .int .i64 0, .int .i64 0, .int .i64 0, .int .i64 0] := rfl

set_option maxRecDepth 100000 in
set_option maxHeartbeats 80000000 in
theorem masterCrashes_walk (A : Option Addr) (n c : Nat) (cs : List Sav) (w : World) (h : Svs w A n c cs) :
    Calls Try.prog 3 #[.slice A n c] w (Ret (.bool true) w) := by
  obtain ⟨i0, hi, hz0, hz1, hz2⟩ := info_parts info_int
  have hcap := h.cap
  have hmax := h.max
  unfold maxLen at hmax
  have HX := Lib.hid h
  clear h
  by_cases hlong : 40 < n
  · go_enter Try.func3, Try.ntmps3
    go_wp2_with fail
    refine (awakeM_any _).mono ?_
    rintro e w1 ⟨rfl, b1⟩
    have B1 := Lib.hid b1
    clear b1
    go_wp2_with fail
    go_ret
    exact ⟨rfl, B1.out⟩
  have CN := Lib.hid (new_two w)
  obtain ⟨a1, a2, a3, _⟩ := Mst.start.save m1_ok
  have S1 : Hid (Mst (saveS (St.new 2) m1) 1 ∧ Lst (saveS (St.new 2) m1).syn m1) := Lib.hid ⟨a3, by rw [a2]; exact Lst.first m1_ok (fun _ => rfl) (msL_rec (s := St.new 2) m1_ok)⟩
  have SE := Lib.hid a1
  clear a1 a2 a3
  go_enter Try.func3, Try.ntmps3
  go_wp2_with fail
  refine CN.out.mono ?_
  rintro e w1 ⟨b, rfl, h1, b1⟩
  have CS := save_any h1 b1.size m1 m1_ok.fits (Nat.zero_lt_succ _) (by rw [putS_syncs0 Mst.start]; exact Nat.zero_lt_succ _)
  rw [SE.out, m1_v] at CS
  have CS := Lib.hid CS
  have B1 := Lib.hid b1
  clear h1 b1 CN
  go_wp2_with fail
  refine CS.out.mono ?_
  rintro e w2 ⟨rfl, h2, b2⟩
  obtain ⟨qL, hqL⟩ : ∃ qL, w2.heap.size = qL := ⟨_, rfl⟩
  obtain ⟨W2, hW2⟩ : ∃ W2, W2 = w2.alloc (.cells #[.int .i64 1, .int .i64 0, .int .i64 0, .int .i64 0, .int .i64 0] 30) := ⟨_, rfl⟩
  have B2 : Hid (Below w.heap.size w w2) := Lib.hid (B1.out.trans b2)
  have R2 : Hid (Has w.heap.size ((dsk b (saveS (St.new 2) m1)).star ((blkR qL 30 (msC m1)).star emp)) W2 ∧ Below w.heap.size w W2) := Lib.hid (by
    rw [hW2, ← hqL]
    have q := blkR_new 30 #[.int .i64 1, .int .i64 0, .int .i64 0, .int .i64 0, .int .i64 0] h2 B2.out.size
    exact ⟨q.swap, B2.out.alloc B2.out.size _⟩)
  have HW2 := Lib.hid hW2
  have HQL := Lib.hid hqL
  clear h2 b2 CS hW2 hqL B1 B2
  go_wp2_with fail
  rw [← HW2.out, HQL.out]
  clear HW2 HQL
  go_loopw [3, 6] (fun d q wr => ∃ (k b : Nat) (s : St) (last : Ms) (X : Res), k ≤ n ∧ d = .pointer (some ⟨b, 0, none⟩) ∧ q = .int .i64 (k : Nat) ∧ Mst s (k + 1) ∧ Lst s.syn last ∧ last.gen ≤ (k : Int) + 1 ∧ Has w.heap.size ((dsk b s).star ((blkR qL 30 (msC last)).star X)) wr ∧ Below w.heap.size w wr) (fun _ q _ => n - (intOf q).toNat)
  case atStart => exact ⟨0, b, _, m1, emp, Nat.zero_le _, rfl, rfl, S1.out.1, S1.out.2, by decide, R2.out⟩
  case round =>
    obtain ⟨k, b, s, last, X, hkn, rfl, rfl, hms, hls, hlg, hs, hb⟩ := hrel
    have HMS := Lib.hid hms
    have HLS := Lib.hid hls
    have HS := Lib.hid hs
    have HB := Lib.hid hb
    have HOKS := Lib.hid (hasD_ok hs)
    obtain ⟨lg, hlgn⟩ := Int.eq_ofNat_of_zero_le (show 0 ≤ last.gen from by have := hls.ok.gen; omega)
    have hlg' : (lg : Int) ≤ (k : Int) + 1 := by rw [← hlgn]; exact hlg
    have HLC : Hid (msC last = #[.int .i64 (lg : Int), .int .i64 last.inc, .int .i64 last.first, .int .i64 last.lsn, .int .i64 last.chk]) := Lib.hid (by unfold msC; rw [hlgn])
    have HLG := Lib.hid hlgn
    clear hms hls hs hb R2 S1 hlg hlgn SE
    by_cases hlt : k < n
    · obtain ⟨qd, off, rfl, hc⟩ := HX.out.at_ (by omega)
      have hin := HX.out.each k hlt
      obtain ⟨cl, hcl⟩ : ∃ cl, cs.getD k default = cl := ⟨_, rfl⟩
      have hc0 := hc k hlt
      rw [hcl] at hin hc0
      have X0 : ∀ j v, cl.cells[j]? = some v → wr.cell? ⟨qd, off + k * 8 + j, none⟩ = some v := fun j v hv => (HB.out.cell (World.block_lt_of_cell? w _ (hc0 j v hv))).trans (hc0 j v hv)
      have x0 : wr.cell? ⟨qd, off + k * 8, none⟩ = some (.int .i64 cl.inc) := X0 0 _ rfl
      have x1 : wr.cell? ⟨qd, off + k * 8 + 1, none⟩ = some (.int .i64 cl.first) := X0 1 _ rfl
      have x2 : wr.cell? ⟨qd, off + k * 8 + 2, none⟩ = some (.int .i64 cl.lsn) := X0 2 _ rfl
      have x3 : wr.cell? ⟨qd, off + k * 8 + 3, none⟩ = some (.int .i64 cl.chk) := X0 3 _ rfl
      have x4 : wr.cell? ⟨qd, off + k * 8 + 4, none⟩ = some (.int .i64 cl.fuse) := X0 4 _ rfl
      have x5 : wr.cell? ⟨qd, off + k * 8 + 5, none⟩ = some (.slice cl.kA cl.kn cl.kc) := X0 5 _ rfl
      have x6 : wr.cell? ⟨qd, off + k * 8 + 6, none⟩ = some (.bool cl.crs.torn) := X0 6 _ rfl
      have x7 : wr.cell? ⟨qd, off + k * 8 + 7, none⟩ = some (.int .i64 cl.crs.cut) := X0 7 _ rfl
      have HINW := Lib.hid hin
      have hkc := hin.keep.cap
      have hkm := hin.keep.max
      unfold maxLen at hkm
      have hk0 : (0 : Int) ≤ (k : Int) := Int.natCast_nonneg _
      have hk1 : (k : Int) < (n : Int) := by omega
      have HLGB : Hid (lg ≤ 100) := Lib.hid (by omega)
      have HFU := Lib.hid hin.fuse
      clear hc hc0 hin X0 hcl
      obtain ⟨fu, hfu⟩ : ∃ fu, cl.fuse = fu := ⟨_, rfl⟩
      obtain ⟨tn, htn⟩ : ∃ tn, cl.crs.torn = tn := ⟨_, rfl⟩
      obtain ⟨ct, hct⟩ : ∃ ct, cl.crs.cut = ct := ⟨_, rfl⟩
      have HCR : Hid (cl.crs.torn = tn ∧ cl.crs.cut = ct) := Lib.hid ⟨htn, hct⟩
      rw [hfu] at x4 HFU
      rw [htn] at x6
      rw [hct] at x7
      clear hfu htn hct
      obtain ⟨m, hm⟩ : ∃ m, m = nextM lg cl := ⟨_, rfl⟩
      have HMF : Hid m.fits := Lib.hid (by rw [hm]; exact nextM_fits HINW.out HLGB.out)
      have HMV : Hid (msV m = .agg #[.int .i64 ((lg : Int) + 1), .int .i64 cl.inc, .int .i64 cl.first, .int .i64 cl.lsn, .int .i64 cl.chk]) := Lib.hid (by rw [hm]; rfl)
      have HMG : Hid (m.gen = last.gen + 1) := Lib.hid (by rw [hm, HLG.out]; rfl)
      have HMC : Hid (msC m = #[.int .i64 ((lg : Int) + 1), .int .i64 cl.inc, .int .i64 cl.first, .int .i64 cl.lsn, .int .i64 cl.chk]) := Lib.hid (by rw [hm]; rfl)
      clear hm
      obtain ⟨qx, hqx⟩ : ∃ qx, wr.heap.size = qx := ⟨_, rfl⟩
      obtain ⟨W1, hW1⟩ : ∃ W1, W1 = (wr.alloc (.cells #[.int .i64 cl.inc, .int .i64 cl.first, .int .i64 cl.lsn, .int .i64 cl.chk, .int .i64 fu, .slice cl.kA cl.kn cl.kc, .bool tn, .int .i64 ct] 35)).alloc (.cells #[.int .i64 ((lg : Int) + 1), .int .i64 cl.inc, .int .i64 cl.first, .int .i64 cl.lsn, .int .i64 cl.chk] 30) := ⟨_, rfl⟩
      have bw1 : Below wr.heap.size wr W1 := by rw [hW1]; exact ((Below.refl _ _).alloc (Nat.le_refl _) _).alloc (by simp) _
      have H1 : Hid (Has w.heap.size ((dsk b s).star ((blkR qL 30 #[.int .i64 (lg : Int), .int .i64 last.inc, .int .i64 last.first, .int .i64 last.lsn, .int .i64 last.chk]).star ((X.star (blkR qx 35 #[.int .i64 cl.inc, .int .i64 cl.first, .int .i64 cl.lsn, .int .i64 cl.chk, .int .i64 fu, .slice cl.kA cl.kn cl.kc, .bool tn, .int .i64 ct])).star (blkR (qx + 1) 30 #[.int .i64 ((lg : Int) + 1), .int .i64 cl.inc, .int .i64 cl.first, .int .i64 cl.lsn, .int .i64 cl.chk])))) W1) := Lib.hid (by
        have q1 := toP (blkR_new 35 #[.int .i64 cl.inc, .int .i64 cl.first, .int .i64 cl.lsn, .int .i64 cl.chk, .int .i64 fu, .slice cl.kA cl.kn cl.kc, .bool tn, .int .i64 ct] HS.out HB.out.size)
        have q2 := toP (blkR_new 30 #[.int .i64 ((lg : Int) + 1), .int .i64 cl.inc, .int .i64 cl.first, .int .i64 cl.lsn, .int .i64 cl.chk] q1 (by rw [World.size_alloc]; have := HB.out.size; omega))
        rw [World.size_alloc, hqx] at q2
        rw [hW1, ← HLC.out]
        exact q2)
      have B1 : Hid (Below w.heap.size w W1) := Lib.hid (HB.out.trans (bw1.mono HB.out.size))
      have cL : (wr.alloc (.cells #[.int .i64 cl.inc, .int .i64 cl.first, .int .i64 cl.lsn, .int .i64 cl.chk, .int .i64 fu, .slice cl.kA cl.kn cl.kc, .bool tn, .int .i64 ct] 35)).cell? ⟨qL, 0, none⟩ = some (.int .i64 (lg : Int)) := by
        have q := bk_of HS.out.snd.fst
        rw [HLC.out] at q
        exact (q.bel ((Below.refl wr.heap.size _).alloc (Nat.le_refl _) _) q.lt).cell 0
      have CM := rmay_any m W1
      rw [HMV.out] at CM
      have hl0 : (0 : Int) ≤ (lg : Int) := Int.natCast_nonneg _
      have hl1 : (lg : Int) ≤ 100 := by omega
      have HW1 := Lib.hid hW1
      have HQX := Lib.hid hqx
      clear bw1 hW1 hqx
      by_cases hok : m.ok
      · have HOK := Lib.hid hok
        rw [decide_eq_true hok] at CM
        have CM := Lib.hid CM
        clear hok
        go_wp2_with fail
        rw [← HW1.out, HQX.out]
        refine CM.out.mono ?_
        rintro e W2 ⟨rfl, b2⟩
        have H2 := Lib.hid (H1.out.below b2)
        have B2 := Lib.hid (B1.out.trans (b2.mono B1.out.size))
        have c5 : W2.cell? ⟨qx, 5, none⟩ = some (.slice cl.kA cl.kn cl.kc) := (bk_of H2.out.snd.snd.fst.snd).cell 5
        clear b2 CM cL x0 x1 x2 x3 x4 x5 x6 x7 HW1 HQX H1 B1 HS HB
        by_cases g4 : 10 < cl.kn
        · go_wp2_with fail
          go_roundw
          case rel => exact ⟨k + 1, b, s, last, _, by omega, rfl, by go_num, HMS.out.mono (by omega), HLS.out, by rw [HLG.out]; omega, by rw [HLC.out]; exact H2.out, B2.out⟩
          case measure => simp [intOf]; omega
        by_cases hf : fu < 0
        · have SV := Lib.hid (save_more HMS.out HOK.out (f := fu) (by omega) (by omega))
          have c4 : W2.cell? ⟨qx, 4, none⟩ = some (.int .i64 fu) := (bk_of H2.out.snd.snd.fst.snd).cell 4
          have CF := Lib.hid (hasD_fuse H2.out B2.out.size fu (by have := HFU.out; omega))
          go_wp2_with fail
          refine CF.out.mono ?_
          rintro e W3 ⟨rfl, h3, b3⟩
          have B3 := Lib.hid (B2.out.trans b3)
          have H3 := Lib.hid h3
          have KM3 : Hid (Bk W3 (qx + 1) 30 #[.int .i64 ((lg : Int) + 1), .int .i64 cl.inc, .int .i64 cl.first, .int .i64 cl.lsn, .int .i64 cl.chk]) := Lib.hid (bk_of h3.snd.snd.snd)
          have CS := save_any h3 B3.out.size m HMF.out (by show s.pend.length < _; rw [HMS.out.pend]; simp) (by rw [putS_syncs HMS.out]; have := HMS.out.syncs; omega)
          rw [HMV.out, SV.out.1] at CS
          have CS := Lib.hid CS
          clear h3 b3 CF c4 c5 H2 B2
          go_wp2_with (refine wpList_load_row rfl 30 _ rfl (qx + 1) rfl 30 #[.int .i64 ((lg : Int) + 1), .int .i64 cl.inc, .int .i64 cl.first, .int .i64 cl.lsn, .int .i64 cl.chk] (0, 0) _ KM3.out Try.underlying30 rfl ms_info ?_)
          refine CS.out.mono ?_
          rintro e W4 ⟨rfl, h4, b4⟩
          have B4 := Lib.hid (B3.out.trans b4)
          have H4 := Lib.hid h4
          have CD := hasD_down h4
          rw [SV.out.2.1] at CD
          have CD := Lib.hid CD
          have c4 : W4.cell? ⟨qx, 4, none⟩ = some (.int .i64 fu) := (bk_of h4.snd.snd.fst.snd).cell 4
          clear h4 b4 CS KM3 H3 B3
          go_wp2_with fail
          refine CD.out.mono ?_
          rintro e W5 ⟨rfl, rfl⟩
          clear CD
          have hfn : fu < 0 := hf
          have KM4 : Hid (Bk W4 (qx + 1) 30 #[.int .i64 ((lg : Int) + 1), .int .i64 cl.inc, .int .i64 cl.first, .int .i64 cl.lsn, .int .i64 cl.chk]) := Lib.hid (bk_of H4.out.snd.snd.snd)
          have KL4 : Hid (Bk W4 qL 30 #[.int .i64 (lg : Int), .int .i64 last.inc, .int .i64 last.first, .int .i64 last.lsn, .int .i64 last.chk]) := Lib.hid (bk_of H4.out.snd.fst)
          have HR4 := Lib.hid (keepL H4.out B4.out.size #[.int .i64 ((lg : Int) + 1), .int .i64 cl.inc, .int .i64 cl.first, .int .i64 cl.lsn, .int .i64 cl.chk])
          have R5 := Lib.hid HR4.out.1
          have B5 := Lib.hid (B4.out.trans HR4.out.2)
          have MST5 := Lib.hid (SV.out.2.2.2.1 hf)
          have LST5 : Hid (Lst (saveS (s.fuse fu) m).syn m) := Lib.hid (by rw [SV.out.2.2.1]; exact HLS.out.next HOK.out HMG.out (msL_rec HOK.out))
          clear H4 B4 hf
          go_wp2_with (first | (refine wpList_load_row rfl 30 _ rfl (qx + 1) rfl 30 #[.int .i64 ((lg : Int) + 1), .int .i64 cl.inc, .int .i64 cl.first, .int .i64 cl.lsn, .int .i64 cl.chk] (0, 0) _ KM4.out Try.underlying30 rfl ms_info ?_) | (refine wpList_store_row rfl 30 _ _ rfl qL #[.int .i64 ((lg : Int) + 1), .int .i64 cl.inc, .int .i64 cl.first, .int .i64 cl.lsn, .int .i64 cl.chk] rfl rfl 30 _ KL4.out ms_info rfl (ms_one _ _ _ _ _) ?_; simp only [Act.put]))
          have CL := load_any R5.out
          rw [MST5.out.load.1, MST5.out.load.2, LST5.out.load.2, LST5.out.load.1, HMV.out] at CL
          have CL := Lib.hid CL
          go_wp2_with fail
          refine CL.out.mono ?_
          rintro e W7 ⟨rfl, b7⟩
          have H7 := Lib.hid (R5.out.below b7)
          have B7 := Lib.hid (B5.out.trans (b7.mono B5.out.size))
          obtain ⟨p, hp⟩ : ∃ p, W7.heap.size = p := ⟨_, rfl⟩
          obtain ⟨W8, hW8⟩ : ∃ W8, W8 = W7.alloc (.cells #[.int .i64 ((lg : Int) + 1), .int .i64 cl.inc, .int .i64 cl.first, .int .i64 cl.lsn, .int .i64 cl.chk] 30) := ⟨_, rfl⟩
          have bq : Below W7.heap.size W7 W8 := by rw [hW8]; exact (Below.refl _ _).alloc (Nat.le_refl _) _
          have H8 := Lib.hid (H7.out.below bq)
          have B8 : Hid (Below w.heap.size w W8) := Lib.hid (B7.out.trans (bq.mono B7.out.size))
          have KL8 : Hid (Bk W8 qL 30 #[.int .i64 ((lg : Int) + 1), .int .i64 cl.inc, .int .i64 cl.first, .int .i64 cl.lsn, .int .i64 cl.chk]) := Lib.hid (bk_of H8.out.snd.fst)
          have KM8 : Hid (Bk W8 (qx + 1) 30 #[.int .i64 ((lg : Int) + 1), .int .i64 cl.inc, .int .i64 cl.first, .int .i64 cl.lsn, .int .i64 cl.chk]) := Lib.hid (bk_of H8.out.snd.snd.snd)
          have KN8 : Hid (Bk W8 p 30 #[.int .i64 ((lg : Int) + 1), .int .i64 cl.inc, .int .i64 cl.first, .int .i64 cl.lsn, .int .i64 cl.chk]) := Lib.hid (by rw [hW8, ← hp]; exact Bk.new _ _ _)
          have HR8 := Lib.hid (keepL H8.out B8.out.size #[.int .i64 ((lg : Int) + 1), .int .i64 cl.inc, .int .i64 cl.first, .int .i64 cl.lsn, .int .i64 cl.chk])
          have HW8 := Lib.hid hW8
          have HP8 := Lib.hid hp
          clear b7 bq CL H7 B7 hW8 hp
          go_upto_region 21 with fail
          rw [← HW8.out, HP8.out]
          clear HW8 HP8
          have d0 : W8.cell? ⟨qx + 1, 0, none⟩ = some (.int .i64 ((lg : Int) + 1)) := KM8.out.cell 0
          have d1 : W8.cell? ⟨qx + 1, 1, none⟩ = some (.int .i64 (cl.inc)) := KM8.out.cell 1
          have d2 : W8.cell? ⟨qx + 1, 2, none⟩ = some (.int .i64 (cl.first)) := KM8.out.cell 2
          have d3 : W8.cell? ⟨qx + 1, 3, none⟩ = some (.int .i64 (cl.lsn)) := KM8.out.cell 3
          have d4 : W8.cell? ⟨qx + 1, 4, none⟩ = some (.int .i64 (cl.chk)) := KM8.out.cell 4
          have e0 : W8.cell? ⟨p, 0, none⟩ = some (.int .i64 ((lg : Int) + 1)) := KN8.out.cell 0
          have e1 : W8.cell? ⟨p, 1, none⟩ = some (.int .i64 (cl.inc)) := KN8.out.cell 1
          have e2 : W8.cell? ⟨p, 2, none⟩ = some (.int .i64 (cl.first)) := KN8.out.cell 2
          have e3 : W8.cell? ⟨p, 3, none⟩ = some (.int .i64 (cl.lsn)) := KN8.out.cell 3
          have e4 : W8.cell? ⟨p, 4, none⟩ = some (.int .i64 (cl.chk)) := KN8.out.cell 4
          go_upto_if 119 with fail
          clear d0 e0 d1 e1 d2 e2 d3 e3 d4 e4
          go_wp2_with (first | (refine wpList_load_row rfl 30 _ rfl p rfl 30 #[.int .i64 ((lg : Int) + 1), .int .i64 cl.inc, .int .i64 cl.first, .int .i64 cl.lsn, .int .i64 cl.chk] (0, 0) _ KN8.out Try.underlying30 rfl ms_info ?_) | (refine wpList_store_row rfl 30 _ _ rfl qL #[.int .i64 ((lg : Int) + 1), .int .i64 cl.inc, .int .i64 cl.first, .int .i64 cl.lsn, .int .i64 cl.chk] rfl rfl 30 _ KL8.out ms_info rfl (ms_one _ _ _ _ _) ?_; simp only [Act.put]))
          have R9 := Lib.hid (And.intro HR8.out.1 (B8.out.trans HR8.out.2))
          go_roundw
          case rel => exact ⟨k + 1, b, _, m, _, by omega, rfl, by go_num, MST5.out.mono (by omega), LST5.out, by rw [HMG.out, HLG.out]; omega, by rw [HMC.out]; exact R9.out.1, R9.out.2⟩
          case measure => simp [intOf]; omega
        by_cases hf0 : fu = 0
        · obtain rfl : fu = 0 := by omega
          have SV := Lib.hid (save_zero HMS.out HOK.out)
          have c4 : W2.cell? ⟨qx, 4, none⟩ = some (.int .i64 0) := (bk_of H2.out.snd.snd.fst.snd).cell 4
          have CF := Lib.hid (hasD_fuse H2.out B2.out.size 0 (by have := HFU.out; omega))
          go_wp2_with fail
          refine CF.out.mono ?_
          rintro e W3 ⟨rfl, h3, b3⟩
          have B3 := Lib.hid (B2.out.trans b3)
          have H3 := Lib.hid h3
          have KM3 : Hid (Bk W3 (qx + 1) 30 #[.int .i64 ((lg : Int) + 1), .int .i64 cl.inc, .int .i64 cl.first, .int .i64 cl.lsn, .int .i64 cl.chk]) := Lib.hid (bk_of h3.snd.snd.snd)
          have CS := save_any h3 B3.out.size m HMF.out (by show s.pend.length < _; rw [HMS.out.pend]; simp) (by rw [putS_syncs HMS.out]; have := HMS.out.syncs; omega)
          rw [HMV.out, SV.out.1] at CS
          have CS := Lib.hid CS
          clear h3 b3 CF c4 c5 H2 B2
          go_wp2_with (refine wpList_load_row rfl 30 _ rfl (qx + 1) rfl 30 #[.int .i64 ((lg : Int) + 1), .int .i64 cl.inc, .int .i64 cl.first, .int .i64 cl.lsn, .int .i64 cl.chk] (0, 0) _ KM3.out Try.underlying30 rfl ms_info ?_)
          refine CS.out.mono ?_
          rintro e W4 ⟨rfl, h4, b4⟩
          have B4 := Lib.hid (B3.out.trans b4)
          have H4 := Lib.hid h4
          have CD := hasD_down h4
          rw [SV.out.2.1] at CD
          have CD := Lib.hid CD
          have c4 : W4.cell? ⟨qx, 4, none⟩ = some (.int .i64 0) := (bk_of h4.snd.snd.fst.snd).cell 4
          clear h4 b4 CS KM3 H3 B3
          go_wp2_with fail
          refine CD.out.mono ?_
          rintro e W5 ⟨rfl, rfl⟩
          clear CD
          have KS : Hid (∀ W, Below W4.heap.size W4 W → W.cell? ⟨qx, 5, none⟩ = some (.slice cl.kA cl.kn cl.kc) ∧ W.cell? ⟨qx, 6, none⟩ = some (.bool tn) ∧ W.cell? ⟨qx, 7, none⟩ = some (.int .i64 ct)) := Lib.hid (fun W hb => by
            have hz := bk_of (H4.out.below hb).snd.snd.fst.snd
            exact ⟨hz.cell 5, hz.cell 6, hz.cell 7⟩)
          have hS0 := KS.out W4.drew (Below.refl _ _).drew
          have HKN : Hid (∀ W, Below W4.heap.size W4 W → Nts W cl.kA cl.kn cl.kc cl.crs.keep) := Lib.hid (fun W hb => HINW.out.keep.below (B4.out.trans (hb.mono B4.out.size)))
          go_wp2_with fail
          refine wp_region_noPanic ?_
          refine upto_start (fun w' => w'.cell? ⟨qx, 5, none⟩ = some (.slice cl.kA cl.kn cl.kc) ∧ w'.cell? ⟨qx, 6, none⟩ = some (.bool tn) ∧ w'.cell? ⟨qx, 7, none⟩ = some (.int .i64 ct)) 13 (by kernel_rfl) ?_
          change Upto _ _ _ _ _ 15 _ _ _
          refine Upto.take (i := 0) (v := ?_) rfl (by kernel_rfl) (fun _ _ _ h => h) rfl (fun w' hS => ?_) hS0 ?_
          rotate_left
          · (try dsimp only at hS); go_split_ands; go_simp; (try with_reducible rfl)
          simp only [Act.put, List.setIfInBounds_toArray, List.set_cons_zero, List.set_cons_succ]
          refine Upto.take (i := 2) (v := ?_) rfl (by kernel_rfl) (fun _ _ _ h => h) rfl (fun w' hS => ?_) hS0 ?_
          rotate_left
          · (try dsimp only at hS); go_split_ands; go_simp; (try with_reducible rfl)
          simp only [Act.put, List.setIfInBounds_toArray, List.set_cons_zero, List.set_cons_succ]
          refine Upto.take (i := 3) (v := ?_) rfl (by kernel_rfl) (fun _ _ _ h => h) rfl (fun w' hS => ?_) hS0 ?_
          rotate_left
          · (try dsimp only at hS); go_split_ands; go_simp; (try with_reducible rfl)
          simp only [Act.put, List.setIfInBounds_toArray, List.set_cons_zero, List.set_cons_succ]
          refine Upto.take (i := 4) (v := ?_) rfl (by kernel_rfl) (fun _ _ _ h => h) rfl (fun w' hS => ?_) hS0 ?_
          rotate_left
          · (try dsimp only at hS); go_split_ands; go_simp; (try with_reducible rfl)
          simp only [Act.put, List.setIfInBounds_toArray, List.set_cons_zero, List.set_cons_succ]
          refine Upto.take (i := 6) (v := ?_) rfl (by kernel_rfl) (fun _ _ _ h => h) rfl (fun w' hS => ?_) hS0 ?_
          rotate_left
          · (try dsimp only at hS); go_split_ands; go_simp; (try with_reducible rfl)
          simp only [Act.put, List.setIfInBounds_toArray, List.set_cons_zero, List.set_cons_succ]
          refine Upto.take (i := 7) (v := ?_) rfl (by kernel_rfl) (fun _ _ _ h => h) rfl (fun w' hS => ?_) hS0 ?_
          rotate_left
          · (try dsimp only at hS); go_split_ands; go_simp; (try with_reducible rfl)
          simp only [Act.put, List.setIfInBounds_toArray, List.set_cons_zero, List.set_cons_succ]
          refine Upto.take (i := 8) (v := ?_) rfl (by kernel_rfl) (fun _ _ _ h => h) rfl (fun w' hS => ?_) hS0 ?_
          rotate_left
          · (try dsimp only at hS); go_split_ands; go_simp; (try with_reducible rfl)
          simp only [Act.put, List.setIfInBounds_toArray, List.set_cons_zero, List.set_cons_succ]
          refine Upto.take (i := 9) (v := ?_) rfl (by kernel_rfl) (fun _ _ _ h => h) rfl (fun w' hS => ?_) hS0 ?_
          rotate_left
          · (try dsimp only at hS); go_split_ands; go_simp; (try with_reducible rfl)
          simp only [Act.put, List.setIfInBounds_toArray, List.set_cons_zero, List.set_cons_succ]
          refine Upto.take (i := 10) (v := ?_) rfl (by kernel_rfl) (fun _ _ _ h => h) rfl (fun w' hS => ?_) hS0 ?_
          rotate_left
          · (try dsimp only at hS); go_split_ands; go_simp; (try with_reducible rfl)
          simp only [Act.put, List.setIfInBounds_toArray, List.set_cons_zero, List.set_cons_succ]
          refine Upto.take (i := 11) (v := ?_) rfl (by kernel_rfl) (fun _ _ _ h => h) rfl (fun w' hS => ?_) hS0 ?_
          rotate_left
          · (try dsimp only at hS); go_split_ands; go_simp; (try with_reducible rfl)
          simp only [Act.put, List.setIfInBounds_toArray, List.set_cons_zero, List.set_cons_succ]
          refine Upto.only (i := 1) rfl (by kernel_rfl) rfl (exec_buildSlice rfl [] (by rfl) (bslice_noints _)) ?_ ?_
          · exact KS.out _ ((Below.refl _ W4).drew.alloc (Nat.le_refl _) _)
          simp only [Act.put, List.setIfInBounds_toArray, List.set_cons_zero, List.set_cons_succ]
          have hown0 := World.ownsRow_made (base := W4.heap.size) (e := 3) (size := 1) W4.drew #[] 0 (Nat.le_refl _) (Nat.zero_le _) rfl
          have hbA : Below W4.heap.size W4 (W4.drew.alloc (.cells #[] 3)) := (Below.refl _ W4).drew.alloc (Nat.le_refl _) _
          refine Upto.law (i := 5) rfl (by kernel_rfl) rfl (fun K hK => ?_)
          refine wp_append_nts _ _ 31 (by rfl) W4.heap.size 3 i0 Try.underlying31 hi hz0 hz1 hz2 _ 0 [] (by rfl) hown0 cl.kA cl.kn cl.kc cl.crs.keep (by rfl) (HKN.out _ hbA) (by omega) hbA.size ?_
          intro vA vcc W5 hv5 hg5
          have hb5 : Below W4.heap.size W4 W5 := hbA.grown hg5 hbA.size (fun k hk => by simp [Value.ownBlock] at hk; omega)
          refine hK _ _ (KS.out _ hb5) ?_
          clear hK hown0 hg5
          have hv5' : W5.ownsRow W4.heap.size 3 1 (.slice vA cl.kn vcc) cl.kn (cl.crs.keep.map (Value.int .i64)) := by simpa using hv5
          have hn5 : Nts W5 vA cl.kn vcc cl.crs.keep := Nts.of_row hv5' HINW.out.keep.len HINW.out.keep.rng
          have B5 := Lib.hid (B4.out.trans (hb5.mono B4.out.size))
          have h5 := H4.out.below hb5
          have CC := Lib.hid (hasD_crash h5 h5.snd B5.out.size vA cl.kn vcc cl.crs hn5 (HINW.out.cut))
          unfold crsV at CC
          rw [HCR.out.1, HCR.out.2] at CC
          have HB45 := Lib.hid hb5
          clear hv5 hv5' hn5 hbA hb5 h5 hS0 HKN
          simp only [Act.put, List.setIfInBounds_toArray, List.set_cons_zero, List.set_cons_succ, Nat.zero_add]
          refine Upto.only (i := 12) rfl (by kernel_rfl) rfl (exec_build rfl [(0, .slice vA cl.kn vcc), (1, .bool tn), (2, .int .i64 ct)] (by rfl) (build_cm _ _ _ _ _)) (KS.out _ HB45.out) ?_
          simp only [Act.put, List.setIfInBounds_toArray, List.set_cons_zero, List.set_cons_succ]
          refine Upto.tail rfl (by kernel_rfl) ?_
          simp only [List.drop_succ_cons, List.drop_zero]
          clear KS HB45 c4
          go_wp2_with fail
          refine CC.out.mono ?_
          rintro e W6 ⟨b', rfl, h6, b6⟩
          have H6 := Lib.hid h6
          have B6 := Lib.hid (B5.out.trans (b6.mono B5.out.size))
          clear h6 b6 CC H4 B4 B5
          go_wp2_with fail
          refine NoPanic.normal ?_
          have hcr := SV.out.2.2 cl.crs
          have MST6 := Lib.hid hcr.1
          have LST6 : Hid (Lst ((saveS (s.fuse 0) m).crash cl.crs).syn last) := Lib.hid (by rw [hcr.2]; exact HLS.out)
          clear hcr
          have CL := load_any H6.out
          rw [MST6.out.load.1, MST6.out.load.2, LST6.out.load.2, LST6.out.load.1, show msV last = .agg (msC last) from rfl, HLC.out] at CL
          have CL := Lib.hid CL
          go_wp2_with fail
          refine CL.out.mono ?_
          rintro e W7 ⟨rfl, b7⟩
          have H7 := Lib.hid (H6.out.below b7)
          have B7 := Lib.hid (B6.out.trans (b7.mono B6.out.size))
          obtain ⟨p, hp⟩ : ∃ p, W7.heap.size = p := ⟨_, rfl⟩
          obtain ⟨W8, hW8⟩ : ∃ W8, W8 = W7.alloc (.cells #[.int .i64 (lg : Int), .int .i64 last.inc, .int .i64 last.first, .int .i64 last.lsn, .int .i64 last.chk] 30) := ⟨_, rfl⟩
          have bq : Below W7.heap.size W7 W8 := by rw [hW8]; exact (Below.refl _ _).alloc (Nat.le_refl _) _
          have H8 := Lib.hid (H7.out.below bq)
          have B8 : Hid (Below w.heap.size w W8) := Lib.hid (B7.out.trans (bq.mono B7.out.size))
          have KL8 : Hid (Bk W8 qL 30 #[.int .i64 (lg : Int), .int .i64 last.inc, .int .i64 last.first, .int .i64 last.lsn, .int .i64 last.chk]) := Lib.hid (bk_of H8.out.snd.fst)
          have KM8 : Hid (Bk W8 (qx + 1) 30 #[.int .i64 ((lg : Int) + 1), .int .i64 cl.inc, .int .i64 cl.first, .int .i64 cl.lsn, .int .i64 cl.chk]) := Lib.hid (bk_of H8.out.snd.snd.snd)
          have KN8 : Hid (Bk W8 p 30 #[.int .i64 (lg : Int), .int .i64 last.inc, .int .i64 last.first, .int .i64 last.lsn, .int .i64 last.chk]) := Lib.hid (by rw [hW8, ← hp]; exact Bk.new _ _ _)
          have HR8 := Lib.hid (keepL H8.out B8.out.size #[.int .i64 (lg : Int), .int .i64 last.inc, .int .i64 last.first, .int .i64 last.lsn, .int .i64 last.chk])
          have HW8 := Lib.hid hW8
          have HP8 := Lib.hid hp
          clear b7 bq CL H7 B7 hW8 hp
          go_upto_region 21 with fail
          rw [← HW8.out, HP8.out]
          clear HW8 HP8
          have d0 : W8.cell? ⟨qx + 1, 0, none⟩ = some (.int .i64 ((lg : Int) + 1)) := KM8.out.cell 0
          have d1 : W8.cell? ⟨qx + 1, 1, none⟩ = some (.int .i64 (cl.inc)) := KM8.out.cell 1
          have d2 : W8.cell? ⟨qx + 1, 2, none⟩ = some (.int .i64 (cl.first)) := KM8.out.cell 2
          have d3 : W8.cell? ⟨qx + 1, 3, none⟩ = some (.int .i64 (cl.lsn)) := KM8.out.cell 3
          have d4 : W8.cell? ⟨qx + 1, 4, none⟩ = some (.int .i64 (cl.chk)) := KM8.out.cell 4
          have e0 : W8.cell? ⟨p, 0, none⟩ = some (.int .i64 ((lg : Int))) := KN8.out.cell 0
          have e1 : W8.cell? ⟨p, 1, none⟩ = some (.int .i64 (last.inc)) := KN8.out.cell 1
          have e2 : W8.cell? ⟨p, 2, none⟩ = some (.int .i64 (last.first)) := KN8.out.cell 2
          have e3 : W8.cell? ⟨p, 3, none⟩ = some (.int .i64 (last.lsn)) := KN8.out.cell 3
          have e4 : W8.cell? ⟨p, 4, none⟩ = some (.int .i64 (last.chk)) := KN8.out.cell 4
          have f0 : W8.cell? ⟨qL, 0, none⟩ = some (.int .i64 ((lg : Int))) := KL8.out.cell 0
          have f1 : W8.cell? ⟨qL, 1, none⟩ = some (.int .i64 (last.inc)) := KL8.out.cell 1
          have f2 : W8.cell? ⟨qL, 2, none⟩ = some (.int .i64 (last.first)) := KL8.out.cell 2
          have f3 : W8.cell? ⟨qL, 3, none⟩ = some (.int .i64 (last.lsn)) := KL8.out.cell 3
          have f4 : W8.cell? ⟨qL, 4, none⟩ = some (.int .i64 (last.chk)) := KL8.out.cell 4
          have hne : (((lg : Int)) == ((lg : Int) + 1)) = false := by rw [beq_eq_false_iff_ne]; omega
          go_upto_if 119 with fail
          clear d0 e0 d1 e1 d2 e2 d3 e3 d4 e4 hne f0 f1 f2 f3 f4
          go_wp2_with (first | (refine wpList_load_row rfl 30 _ rfl p rfl 30 #[.int .i64 (lg : Int), .int .i64 last.inc, .int .i64 last.first, .int .i64 last.lsn, .int .i64 last.chk] (0, 0) _ KN8.out Try.underlying30 rfl ms_info ?_) | (refine wpList_store_row rfl 30 _ _ rfl qL #[.int .i64 (lg : Int), .int .i64 last.inc, .int .i64 last.first, .int .i64 last.lsn, .int .i64 last.chk] rfl rfl 30 _ KL8.out ms_info rfl (ms_one _ _ _ _ _) ?_; simp only [Act.put]))
          have R9 := Lib.hid (And.intro HR8.out.1 (B8.out.trans HR8.out.2))
          go_roundw
          case rel => exact ⟨k + 1, b', _, last, _, by omega, rfl, by go_num, MST6.out.mono (by omega), LST6.out, by rw [HLG.out]; omega, by rw [HLC.out]; exact R9.out.1, R9.out.2⟩
          case measure => simp [intOf]; omega
        by_cases hf1 : fu = 1
        · obtain rfl : fu = 1 := by omega
          have SV := Lib.hid (save_one HMS.out HOK.out)
          have c4 : W2.cell? ⟨qx, 4, none⟩ = some (.int .i64 1) := (bk_of H2.out.snd.snd.fst.snd).cell 4
          have CF := Lib.hid (hasD_fuse H2.out B2.out.size 1 (by have := HFU.out; omega))
          go_wp2_with fail
          refine CF.out.mono ?_
          rintro e W3 ⟨rfl, h3, b3⟩
          have B3 := Lib.hid (B2.out.trans b3)
          have H3 := Lib.hid h3
          have KM3 : Hid (Bk W3 (qx + 1) 30 #[.int .i64 ((lg : Int) + 1), .int .i64 cl.inc, .int .i64 cl.first, .int .i64 cl.lsn, .int .i64 cl.chk]) := Lib.hid (bk_of h3.snd.snd.snd)
          have CS := save_any h3 B3.out.size m HMF.out (by show s.pend.length < _; rw [HMS.out.pend]; simp) (by rw [putS_syncs HMS.out]; have := HMS.out.syncs; omega)
          rw [HMV.out, SV.out.1] at CS
          have CS := Lib.hid CS
          clear h3 b3 CF c4 c5 H2 B2
          go_wp2_with (refine wpList_load_row rfl 30 _ rfl (qx + 1) rfl 30 #[.int .i64 ((lg : Int) + 1), .int .i64 cl.inc, .int .i64 cl.first, .int .i64 cl.lsn, .int .i64 cl.chk] (0, 0) _ KM3.out Try.underlying30 rfl ms_info ?_)
          refine CS.out.mono ?_
          rintro e W4 ⟨rfl, h4, b4⟩
          have B4 := Lib.hid (B3.out.trans b4)
          have H4 := Lib.hid h4
          have CD := hasD_down h4
          rw [SV.out.2.1] at CD
          have CD := Lib.hid CD
          have c4 : W4.cell? ⟨qx, 4, none⟩ = some (.int .i64 1) := (bk_of h4.snd.snd.fst.snd).cell 4
          clear h4 b4 CS KM3 H3 B3
          go_wp2_with fail
          refine CD.out.mono ?_
          rintro e W5 ⟨rfl, rfl⟩
          clear CD
          have KS : Hid (∀ W, Below W4.heap.size W4 W → W.cell? ⟨qx, 5, none⟩ = some (.slice cl.kA cl.kn cl.kc) ∧ W.cell? ⟨qx, 6, none⟩ = some (.bool tn) ∧ W.cell? ⟨qx, 7, none⟩ = some (.int .i64 ct)) := Lib.hid (fun W hb => by
            have hz := bk_of (H4.out.below hb).snd.snd.fst.snd
            exact ⟨hz.cell 5, hz.cell 6, hz.cell 7⟩)
          have hS0 := KS.out W4.drew (Below.refl _ _).drew
          have HKN : Hid (∀ W, Below W4.heap.size W4 W → Nts W cl.kA cl.kn cl.kc cl.crs.keep) := Lib.hid (fun W hb => HINW.out.keep.below (B4.out.trans (hb.mono B4.out.size)))
          go_wp2_with fail
          refine wp_region_noPanic ?_
          refine upto_start (fun w' => w'.cell? ⟨qx, 5, none⟩ = some (.slice cl.kA cl.kn cl.kc) ∧ w'.cell? ⟨qx, 6, none⟩ = some (.bool tn) ∧ w'.cell? ⟨qx, 7, none⟩ = some (.int .i64 ct)) 13 (by kernel_rfl) ?_
          change Upto _ _ _ _ _ 15 _ _ _
          refine Upto.take (i := 0) (v := ?_) rfl (by kernel_rfl) (fun _ _ _ h => h) rfl (fun w' hS => ?_) hS0 ?_
          rotate_left
          · (try dsimp only at hS); go_split_ands; go_simp; (try with_reducible rfl)
          simp only [Act.put, List.setIfInBounds_toArray, List.set_cons_zero, List.set_cons_succ]
          refine Upto.take (i := 2) (v := ?_) rfl (by kernel_rfl) (fun _ _ _ h => h) rfl (fun w' hS => ?_) hS0 ?_
          rotate_left
          · (try dsimp only at hS); go_split_ands; go_simp; (try with_reducible rfl)
          simp only [Act.put, List.setIfInBounds_toArray, List.set_cons_zero, List.set_cons_succ]
          refine Upto.take (i := 3) (v := ?_) rfl (by kernel_rfl) (fun _ _ _ h => h) rfl (fun w' hS => ?_) hS0 ?_
          rotate_left
          · (try dsimp only at hS); go_split_ands; go_simp; (try with_reducible rfl)
          simp only [Act.put, List.setIfInBounds_toArray, List.set_cons_zero, List.set_cons_succ]
          refine Upto.take (i := 4) (v := ?_) rfl (by kernel_rfl) (fun _ _ _ h => h) rfl (fun w' hS => ?_) hS0 ?_
          rotate_left
          · (try dsimp only at hS); go_split_ands; go_simp; (try with_reducible rfl)
          simp only [Act.put, List.setIfInBounds_toArray, List.set_cons_zero, List.set_cons_succ]
          refine Upto.take (i := 6) (v := ?_) rfl (by kernel_rfl) (fun _ _ _ h => h) rfl (fun w' hS => ?_) hS0 ?_
          rotate_left
          · (try dsimp only at hS); go_split_ands; go_simp; (try with_reducible rfl)
          simp only [Act.put, List.setIfInBounds_toArray, List.set_cons_zero, List.set_cons_succ]
          refine Upto.take (i := 7) (v := ?_) rfl (by kernel_rfl) (fun _ _ _ h => h) rfl (fun w' hS => ?_) hS0 ?_
          rotate_left
          · (try dsimp only at hS); go_split_ands; go_simp; (try with_reducible rfl)
          simp only [Act.put, List.setIfInBounds_toArray, List.set_cons_zero, List.set_cons_succ]
          refine Upto.take (i := 8) (v := ?_) rfl (by kernel_rfl) (fun _ _ _ h => h) rfl (fun w' hS => ?_) hS0 ?_
          rotate_left
          · (try dsimp only at hS); go_split_ands; go_simp; (try with_reducible rfl)
          simp only [Act.put, List.setIfInBounds_toArray, List.set_cons_zero, List.set_cons_succ]
          refine Upto.take (i := 9) (v := ?_) rfl (by kernel_rfl) (fun _ _ _ h => h) rfl (fun w' hS => ?_) hS0 ?_
          rotate_left
          · (try dsimp only at hS); go_split_ands; go_simp; (try with_reducible rfl)
          simp only [Act.put, List.setIfInBounds_toArray, List.set_cons_zero, List.set_cons_succ]
          refine Upto.take (i := 10) (v := ?_) rfl (by kernel_rfl) (fun _ _ _ h => h) rfl (fun w' hS => ?_) hS0 ?_
          rotate_left
          · (try dsimp only at hS); go_split_ands; go_simp; (try with_reducible rfl)
          simp only [Act.put, List.setIfInBounds_toArray, List.set_cons_zero, List.set_cons_succ]
          refine Upto.take (i := 11) (v := ?_) rfl (by kernel_rfl) (fun _ _ _ h => h) rfl (fun w' hS => ?_) hS0 ?_
          rotate_left
          · (try dsimp only at hS); go_split_ands; go_simp; (try with_reducible rfl)
          simp only [Act.put, List.setIfInBounds_toArray, List.set_cons_zero, List.set_cons_succ]
          refine Upto.only (i := 1) rfl (by kernel_rfl) rfl (exec_buildSlice rfl [] (by rfl) (bslice_noints _)) ?_ ?_
          · exact KS.out _ ((Below.refl _ W4).drew.alloc (Nat.le_refl _) _)
          simp only [Act.put, List.setIfInBounds_toArray, List.set_cons_zero, List.set_cons_succ]
          have hown0 := World.ownsRow_made (base := W4.heap.size) (e := 3) (size := 1) W4.drew #[] 0 (Nat.le_refl _) (Nat.zero_le _) rfl
          have hbA : Below W4.heap.size W4 (W4.drew.alloc (.cells #[] 3)) := (Below.refl _ W4).drew.alloc (Nat.le_refl _) _
          refine Upto.law (i := 5) rfl (by kernel_rfl) rfl (fun K hK => ?_)
          refine wp_append_nts _ _ 31 (by rfl) W4.heap.size 3 i0 Try.underlying31 hi hz0 hz1 hz2 _ 0 [] (by rfl) hown0 cl.kA cl.kn cl.kc cl.crs.keep (by rfl) (HKN.out _ hbA) (by omega) hbA.size ?_
          intro vA vcc W5 hv5 hg5
          have hb5 : Below W4.heap.size W4 W5 := hbA.grown hg5 hbA.size (fun k hk => by simp [Value.ownBlock] at hk; omega)
          refine hK _ _ (KS.out _ hb5) ?_
          clear hK hown0 hg5
          have hv5' : W5.ownsRow W4.heap.size 3 1 (.slice vA cl.kn vcc) cl.kn (cl.crs.keep.map (Value.int .i64)) := by simpa using hv5
          have hn5 : Nts W5 vA cl.kn vcc cl.crs.keep := Nts.of_row hv5' HINW.out.keep.len HINW.out.keep.rng
          have B5 := Lib.hid (B4.out.trans (hb5.mono B4.out.size))
          have h5 := H4.out.below hb5
          have CC := Lib.hid (hasD_crash h5 h5.snd B5.out.size vA cl.kn vcc cl.crs hn5 (HINW.out.cut))
          unfold crsV at CC
          rw [HCR.out.1, HCR.out.2] at CC
          have HB45 := Lib.hid hb5
          clear hv5 hv5' hn5 hbA hb5 h5 hS0 HKN
          simp only [Act.put, List.setIfInBounds_toArray, List.set_cons_zero, List.set_cons_succ, Nat.zero_add]
          refine Upto.only (i := 12) rfl (by kernel_rfl) rfl (exec_build rfl [(0, .slice vA cl.kn vcc), (1, .bool tn), (2, .int .i64 ct)] (by rfl) (build_cm _ _ _ _ _)) (KS.out _ HB45.out) ?_
          simp only [Act.put, List.setIfInBounds_toArray, List.set_cons_zero, List.set_cons_succ]
          refine Upto.tail rfl (by kernel_rfl) ?_
          simp only [List.drop_succ_cons, List.drop_zero]
          clear KS HB45 c4
          go_wp2_with fail
          refine CC.out.mono ?_
          rintro e W6 ⟨b', rfl, h6, b6⟩
          have H6 := Lib.hid h6
          have B6 := Lib.hid (B5.out.trans (b6.mono B5.out.size))
          clear h6 b6 CC H4 B4 B5
          go_wp2_with fail
          refine NoPanic.normal ?_
          have hcr := SV.out.2.2 cl.crs
          have MST6 := Lib.hid hcr.1
          have htorn := HLS.out.torn (k := 0) HOKS.out HOK.out HMG.out (cl.crs.of 1 0) (cl.crs.of_le 1 0)
          rw [← hcr.2] at htorn
          clear hcr
          rcases htorn with hto | hto
          · have LST6 := Lib.hid hto
            clear hto
            have CL := load_any H6.out
            rw [MST6.out.load.1, MST6.out.load.2, LST6.out.load.2, LST6.out.load.1, HMV.out] at CL
            have CL := Lib.hid CL
            go_wp2_with fail
            refine CL.out.mono ?_
            rintro e W7 ⟨rfl, b7⟩
            have H7 := Lib.hid (H6.out.below b7)
            have B7 := Lib.hid (B6.out.trans (b7.mono B6.out.size))
            obtain ⟨p, hp⟩ : ∃ p, W7.heap.size = p := ⟨_, rfl⟩
            obtain ⟨W8, hW8⟩ : ∃ W8, W8 = W7.alloc (.cells #[.int .i64 ((lg : Int) + 1), .int .i64 cl.inc, .int .i64 cl.first, .int .i64 cl.lsn, .int .i64 cl.chk] 30) := ⟨_, rfl⟩
            have bq : Below W7.heap.size W7 W8 := by rw [hW8]; exact (Below.refl _ _).alloc (Nat.le_refl _) _
            have H8 := Lib.hid (H7.out.below bq)
            have B8 : Hid (Below w.heap.size w W8) := Lib.hid (B7.out.trans (bq.mono B7.out.size))
            have KL8 : Hid (Bk W8 qL 30 #[.int .i64 (lg : Int), .int .i64 last.inc, .int .i64 last.first, .int .i64 last.lsn, .int .i64 last.chk]) := Lib.hid (bk_of H8.out.snd.fst)
            have KM8 : Hid (Bk W8 (qx + 1) 30 #[.int .i64 ((lg : Int) + 1), .int .i64 cl.inc, .int .i64 cl.first, .int .i64 cl.lsn, .int .i64 cl.chk]) := Lib.hid (bk_of H8.out.snd.snd.snd)
            have KN8 : Hid (Bk W8 p 30 #[.int .i64 ((lg : Int) + 1), .int .i64 cl.inc, .int .i64 cl.first, .int .i64 cl.lsn, .int .i64 cl.chk]) := Lib.hid (by rw [hW8, ← hp]; exact Bk.new _ _ _)
            have HR8 := Lib.hid (keepL H8.out B8.out.size #[.int .i64 ((lg : Int) + 1), .int .i64 cl.inc, .int .i64 cl.first, .int .i64 cl.lsn, .int .i64 cl.chk])
            have HW8 := Lib.hid hW8
            have HP8 := Lib.hid hp
            clear b7 bq CL H7 B7 hW8 hp
            go_upto_region 21 with fail
            rw [← HW8.out, HP8.out]
            clear HW8 HP8
            have d0 : W8.cell? ⟨qx + 1, 0, none⟩ = some (.int .i64 ((lg : Int) + 1)) := KM8.out.cell 0
            have d1 : W8.cell? ⟨qx + 1, 1, none⟩ = some (.int .i64 (cl.inc)) := KM8.out.cell 1
            have d2 : W8.cell? ⟨qx + 1, 2, none⟩ = some (.int .i64 (cl.first)) := KM8.out.cell 2
            have d3 : W8.cell? ⟨qx + 1, 3, none⟩ = some (.int .i64 (cl.lsn)) := KM8.out.cell 3
            have d4 : W8.cell? ⟨qx + 1, 4, none⟩ = some (.int .i64 (cl.chk)) := KM8.out.cell 4
            have e0 : W8.cell? ⟨p, 0, none⟩ = some (.int .i64 ((lg : Int) + 1)) := KN8.out.cell 0
            have e1 : W8.cell? ⟨p, 1, none⟩ = some (.int .i64 (cl.inc)) := KN8.out.cell 1
            have e2 : W8.cell? ⟨p, 2, none⟩ = some (.int .i64 (cl.first)) := KN8.out.cell 2
            have e3 : W8.cell? ⟨p, 3, none⟩ = some (.int .i64 (cl.lsn)) := KN8.out.cell 3
            have e4 : W8.cell? ⟨p, 4, none⟩ = some (.int .i64 (cl.chk)) := KN8.out.cell 4
            go_upto_if 119 with fail
            clear d0 e0 d1 e1 d2 e2 d3 e3 d4 e4
            go_wp2_with (first | (refine wpList_load_row rfl 30 _ rfl p rfl 30 #[.int .i64 ((lg : Int) + 1), .int .i64 cl.inc, .int .i64 cl.first, .int .i64 cl.lsn, .int .i64 cl.chk] (0, 0) _ KN8.out Try.underlying30 rfl ms_info ?_) | (refine wpList_store_row rfl 30 _ _ rfl qL #[.int .i64 ((lg : Int) + 1), .int .i64 cl.inc, .int .i64 cl.first, .int .i64 cl.lsn, .int .i64 cl.chk] rfl rfl 30 _ KL8.out ms_info rfl (ms_one _ _ _ _ _) ?_; simp only [Act.put]))
            have R9 := Lib.hid (And.intro HR8.out.1 (B8.out.trans HR8.out.2))
            go_roundw
            case rel => exact ⟨k + 1, b', _, m, _, by omega, rfl, by go_num, MST6.out.mono (by omega), LST6.out, by rw [HMG.out, HLG.out]; omega, by rw [HMC.out]; exact R9.out.1, R9.out.2⟩
            case measure => simp [intOf]; omega
          · have LST6 := Lib.hid hto
            clear hto
            have CL := load_any H6.out
            rw [MST6.out.load.1, MST6.out.load.2, LST6.out.load.2, LST6.out.load.1, show msV last = .agg (msC last) from rfl, HLC.out] at CL
            have CL := Lib.hid CL
            go_wp2_with fail
            refine CL.out.mono ?_
            rintro e W7 ⟨rfl, b7⟩
            have H7 := Lib.hid (H6.out.below b7)
            have B7 := Lib.hid (B6.out.trans (b7.mono B6.out.size))
            obtain ⟨p, hp⟩ : ∃ p, W7.heap.size = p := ⟨_, rfl⟩
            obtain ⟨W8, hW8⟩ : ∃ W8, W8 = W7.alloc (.cells #[.int .i64 (lg : Int), .int .i64 last.inc, .int .i64 last.first, .int .i64 last.lsn, .int .i64 last.chk] 30) := ⟨_, rfl⟩
            have bq : Below W7.heap.size W7 W8 := by rw [hW8]; exact (Below.refl _ _).alloc (Nat.le_refl _) _
            have H8 := Lib.hid (H7.out.below bq)
            have B8 : Hid (Below w.heap.size w W8) := Lib.hid (B7.out.trans (bq.mono B7.out.size))
            have KL8 : Hid (Bk W8 qL 30 #[.int .i64 (lg : Int), .int .i64 last.inc, .int .i64 last.first, .int .i64 last.lsn, .int .i64 last.chk]) := Lib.hid (bk_of H8.out.snd.fst)
            have KM8 : Hid (Bk W8 (qx + 1) 30 #[.int .i64 ((lg : Int) + 1), .int .i64 cl.inc, .int .i64 cl.first, .int .i64 cl.lsn, .int .i64 cl.chk]) := Lib.hid (bk_of H8.out.snd.snd.snd)
            have KN8 : Hid (Bk W8 p 30 #[.int .i64 (lg : Int), .int .i64 last.inc, .int .i64 last.first, .int .i64 last.lsn, .int .i64 last.chk]) := Lib.hid (by rw [hW8, ← hp]; exact Bk.new _ _ _)
            have HR8 := Lib.hid (keepL H8.out B8.out.size #[.int .i64 (lg : Int), .int .i64 last.inc, .int .i64 last.first, .int .i64 last.lsn, .int .i64 last.chk])
            have HW8 := Lib.hid hW8
            have HP8 := Lib.hid hp
            clear b7 bq CL H7 B7 hW8 hp
            go_upto_region 21 with fail
            rw [← HW8.out, HP8.out]
            clear HW8 HP8
            have d0 : W8.cell? ⟨qx + 1, 0, none⟩ = some (.int .i64 ((lg : Int) + 1)) := KM8.out.cell 0
            have d1 : W8.cell? ⟨qx + 1, 1, none⟩ = some (.int .i64 (cl.inc)) := KM8.out.cell 1
            have d2 : W8.cell? ⟨qx + 1, 2, none⟩ = some (.int .i64 (cl.first)) := KM8.out.cell 2
            have d3 : W8.cell? ⟨qx + 1, 3, none⟩ = some (.int .i64 (cl.lsn)) := KM8.out.cell 3
            have d4 : W8.cell? ⟨qx + 1, 4, none⟩ = some (.int .i64 (cl.chk)) := KM8.out.cell 4
            have e0 : W8.cell? ⟨p, 0, none⟩ = some (.int .i64 ((lg : Int))) := KN8.out.cell 0
            have e1 : W8.cell? ⟨p, 1, none⟩ = some (.int .i64 (last.inc)) := KN8.out.cell 1
            have e2 : W8.cell? ⟨p, 2, none⟩ = some (.int .i64 (last.first)) := KN8.out.cell 2
            have e3 : W8.cell? ⟨p, 3, none⟩ = some (.int .i64 (last.lsn)) := KN8.out.cell 3
            have e4 : W8.cell? ⟨p, 4, none⟩ = some (.int .i64 (last.chk)) := KN8.out.cell 4
            have f0 : W8.cell? ⟨qL, 0, none⟩ = some (.int .i64 ((lg : Int))) := KL8.out.cell 0
            have f1 : W8.cell? ⟨qL, 1, none⟩ = some (.int .i64 (last.inc)) := KL8.out.cell 1
            have f2 : W8.cell? ⟨qL, 2, none⟩ = some (.int .i64 (last.first)) := KL8.out.cell 2
            have f3 : W8.cell? ⟨qL, 3, none⟩ = some (.int .i64 (last.lsn)) := KL8.out.cell 3
            have f4 : W8.cell? ⟨qL, 4, none⟩ = some (.int .i64 (last.chk)) := KL8.out.cell 4
            have hne : (((lg : Int)) == ((lg : Int) + 1)) = false := by rw [beq_eq_false_iff_ne]; omega
            go_upto_if 119 with fail
            clear d0 e0 d1 e1 d2 e2 d3 e3 d4 e4 hne f0 f1 f2 f3 f4
            go_wp2_with (first | (refine wpList_load_row rfl 30 _ rfl p rfl 30 #[.int .i64 (lg : Int), .int .i64 last.inc, .int .i64 last.first, .int .i64 last.lsn, .int .i64 last.chk] (0, 0) _ KN8.out Try.underlying30 rfl ms_info ?_) | (refine wpList_store_row rfl 30 _ _ rfl qL #[.int .i64 (lg : Int), .int .i64 last.inc, .int .i64 last.first, .int .i64 last.lsn, .int .i64 last.chk] rfl rfl 30 _ KL8.out ms_info rfl (ms_one _ _ _ _ _) ?_; simp only [Act.put]))
            have R9 := Lib.hid (And.intro HR8.out.1 (B8.out.trans HR8.out.2))
            go_roundw
            case rel => exact ⟨k + 1, b', _, last, _, by omega, rfl, by go_num, MST6.out.mono (by omega), LST6.out, by rw [HLG.out]; omega, by rw [HLC.out]; exact R9.out.1, R9.out.2⟩
            case measure => simp [intOf]; omega
        have SV := Lib.hid (save_more HMS.out HOK.out (f := fu) (by omega) (by omega))
        have c4 : W2.cell? ⟨qx, 4, none⟩ = some (.int .i64 fu) := (bk_of H2.out.snd.snd.fst.snd).cell 4
        have CF := Lib.hid (hasD_fuse H2.out B2.out.size fu (by have := HFU.out; omega))
        go_wp2_with fail
        refine CF.out.mono ?_
        rintro e W3 ⟨rfl, h3, b3⟩
        have B3 := Lib.hid (B2.out.trans b3)
        have H3 := Lib.hid h3
        have KM3 : Hid (Bk W3 (qx + 1) 30 #[.int .i64 ((lg : Int) + 1), .int .i64 cl.inc, .int .i64 cl.first, .int .i64 cl.lsn, .int .i64 cl.chk]) := Lib.hid (bk_of h3.snd.snd.snd)
        have CS := save_any h3 B3.out.size m HMF.out (by show s.pend.length < _; rw [HMS.out.pend]; simp) (by rw [putS_syncs HMS.out]; have := HMS.out.syncs; omega)
        rw [HMV.out, SV.out.1] at CS
        have CS := Lib.hid CS
        clear h3 b3 CF c4 c5 H2 B2
        go_wp2_with (refine wpList_load_row rfl 30 _ rfl (qx + 1) rfl 30 #[.int .i64 ((lg : Int) + 1), .int .i64 cl.inc, .int .i64 cl.first, .int .i64 cl.lsn, .int .i64 cl.chk] (0, 0) _ KM3.out Try.underlying30 rfl ms_info ?_)
        refine CS.out.mono ?_
        rintro e W4 ⟨rfl, h4, b4⟩
        have B4 := Lib.hid (B3.out.trans b4)
        have H4 := Lib.hid h4
        have CD := hasD_down h4
        rw [SV.out.2.1] at CD
        have CD := Lib.hid CD
        have c4 : W4.cell? ⟨qx, 4, none⟩ = some (.int .i64 fu) := (bk_of h4.snd.snd.fst.snd).cell 4
        clear h4 b4 CS KM3 H3 B3
        go_wp2_with fail
        refine CD.out.mono ?_
        rintro e W5 ⟨rfl, rfl⟩
        clear CD
        have KS : Hid (∀ W, Below W4.heap.size W4 W → W.cell? ⟨qx, 5, none⟩ = some (.slice cl.kA cl.kn cl.kc) ∧ W.cell? ⟨qx, 6, none⟩ = some (.bool tn) ∧ W.cell? ⟨qx, 7, none⟩ = some (.int .i64 ct)) := Lib.hid (fun W hb => by
          have hz := bk_of (H4.out.below hb).snd.snd.fst.snd
          exact ⟨hz.cell 5, hz.cell 6, hz.cell 7⟩)
        have hS0 := KS.out W4.drew (Below.refl _ _).drew
        have HKN : Hid (∀ W, Below W4.heap.size W4 W → Nts W cl.kA cl.kn cl.kc cl.crs.keep) := Lib.hid (fun W hb => HINW.out.keep.below (B4.out.trans (hb.mono B4.out.size)))
        go_wp2_with fail
        refine wp_region_noPanic ?_
        refine upto_start (fun w' => w'.cell? ⟨qx, 5, none⟩ = some (.slice cl.kA cl.kn cl.kc) ∧ w'.cell? ⟨qx, 6, none⟩ = some (.bool tn) ∧ w'.cell? ⟨qx, 7, none⟩ = some (.int .i64 ct)) 13 (by kernel_rfl) ?_
        change Upto _ _ _ _ _ 15 _ _ _
        refine Upto.take (i := 0) (v := ?_) rfl (by kernel_rfl) (fun _ _ _ h => h) rfl (fun w' hS => ?_) hS0 ?_
        rotate_left
        · (try dsimp only at hS); go_split_ands; go_simp; (try with_reducible rfl)
        simp only [Act.put, List.setIfInBounds_toArray, List.set_cons_zero, List.set_cons_succ]
        refine Upto.take (i := 2) (v := ?_) rfl (by kernel_rfl) (fun _ _ _ h => h) rfl (fun w' hS => ?_) hS0 ?_
        rotate_left
        · (try dsimp only at hS); go_split_ands; go_simp; (try with_reducible rfl)
        simp only [Act.put, List.setIfInBounds_toArray, List.set_cons_zero, List.set_cons_succ]
        refine Upto.take (i := 3) (v := ?_) rfl (by kernel_rfl) (fun _ _ _ h => h) rfl (fun w' hS => ?_) hS0 ?_
        rotate_left
        · (try dsimp only at hS); go_split_ands; go_simp; (try with_reducible rfl)
        simp only [Act.put, List.setIfInBounds_toArray, List.set_cons_zero, List.set_cons_succ]
        refine Upto.take (i := 4) (v := ?_) rfl (by kernel_rfl) (fun _ _ _ h => h) rfl (fun w' hS => ?_) hS0 ?_
        rotate_left
        · (try dsimp only at hS); go_split_ands; go_simp; (try with_reducible rfl)
        simp only [Act.put, List.setIfInBounds_toArray, List.set_cons_zero, List.set_cons_succ]
        refine Upto.take (i := 6) (v := ?_) rfl (by kernel_rfl) (fun _ _ _ h => h) rfl (fun w' hS => ?_) hS0 ?_
        rotate_left
        · (try dsimp only at hS); go_split_ands; go_simp; (try with_reducible rfl)
        simp only [Act.put, List.setIfInBounds_toArray, List.set_cons_zero, List.set_cons_succ]
        refine Upto.take (i := 7) (v := ?_) rfl (by kernel_rfl) (fun _ _ _ h => h) rfl (fun w' hS => ?_) hS0 ?_
        rotate_left
        · (try dsimp only at hS); go_split_ands; go_simp; (try with_reducible rfl)
        simp only [Act.put, List.setIfInBounds_toArray, List.set_cons_zero, List.set_cons_succ]
        refine Upto.take (i := 8) (v := ?_) rfl (by kernel_rfl) (fun _ _ _ h => h) rfl (fun w' hS => ?_) hS0 ?_
        rotate_left
        · (try dsimp only at hS); go_split_ands; go_simp; (try with_reducible rfl)
        simp only [Act.put, List.setIfInBounds_toArray, List.set_cons_zero, List.set_cons_succ]
        refine Upto.take (i := 9) (v := ?_) rfl (by kernel_rfl) (fun _ _ _ h => h) rfl (fun w' hS => ?_) hS0 ?_
        rotate_left
        · (try dsimp only at hS); go_split_ands; go_simp; (try with_reducible rfl)
        simp only [Act.put, List.setIfInBounds_toArray, List.set_cons_zero, List.set_cons_succ]
        refine Upto.take (i := 10) (v := ?_) rfl (by kernel_rfl) (fun _ _ _ h => h) rfl (fun w' hS => ?_) hS0 ?_
        rotate_left
        · (try dsimp only at hS); go_split_ands; go_simp; (try with_reducible rfl)
        simp only [Act.put, List.setIfInBounds_toArray, List.set_cons_zero, List.set_cons_succ]
        refine Upto.take (i := 11) (v := ?_) rfl (by kernel_rfl) (fun _ _ _ h => h) rfl (fun w' hS => ?_) hS0 ?_
        rotate_left
        · (try dsimp only at hS); go_split_ands; go_simp; (try with_reducible rfl)
        simp only [Act.put, List.setIfInBounds_toArray, List.set_cons_zero, List.set_cons_succ]
        refine Upto.only (i := 1) rfl (by kernel_rfl) rfl (exec_buildSlice rfl [] (by rfl) (bslice_noints _)) ?_ ?_
        · exact KS.out _ ((Below.refl _ W4).drew.alloc (Nat.le_refl _) _)
        simp only [Act.put, List.setIfInBounds_toArray, List.set_cons_zero, List.set_cons_succ]
        have hown0 := World.ownsRow_made (base := W4.heap.size) (e := 3) (size := 1) W4.drew #[] 0 (Nat.le_refl _) (Nat.zero_le _) rfl
        have hbA : Below W4.heap.size W4 (W4.drew.alloc (.cells #[] 3)) := (Below.refl _ W4).drew.alloc (Nat.le_refl _) _
        refine Upto.law (i := 5) rfl (by kernel_rfl) rfl (fun K hK => ?_)
        refine wp_append_nts _ _ 31 (by rfl) W4.heap.size 3 i0 Try.underlying31 hi hz0 hz1 hz2 _ 0 [] (by rfl) hown0 cl.kA cl.kn cl.kc cl.crs.keep (by rfl) (HKN.out _ hbA) (by omega) hbA.size ?_
        intro vA vcc W5 hv5 hg5
        have hb5 : Below W4.heap.size W4 W5 := hbA.grown hg5 hbA.size (fun k hk => by simp [Value.ownBlock] at hk; omega)
        refine hK _ _ (KS.out _ hb5) ?_
        clear hK hown0 hg5
        have hv5' : W5.ownsRow W4.heap.size 3 1 (.slice vA cl.kn vcc) cl.kn (cl.crs.keep.map (Value.int .i64)) := by simpa using hv5
        have hn5 : Nts W5 vA cl.kn vcc cl.crs.keep := Nts.of_row hv5' HINW.out.keep.len HINW.out.keep.rng
        have B5 := Lib.hid (B4.out.trans (hb5.mono B4.out.size))
        have h5 := H4.out.below hb5
        have CC := Lib.hid (hasD_crash h5 h5.snd B5.out.size vA cl.kn vcc cl.crs hn5 (HINW.out.cut))
        unfold crsV at CC
        rw [HCR.out.1, HCR.out.2] at CC
        have HB45 := Lib.hid hb5
        clear hv5 hv5' hn5 hbA hb5 h5 hS0 HKN
        simp only [Act.put, List.setIfInBounds_toArray, List.set_cons_zero, List.set_cons_succ, Nat.zero_add]
        refine Upto.only (i := 12) rfl (by kernel_rfl) rfl (exec_build rfl [(0, .slice vA cl.kn vcc), (1, .bool tn), (2, .int .i64 ct)] (by rfl) (build_cm _ _ _ _ _)) (KS.out _ HB45.out) ?_
        simp only [Act.put, List.setIfInBounds_toArray, List.set_cons_zero, List.set_cons_succ]
        refine Upto.tail rfl (by kernel_rfl) ?_
        simp only [List.drop_succ_cons, List.drop_zero]
        clear KS HB45 c4
        go_wp2_with fail
        refine CC.out.mono ?_
        rintro e W6 ⟨b', rfl, h6, b6⟩
        have H6 := Lib.hid h6
        have B6 := Lib.hid (B5.out.trans (b6.mono B5.out.size))
        clear h6 b6 CC H4 B4 B5
        go_wp2_with fail
        refine NoPanic.normal ?_
        have hcr := SV.out.2.2.2.2.2 cl.crs
        have MST6 := Lib.hid hcr.1
        have LST6 : Hid (Lst ((saveS (s.fuse fu) m).crash cl.crs).syn m) := Lib.hid (by rw [hcr.2]; exact HLS.out.next HOK.out HMG.out (msL_rec HOK.out))
        clear hcr
        have CL := load_any H6.out
        rw [MST6.out.load.1, MST6.out.load.2, LST6.out.load.2, LST6.out.load.1, HMV.out] at CL
        have CL := Lib.hid CL
        go_wp2_with fail
        refine CL.out.mono ?_
        rintro e W7 ⟨rfl, b7⟩
        have H7 := Lib.hid (H6.out.below b7)
        have B7 := Lib.hid (B6.out.trans (b7.mono B6.out.size))
        obtain ⟨p, hp⟩ : ∃ p, W7.heap.size = p := ⟨_, rfl⟩
        obtain ⟨W8, hW8⟩ : ∃ W8, W8 = W7.alloc (.cells #[.int .i64 ((lg : Int) + 1), .int .i64 cl.inc, .int .i64 cl.first, .int .i64 cl.lsn, .int .i64 cl.chk] 30) := ⟨_, rfl⟩
        have bq : Below W7.heap.size W7 W8 := by rw [hW8]; exact (Below.refl _ _).alloc (Nat.le_refl _) _
        have H8 := Lib.hid (H7.out.below bq)
        have B8 : Hid (Below w.heap.size w W8) := Lib.hid (B7.out.trans (bq.mono B7.out.size))
        have KL8 : Hid (Bk W8 qL 30 #[.int .i64 (lg : Int), .int .i64 last.inc, .int .i64 last.first, .int .i64 last.lsn, .int .i64 last.chk]) := Lib.hid (bk_of H8.out.snd.fst)
        have KM8 : Hid (Bk W8 (qx + 1) 30 #[.int .i64 ((lg : Int) + 1), .int .i64 cl.inc, .int .i64 cl.first, .int .i64 cl.lsn, .int .i64 cl.chk]) := Lib.hid (bk_of H8.out.snd.snd.snd)
        have KN8 : Hid (Bk W8 p 30 #[.int .i64 ((lg : Int) + 1), .int .i64 cl.inc, .int .i64 cl.first, .int .i64 cl.lsn, .int .i64 cl.chk]) := Lib.hid (by rw [hW8, ← hp]; exact Bk.new _ _ _)
        have HR8 := Lib.hid (keepL H8.out B8.out.size #[.int .i64 ((lg : Int) + 1), .int .i64 cl.inc, .int .i64 cl.first, .int .i64 cl.lsn, .int .i64 cl.chk])
        have HW8 := Lib.hid hW8
        have HP8 := Lib.hid hp
        clear b7 bq CL H7 B7 hW8 hp
        go_upto_region 21 with fail
        rw [← HW8.out, HP8.out]
        clear HW8 HP8
        have d0 : W8.cell? ⟨qx + 1, 0, none⟩ = some (.int .i64 ((lg : Int) + 1)) := KM8.out.cell 0
        have d1 : W8.cell? ⟨qx + 1, 1, none⟩ = some (.int .i64 (cl.inc)) := KM8.out.cell 1
        have d2 : W8.cell? ⟨qx + 1, 2, none⟩ = some (.int .i64 (cl.first)) := KM8.out.cell 2
        have d3 : W8.cell? ⟨qx + 1, 3, none⟩ = some (.int .i64 (cl.lsn)) := KM8.out.cell 3
        have d4 : W8.cell? ⟨qx + 1, 4, none⟩ = some (.int .i64 (cl.chk)) := KM8.out.cell 4
        have e0 : W8.cell? ⟨p, 0, none⟩ = some (.int .i64 ((lg : Int) + 1)) := KN8.out.cell 0
        have e1 : W8.cell? ⟨p, 1, none⟩ = some (.int .i64 (cl.inc)) := KN8.out.cell 1
        have e2 : W8.cell? ⟨p, 2, none⟩ = some (.int .i64 (cl.first)) := KN8.out.cell 2
        have e3 : W8.cell? ⟨p, 3, none⟩ = some (.int .i64 (cl.lsn)) := KN8.out.cell 3
        have e4 : W8.cell? ⟨p, 4, none⟩ = some (.int .i64 (cl.chk)) := KN8.out.cell 4
        go_upto_if 119 with fail
        clear d0 e0 d1 e1 d2 e2 d3 e3 d4 e4
        go_wp2_with (first | (refine wpList_load_row rfl 30 _ rfl p rfl 30 #[.int .i64 ((lg : Int) + 1), .int .i64 cl.inc, .int .i64 cl.first, .int .i64 cl.lsn, .int .i64 cl.chk] (0, 0) _ KN8.out Try.underlying30 rfl ms_info ?_) | (refine wpList_store_row rfl 30 _ _ rfl qL #[.int .i64 ((lg : Int) + 1), .int .i64 cl.inc, .int .i64 cl.first, .int .i64 cl.lsn, .int .i64 cl.chk] rfl rfl 30 _ KL8.out ms_info rfl (ms_one _ _ _ _ _) ?_; simp only [Act.put]))
        have R9 := Lib.hid (And.intro HR8.out.1 (B8.out.trans HR8.out.2))
        go_roundw
        case rel => exact ⟨k + 1, b', _, m, _, by omega, rfl, by go_num, MST6.out.mono (by omega), LST6.out, by rw [HMG.out, HLG.out]; omega, by rw [HMC.out]; exact R9.out.1, R9.out.2⟩
        case measure => simp [intOf]; omega
      · rw [decide_eq_false hok] at CM
        have CM := Lib.hid CM
        clear hok
        go_wp2_with fail
        rw [← HW1.out, HQX.out]
        refine CM.out.mono ?_
        rintro e W2 ⟨rfl, b2⟩
        have H2 := Lib.hid (H1.out.below b2)
        have B2 := Lib.hid (B1.out.trans (b2.mono B1.out.size))
        have c5 : W2.cell? ⟨qx, 5, none⟩ = some (.slice cl.kA cl.kn cl.kc) := (bk_of H2.out.snd.snd.fst.snd).cell 5
        clear b2 CM cL x0 x1 x2 x3 x4 x5 x6 x7 HW1 HQX H1 B1 HS HB
        go_wp2_with fail
        go_roundw
        case rel => exact ⟨k + 1, b, s, last, _, by omega, rfl, by go_num, HMS.out.mono (by omega), HLS.out, by rw [HLG.out]; omega, by rw [HLC.out]; exact H2.out, B2.out⟩
        case measure => simp [intOf]; omega
    · obtain rfl : k = n := by omega
      go_wp2_with fail
      refine (awakeM_any _).mono ?_
      rintro e w7 ⟨rfl, b7⟩
      have B7 := Lib.hid (HB.out.trans (b7.mono HB.out.size))
      clear b7
      go_wp2_with fail
      go_ret
      exact ⟨rfl, B7.out⟩
end Go.Proofs.Ytllkdcnejobinaa

/- 'Rows.MasterCrashesSaid': for every input trothlaw06.MasterCrashes answers true, and what came in reads behind the call as before. No condition. -/
namespace Go.Proofs.Ytllkdcnejobinaa
open Go.ChangeShapes Go.WideShapes Go.ChangeAt Go.RowKit

set_option maxRecDepth 100000 in
theorem masterCrashes_lifted (os : Os) (started : os.Started) (H : Type) (enc : TypeId × Value → H) :
    ReturnsInHanded {} Try.checked os 3 .any (Rows.masterCrashesSpec.pre6 enc Try.prog Try.f3 Rows.masterCrashesRow.domain false) (Rows.masterCrashesSpec.post enc Try.prog Try.f3 false true false false) := by
  refine returnsInHanded_of_change_sized (C := Try.checked) own_knob started (by kernel_rfl) Try.func3
    (ChangeSpec.witness6 (enc := enc) (C := Try.checked) false ⟨#[], #[.slice none 0 0], []⟩ 8 (by kernel_rfl) (by kernel_rfl) (by kernel_rfl) (by kernel_rfl)) ?_
  intro W base args ds gs before hval0 hW _ hsz0 _
  have hval : ∀ (j : Nat) t v, Try.f3.params[j]? = some t → args[j]? = some v → Value.okWide Try.prog W .any base t v := hval0
  have hW' := hW
  obtain ⟨p, q, hA0, hV, rfl, hfz, hnd⟩ := hW
  have hA : DataW.TrodAll enc Try.prog W 0 (fun _ => true) true Try.f3.params.toList args.toList ds p := hA0
  rw [Try.params3] at hA hval
  obtain ⟨v0, vs0, d0, ds0, p0, q0, hargs, rfl, rfl, h0, r0⟩ := trodAll_cons hA
  obtain ⟨rfl, rfl, rfl⟩ := trodAll_nil r0
  obtain rfl : args = #[v0] := by cases args; simp_all
  obtain ⟨rfl, rfl⟩ := trodVars_none hV
  obtain ⟨a0, n0, c0, rfl⟩ := okWide_slice Try.underlying22 (hval 0 22 v0 rfl rfl)
  have k0 := h0
  have lt0 : ∀ x ∈ p0, x.block < W.heap.size := by obtain ⟨m, hm⟩ := k0; exact DataW.trod_lt m _ _ _ hm
  obtain ⟨l0, b0⟩ := open_saveds h0
  clear hA0 hval0 hsz0
  refine (masterCrashes_walk a0 n0 c0 l0 W b0).mono fun e W' ⟨he, bel⟩ => ?_
  subst he
  exact ⟨_, rfl, _, _, _, [], _, [], hW', trodAll_mk1 (shut_bool Try.underlying4 _), (trodAll_cons_mk (Below.trod laidOut (by kernel_rfl) (of_decide_eq_true (by kernel_rfl)) k0 bel lt0) trodAll_mk0), rfl, bel.frame _, fun h => by cases h⟩

/-- The statement. -/
theorem masterCrashes_holds : Rows.MasterCrashesSaid :=
  OpenClaim.holds_of_wide 3 Try.f3 rfl rfl rfl rfl rfl rfl rfl ⟨rfl, rfl, rfl, rfl, rfl⟩ rfl rfl rfl rfl rfl (by kernel_rfl) Try.func3 (by kernel_rfl)
    (of_decide_eq_true (by kernel_rfl)) (by unfold Func.isWrapper; first | (rw [if_pos (by decide +kernel)]; kernel_rfl) | (rw [if_neg (by decide +kernel)]; exact ⟨rfl, rfl⟩))
    (fun os started H enc _ => masterCrashes_lifted os started H enc)
#print axioms masterCrashes_holds
end Go.Proofs.Ytllkdcnejobinaa
