/- What it says: the Go text of trothlaw03.SealReads answers true, and writes nothing that was there. -/
import Derived.Test.YtlnhillpghjknaaDoorInts
import Derived.Test.YtlnhillpghjknaaDoorRefText
import Derived.Test.YtlnhillpghjknaaDoorSealAwake
namespace Go.Proofs.YtlnhillpghjknaaDoor
open Go.RowKit

theorem Rd.drew {w : World} {t : TypeId} {b g : Nat} {l : List Int} {e : Nat} (h : Rd w t b g l e) : Rd w.drew t b g l e := by
  obtain ⟨A, n, c, h1, h2, h3⟩ := h.ex
  exact ⟨h.ne, A, n, c, h1, h2.drew, h3⟩

theorem Rd.drewN {w : World} {t : TypeId} {b g : Nat} {l : List Int} {e : Nat} (h : Rd w t b g l e) (k : Nat) : Rd (w.drewN k) t b g l e := by
  obtain ⟨A, n, c, h1, h2, h3⟩ := h.ex
  exact ⟨h.ne, A, n, c, h1, h2.drewN k, h3⟩

/-- A new struct over memory that came in. -/
theorem Rd.over {w w1 : World} (t : TypeId) {A : Option Addr} {n c : Nat} {l : List Int} (h : Byt w A n c l) (hb : Below w.heap.size w w1) (h0 : 0 < w.heap.size) :
    ∃ g, g < w.heap.size ∧ Rd (w1.alloc (.cells #[.slice A n c, .int .i64 0] t)) t w1.heap.size g l 0 := by
  have hs := hb.size
  by_cases hn : 0 < n
  · obtain ⟨g, off, rfl, hc⟩ := h.at_ hn
    have hg : g < w.heap.size := World.block_lt_of_cell? w _ (hc 0 hn)
    exact ⟨g, hg, by omega, _, n, c, Bk.new _ _ _, (h.below hb).alloc _, fun _ a ha => by injection ha with ha; rw [← ha]⟩
  · exact ⟨0, h0, by omega, A, n, c, Bk.new _ _ _, (h.below hb).alloc _, fun h => absurd h hn⟩

/-- Where the two readers lie. -/
structure Geo (w : World) (b1 g1 b2 g2 : Nat) : Prop where
  low : w.heap.size ≤ b1
  next : b1 < b2
  own : g1 < b1
  old : g2 < w.heap.size

/-- Both readers, and what was there. -/
def RR (w : World) (b1 g1 b2 g2 : Nat) (l1 : List Int) (e1 : Nat) (l2 : List Int) (e2 : Nat) (w1 : World) : Prop := Rd w1 72 b1 g1 l1 e1 ∧ Rd w1 38 b2 g2 l2 e2 ∧ Below w.heap.size w w1

theorem RR.drew {w w1 : World} {b1 g1 b2 g2 : Nat} {l1 l2 : List Int} {e1 e2 : Nat} (h : RR w b1 g1 b2 g2 l1 e1 l2 e2 w1) : RR w b1 g1 b2 g2 l1 e1 l2 e2 w1.drew := ⟨h.1.drew, h.2.1.drew, Below.drew h.2.2⟩
theorem RR.drewN {w w1 : World} {b1 g1 b2 g2 : Nat} {l1 l2 : List Int} {e1 e2 : Nat} (h : RR w b1 g1 b2 g2 l1 e1 l2 e2 w1) (k : Nat) : RR w b1 g1 b2 g2 l1 e1 l2 e2 (w1.drewN k) := ⟨h.1.drewN k, h.2.1.drewN k, below_drewN h.2.2 k⟩

theorem RR.fst {w w0 w1 : World} {b1 g1 b2 g2 : Nat} {l1 l2 l' : List Int} {e1 e2 e' : Nat} {V : Value} {en : Ending} (G : Geo w b1 g1 b2 g2) (h : RR w b1 g1 b2 g2 l1 e1 l2 e2 w0) (p : RdPost 72 b1 g1 l' e' V w0 en w1) : en = .returned V ∧ RR w b1 g1 b2 g2 l' e' l2 e2 w1 :=
  ⟨p.1, p.2.1, h.2.1.grown p.2.2 (by have := G.next; simp; omega) (by have := G.old; have := G.low; simp; omega), h.2.2.grown p.2.2 h.2.2.size (fun k hk => by injection hk with hk; have := G.low; omega)⟩

theorem RR.snd {w w0 w1 : World} {b1 g1 b2 g2 : Nat} {l1 l2 l' : List Int} {e1 e2 e' : Nat} {V : Value} {en : Ending} (G : Geo w b1 g1 b2 g2) (h : RR w b1 g1 b2 g2 l1 e1 l2 e2 w0) (p : RdPost 38 b2 g2 l' e' V w0 en w1) : en = .returned V ∧ RR w b1 g1 b2 g2 l1 e1 l' e' w1 :=
  ⟨p.1, h.1.grown p.2.2 (by have := G.next; simp; omega) (by have := G.next; have := G.own; simp; omega), p.2.1, h.2.2.grown p.2.2 h.2.2.size (fun k hk => by injection hk with hk; have := G.low; have := G.next; omega)⟩

theorem RR.cells {w w1 : World} {b1 g1 b2 g2 : Nat} {l1 l2 : List Int} {e1 e2 : Nat} (h : RR w b1 g1 b2 g2 l1 e1 l2 e2 w1) : ∃ A n c, w1.cell? ⟨b2, 0, none⟩ = some (.slice A l2.length c) ∧ w1.cell? ⟨b2, 1, none⟩ = some (.int .i64 e2) ∧ n = l2.length := by
  obtain ⟨A, n, c, _, h0, h1, hn⟩ := h.2.1.byt
  subst hn
  exact ⟨A, _, c, h0, h1, rfl⟩

theorem stepV_int (k : IntKind) (x : Int) (e er : Nat) : ∃ y, stepV (.int k 0) (.int k x) e er = .int k y := by
  unfold stepV
  split
  · exact ⟨0, rfl⟩
  · split
    · exact ⟨0, rfl⟩
    · exact ⟨x, rfl⟩
theorem stepV_bool (x : Bool) (e er : Nat) : ∃ y, stepV (.bool false) (.bool x) e er = .bool y := by
  unfold stepV
  split
  · exact ⟨false, rfl⟩
  · split
    · exact ⟨false, rfl⟩
    · exact ⟨x, rfl⟩
theorem stepV_str (x : ByteArray) (e er : Nat) : ∃ y, stepV (.string ByteArray.empty) (.string x) e er = .string y := by
  unfold stepV
  split
  · exact ⟨_, rfl⟩
  · split
    · exact ⟨_, rfl⟩
    · exact ⟨x, rfl⟩

set_option maxRecDepth 4000 in
set_option maxHeartbeats 8000000 in
theorem sealReads_main (A : Option Addr) (n c : Nat) (l : List Int) (A1 : Option Addr) (n1 c1 : Nat) (l1 : List Int) (A2 : Option Addr) (n2 c2 : Nat) (l2 : List Int) (w : World) (h : Byt w A n c l) (h1 : Nts w A1 n1 c1 l1) (h2 : Nts w A2 n2 c2 l2) (hn : n ≤ 2000) (hn1 : n1 ≤ 40) (hn2 : n1 ≤ n2) (hT : Tab w) :
    Calls Tryd.prog 4 #[.slice A n c, .slice A1 n1 c1, .slice A2 n2 c2] w (Ret (.bool true) w) := by
  have hw0 : 0 < w.heap.size := by have := World.block_lt_of_cell? w _ (hT 0 (by omega)); omega
  have HB := Lib.hid h
  have H1 := Lib.hid h1
  have H2 := Lib.hid h2
  have HT := Lib.hid hT
  have HW := Lib.hid hw0
  have z1 : ¬ (2000 : Int) < (n : Int) := by omega
  have z2 : ¬ (40 : Int) < (n1 : Int) := by omega
  have z3 : ¬ (n2 : Int) < (n1 : Int) := by omega
  clear h h1 h2 hT hw0
  go_enter Tryd.func4, Tryd.ntmps4
  go_wp2_with fail
  refine (own_any A n c l w HB.out (by omega)).mono ?_
  rintro e w1 ⟨A3, n3, c3, rfl, hb3, b3⟩
  have hn3 : n3 ≤ 2000 := by have := hb3.len; have := HB.out.len; omega
  have CR := Lib.hid (read_any A3 n3 c3 l w1 hb3 (by omega) (Nat.lt_of_lt_of_le HW.out b3.size))
  have L1 := Lib.hid b3
  clear hb3 b3
  go_wp2_with fail
  refine CR.out.mono ?_
  rintro e w2 ⟨b1, g1, rfl, hb1, hg1, R1, b2⟩
  have L2 := Lib.hid (Below.then L1.out b2)
  obtain ⟨g2, hg2, R2⟩ := Rd.over 38 HB.out L2.out HW.out
  have hb12 := R1.lt
  have G : Hid (Geo w b1 g1 w2.heap.size g2) := Lib.hid ⟨Nat.le_trans L1.out.size hb1, hb12, hg1, hg2⟩
  have R0 : Hid (RR w b1 g1 w2.heap.size g2 l 0 l 0 (w2.alloc (.cells #[.slice A n c, .int .i64 0] 38))) :=
    Lib.hid ⟨R1.alloc _, R2, L2.out.alloc L2.out.size _⟩
  obtain ⟨bm, ebm⟩ : ∃ bm, w2.heap.size = bm := ⟨_, rfl⟩
  have EBM := Lib.hid ebm
  clear hb1 hg1 R1 b2 hg2 R2 hb12 CR ebm
  go_wp2_with fail
  rw [EBM.out] at G R0
  simp only [EBM.out]
  go_loopw [9] (fun q wr => ∃ (i : Nat) (lr : List Int) (er : Nat), i ≤ n1 ∧ q = .int .i64 i ∧ RR w b1 g1 bm g2 lr er lr er wr) (fun q _ => n1 - (intOf q).toNat)
  case atStart => exact ⟨0, l, 0, Nat.zero_le _, rfl, R0.out⟩
  case round =>
    obtain ⟨i, lr, er, hin, rfl, hR⟩ := hrel
    have HR := Lib.hid hR
    clear hR
    by_cases hlt : i < n1
    · have hl1 := H1.out.len
      obtain ⟨ga, oa, rfl, hca⟩ := (H1.out.below HR.out.2.2).at_ (by omega)
      have ha := hca i hlt
      obtain ⟨gm, om, rfl, hcm⟩ := H2.out.at_ (by omega)
      have cm0 := hcm i (by omega)
      have hgm : gm < w.heap.size := World.block_lt_of_cell? w _ cm0
      have hrm := H2.out.rng i (by omega)
      obtain ⟨a, ea⟩ : ∃ a, l1.getD i 0 = a := ⟨_, rfl⟩
      obtain ⟨mi, emi⟩ : ∃ mi, l2.getD i 0 = mi := ⟨_, rfl⟩
      rw [ea] at ha
      rw [emi] at cm0 hrm
      have GM := Lib.hid hgm
      have CM := Lib.hid cm0
      have HRM := Lib.hid hrm
      have him : i < n2 := by omega
      have hcap1 := H1.out.cap
      have hcap2 := H2.out.cap
      have hmax1 := H1.out.max
      have hmax2 := H2.out.max
      unfold maxLen at hmax1 hmax2
      clear hca hcm ea emi cm0 hgm hrm hl1
      by_cases hk0 : a = 0
      · subst hk0
        obtain ⟨x, u, e1, ex⟩ : ∃ x u e, numF lr mi = (x, u, e) := ⟨_, _, _, rfl⟩
        obtain ⟨y, hy⟩ := stepV_int .i64 x er e1
        have C1 := fun w0 (h0 : Rd w0 72 b1 g1 lr er) => rNum_any b1 g1 lr er mi w0 h0 HRM.out x u e1 ex
        have C2 := fun w0 (h0 : Rd w0 38 bm g2 lr er) => mNum_any bm g2 lr er mi w0 h0 HRM.out x u e1 ex
        rw [hy] at C1 C2
        obtain ⟨L, eL⟩ : ∃ L, stepL lr u er e1 = L := ⟨_, rfl⟩
        obtain ⟨E, eE⟩ : ∃ E, stepE er e1 = E := ⟨_, rfl⟩
        rw [eL, eE] at C1 C2
        have C1 := Lib.hid C1
        have C2 := Lib.hid C2
        clear eL eE hy
        have HR0 := Lib.hid (HR.out.drew)
        have S0 : Hid (wr.drew.cell? ⟨gm, om + i, none⟩ = some (.int .i64 mi)) := Lib.hid ((HR0.out.2.2.cell (p := ⟨gm, om + i, none⟩) GM.out).trans CM.out)
        go_wp2_with fail
        go_region_held3 (fun w' => w'.cell? ⟨gm, om + i, none⟩ = some (.int .i64 mi)) (first | exact S0.out | exact (q1.2.cell (p := ⟨gm, om + i, none⟩) GM.out).trans CM.out) (first | (go_at_call 19; refine (C1.out _ HR0.out.1).mono ?_; intro e w5 p1; obtain ⟨rfl, q0⟩ := HR0.out.fst G.out p1; obtain ⟨q, q1⟩ := q0) | (go_at_call 20; refine (C2.out _ q1.1).mono ?_; intro e w6 p2; obtain ⟨rfl, q0⟩ := RR.snd G.out ⟨q, q1⟩ p2; obtain ⟨q, q1⟩ := q0))
        have RES : Hid (RR w b1 g1 bm g2 L E L E w6) := Lib.hid ⟨q, q1⟩
        clear q q1
        try clear p1
        try clear p2
        obtain ⟨A8, n8, c8, d0, d1, _⟩ := RES.out.cells
        have CE := Lib.hid (fun k => rErr_any b1 g1 (L) (E) _ (RES.out.drewN k).1)
        have CF := Lib.hid (fun k => rLeft_any b1 g1 (L) (E) _ (RES.out.drewN k).1)
        go_wp2_with fail
        go_quiet ((first | (go_at_call 29; refine Calls.quiet_of ((CE.out _).mono fun _ _ ⟨he, hw⟩ => ⟨he, 0, hw.symm⟩)) | (go_at_call 30; refine Calls.quiet_of ((CF.out _).mono fun _ _ ⟨he, hw⟩ => ⟨he, 0, hw.symm⟩))))
        go_wp2_with fail
        go_roundw
        case rel => exact ⟨i + 1, L, E, by omega, by go_num, RES.out.drewN _⟩
        case measure => simp [intOf]; omega
      · by_cases hk1 : a = 1
        · subst hk1
          obtain ⟨y, hy⟩ := stepV_int .u8 (byteF lr).1 er (byteF lr).2.2
          have C1 := fun w0 (h0 : Rd w0 72 b1 g1 lr er) => rByte_any b1 g1 lr er w0 h0
          have C2 := fun w0 (h0 : Rd w0 38 bm g2 lr er) => mByte_any bm g2 lr er w0 h0
          rw [hy] at C1 C2
          obtain ⟨L, eL⟩ : ∃ L, stepL lr (byteF lr).2.1 er (byteF lr).2.2 = L := ⟨_, rfl⟩
          obtain ⟨E, eE⟩ : ∃ E, stepE er (byteF lr).2.2 = E := ⟨_, rfl⟩
          rw [eL, eE] at C1 C2
          have C1 := Lib.hid C1
          have C2 := Lib.hid C2
          clear eL eE hy
          go_wp2_with fail
          refine (C1.out _ HR.out.1).mono ?_
          intro e w5 p1
          obtain ⟨rfl, q0⟩ := HR.out.fst G.out p1
          have HR5 := Lib.hid q0
          clear p1 q0
          go_wp2_with fail
          refine (C2.out _ HR5.out.2.1).mono ?_
          intro e w6 p2
          obtain ⟨rfl, q0⟩ := HR5.out.snd G.out p2
          have RES := Lib.hid q0
          clear p2 q0 HR5
          obtain ⟨A8, n8, c8, d0, d1, _⟩ := RES.out.cells
          have CE := Lib.hid (fun k => rErr_any b1 g1 (L) (E) _ (RES.out.drewN k).1)
          have CF := Lib.hid (fun k => rLeft_any b1 g1 (L) (E) _ (RES.out.drewN k).1)
          go_wp2_with fail
          go_quiet ((first | (go_at_call 29; refine Calls.quiet_of ((CE.out _).mono fun _ _ ⟨he, hw⟩ => ⟨he, 0, hw.symm⟩)) | (go_at_call 30; refine Calls.quiet_of ((CF.out _).mono fun _ _ ⟨he, hw⟩ => ⟨he, 0, hw.symm⟩))))
          go_wp2_with fail
          go_roundw
          case rel => exact ⟨i + 1, L, E, by omega, by go_num, RES.out.drewN _⟩
          case measure => simp [intOf]; omega
        · by_cases hk2 : a = 2
          · subst hk2
            obtain ⟨y, hy⟩ := stepV_bool (flagF lr).1 er (flagF lr).2.2
            have C1 := fun w0 (h0 : Rd w0 72 b1 g1 lr er) => rFlag_any b1 g1 lr er w0 h0
            have C2 := fun w0 (h0 : Rd w0 38 bm g2 lr er) => mFlag_any bm g2 lr er w0 h0
            rw [hy] at C1 C2
            obtain ⟨L, eL⟩ : ∃ L, stepL lr (flagF lr).2.1 er (flagF lr).2.2 = L := ⟨_, rfl⟩
            obtain ⟨E, eE⟩ : ∃ E, stepE er (flagF lr).2.2 = E := ⟨_, rfl⟩
            rw [eL, eE] at C1 C2
            have C1 := Lib.hid C1
            have C2 := Lib.hid C2
            clear eL eE hy
            go_wp2_with fail
            refine (C1.out _ HR.out.1).mono ?_
            intro e w5 p1
            obtain ⟨rfl, q0⟩ := HR.out.fst G.out p1
            have HR5 := Lib.hid q0
            clear p1 q0
            go_wp2_with fail
            refine (C2.out _ HR5.out.2.1).mono ?_
            intro e w6 p2
            obtain ⟨rfl, q0⟩ := HR5.out.snd G.out p2
            have RES := Lib.hid q0
            clear p2 q0 HR5
            obtain ⟨A8, n8, c8, d0, d1, _⟩ := RES.out.cells
            have CE := Lib.hid (fun k => rErr_any b1 g1 (L) (E) _ (RES.out.drewN k).1)
            have CF := Lib.hid (fun k => rLeft_any b1 g1 (L) (E) _ (RES.out.drewN k).1)
            go_wp2_with fail
            go_quiet ((first | (go_at_call 29; refine Calls.quiet_of ((CE.out _).mono fun _ _ ⟨he, hw⟩ => ⟨he, 0, hw.symm⟩)) | (go_at_call 30; refine Calls.quiet_of ((CF.out _).mono fun _ _ ⟨he, hw⟩ => ⟨he, 0, hw.symm⟩))))
            go_wp2_with fail
            go_roundw
            case rel => exact ⟨i + 1, L, E, by omega, by go_num, RES.out.drewN _⟩
            case measure => simp [intOf]; omega
          · by_cases hk3 : a = 3
            · subst hk3
              obtain ⟨x, u, e1, ex⟩ : ∃ x u e, textF lr mi = (x, u, e) := ⟨_, _, _, rfl⟩
              obtain ⟨y, hy⟩ := stepV_str (strOfNums x) er e1
              have C1 := fun w0 (h0 : Rd w0 72 b1 g1 lr er) => rText_any b1 g1 lr er mi w0 h0 HRM.out x u e1 ex
              have C2 := fun w0 (h0 : Rd w0 38 bm g2 lr er) => mText_any bm g2 lr er mi w0 h0 HRM.out x u e1 ex
              rw [hy] at C1 C2
              obtain ⟨L, eL⟩ : ∃ L, stepL lr u er e1 = L := ⟨_, rfl⟩
              obtain ⟨E, eE⟩ : ∃ E, stepE er e1 = E := ⟨_, rfl⟩
              rw [eL, eE] at C1 C2
              have C1 := Lib.hid C1
              have C2 := Lib.hid C2
              clear eL eE hy
              have HR0 := Lib.hid (HR.out.drew)
              have S0 : Hid (wr.drew.cell? ⟨gm, om + i, none⟩ = some (.int .i64 mi)) := Lib.hid ((HR0.out.2.2.cell (p := ⟨gm, om + i, none⟩) GM.out).trans CM.out)
              go_wp2_with fail
              go_region_held3 (fun w' => w'.cell? ⟨gm, om + i, none⟩ = some (.int .i64 mi)) (first | exact S0.out | exact (q1.2.cell (p := ⟨gm, om + i, none⟩) GM.out).trans CM.out) (first | (go_at_call 25; refine (C1.out _ HR0.out.1).mono ?_; intro e w5 p1; obtain ⟨rfl, q0⟩ := HR0.out.fst G.out p1; obtain ⟨q, q1⟩ := q0) | (go_at_call 26; refine (C2.out _ q1.1).mono ?_; intro e w6 p2; obtain ⟨rfl, q0⟩ := RR.snd G.out ⟨q, q1⟩ p2; obtain ⟨q, q1⟩ := q0))
              have RES : Hid (RR w b1 g1 bm g2 L E L E w6) := Lib.hid ⟨q, q1⟩
              clear q q1
              try clear p1
              try clear p2
              obtain ⟨A8, n8, c8, d0, d1, _⟩ := RES.out.cells
              have CE := Lib.hid (fun k => rErr_any b1 g1 (L) (E) _ (RES.out.drewN k).1)
              have CF := Lib.hid (fun k => rLeft_any b1 g1 (L) (E) _ (RES.out.drewN k).1)
              go_wp2_with fail
              go_quiet ((first | (go_at_call 29; refine Calls.quiet_of ((CE.out _).mono fun _ _ ⟨he, hw⟩ => ⟨he, 0, hw.symm⟩)) | (go_at_call 30; refine Calls.quiet_of ((CF.out _).mono fun _ _ ⟨he, hw⟩ => ⟨he, 0, hw.symm⟩))))
              go_wp2_with fail
              go_roundw
              case rel => exact ⟨i + 1, L, E, by omega, by go_num, RES.out.drewN _⟩
              case measure => simp [intOf]; omega
            · have q0 : (a == 0) = false := by simp; exact hk0
              have q1 : (a == 1) = false := by simp; exact hk1
              have q2 : (a == 2) = false := by simp; exact hk2
              have q3 : (a == 3) = false := by simp; exact hk3
              clear hk0 hk1 hk2 hk3
              have C1 := fun w0 (h0 : Rd w0 72 b1 g1 lr er) => rEnd_any b1 g1 lr er w0 h0
              have C2 := fun w0 (h0 : Rd w0 38 bm g2 lr er) => mEnd_any bm g2 lr er w0 h0
              obtain ⟨L, eL⟩ : ∃ L, lr = L := ⟨_, rfl⟩
              subst eL
              obtain ⟨E, eE⟩ : ∃ E, endE lr er = E := ⟨_, rfl⟩
              rw [eE] at C1 C2
              have C1 := Lib.hid C1
              have C2 := Lib.hid C2
              clear eE
              go_wp2_with fail
              refine (C1.out _ HR.out.1).mono ?_
              intro e w5 p1
              obtain ⟨rfl, q0⟩ := HR.out.fst G.out p1
              have HR5 := Lib.hid q0
              clear p1 q0
              go_wp2_with fail
              refine (C2.out _ HR5.out.2.1).mono ?_
              intro e w6 p2
              obtain ⟨rfl, q0⟩ := HR5.out.snd G.out p2
              have RES := Lib.hid q0
              clear p2 q0 HR5
              obtain ⟨A8, n8, c8, d0, d1, _⟩ := RES.out.cells
              have CE := Lib.hid (fun k => rErr_any b1 g1 (lr) (E) _ (RES.out.drewN k).1)
              have CF := Lib.hid (fun k => rLeft_any b1 g1 (lr) (E) _ (RES.out.drewN k).1)
              go_wp2_with fail
              go_quiet ((first | (go_at_call 29; refine Calls.quiet_of ((CE.out _).mono fun _ _ ⟨he, hw⟩ => ⟨he, 0, hw.symm⟩)) | (go_at_call 30; refine Calls.quiet_of ((CF.out _).mono fun _ _ ⟨he, hw⟩ => ⟨he, 0, hw.symm⟩))))
              go_wp2_with fail
              go_roundw
              case rel => exact ⟨i + 1, lr, E, by omega, by go_num, RES.out.drewN _⟩
              case measure => simp [intOf]; omega
    · have L9 := Lib.hid HR.out.2.2
      go_wp2_with fail
      refine (awake_any _ (HT.out.ret L9.out)).mono ?_
      rintro e w9 ⟨rfl, b9⟩
      have L10 := Lib.hid (Below.then L9.out b9)
      clear b9
      go_wp2
      go_ret
      exact ⟨rfl, L10.out⟩

set_option maxHeartbeats 2000000 in
theorem sealReads_walk (A : Option Addr) (n c : Nat) (l : List Int) (A1 : Option Addr) (n1 c1 : Nat) (l1 : List Int) (A2 : Option Addr) (n2 c2 : Nat) (l2 : List Int) (w : World) (h : Byt w A n c l) (_hk : n ≤ 140737488351232) (h1 : Nts w A1 n1 c1 l1) (h2 : Nts w A2 n2 c2 l2) (hT : Tab w) :
    Calls Tryd.prog 4 #[.slice A n c, .slice A1 n1 c1, .slice A2 n2 c2] w (Ret (.bool true) w) := by
  by_cases hmain : n ≤ 2000 ∧ n1 ≤ 40 ∧ n1 ≤ n2
  · exact sealReads_main A n c l A1 n1 c1 l1 A2 n2 c2 l2 w h h1 h2 hmain.1 hmain.2.1 hmain.2.2 hT
  · have HT := Lib.hid hT
    have hs : ((2000 : Int) < (n : Int)) ∨ (¬ (2000 : Int) < (n : Int) ∧ (40 : Int) < (n1 : Int)) ∨ (¬ (2000 : Int) < (n : Int) ∧ ¬ (40 : Int) < (n1 : Int) ∧ (n2 : Int) < (n1 : Int)) := by omega
    clear h h1 h2 hT hmain
    rcases hs with q1 | ⟨q1, q2⟩ | ⟨q1, q2, q3⟩
    all_goals
      go_enter Tryd.func4, Tryd.ntmps4
      go_wp2_with fail
      refine (awake_any _ HT.out).mono ?_
      rintro e w2 ⟨rfl, b2⟩
      have H := Lib.hid b2
      clear b2
      go_wp2
      go_ret
      exact ⟨rfl, H.out⟩
end Go.Proofs.YtlnhillpghjknaaDoor

