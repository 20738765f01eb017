/- What it says: the Go text of trothlaw03.SealOwn answers true, and writes nothing that was there. -/
import Derived.Test.YtlnhillpghjknaaDoorReadBack
import Derived.Test.YtlnhillpghjknaaDoorRefText
import Derived.Test.YtlnhillpghjknaaDoorSealAwake
import Derived.Test.YtlnhillpghjknaaDoorTurn
import Derived.Deep.RegionHeld3
namespace Go.Proofs.YtlnhillpghjknaaDoor
open Go.RowKit

theorem own_set {w : World} {base g n c i : Nat} {l : List Int} (h : w.ownsRow base 5 1 (.slice (some ⟨g, 0, none⟩) n c) n (l.map (Value.int .u8))) (_hi : i < n) (y : Int) :
    (w.setCell ⟨g, i, none⟩ (.int .u8 y)).ownsRow base 5 1 (.slice (some ⟨g, 0, none⟩) n c) n ((l.set i y).map (Value.int .u8)) := by
  have hl : l.length = n := by simpa using h.1
  refine ⟨by simp [hl], ?_⟩
  rcases h.2 with ⟨hv, _⟩ | ⟨g', cap, cur, hv, hb, hg, hn, hm, hs, ht⟩
  · injection hv with h1; cases h1
  · injection hv with h1 h2 h3
    injection h1 with h1
    injection h1 with h1
    subst h1 h3
    have hb' := (show Bk w g 5 cur from hg).setc i (.int .u8 y)
    refine .inr ⟨g, c, cur.setIfInBounds i (.int .u8 y), rfl, hb, hb', hn, hm, by simpa using hs, ?_⟩
    rw [Array.toList_setIfInBounds, List.take_set, ht, List.map_set]

/-- A row of one's own that is written, and nothing else of what was there. -/
def Flip (base : Nat) (w0 : World) (A : Option Addr) (n c : Nat) (wr : World) : Prop :=
  ∃ l : List Int, (∀ x ∈ l, 0 ≤ x ∧ x < 256) ∧ wr.ownsRow base 5 1 (.slice A n c) n (l.map (Value.int .u8)) ∧ w0.grownBy wr (Value.slice A n c).ownBlock

theorem Flip.start {base n c : Nat} {w0 : World} {A : Option Addr} {l : List Int} (h : w0.ownsRow base 5 1 (.slice A n c) n (l.map (Value.int .u8))) (hr : ∀ x ∈ l, 0 ≤ x ∧ x < 256) : Flip base w0 A n c w0 :=
  ⟨l, hr, h, ⟨rfl, rfl, rfl, Nat.le_refl _, fun _ _ _ => rfl⟩⟩

theorem Flip.bel {base n c : Nat} {w w0 wr : World} {A : Option Addr} {B : Nat} (hb : Below B w w0) (hB : B ≤ w0.heap.size) (hB2 : B ≤ base) (h : Flip base w0 A n c wr) : Below B w wr := by
  obtain ⟨l, _, ho, hg⟩ := h
  exact hb.grown hg hB (fun k hk => Nat.le_trans hB2 (ho.lt k hk).1)

theorem Flip.at_ {base n c : Nat} {w0 wr : World} {A : Option Addr} (h : Flip base w0 A n c wr) (i : Nat) (hi : i < n) :
    ∃ g x : Nat, A = some ⟨g, 0, none⟩ ∧ x < 256 ∧ i < c ∧ c ≤ maxLen ∧ wr.cell? ⟨g, i, none⟩ = some (.int .u8 (x : Int)) ∧ wr.frozen? ⟨g, i, none⟩ = false ∧ ∀ y : Nat, y < 256 → Flip base w0 A n c (wr.setCell ⟨g, i, none⟩ (.int .u8 (y : Int))) := by
  obtain ⟨l, hr, ho, hg⟩ := h
  have hby := Byt.of_own ho hr
  have hl := hby.len
  rcases ho.2 with ⟨hv, h0⟩ | ⟨g, cap, cur, hv, hb, hh, hn, hm, hs, ht⟩
  · omega
  · injection hv with h1 h2 h3
    subst h1 h3
    have hx := hby.lt_ i hi
    obtain ⟨g', off, e, hc⟩ := hby.at_ (by omega)
    injection e with e
    injection e with e1 e2
    subst e1 e2
    have hci := hc i hi
    rw [Nat.zero_add] at hci
    obtain ⟨x, ex⟩ := Int.eq_ofNat_of_zero_le hx.1
    rw [ex] at hci hx
    refine ⟨g, x, rfl, by omega, by omega, hm, hci, (show Bk wr g 5 cur from hh).frz i, fun y hy => ⟨l.set i y, fun z hz => ?_, own_set ho hi y, grown_trans hg (grown_set wr g i _)⟩⟩
    rcases List.mem_or_eq_of_mem_set hz with h4 | h4
    · exact hr z h4
    · subst h4; omega

theorem Flip.grown {base n c : Nat} {w0 wr : World} {A : Option Addr} (h : Flip base w0 A n c wr) : w0.grownBy wr (Value.slice A n c).ownBlock := by
  obtain ⟨_, _, _, hg⟩ := h
  exact hg

theorem Rd.drew {w : World} {t : TypeId} {b g : Nat} {l : List Int} {e : Nat} (h : Rd w t b g l e) : Rd w.drew t b g l e := by
  obtain ⟨A, n, c, h1, h2, h3⟩ := h.ex
  exact ⟨h.ne, A, n, c, h1, h2.drew, h3⟩

theorem end_none : endE [] 0 = 0 := rfl

theorem rEnd_none (b g : Nat) (w : World) (h : Rd w 72 b g [] 0) : Calls Tryd.prog 27 #[.pointer (some ⟨b, 0, none⟩)] w (RdPost 72 b g [] 0 (.int .i64 (0 : Nat)) w) := by
  have := rEnd_any b g [] 0 w h
  rw [end_none] at this
  exact this

/-- A row of one's own, in front of which a reader is written. -/
theorem own_grown {w w' : World} {base b n c : Nat} {A : Option Addr} {l : List Int} (h : w.ownsRow base 5 1 (.slice A n c) n (l.map (Value.int .u8))) (hr : ∀ x ∈ l, 0 ≤ x ∧ x < 256) (hb : b < base) (hg : w.drew.grownBy w' (some b)) : Byt w' A n c l := by
  refine Byt.of_own (h.kept (row := some b) ⟨hg.os, hg.tape, hg.output, hg.size, hg.block⟩ ?_) hr
  cases hv : (Value.slice A n c).ownBlock with
  | none => exact .inl rfl
  | some k =>
    have := (h.lt k hv).1
    exact .inr (by simp; omega)

theorem parts_ge {ps : List Prt} {n n' : Nat} (h : ps.length ≤ (partsL (ps.take ps.length)).length) (h1 : (partsL ps).length = n) (h2 : ps.length = n') : (n' : Int) ≤ (n : Int) := by
  rw [List.take_of_length_le (Nat.le_refl _)] at h
  omega

set_option maxRecDepth 4000 in
set_option maxHeartbeats 8000000 in
theorem sealOwn_main (A : Option Addr) (n c : Nat) (l : List Int) (A' : Option Addr) (n' c' : Nat) (ps : List Prt) (w : World) (h : Byt w A n c l) (h' : Prts w A' n' c' ps) (hl : longP ps = false) (hn : n ≤ 1000) (hT : Tab w) :
    Calls Tryd.prog 9 #[.slice A n c, .slice A' n' c'] w (Ret (.bool true) w) := by
  have hlen := h.len
  have hlen' := h'.len
  have CL := long_any A' n' c' ps w h'
  rw [hl] at CL
  have CL := Lib.hid CL
  have HLO := Lib.hid hl
  have HP := Lib.hid h'
  have HB := Lib.hid h
  have HT := Lib.hid hT
  have z1 : ¬ (1000 : Int) < (n : Int) := by omega
  have kc := conv_byt (h.alloc (.cells #[.slice none 0 0] 60))
  have W0 := Wrt.new w
  have b0 : Below w.heap.size w (w.alloc (.cells #[.slice none 0 0] 60)) := (Below.refl _ _).alloc (Nat.le_refl _) _
  have hsz := str_size l
  have C1 := wText_any w.heap.size w.heap.size [] (strOfNums l) _ W0 (by simp; omega)
  rw [nums_str l h.rng, List.nil_append] at C1
  have C1 := Lib.hid C1
  have B0 := Lib.hid b0
  have HTL := Lib.hid (textL_len l (by omega))
  have HT0 : Hid (0 < (textL l).length) := Lib.hid (by have := shortL_pos l.length; simp [textL]; omega)
  have HPS := Lib.hid (partsL_more ps ps.length (Nat.le_refl _))
  clear h h' hl hT W0 b0 hsz
  go_enter Tryd.func9, Tryd.ntmps9
  go_wp2_with fail
  refine CL.out.mono ?_
  rintro e w0 ⟨rfl, rfl⟩
  go_wp2_with fail
  refine C1.out.mono ?_
  rintro e w1 ⟨rfl, R1, b1⟩
  have B1 := Lib.hid (B0.out.trans b1)
  have hle := HTL.out
  have CB := Lib.hid (wBytes_own w.heap.size w.heap.size (textL l) w1 R1 (by omega))
  have RW1 := Lib.hid R1
  clear b1 R1 hle C1 CL kc B0
  go_wp2_with fail
  refine CB.out.mono ?_
  rintro e w2 ⟨A1, n1, c1, rfl, ho, hr, b2⟩
  have F0 := Lib.hid (Flip.start ho hr)
  have B2 := Lib.hid b2
  clear ho hr b2 CB
  go_wp2_with fail
  go_loopw [7] (fun q wx1 => ∃ i : Nat, i ≤ n1 ∧ q = .int .i64 i ∧ Flip w1.heap.size w2 A1 n1 c1 wx1) (fun q _ => n1 - (intOf q).toNat)
  case atStart => exact ⟨0, Nat.zero_le _, rfl, F0.out⟩
  case round =>
    obtain ⟨i, hin, rfl, hF⟩ := hrel
    have HF := Lib.hid hF
    clear hF
    by_cases hlt : i < n1
    · obtain ⟨g, x, rfl, hx, hic, hcm, hcell, hfz, hset⟩ := HF.out.at_ i hlt
      have hxor := xor8 x 255 hx (by omega)
      have hy : x ^^^ 255 < 256 := Nat.xor_lt_two_pow (n := 8) hx (by omega)
      rw [show ((255 : Nat) : Int) = 255 from rfl] at hxor
      obtain ⟨y, ey⟩ : ∃ y, x ^^^ 255 = y := ⟨_, rfl⟩
      rw [ey] at hxor hy
      have HS := Lib.hid (hset y hy)
      unfold maxLen at hcm
      clear ey hset
      go_wp2_with fail
      go_roundw
      case rel => exact ⟨i + 1, by omega, by go_num, HS.out⟩
      case measure => simp [intOf]; omega
    · clear F0
      have B3 := Lib.hid (HF.out.bel B2.out B2.out.size (Nat.le_refl _))
      have L3 := Lib.hid (B1.out.trans (B3.out.mono (RW1.out.base_le)))
      have RW3 := Lib.hid (RW1.out.ret B3.out)
      have hle := HTL.out
      have CB := Lib.hid (wBytes_own w.heap.size w.heap.size (textL l) wr RW3.out (by omega))
      clear hle HF
      go_wp2_with fail
      refine CB.out.mono ?_
      rintro e w4 ⟨A2, n2, c2, rfl, ho, hr, b4⟩
      have hb4 := Byt.of_own ho hr
      have hn2 : n2 ≤ 1010 := by have := hb4.len; have := HTL.out; omega
      have CR := Lib.hid (read_own A2 n2 c2 (textL l) w4 hb4 (by omega) HT0.out)
      have L4 := Lib.hid (L3.out.trans (b4.mono L3.out.size))
      have O4 := Lib.hid ho
      have HR4 := Lib.hid hr
      have B4 := Lib.hid b4
      clear ho hr b4 hb4 CB RW3
      go_wp2_with fail
      refine CR.out.mono ?_
      rintro e w5 ⟨b, g, rfl, hb, hg, hgb, hR, b5⟩
      have GE := Lib.hid (And.intro hb (And.intro hg hgb))
      have F0 := Lib.hid (Flip.start (own_later O4.out b5) HR4.out)
      have RD5 := Lib.hid hR
      have L5 := Lib.hid (L4.out.trans (b5.mono L4.out.size))
      have OB := Lib.hid (fun k hk => (O4.out.lt k hk).2)
      have LW := Lib.hid L3.out.size
      have LW2 := Lib.hid (Nat.le_trans L3.out.size B4.out.size)
      clear hb hg hgb hR b5 CR L4 L3
      go_wp2_with fail
      go_loopw [10] (fun q wx2 => ∃ i : Nat, i ≤ n2 ∧ q = .int .i64 i ∧ Flip wr.heap.size w5 A2 n2 c2 wx2) (fun q _ => n2 - (intOf q).toNat)
      case atStart => exact ⟨0, Nat.zero_le _, rfl, F0.out⟩
      case round =>
        obtain ⟨i, hin, rfl, hF⟩ := hrel
        have HF := Lib.hid hF
        clear hF
        by_cases hlt : i < n2
        · obtain ⟨g, x, rfl, hx, hic, hcm, hcell, hfz, hset⟩ := HF.out.at_ i hlt
          have hxor := xor8 x 255 hx (by omega)
          have hy : x ^^^ 255 < 256 := Nat.xor_lt_two_pow (n := 8) hx (by omega)
          rw [show ((255 : Nat) : Int) = 255 from rfl] at hxor
          obtain ⟨y, ey⟩ : ∃ y, x ^^^ 255 = y := ⟨_, rfl⟩
          rw [ey] at hxor hy
          have HS := Lib.hid (hset y hy)
          unfold maxLen at hcm
          clear ey hset
          go_wp2_with fail
          go_roundw
          case rel => exact ⟨i + 1, by omega, by go_num, HS.out⟩
          case measure => simp [intOf]; omega
        · clear F0
          have L6 := Lib.hid (HF.out.bel L5.out L5.out.size LW.out)
          have RD6 := Lib.hid (RD5.out.grown (HF.out.grown) (fun e => by have := OB.out _ e.symm; have := GE.out.1; omega) (fun e => by have := OB.out _ e.symm; have := GE.out.2.1; omega))
          clear HF RD5 L5 O4
          go_wp2_with fail
          refine (own_any A n c l wr (HB.out.below L6.out) (by omega)).mono ?_
          rintro e w6 ⟨A6, n6, c6, rfl, hb6, b6⟩
          have L7 := Lib.hid (Below.then L6.out b6)
          have RD7 := Lib.hid (RD6.out.grown (grown_below (row := none) b6) (by simp) (by simp))
          have C7 := seal_any A6 n6 c6 l w6 hb6 (HT.out.ret L7.out)
          unfold SealPost at C7
          rw [if_neg (by omega)] at C7
          have C7 := Lib.hid C7
          clear hb6 b6 L6 RD6
          go_wp2_with fail
          refine C7.out.mono ?_
          rintro e w7 ⟨A7, n7, c7, rfl, ho7, hr7, b7⟩
          have hb7 := Byt.of_own ho7 hr7
          have hn7 : n7 ≤ 1014 := by have := hb7.len; rw [sealL_len] at this; have := HTL.out; omega
          have L8 := Lib.hid (Below.then L7.out b7)
          have RD8 := Lib.hid (RD7.out.grown (grown_below (row := none) b7) (by simp) (by simp))
          have X8 := Lib.hid hb7
          have C8 := Lib.hid (open_own A7 n7 c7 (sealL l) w7 hb7 (by omega) (HT.out.ret L8.out) l (sealL l).length 0 (open_seal0 l (by omega)))
          clear ho7 hr7 b7 hb7 C7 L7 RD7
          go_wp2_with fail
          refine C8.out.mono ?_
          rintro e w8 ⟨A3, n3, c3, rfl, ho, hr, b8⟩
          have F0 := Lib.hid (Flip.start ho hr)
          have B8 := Lib.hid b8
          clear ho hr b8 C8
          go_wp2_with fail
          go_loopw [16] (fun q wx3 => ∃ i : Nat, i ≤ n3 ∧ q = .int .i64 i ∧ Flip w7.heap.size w8 A3 n3 c3 wx3) (fun q _ => n3 - (intOf q).toNat)
          case atStart => exact ⟨0, Nat.zero_le _, rfl, F0.out⟩
          case round =>
            obtain ⟨i, hin, rfl, hF⟩ := hrel
            have HF := Lib.hid hF
            clear hF
            by_cases hlt : i < n3
            · obtain ⟨g, x, rfl, hx, hic, hcm, hcell, hfz, hset⟩ := HF.out.at_ i hlt
              have hxor := xor8 x 255 hx (by omega)
              have hy : x ^^^ 255 < 256 := Nat.xor_lt_two_pow (n := 8) hx (by omega)
              rw [show ((255 : Nat) : Int) = 255 from rfl] at hxor
              obtain ⟨y, ey⟩ : ∃ y, x ^^^ 255 = y := ⟨_, rfl⟩
              rw [ey] at hxor hy
              have HS := Lib.hid (hset y hy)
              unfold maxLen at hcm
              clear ey hset
              go_wp2_with fail
              go_roundw
              case rel => exact ⟨i + 1, by omega, by go_num, HS.out⟩
              case measure => simp [intOf]; omega
            · clear F0
              have B9 := Lib.hid (HF.out.bel B8.out B8.out.size (Nat.le_refl _))
              have L9 := Lib.hid (Below.then L8.out B9.out)
              have RD9 := Lib.hid (RD8.out.grown (grown_below (row := none) B9.out) (by simp) (by simp))
              have X9 := X8.out.below B9.out
              have C9 := Lib.hid (open_own A7 n7 c7 (sealL l) wr X9 (by omega) (HT.out.ret L9.out) l (sealL l).length 0 (open_seal0 l (by omega)))
              clear HF X9 B8 B9 L8 RD8 X8
              go_wp2_with fail
              refine C9.out.mono ?_
              rintro e w9 ⟨A9, n9, c9, rfl, ho9, hr9, b9⟩
              have L10 := Lib.hid (Below.drew (Below.then L9.out b9))
              have hbw := RD9.out.lt
              have RD10 := (RD9.out.grown (grown_below (row := none) b9) (by simp) (by simp)).drew
              have HD10 := Lib.hid (fun w' (hg : w9.drew.grownBy w' (some b)) => own_grown ho9 hr9 hbw hg)
              have hF : textF (textL l) 1000 = (l, (textL l).length, 0) := by
                have := textF_text l [] (by omega) 1000 (by omega)
                rwa [List.append_nil] at this
              have CT := rText_any b g (textL l) 0 1000 w9.drew RD10 (by omega) _ _ _ hF
              rw [stepV_ok, stepE_0, stepL_ok, List.drop_of_length_le (Nat.le_refl _)] at CT
              have CT := Lib.hid CT
              have CE := Lib.hid (fun w0 h0 => rEnd_none b g w0 h0)
              have KC := Lib.hid (conv_byt (HB.out.below L10.out))
              have GL := Lib.hid (Nat.le_trans LW2.out GE.out.1)
              clear ho9 hr9 b9 RD10 C9 L9 RD9 hF hbw
              go_wp2_with fail
              go_region_held3 (fun w' => (convert 25 9 (.slice A n c)).run Tryd.prog w' = .ok (.string (strOfNums l)) w') (first | exact KC.out | exact conv_byt (HB.out.below L15.out) | exact conv_byt (HB.out.below L14.out) | exact conv_byt (HB.out.below L13.out) | exact conv_byt (HB.out.below L12.out) | exact conv_byt (HB.out.below L11.out)) (first | (go_at_call 25; refine CT.out.mono ?_; rintro e w10 ⟨rfl, R10, g10⟩; have L11 := Lib.hid (L10.out.grown g10 L10.out.size (fun k hk => by injection hk with hk; have := GL.out; omega))) | (go_at_call 27; refine (CE.out _ R10).mono ?_; rintro e w11 ⟨rfl, R11, g11⟩; have L12 := Lib.hid (L11.out.grown g11 L11.out.size (fun k hk => by injection hk with hk; have := GL.out; omega))) | (go_at_call 15; refine (Quiet.ret (same_yes _ _ _ _ _ _ _ _ _ (HD10.out _ (grown_trans g10 g11)) (HB.out.below L12.out) rfl)).mono ?_; rintro e w12 ⟨rfl, b12⟩; have L13 := Lib.hid (Below.then L12.out b12)) | (go_at_call 16; refine (written_any _ _ _ ps _ (HP.out.below L13.out) HLO.out).mono ?_; rintro e w13 ⟨A13, n13, c13, rfl, hb13, b13⟩; have L14 := Lib.hid (Below.then L13.out b13); have hge := parts_ge HPS.out hb13.len hlen') | (go_at_call 12; refine (awake_any _ (HT.out.ret L14.out)).mono ?_; rintro e w14 ⟨rfl, b14⟩; have L15 := Lib.hid (Below.then L14.out b14)))
              all_goals
                go_wp2_with fail
                go_ret
                exact ⟨rfl, L15.out⟩

set_option maxHeartbeats 2000000 in
theorem sealOwn_walk (A : Option Addr) (n c : Nat) (l : List Int) (A' : Option Addr) (n' c' : Nat) (ps : List Prt) (w : World) (h : Byt w A n c l) (_hk : n ≤ 140737488351232) (h' : Prts w A' n' c' ps) (hT : Tab w) :
    Calls Tryd.prog 9 #[.slice A n c, .slice A' n' c'] w (Ret (.bool true) w) := by
  by_cases hlong : (1000 : Int) < (n : Int)
  · have HT := Lib.hid hT
    clear h h' hT
    go_enter Tryd.func9, Tryd.ntmps9
    go_wp2_with fail
    refine (awake_any _ HT.out).mono ?_
    rintro e w2 ⟨rfl, b2⟩
    have H := Lib.hid b2
    clear b2
    go_wp2
    go_ret
    exact ⟨rfl, H.out⟩
  · cases hl : longP ps with
    | false => exact sealOwn_main A n c l A' n' c' ps w h h' hl (by omega) hT
    | true =>
      have CL := long_any A' n' c' ps w h'
      rw [hl] at CL
      have CL := Lib.hid CL
      have HT := Lib.hid hT
      clear h h' hl hT
      go_enter Tryd.func9, Tryd.ntmps9
      go_wp2_with fail
      refine CL.out.mono ?_
      rintro e w0 ⟨rfl, rfl⟩
      go_wp2_with fail
      refine (awake_any _ HT.out).mono ?_
      rintro e w4 ⟨rfl, b4⟩
      have L4 := Lib.hid b4
      clear b4
      go_wp2
      go_ret
      exact ⟨rfl, L4.out⟩
end Go.Proofs.YtlnhillpghjknaaDoor

