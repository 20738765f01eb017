/- What it says: contracts and plain mathematics that the laws' walks use, 7 of 7: each part's own remark says what; no condition. -/
import Derived.Test.YtljpnngknmpdoaaDoorPk2
import Derived.Test.YtljpnngknmpdoaaDoorPk4
import Derived.Test.YtljpnngknmpdoaaDoorPk5

set_option linter.unusedSimpArgs false
set_option linter.unusedVariables false
set_option linter.deprecated false
set_option linter.unusedSectionVars false
set_option linter.all false

/- trothref08.Lay answers the sheets, or the error, in new memory. -/
namespace Go.Proofs.YtljpnngknmpdoaaDoor
open Go.RowKit

theorem fstIn_cons (b : Nat) (l : List Nat) (j : Nat) : fstIn (b :: l) j = if b / 242 = j then ((b % 242 : Nat) : Int) else fstIn l j := by
  unfold fstIn
  rw [List.find?_cons]
  by_cases q : b / 242 = j
  · simp [q]
  · have : (b / 242 == j) = false := by simpa using q
    simp [this, q]

/-- The sheets that are gathered. -/
def shFin (inc pos : Int) (ls : List (List Int)) (j : Nat) : Sh := ⟨inc, pos + (j : Int), fstIn (bgns ls) j, strOfNums (partL (allL ls) j)⟩
structure GatR (w : World) (inc pos : Int) (ls : List (List Int)) (i : Nat) (wr : World) (A : Option Addr) (c : Nat) : Prop where
  own : wr.ownsRow w.heap.size 23 4 (.slice A i c) i (((List.range i).map (shFin inc pos ls)).flatMap Sh.cells)
  bel : Below w.heap.size w wr
  pos : ∀ j, j < i → pos + (j : Int) < 1099511627776
theorem GatR.next {w wr w2 w3 : World} {inc pos : Int} {ls : List (List Int)} {i c c' : Nat} {A A' : Option Addr} (h : GatR w inc pos ls i wr A c) (hb : Below wr.heap.size wr w2) (hp : pos + (i : Int) < 1099511627776)
    (k1 : w3.ownsRow w.heap.size 23 4 (.slice A' (i + 1) c') (i + 1) (((List.range i).map (shFin inc pos ls)).flatMap Sh.cells ++ (shFin inc pos ls i).cells)) (k2 : w2.grownBy w3 (Value.slice A i c).ownBlock) : GatR w inc pos ls (i + 1) w3 A' c' := by
  have o2 := own_stay (w' := w2) h.own (fun q hq => hb.block q (h.own.lt q hq).2)
  refine ⟨?_, h.bel.trans ((hb.mono h.bel.size).grown k2 (Nat.le_trans h.bel.size hb.size) (fun q hq => (o2.lt q hq).1)), fun j hj => ?_⟩
  · rw [List.range_succ, List.map_append, List.flatMap_append]
    simpa using k1
  · by_cases q : j < i
    · exact h.pos j q
    · obtain rfl : j = i := by omega
      exact hp

set_option maxRecDepth 100000 in
set_option maxHeartbeats 8000000 in
theorem refLay_any (inc pos : Int) (A : Option Addr) (n c : Nat) (ls : List (List Int)) (vs : List (Option Addr × Nat × Nat)) (w : World) (h : Bods w A n c ls vs) (hn : n ≤ 1000) (hinc : i64R inc) (hpos : i64R pos) :
    Calls Tryd.prog 17 #[.int .i64 inc, .int .i64 pos, .slice A n c] w (RetLay (layErr inc pos ls) (layRes inc pos ls) w) := by
  have hB := h.isB
  have HB := Lib.hid h
  have hlen := h.len
  have hcap := h.flt.cap
  have hmax := h.flt.max
  unfold maxLen at hmax
  by_cases hs : isSeqB inc = false ∨ isSeqB pos = false
  · have e1 : layErr inc pos ls = 1 := by unfold layErr; rw [if_pos hs]
    have e2 : layRes inc pos ls = [] := by unfold layRes; rw [e1]; rfl
    rw [e1, e2]
    have RR : Hid (RetLay 1 [] w (.returned (.tuple #[.slice none 0 0, .int .i64 1])) w) := Lib.hid ⟨none, 0, 0, rfl, Shs.nil w, Below.refl _ _⟩
    have hc : inc < 0 ∨ (¬ inc < 0 ∧ 1099511627776 ≤ inc) ∨ (¬ inc < 0 ∧ ¬ 1099511627776 ≤ inc ∧ pos < 0) ∨ (¬ inc < 0 ∧ ¬ 1099511627776 ≤ inc ∧ ¬ pos < 0 ∧ 1099511627776 ≤ pos) := by
      have u1 : isSeqB inc = false → ¬ (0 ≤ inc ∧ inc ≤ 1099511627775) := fun q => of_decide_eq_false q
      have u2 : isSeqB pos = false → ¬ (0 ≤ pos ∧ pos ≤ 1099511627775) := fun q => of_decide_eq_false q
      rcases hs with q | q
      · have := u1 q; omega
      · have := u2 q; omega
    clear h hB e1 e2 hs HB
    rcases hc with q1 | ⟨q1, q2⟩ | ⟨q1, q2, q3⟩ | ⟨q1, q2, q3, q4⟩
    all_goals
      go_enter Tryd.func17, Tryd.ntmps17
      go_wp2_with fail
      go_ret2
      exact RR.out
  · have h1 : isSeqB inc = true := by cases q : isSeqB inc; exact absurd (.inl q) hs; rfl
    have h2 : isSeqB pos = true := by cases q : isSeqB pos; exact absurd (.inr q) hs; rfl
    have hi2 : 0 ≤ inc ∧ inc ≤ 1099511627775 := of_decide_eq_true h1
    have hp2 : 0 ≤ pos ∧ pos ≤ 1099511627775 := of_decide_eq_true h2
    obtain ⟨P, rfl⟩ := Int.eq_ofNat_of_zero_le hp2.1
    have ER : layErr inc (P : Int) ls = if ∃ b ∈ ls, 4096 < b.length then 12 else if 1099511627776 < (P : Int) + (shN (allL ls).length : Int) then 162 else 0 := by unfold layErr; rw [if_neg hs]
    have HE := Lib.hid ER
    have HIS := Lib.hid hB
    obtain ⟨x, hx⟩ : ∃ x, layErr inc (P : Int) ls = x := ⟨_, rfl⟩
    obtain ⟨rl, hrl⟩ : ∃ r, layRes inc (P : Int) ls = r := ⟨_, rfl⟩
    rw [hx, hrl]
    have HX := Lib.hid hx
    have HRL := Lib.hid hrl
    obtain ⟨q1, q2⟩ := hi2
    obtain ⟨q3, q4⟩ := hp2
    have q5 : ¬ inc < 0 := by omega
    have q6 : ¬ 1099511627776 ≤ inc := by omega
    have q7 : ¬ (P : Int) < 0 := by omega
    have q8 : ¬ 1099511627776 ≤ (P : Int) := by omega
    obtain ⟨i0, hi, hz0, hz1, hz2⟩ := info_parts info_u8
    obtain ⟨j0, hj0, hy0, hy1, hy2⟩ := info_parts info_intJ
    obtain ⟨s0, hs0, hw0, hw1, hw2⟩ := info_parts info_shL
    have R0 : Hid (JoinRel w ls 0 w none 0 0 none 0) := Lib.hid ⟨by simpa [allL] using World.ownsRow_nil w w.heap.size 5 1, by simpa using World.ownsRow_nil w w.heap.size 3 1, Below.refl _ _, by simp⟩
    clear h hB hs h1 h2 ER hx hrl
    go_enter Tryd.func17, Tryd.ntmps17
    go_wp2_with fail
    go_loopw [8, 9, 10] (fun y z q wr => ∃ (i : Nat) (A1 : Option Addr) (n1 c1 : Nat) (A2 : Option Addr) (c2 : Nat), i ≤ n ∧ y = .slice A1 n1 c1 ∧ z = .slice A2 i c2 ∧ q = .int .i64 i ∧ JoinRel w ls i wr A1 n1 c1 A2 c2) (fun _ _ q _ => n - (intOf q).toNat)
    case atStart => exact ⟨0, none, 0, 0, none, 0, Nat.zero_le _, rfl, rfl, rfl, R0.out⟩
    case round =>
      obtain ⟨i, A1, n1, c1, A2, c2, hin, rfl, rfl, rfl, R⟩ := hrel
      have HR := Lib.hid R
      clear R R0
      by_cases hlt : i < n
      · obtain ⟨g, off, hA, hc⟩ := (HB.out.below HR.out.bel).at_ (by omega)
        subst hA
        obtain ⟨hc0, hby⟩ := hc i hlt
        obtain ⟨B, m, d, hv⟩ : ∃ B m d, vs.getD i sl0 = (B, m, d) := ⟨_, _, _, rfl⟩
        rw [hv] at hc0 hby
        obtain ⟨b, hb⟩ : ∃ b, ls.getD i [] = b := ⟨_, rfl⟩
        rw [hb] at hby
        have CS := Lib.hid (refSeal_any B m d b wr hby)
        have hil : i < ls.length := by rw [hlen]; exact hlt
        have hbl : b.length = m := hby.len
        have hbmem : b ∈ ls := by
          have e : ls.getD i [] = ls[i] := by simp [List.getD, List.getElem?_eq_getElem hil]
          rw [← hb, e]
          exact List.getElem_mem hil
        have hn1 : (allL (ls.take i)).length = n1 := by have := HR.out.all.1; simpa using this
        have hn1' := allL_le _ HR.out.ok
        rw [hn1, List.length_take] at hn1'
        have HBB := Lib.hid hb
        clear hc hv hby hb hn1
        go_wp2_with fail
        refine CS.out.mono ?_
        intro e w2 hp
        unfold SealPost at hp
        by_cases hlong : 4096 < b.length
        · rw [if_pos hlong] at hp
          obtain ⟨A3, n3, c3, rfl, _, _, b2⟩ := hp
          have e1 : x = 12 := by rw [← HX.out, HE.out, if_pos ⟨b, hbmem, hlong⟩]
          have e2 : rl = [] := by rw [← HRL.out]; unfold layRes; rw [HX.out, e1]; rfl
          subst e1 e2
          have RR : Hid (RetLay 12 [] w (.returned (.tuple #[.slice none 0 0, .int .i64 12])) w2) := Lib.hid ⟨none, 0, 0, rfl, Shs.nil _, HR.out.bel.trans (b2.mono HR.out.bel.size)⟩
          clear b2 CS HR HB HX HRL HE
          go_wp2_with fail
          go_ret2
          exact RR.out
        · rw [if_neg hlong] at hp
          obtain ⟨A3, n3, c3, rfl, ho3, hr3, b2⟩ := hp
          have hb3 := Bty.of_own ho3 hr3
          have hn3 : n3 ≤ 4110 := by have := hb3.byt.len; have := sealL_le b (by omega); omega
          have H3 := Lib.hid hb3
          have B2 := Lib.hid b2
          have O2 : Hid (∀ o, (w2.alloc o).ownsRow w.heap.size 3 1 (.slice A2 i c2) i (((List.range i).map (bgn ls)).flatMap intV)) := Lib.hid (fun o => own_stay HR.out.bgs (fun q hq => (Below.then b2 ((Below.refl w2.heap.size w2).alloc (Nat.le_refl _) o)).block q (HR.out.bgs.lt q hq).2))
          have BS : Hid (∀ o, w.heap.size ≤ (w2.alloc o).heap.size) := Lib.hid (fun o => Nat.le_trans (Nat.le_trans HR.out.bel.size b2.size) (by simp))
          have S1 := Lib.hid (fun (A2' : Option Addr) (c2' : Nat) (w3 : World) (o : Obj) k1 k2 => HR.out.step1 (w2 := w2.alloc o) (A2' := A2') (c2' := c2') (w3 := w3) hil (Below.then b2 ((Below.refl w2.heap.size w2).alloc (Nat.le_refl _) o)) k1 k2)
          clear hb3 ho3 hr3 b2 CS
          go_wp2_with (at_builtin; refine wpList_append_1 rfl _ _ 66 rfl w.heap.size 3 j0 _ 1 8 Tryd.underlying66 hj0 hy0 hy1 hy2 (by rfl) (by omega) (by rfl) (O2.out _) (g := w2.heap.size) (cs := #[.int .i64 (n1 : Int)]) (by rfl) (Bk.new _ _ _) (by rfl) (by intro u hu; simp at hu; subst hu; rfl) (by omega) (by omega) (BS.out _) ?_)
          intro A4 c4 w3 k1 k2 _
          obtain ⟨a3, b3, bel3, bel3'⟩ := S1.out A4 c4 w3 _ k1 k2
          have H4 := ((H3.out.below ((Below.refl w2.heap.size w2).alloc (Nat.le_refl _) _)).apart (O2.out _) (by decide) k2).byt
          have S2 := Lib.hid (fun (A' : Option Addr) (n' c' : Nat) (w4 : World) q1 q2 => JoinRel.step2 (w4 := w4) (A' := A') (n' := n') (c' := c') a3 b3 bel3 HR.out.ok hil HBB.out (by omega) q1 q2)
          have HA3 := Lib.hid a3
          have HBS := bel3.size
          clear k1 k2 a3 b3 bel3 bel3' S1 O2 BS B2 H3
          go_wp2_with (at_builtin; refine wpList_append_byt rfl _ _ 24 rfl w.heap.size 5 i0 Tryd.underlying24 hi hz0 hz1 hz2 _ n1 (allL (ls.take i)) rfl (by exact HA3.out) A3 n3 c3 (sealL b) rfl H4 (by omega) HBS ?_)
          intro A5 c5 w5 k1 k2
          have NR := Lib.hid (S2.out A5 (n1 + n3) c5 w5 (by rw [List.map_append]; exact k1) k2)
          clear k1 k2 S2 HA3 H4 HR HB HX HRL HE
          go_wp2_with fail
          go_roundw
          case rel => exact ⟨i + 1, A5, n1 + n3, c5, A4, c4, by omega, by go_num, by go_num, by go_num, NR.out⟩
          case measure => simp [intOf]; omega
      · have hie : i = n := by omega
        subst hie
        have e1 : ls.take i = ls := List.take_of_length_le (by omega)
        have hshort : ∀ b ∈ ls, b.length ≤ 4096 := by have := HR.out.ok; rwa [e1] at this
        have hall := HR.out.all
        rw [e1] at hall
        have hal : (allL ls).length = n1 := by have := hall.1; simpa using this
        have hal2 := allL_le ls hshort
        have hno : ¬ ∃ b ∈ ls, 4096 < b.length := fun ⟨b, q1, q2⟩ => by have := hshort b q1; omega
        have HE2 : Hid (x = if 1099511627776 < (P : Int) + (shN (allL ls).length : Int) then 162 else 0) := Lib.hid (by rw [← HX.out, HE.out, if_neg hno])
        have hbty := Bty.of_own hall (allL_isB HIS.out)
        have HBT := Lib.hid hbty
        have HBG : Hid (Flt wr A2 i c2 1 ((bgns ls).flatMap intV)) := Lib.hid (by have := HR.out.bgs; rw [← hlen] at this ⊢; exact Flt.of_own this)
        have B4 := Lib.hid HR.out.bel
        obtain ⟨N, hN⟩ : ∃ N, shN (allL ls).length = N := ⟨_, rfl⟩
        rw [hN] at HE2
        have hNb : N ≤ 100000 := by rw [← hN]; unfold shN; omega
        have hNn : N = shN n1 := by rw [← hN, hal]
        have HN := Lib.hid hN
        have G0 : Hid (GatR wr inc (P : Int) ls 0 wr none 0) := Lib.hid ⟨World.ownsRow_nil _ _ _ _, Below.refl _ _, fun j hj => absurd hj (by omega)⟩
        have hbc := hbty.byt.cap
        have hbm := hbty.byt.max
        unfold maxLen at hbm
        obtain ⟨w4, hw4⟩ : ∃ z, z = wr := ⟨_, rfl⟩
        subst hw4
        clear hall hno hbty HR HB hN hshort e1 HE
        go_wp2_with fail
        go_loopw [13, 14] (fun o q wr => ∃ (j : Nat) (A5 : Option Addr) (c5 : Nat), j ≤ N ∧ o = .slice A5 j c5 ∧ q = .int .i64 ((242 * j : Nat) : Int) ∧ GatR w4 inc (P : Int) ls j wr A5 c5) (fun _ q _ => 242 * N - (intOf q).toNat)
        case atStart => exact ⟨0, none, 0, Nat.zero_le _, rfl, rfl, G0.out⟩
        case round =>
          obtain ⟨j, A5, c5, hjN, rfl, rfl, G⟩ := hrel
          have HG := Lib.hid G
          clear G G0
          obtain ⟨fr, hfr⟩ : ∃ fr, 242 * j = fr := ⟨_, rfl⟩
          rw [hfr]
          by_cases hlt : fr < n1
          · obtain ⟨k, hk⟩ : ∃ k, min (fr + 242) n1 = k := ⟨_, rfl⟩
            have hmin : min ((fr : Int) + 242) (n1 : Int) = (k : Int) := by omega
            have hB := (HBT.out.below HG.out.bel).byt
            obtain ⟨B, m, d, hsl, hm, hb2⟩ := cut_lh hB fr k (by omega) (by omega) (fr : Int) (k : Int) rfl rfl
            have e : ((allL ls).drop fr).take (k - fr) = partL (allL ls) j := by
              unfold partL
              rw [hfr]
              by_cases q : fr + 242 ≤ n1
              · congr 1; omega
              · rw [List.take_of_length_le (by rw [List.length_drop]; omega), List.take_of_length_le (by rw [List.length_drop]; omega)]
            rw [e] at hb2
            have kc := conv_byt hb2
            have hj1 : j < N := by rw [hNn]; unfold shN; omega
            have hjb : j ≤ 100000 := by omega
            have HFR := Lib.hid hfr
            obtain ⟨ps, hps⟩ : ∃ s, strOfNums (partL (allL ls) j) = s := ⟨_, rfl⟩
            rw [hps] at kc
            have HPS := Lib.hid hps
            clear hB hk e hfr hb2 hm hps
            go_wp2_with fail
            obtain ⟨W1, hW1⟩ : ∃ W1, W1 = wr.alloc (.cells #[.int .i64 inc, .int .i64 ((P : Int) + (j : Int)), .int .i64 255, .string ps] 23) := ⟨_, rfl⟩
            rw [← hW1]
            obtain ⟨sb, hsb⟩ : ∃ sb, wr.heap.size = sb := ⟨_, rfl⟩
            have b1 : Below wr.heap.size wr W1 := by rw [hW1]; exact (Below.refl _ _).alloc (Nat.le_refl _) _
            have v1 : Bk W1 sb 23 #[.int .i64 inc, .int .i64 ((P : Int) + (j : Int)), .int .i64 255, .string ps] := by rw [hW1, ← hsb]; exact Bk.new _ _ _
            have V0 : Hid (Bk W1 sb 23 #[.int .i64 inc, .int .i64 ((P : Int) + (j : Int)), .int .i64 (fstIn ((bgns ls).drop i) j), .string ps] ∧ Below wr.heap.size wr W1) := Lib.hid ⟨by
              rw [List.drop_of_length_le (by rw [bgns_len]; omega)]
              exact v1, b1⟩
            (try rw [hsb])
            have HSB := Lib.hid hsb
            obtain ⟨wi, hwi⟩ : ∃ x, x = wr := ⟨_, rfl⟩
            subst hwi
            clear hW1 hsb b1 v1 kc hsl
            go_loopw [16] (fun q wr => ∃ (k : Nat), k ≤ i ∧ q = .int .i64 ((k : Int) - 1) ∧ Bk wr sb 23 #[.int .i64 inc, .int .i64 ((P : Int) + (j : Int)), .int .i64 (fstIn ((bgns ls).drop k) j), .string ps] ∧ Below wi.heap.size wi wr) (fun q _ => (intOf q + 1).toNat)
            case atStart => exact ⟨i, Nat.le_refl _, by go_num, V0.out.1, V0.out.2⟩
            case round =>
              obtain ⟨k2, hk2, rfl, hv, hbel⟩ := hrel
              clear V0
              cases k2 with
              | zero =>
                have hneg : ¬ (0 : Int) ≤ ((0 : Nat) : Int) - 1 := by omega
                rw [List.drop_zero] at hv
                have c1 : wr.cell? ⟨sb, 1, none⟩ = some (.int .i64 ((P : Int) + (j : Int))) := hv.cell 1
                by_cases hbig : 1099511627776 ≤ (P : Int) + (j : Int)
                · have e1 : x = 162 := by rw [HE2.out, if_pos (by omega)]
                  have e2 : rl = [] := by rw [← HRL.out]; unfold layRes; rw [HX.out, e1]; rfl
                  subst e1 e2
                  have RR : Hid (RetLay 162 [] w (.returned (.tuple #[.slice none 0 0, .int .i64 162])) wr) := Lib.hid ⟨none, 0, 0, rfl, Shs.nil _, B4.out.trans ((HG.out.bel.trans (hbel.mono HG.out.bel.size)).mono B4.out.size)⟩
                  clear hv hbel HG HBT HBG B4 HX HRL HE2
                  go_wp2_with fail
                  go_ret2
                  exact RR.out
                · have HV := Lib.hid hv
                  have own7 := HG.out.own
                  have OW7 : Hid (∀ o, (wr.alloc o).ownsRow w4.heap.size 23 4 (.slice A5 j c5) j (((List.range j).map (shFin inc (P : Int) ls)).flatMap Sh.cells)) := Lib.hid (fun o => own_stay own7 (fun q hq => (Below.then hbel ((Below.refl wr.heap.size wr).alloc (Nat.le_refl _) o)).block q (own7.lt q hq).2))
                  have BS7 : Hid (∀ o, w4.heap.size ≤ (wr.alloc o).heap.size) := Lib.hid (fun o => Nat.le_trans (Nat.le_trans HG.out.bel.size hbel.size) (by simp))
                  have NX := Lib.hid (fun (A' : Option Addr) (c' : Nat) (w3 : World) (o : Obj) k1 k2 => HG.out.next (w2 := wr.alloc o) (A' := A') (c' := c') (w3 := w3) (Below.then hbel ((Below.refl wr.heap.size wr).alloc (Nat.le_refl _) o)) (by omega) k1 k2)
                  obtain ⟨ff, hff⟩ : ∃ f, fstIn (bgns ls) j = f := ⟨_, rfl⟩
                  rw [hff] at HV
                  have HFF := Lib.hid hff
                  have EC : Hid ((shFin inc (P : Int) ls j).cells = (#[.int .i64 inc, .int .i64 ((P : Int) + (j : Int)), .int .i64 ff, .string ps] : Array Value).toList) := Lib.hid (by rw [← HPS.out, ← hff]; rfl)
                  clear hv hbel own7 hff HG
                  go_wp2_with (first | (refine wpList_load_row rfl _ _ rfl _ rfl _ _ _ _ HV.out Tryd.underlying23 rfl sh_info4 ?_) | (at_builtin; refine wpList_append_1 rfl _ _ 39 rfl w4.heap.size 23 s0 _ 4 40 Tryd.underlying39 hs0 hw0 hw1 hw2 (by rfl) (by omega) (by rfl) (OW7.out _) (g := wr.heap.size) (cs := #[.int .i64 inc, .int .i64 ((P : Int) + (j : Int)), .int .i64 ff, .string ps]) (by rfl) (Bk.new _ _ _) (by rfl) (by intro u hu; simp at hu; rcases hu with rfl | rfl | rfl | rfl <;> rfl) (by omega) (by omega) (BS7.out _) ?_))
                  intro A8 c8 w8 k1 k2 _
                  have NR := Lib.hid (NX.out A8 c8 w8 _ (by rw [EC.out]; exact k1) k2)
                  have HF := HFR.out
                  clear k1 k2 NX OW7 BS7 HV EC
                  go_wp2_with fail
                  go_roundw
                  case rel => exact ⟨j + 1, A8, c8, by omega, by go_num, by rw [show 242 * (j + 1) = fr + 242 by omega]; go_num, NR.out⟩
                  case measure => simp [intOf]; omega
              | succ k3 =>
                have hk3 : k3 < ls.length := by omega
                have hq3 : ((k3 + 1 : Nat) : Int) - 1 = (k3 : Int) := by omega
                rw [hq3]
                obtain ⟨g, off, hA, hc⟩ := ((HBG.out.below HG.out.bel).below hbel).at_get 0 intV intV_len (by rw [bgns_len, hlen]) (by omega)
                subst hA
                have hc0 : wr.cell? ⟨g, off + k3, none⟩ = some (.int .i64 ((bgn ls k3 : Nat) : Int)) := by
                  have := hc k3 (by omega) 0 _ rfl
                  rw [bgns_getD ls k3 hk3] at this
                  simpa using this
                have hdr : (bgns ls).drop k3 = bgn ls k3 :: (bgns ls).drop (k3 + 1) := by rw [drop_getD_cons (bgns ls) 0 k3 (by rw [bgns_len]; exact hk3), bgns_getD ls k3 hk3]
                have hble := bgn_le (bs := ls) k3
                obtain ⟨bb, hbb⟩ : ∃ x, bgn ls k3 = x := ⟨_, rfl⟩
                rw [hbb] at hc0 hdr hble
                have hnew := fstIn_cons bb ((bgns ls).drop (k3 + 1)) j
                rw [← hdr] at hnew
                have hF := HFR.out
                by_cases hin : bb / 242 = j
                · rw [if_pos hin] at hnew
                  have t1 : (fr : Int) ≤ (bb : Int) := by omega
                  have t2 : (bb : Int) < (fr : Int) + 242 := by omega
                  have t3 : ((bb % 242 : Nat) : Int) = (bb : Int) - (fr : Int) := by omega
                  rw [t3] at hnew
                  have cf := hv.cell 2
                  have ff := hv.frz 2
                  have NR : Hid (Bk (wr.setCell ⟨sb, 2, none⟩ (.int .i64 ((bb : Int) - (fr : Int)))) sb 23 #[.int .i64 inc, .int .i64 ((P : Int) + (j : Int)), .int .i64 (fstIn ((bgns ls).drop k3) j), .string ps] ∧ Below wi.heap.size wi (wr.setCell ⟨sb, 2, none⟩ (.int .i64 ((bb : Int) - (fr : Int))))) := Lib.hid ⟨by
                    rw [hnew]
                    have := hv.setc 2 (.int .i64 ((bb : Int) - (fr : Int)))
                    simpa using this, hbel.setCell (p := ⟨sb, 2, none⟩) (show wi.heap.size ≤ sb by have := HSB.out; omega) _⟩
                  obtain ⟨f0, hf0⟩ : ∃ f, fstIn ((bgns ls).drop (k3 + 1)) j = f := ⟨_, rfl⟩
                  have cf' : wr.cell? ⟨sb, 2, none⟩ = some (.int .i64 f0) := by rw [← hf0]; exact cf
                  clear hv hbel hc hdr hnew hbb hin t3 cf hf0 hF
                  go_wp2_with fail
                  go_roundw
                  case rel => exact ⟨k3, by omega, by go_num, NR.out.1, NR.out.2⟩
                  case measure => simp [intOf] <;> omega
                · rw [if_neg hin] at hnew
                  have NR : Hid (Bk wr sb 23 #[.int .i64 inc, .int .i64 ((P : Int) + (j : Int)), .int .i64 (fstIn ((bgns ls).drop k3) j), .string ps] ∧ Below wi.heap.size wi wr) := Lib.hid ⟨by rw [hnew]; exact hv, hbel⟩
                  have hor : ¬ (fr : Int) ≤ (bb : Int) ∨ ((fr : Int) ≤ (bb : Int) ∧ ¬ (bb : Int) < (fr : Int) + 242) := by omega
                  clear hv hbel hc hdr hnew hbb hin hF
                  rcases hor with t1 | ⟨t1, t2⟩
                  · go_wp2_with fail
                    go_roundw
                    case rel => exact ⟨k3, by omega, by go_num, NR.out.1, NR.out.2⟩
                    case measure => simp [intOf] <;> omega
                  · go_wp2_with fail
                    go_roundw
                    case rel => exact ⟨k3, by omega, by go_num, NR.out.1, NR.out.2⟩
                    case measure => simp [intOf] <;> omega
          · have hje : j = N := by rw [hNn] at hjN ⊢; unfold shN at hjN ⊢; omega
            subst hje
            have hfit : (P : Int) + (j : Int) ≤ 1099511627776 := by
              rcases Nat.eq_zero_or_pos j with q | q
              · omega
              · have := HG.out.pos (j - 1) (by omega); omega
            have e1 : x = 0 := by rw [HE2.out, if_neg (by omega)]
            have e2 : rl = layShs inc (P : Int) ls := by rw [← HRL.out]; unfold layRes; rw [HX.out, e1]; rfl
            have e3 : layShs inc (P : Int) ls = (List.range j).map (shFin inc (P : Int) ls) := by unfold layShs; rw [HN.out]; rfl
            subst e1
            have RR : Hid (RetLay 0 rl w (.returned (.tuple #[.slice A5 j c5, .int .i64 0])) wr) := Lib.hid ⟨A5, j, c5, rfl, by
              rw [e2]
              exact ⟨by rw [e3]; exact Flt.of_own HG.out.own, by rw [layShs_len, HN.out], layShs_in ⟨q1, by omega⟩ q3 (by rw [HN.out]; exact hfit)⟩, B4.out.trans (HG.out.bel.mono B4.out.size)⟩
            clear HG HBT HBG B4 HX HRL HE2 e2 e3 hfr
            go_wp2_with fail
            go_ret2
            exact RR.out
end Go.Proofs.YtljpnngknmpdoaaDoor

/- the first of bodies, sheets, and of what was found; what is played is laid. -/
namespace Go.Proofs.YtljpnngknmpdoaaDoor
open Go.RowKit

theorem Bods.take {w : World} {A : Option Addr} {n c : Nat} {ls : List (List Int)} {vs : List (Option Addr × Nat × Nat)} (h : Bods w A n c ls vs) (k : Nat) (hk : k ≤ n) : Bods w A k c (ls.take k) (vs.take k) := by
  refine ⟨?_, by rw [List.length_take, h.vl]; omega, by rw [List.length_take, h.len]; omega, fun i hi => ?_⟩
  · have := h.flt.take k hk
    rwa [flatL_take slV 1 slV_len] at this
  · have := h.each i (by omega)
    have e1 : (vs.take k).getD i sl0 = vs.getD i sl0 := by simp [List.getD, List.getElem?_take, hi]
    have e2 : (ls.take k).getD i [] = ls.getD i [] := by simp [List.getD, List.getElem?_take, hi]
    rw [e1, e2]
    exact this
theorem Shs.take {w : World} {A : Option Addr} {n c : Nat} {l : List Sh} (h : Shs w A n c l) (k : Nat) (hk : k ≤ n) : Shs w A k c (l.take k) := by
  refine ⟨?_, by rw [List.length_take, h.len]; omega, fun x hx => h.inn x (List.mem_of_mem_take hx)⟩
  have := h.flt.take k hk
  rwa [flatL_take Sh.cells 4 Sh.cells_len] at this
theorem Fnds.take {w : World} {A : Option Addr} {n c : Nat} {l : List (List Int × Int)} (h : Fnds w A n c l) (k : Nat) (hk : k ≤ n) : Fnds w A k c (l.take k) := by
  refine ⟨?_, by rw [List.length_take, h.len]; omega⟩
  have := h.flt.take k hk
  rwa [flatL_take fndC 2 fndC_len] at this
theorem layShs_242 (inc pos : Int) (ls : List (List Int)) : ∀ x ∈ layShs inc pos ls, x.data.size ≤ 242 := fun x hx => by
  unfold layShs at hx
  obtain ⟨j, hj, rfl⟩ := List.mem_map.1 hx
  simp only
  rw [str_size]
  exact partL_len _ _
/-- Bodies that are played. -/
theorem played_len {ls : List (List Int)} (h : greatB ls = false) : (allL ls).length ≤ 60300 := by
  obtain ⟨h1, h2⟩ := greatB_no h
  have : ∀ l : List (List Int), (∀ b ∈ l, b.length ≤ 1500) → (allL l).length ≤ 1506 * l.length := by
    intro l
    induction l with
    | nil => intro _; simp [allL]
    | cons b r ih =>
      intro hb
      rw [allL_cons, List.length_append, List.length_cons]
      have e := sealL_size b (hb b (by simp))
      have := hb b (by simp)
      have := ih (fun x hx => hb x (by simp [hx]))
      split at e <;> omega
  have := this ls h2
  omega
theorem played_err {inc pos : Int} {ls : List (List Int)} (h : greatB ls = false) (hi : 0 ≤ inc ∧ inc < 1099511627776) (hp : 0 ≤ pos ∧ pos ≤ 549755813888) : layErr inc pos ls = 0 ∧ layRes inc pos ls = layShs inc pos ls := by
  have hl := played_len h
  obtain ⟨h1, h2⟩ := greatB_no h
  have e : layErr inc pos ls = 0 := by
    unfold layErr
    rw [if_neg, if_neg, if_neg]
    · unfold shN; omega
    · rintro ⟨b, hb, hl⟩
      have := h2 b hb
      omega
    · have a : isSeqB inc = true := decide_eq_true ⟨by omega, by omega⟩
      have b : isSeqB pos = true := decide_eq_true ⟨by omega, by omega⟩
      rw [a, b]
      simp
  exact ⟨e, by unfold layRes; rw [e]; rfl⟩

end Go.Proofs.YtljpnngknmpdoaaDoor
