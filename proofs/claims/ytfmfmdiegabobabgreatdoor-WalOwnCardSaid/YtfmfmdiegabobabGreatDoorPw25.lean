/- What it says: contracts and plain mathematics that the laws' walks use, 25 of 33: each part's own remark says what; no condition. -/
import Derived.Test.YtfmfmdiegabobabGreatDoorPw1
import Derived.Test.YtfmfmdiegabobabGreatDoorPw2
import Derived.Test.YtfmfmdiegabobabGreatDoorPw16
import Derived.Test.YtfmfmdiegabobabGreatDoorPw17
import Derived.Test.YtfmfmdiegabobabGreatDoorPw23
import Derived.Test.YtfmfmdiegabobabGreatDoorPw24
import Derived.Lib.MinMax
import Derived.WalkMore
import Derived.Laws.CopyOwn
import Derived.BigQuiet
import Derived.Deep.QuietTactic

set_option linter.unusedSimpArgs false
set_option linter.unusedVariables false
set_option linter.deprecated false
set_option linter.unusedSectionVars false
set_option linter.all false
set_option maxRecDepth 100000
set_option maxHeartbeats 16000000
namespace Go.Proofs.YtfmfmdiegabobabGreatDoor

/- sheet.Lay answers the sheets, or the error, in new memory. -/
section
open Go.RowKit
theorem fstIn_snoc (l : List Nat) (b j : Nat) : fstIn (l ++ [b]) j = if fstIn l j = 255 ∧ b / 242 = j then ((b % 242 : Nat) : Int) else fstIn l j := by
 unfold fstIn
 rw [List.find?_append]
 cases hf : l.find? (fun b => b / 242 == j) with
 | some x =>
  have : ((x % 242 : Nat) : Int) ≠ 255 := by have := Nat.mod_lt x (show 242 > 0 by omega); omega
  simp only [Option.some_or]
  rw [if_neg (fun q => this q.1)]
 | none =>
  simp only [Option.none_or, true_and]
  by_cases q : b / 242 = j
  ·simp [List.find?, q]
  ·have : (b / 242 == j) = false := by simpa using q
   simp [List.find?, this, q]
theorem bgns_len (ls : List (List Int)) : (bgns ls).length = ls.length := by simp [bgns]
theorem bgns_getD (ls : List (List Int)) (i : Nat) (h : i < ls.length) : (bgns ls).getD i 0 = bgn ls i := by simp [List.getD, bgns_get i h]
theorem fstIn_rng (l : List Nat) (j : Nat) : 0 ≤ fstIn l j ∧ fstIn l j ≤ 255 := by
 unfold fstIn
 split
 ·rename_i b _
  have := Nat.mod_lt b (show 242 > 0 by omega)
  omega
 ·omega
theorem partL_len (l : List Int) (i : Nat) : (partL l i).length ≤ 242 := by unfold partL; rw [List.length_take]; omega
def shAt (inc pos : Int) (ls : List (List Int)) (k : Nat) (j : Nat) : Sh := ⟨inc, pos + (j : Int), fstIn ((bgns ls).take k) j, strOfNums (partL (allL ls) j)⟩
theorem shAt_all (inc pos : Int) (ls : List (List Int)) (k j : Nat) (hk : ls.length ≤ k) (hj : j < shN (allL ls).length) : (layShs inc pos ls).getD j sh0 = shAt inc pos ls k j := by
 unfold layShs shAt
 rw [List.take_of_length_le (by rw [bgns_len]; exact hk)]
 simp [List.getD, hj]
theorem layShs_in {inc pos : Int} {ls : List (List Int)} (hi : 0 ≤ inc ∧ inc ≤ 1099511627776) (hp : 0 ≤ pos) (hN : pos + (shN (allL ls).length : Int) ≤ 1099511627776) : ∀ x ∈ layShs inc pos ls, x.In := by
 intro x hx
 unfold layShs at hx
 obtain ⟨j, hj, rfl⟩ := List.mem_map.1 hx
 have hj := List.mem_range.1 hj
 have hf := fstIn_rng (bgns ls) j
 have hl := partL_len (allL ls) j
 exact ⟨⟨by simp only; omega, by simp only; omega⟩, ⟨by simp only; omega, by simp only; omega⟩, ⟨by simp only; omega, by simp only; omega⟩, by simp only; rw [str_size]; unfold maxLen; omega⟩
theorem shAt_next (inc pos : Int) (ls : List (List Int)) (k j : Nat) (hk : k < ls.length) : shAt inc pos ls (k + 1) j = if fstIn ((bgns ls).take k) j = 255 ∧ bgn ls k / 242 = j then ⟨(shAt inc pos ls k j).inc, (shAt inc pos ls k j).pos, ((bgn ls k % 242 : Nat) : Int), (shAt inc pos ls k j).data⟩ else shAt inc pos ls k j := by
 unfold shAt
 rw [take_succ_getD (bgns ls) 0 k (by rw [bgns_len]; exact hk), bgns_getD ls k hk, fstIn_snoc]
 split <;> rfl
theorem sh_info4 : (Tryz.prog.info? 93).map (·.size) = some 4 := by kernel_rfl
theorem sh_one4 (x0 x1 x2 : Int) (x3 : ByteArray) : (#[Value.int .i64 x0, .int .i64 x1, .int .i64 x2, .string x3] : Array Value).all (·.oneCell') = true := by simp [Value.oneCell']
def RetLayN (x : Int) (l : List Sh) (w : World) (e : Ending) (w' : World) : Prop := ∃ A n c, e = .returned (.tuple #[.slice A n c, .int .i64 x]) ∧ Shs w' A n c l ∧ Below w.heap.size w w' ∧ ∀ a, A = some a → w.heap.size ≤ a.block
theorem lay_new (inc pos : Int) (A : Option Addr) (n c : Nat) (ls : List (List Int)) (vs : List (Option Addr × Nat × Nat)) (w : World) (h : Bods w A n c ls vs) (hn : n ≤ 1000) (hinc : i64R inc) (hpos : i64R pos) (hT : Tab w) :
  Calls Tryz.prog 28 #[.int .i64 inc, .int .i64 pos, .slice A n c] w (RetLayN (layErr inc pos ls) (layRes inc pos ls) w) := by
 have CI := Lib.hid (fun W => isSeq_any inc W hinc)
 have CP := Lib.hid (fun W => isSeq_any pos W hpos)
 have hB := h.isB
 have HB := Lib.hid h
 have HT := Lib.hid hT
 have hlen := h.len
 by_cases hs : isSeqB inc = false ∨ isSeqB pos = false
 ·have e1 : layErr inc pos ls = 1 := by unfold layErr; rw [if_pos hs]
  have e2 : layRes inc pos ls = [] := by unfold layRes; rw [e1]; rfl
  rw [e1, e2]
  have RR : Hid (RetLayN 1 [] w (.returned (.tuple #[.slice none 0 0, .int .i64 1])) w) := Lib.hid ⟨none, 0, 0, rfl, Shs.nil w, Below.refl _ _, fun _ q => nomatch q⟩
  clear h hT hB e1 e2
  cases h1 : isSeqB inc with
  | false =>
   rw [h1] at CI
   clear hs h1
   go_enter Tryz.func28, Tryz.ntmps28
   go_wp2_with fail
   refine (CI.out _).mono ?_
   rintro e w1 ⟨rfl, rfl⟩
   go_wp2_with fail
   go_ret2
   exact RR.out
  | true =>
   have h2 : isSeqB pos = false := by
    rcases hs with q | q
    ·rw [h1] at q; cases q
    ·exact q
   rw [h1] at CI
   rw [h2] at CP
   clear hs h1 h2
   go_enter Tryz.func28, Tryz.ntmps28
   go_wp2_with fail
   refine (CI.out _).mono ?_
   rintro e w1 ⟨rfl, rfl⟩
   go_wp2_with fail
   refine (CP.out _).mono ?_
   rintro e w2 ⟨rfl, rfl⟩
   go_wp2_with fail
   go_ret2
   exact RR.out
 ·have h1 : isSeqB inc = true := by cases q : isSeqB inc; exact absurd (.inl q) hs; rfl
  have h2 : isSeqB pos = true := by cases q : isSeqB pos; exact absurd (.inr q) hs; rfl
  rw [h1] at CI
  rw [h2] at CP
  have hi2 : 0 ≤ inc ∧ inc ≤ 1099511627775 := of_decide_eq_true h1
  have hp2 : 0 ≤ pos ∧ pos ≤ 1099511627775 := of_decide_eq_true h2
  obtain ⟨P, rfl⟩ := Int.eq_ofNat_of_zero_le hp2.1
  have CJ := Lib.hid (join_any A n c ls vs w h hn hT)
  have ER : layErr inc (P : Int) ls = if ∃ b ∈ ls, 4096 < b.length then 12 else if 1099511627776 < (P : Int) + (shN (allL ls).length : Int) then 162 else 0 := by unfold layErr; rw [if_neg hs]
  have HE := Lib.hid ER
  have HIS := Lib.hid hB
  clear h hT hB hs h1 h2 ER
  obtain ⟨x, hx⟩ : ∃ x, layErr inc (P : Int) ls = x := ⟨_, rfl⟩
  obtain ⟨rl, hrl⟩ : ∃ r, layRes inc (P : Int) ls = r := ⟨_, rfl⟩
  rw [hx, hrl]
  have HX := Lib.hid hx
  have HRL := Lib.hid hrl
  clear hx hrl
  go_enter Tryz.func28, Tryz.ntmps28
  go_wp2_with fail
  refine (CI.out _).mono ?_
  rintro e w1 ⟨rfl, rfl⟩
  go_wp2_with fail
  refine (CP.out _).mono ?_
  rintro e w2 ⟨rfl, rfl⟩
  go_wp2_with fail
  refine CJ.out.mono ?_
  rintro e w3 (⟨hlong, rfl, b3⟩ | ⟨hshort, A1, n1, c1, A2, n2, c2, rfl, ho1, hf2, hn2, b3⟩)
  ·have e1 : x = 12 := by rw [← HX.out, HE.out, if_pos hlong]
   have e2 : rl = [] := by rw [← HRL.out]; unfold layRes; rw [HX.out, e1]; rfl
   subst e1 e2
   have RR : Hid (RetLayN 12 [] w (.returned (.tuple #[.slice none 0 0, .int .i64 12])) w3) := Lib.hid ⟨none, 0, 0, rfl, Shs.nil _, b3, fun _ q => nomatch q⟩
   clear b3 hlong CJ
   go_wp2_with fail
   go_ret2
   exact RR.out
  ·have hno : ¬ ∃ b ∈ ls, 4096 < b.length := fun ⟨b, q1, q2⟩ => by have := hshort b q1; omega
   have hal : (allL ls).length = n1 := by have := ho1.1; simpa using this
   have hal2 := allL_le ls hshort
   have CC := Lib.hid (cut_any A1 n1 c1 (allL ls) w3 (Bty.of_own ho1 (allL_isB HIS.out)) (by omega))
   have hBG := Lib.hid hf2
   have B3 := Lib.hid b3
   have HE2 : Hid (x = if 1099511627776 < (P : Int) + (shN (allL ls).length : Int) then 162 else 0) := Lib.hid (by rw [← HX.out, HE.out, if_neg hno])
   have HSH := Lib.hid hshort
   clear ho1 hf2 b3 hno CJ HE hshort
   go_wp2_with fail
   refine CC.out.mono ?_
   rintro e w4 ⟨A3, n3, c3, us, rfl, hP, b4⟩
   have hn3 : n3 = shN (allL ls).length := by have := hP.len; simp [partsL] at this; exact this.symm
   have hcap3 := hP.flt.cap
   have hmax3 := hP.flt.max
   unfold maxLen at hmax3
   obtain ⟨N, hN⟩ : ∃ N, shN (allL ls).length = N := ⟨_, rfl⟩
   rw [hN] at hn3 HE2
   subst hn3
   have hNb : n3 ≤ 100000 := by rw [← hN]; unfold shN; omega
   have HP := Lib.hid hP
   have B4 := Lib.hid (B3.out.trans (b4.mono B3.out.size))
   have HBG := Lib.hid (hBG.out.below b4)
   have HN := Lib.hid hN
   clear hP b4 hBG CC B3 hN
   by_cases hfull : 1099511627776 < (P : Int) + (n3 : Int)
   ·have e1 : x = 162 := by rw [HE2.out, if_pos hfull]
    have e2 : rl = [] := by rw [← HRL.out]; unfold layRes; rw [HX.out, e1]; rfl
    subst e1 e2
    have hgt : 1099511627775 - (P : Int) + 1 < (n3 : Int) := by omega
    have RR : Hid (RetLayN 162 [] w (.returned (.tuple #[.slice none 0 0, .int .i64 162])) w4) := Lib.hid ⟨none, 0, 0, rfl, Shs.nil _, B4.out, fun _ q => nomatch q⟩
    clear HP HBG B4
    go_wp2_with fail
    go_ret2
    exact RR.out
   ·have e1 : x = 0 := by rw [HE2.out, if_neg hfull]
    have e2 : rl = layShs inc (P : Int) ls := by rw [← HRL.out]; unfold layRes; rw [HX.out, e1]; rfl
    subst e1
    have hgt : ¬ 1099511627775 - (P : Int) + 1 < (n3 : Int) := by omega
    have hmk := make_shs n3 (by omega) w4
    obtain ⟨b, hb⟩ : ∃ b, w4.heap.size = b := ⟨_, rfl⟩
    obtain ⟨W5, hW5⟩ : ∃ W5, W5 = w4.alloc (.cells (madeCells #[.int .i64 0, .int .i64 0, .int .i64 0, .string ByteArray.empty] (n3 * 4)) 93) := ⟨_, rfl⟩
    have hrow := ShRow.made w4 n3
    rw [← hW5] at hmk hrow
    rw [hb] at hmk hrow
    have B5 : Hid (Below w4.heap.size w4 W5) := Lib.hid (by rw [hW5]; exact (Below.refl _ _).alloc (Nat.le_refl _) _)
    have R0 : Hid (ShRow W5 b n3 (fun j => if j < 0 then shAt inc (P : Int) ls 0 j else sh0)) := Lib.hid (hrow.congr (fun i _ => by rw [if_neg (by omega)]))
    have HBB := Lib.hid hb
    have HRL2 := Lib.hid e2
    have HX2 := Lib.hid (layShs_in (inc := inc) (pos := (P : Int)) (ls := ls) ⟨hi2.1, by omega⟩ hp2.1 (by rw [HN.out]; omega))
    clear hW5 hrow hb e2 HE2 HX HRL hfull
    go_wp2_with fail
    go_loopw [48] (fun q wr => ∃ (i : Nat), i ≤ n3 ∧ q = .int .i64 i ∧ ShRow wr b n3 (fun j => if j < i then shAt inc (P : Int) ls 0 j else sh0) ∧ Below w4.heap.size w4 wr) (fun q _ => n3 - (intOf q).toNat)
    case atStart => exact ⟨0, Nat.zero_le _, rfl, R0.out, B5.out⟩
    case round =>
     obtain ⟨i, hin, rfl, hrow, hbel⟩ := hrel
     clear R0 B5 hmk
     by_cases hlt : i < n3
     ·obtain ⟨g, off, hA, hc⟩ := (HP.out.below hbel).at_ (by omega)
      subst hA
      obtain ⟨hc0, hby⟩ := hc i hlt
      obtain ⟨B, m, d, hv⟩ : ∃ B m d, us.getD i sl0 = (B, m, d) := ⟨_, _, _, rfl⟩
      rw [hv] at hc0 hby
      rw [parts_get _ _ (by rw [HN.out]; exact hlt)] at hby
      have kc := conv_byt hby
      have ht : wr.there b (i * 4) 4 := fun j hj => by
       have : j = 0 ∨ j = 1 ∨ j = 2 ∨ j = 3 := by omega
       refine ⟨?_, hrow.frz _⟩
       obtain ⟨v, hv⟩ : ∃ v, ((fun j => if j < i then shAt inc (P : Int) ls 0 j else sh0) i).cells[j]? = some v := ⟨_, List.getElem?_eq_getElem (by rw [Sh.cells_len]; exact hj)⟩
       rw [hrow.cell i hlt j v hv]
       rfl
      have RP : Hid (ShRow (wr.setCells b (i * 4) (shAt inc (P : Int) ls 0 i).cells) b n3 (fun j => if j < i + 1 then shAt inc (P : Int) ls 0 j else sh0)) := Lib.hid ((hrow.put i hlt (shAt inc (P : Int) ls 0 i)).congr (fun j hj => by
       by_cases q : j = i
       ·subst q; rw [if_pos rfl, if_pos (by omega)]
       ·rw [if_neg q]
        by_cases q2 : j < i
        ·rw [if_pos q2, if_pos (by omega)]
        ·rw [if_neg q2, if_neg (by omega)]))
      have RB : Hid (Below w4.heap.size w4 (wr.setCells b (i * 4) (shAt inc (P : Int) ls 0 i).cells)) := Lib.hid (by
       have hbb := HBB.out
       exact (((hbel.setCell (p := ⟨b, i * 4, none⟩) (show w4.heap.size ≤ b by omega) _).setCell (p := ⟨b, i * 4 + 1, none⟩) (show w4.heap.size ≤ b by omega) _).setCell (p := ⟨b, i * 4 + 1 + 1, none⟩) (show w4.heap.size ≤ b by omega) _).setCell (p := ⟨b, i * 4 + 1 + 1 + 1, none⟩) (show w4.heap.size ≤ b by omega) _)
      clear hc hv hby
      go_wp2_with (refine wpList_store_mid rfl _ _ _ rfl b (i * 4) #[.int .i64 inc, .int .i64 ((P : Int) + (i : Int)), .int .i64 255, .string (strOfNums (partL (allL ls) i))] rfl rfl ht sh_info4 (sh_one4 _ _ _ _) ?_)
      have RP2 := Lib.hid (show ShRow (wr.setCells b (i * 4) [.int .i64 inc, .int .i64 ((P : Int) + (i : Int)), .int .i64 255, .string (strOfNums (partL (allL ls) i))]) b n3 (fun j => if j < i + 1 then shAt inc (P : Int) ls 0 j else sh0) ∧ Below w4.heap.size w4 (wr.setCells b (i * 4) [.int .i64 inc, .int .i64 ((P : Int) + (i : Int)), .int .i64 255, .string (strOfNums (partL (allL ls) i))]) from ⟨RP.out, RB.out⟩)
      clear RP RB ht kc hrow hbel hc0
      go_wp2_with fail
      go_roundw
      case rel => exact ⟨i + 1, by omega, by go_num, RP2.out.1, RP2.out.2⟩
      case measure => simp [intOf]; omega
     ·have hie : i = n3 := by omega
      subst hie
      have R1 := Lib.hid (show ShRow wr b i (shAt inc (P : Int) ls 0) from hrow.congr (fun j hj => by rw [if_pos hj]))
      have B1 := Lib.hid hbel
      clear hrow hbel HP
      go_wp2_with fail
      go_loopw [66] (fun q wr => ∃ (k : Nat), k ≤ n ∧ q = .int .i64 k ∧ ShRow wr b i (shAt inc (P : Int) ls k) ∧ Below w4.heap.size w4 wr) (fun q _ => n - (intOf q).toNat)
      case atStart => exact ⟨0, Nat.zero_le _, rfl, R1.out, B1.out⟩
      case round =>
       obtain ⟨k, hkn, rfl, hrow, hbel⟩ := hrel
       clear R1 B1
       by_cases hlt : k < n
       ·obtain ⟨g, off, hA, hc⟩ := (HBG.out.below hbel).at_get 0 intV intV_len (by rw [bgns_len, hn2]) (by omega)
        subst hA
        have hkl : k < ls.length := by omega
        have hc0 : wr.cell? ⟨g, off + k, none⟩ = some (.int .i64 ((bgn ls k : Nat) : Int)) := by
         have := hc k (by omega) 0 _ rfl
         rw [bgns_getD ls k hkl] at this
         simpa using this
        have hlt2 : bgn ls k < (allL ls).length := by rw [← bgn_end (Nat.le_refl ls.length)]; exact bgn_smono hkl (Nat.le_refl _)
        have hSN := shAt_next inc (P : Int) ls k
        obtain ⟨bb, hbb⟩ : ∃ x, bgn ls k = x := ⟨_, rfl⟩
        rw [hbb] at hc0 hlt2
        obtain ⟨q, hq⟩ : ∃ q, bb / 242 = q := ⟨_, rfl⟩
        obtain ⟨r, hr⟩ : ∃ r, bb % 242 = r := ⟨_, rfl⟩
        have hq1 : (bb : Int) / 242 = (q : Int) := by omega
        have hq2 : (bb : Int).tdiv 242 = (q : Int) := by rw [Int.tdiv_eq_ediv_of_nonneg (by omega)]; exact hq1
        have hr1 : (bb : Int) % 242 = (r : Int) := by omega
        have hr2 : (bb : Int).tmod 242 = (r : Int) := by rw [Int.tmod_eq_emod_of_nonneg (by omega)]; exact hr1
        have hqi : q < i := by rw [← HN.out]; unfold shN; omega
        have hbb2 : bb < 100000000 := by omega
        have hcf : wr.cell? ⟨b, q * 4 + 2, none⟩ = some (.int .i64 (fstIn ((bgns ls).take k) q)) := hrow.cell q hqi 2 _ rfl
        have hff := hrow.frz (q * 4 + 2)
        obtain ⟨f, hf⟩ : ∃ f, fstIn ((bgns ls).take k) q = f := ⟨_, rfl⟩
        rw [hf] at hcf
        by_cases h255 : f = 255
        ·subst h255
         have NR : Hid (ShRow (wr.setCell ⟨b, q * 4 + 2, none⟩ (.int .i64 (r : Int))) b i (shAt inc (P : Int) ls (k + 1)) ∧ Below w4.heap.size w4 (wr.setCell ⟨b, q * 4 + 2, none⟩ (.int .i64 (r : Int)))) := Lib.hid ⟨(hrow.putFirst q hqi (r : Int)).congr (fun j hj => by
          rw [hSN j hkl, hbb, hq, hr]
          by_cases e : j = q
          ·subst e
           rw [if_pos rfl, if_pos ⟨hf, rfl⟩]
          ·rw [if_neg e, if_neg (fun e2 => e e2.2.symm)]), hbel.setCell (p := ⟨b, q * 4 + 2, none⟩) (show w4.heap.size ≤ b by have := HBB.out; omega) _⟩
         clear hrow hbel hc hSN hq hr hbb hf
         go_wp2_with fail
         go_roundw
         case rel => exact ⟨k + 1, by omega, by go_num, NR.out.1, NR.out.2⟩
         case measure => simp [intOf]; omega
        ·have hne : (f == 255) = false := by simp; exact h255
         have NR : Hid (ShRow wr b i (shAt inc (P : Int) ls (k + 1)) ∧ Below w4.heap.size w4 wr) := Lib.hid ⟨hrow.congr (fun j hj => by
          rw [hSN j hkl, hbb, hq, hr]
          rw [if_neg (fun e2 => h255 (by rw [← hf, e2.2]; exact e2.1))]), hbel⟩
         clear hrow hbel hc hSN hq hr hbb hf h255
         go_wp2_with fail
         go_roundw
         case rel => exact ⟨k + 1, by omega, by go_num, NR.out.1, NR.out.2⟩
         case measure => simp [intOf]; omega
       ·have hke : k = n := by omega
        have RR : Hid (RetLayN 0 rl w (.returned (.tuple #[.slice (some ⟨b, 0, none⟩) i i, .int .i64 0])) wr) := Lib.hid ⟨some ⟨b, 0, none⟩, i, i, rfl, by
         rw [HRL2.out]
         exact hrow.shs (by omega) _ (by rw [layShs_len, HN.out]) (fun j hj => shAt_all inc (P : Int) ls k j (by omega) (by rw [HN.out]; exact hj)) HX2.out, B4.out.trans (hbel.mono B4.out.size), fun a ha => by
         injection ha with ha
         subst ha
         have := B4.out.size
         have := HBB.out
         show w.heap.size ≤ b
         omega⟩
        clear hrow hbel HBG B4 HX2 HRL2
        go_wp2_with fail
        go_ret2
        exact RR.out
theorem lay_any (inc pos : Int) (A : Option Addr) (n c : Nat) (ls : List (List Int)) (vs : List (Option Addr × Nat × Nat)) (w : World) (h : Bods w A n c ls vs) (hn : n ≤ 1000) (hinc : i64R inc) (hpos : i64R pos) (hT : Tab w) :
  Calls Tryz.prog 28 #[.int .i64 inc, .int .i64 pos, .slice A n c] w (RetLay (layErr inc pos ls) (layRes inc pos ls) w) :=
 (lay_new inc pos A n c ls vs w h hn hinc hpos hT).mono fun _ _ ⟨A, n, c, h1, h2, h3, _⟩ => ⟨A, n, c, h1, h2, h3⟩
end

/- a log's copyOf, and sealedSize: how many bytes a body has in sheets. -/
section
open Go.RowKit
theorem partL_size (l : List Int) (k : Nat) : (partL l k).length = min 242 (l.length - 242 * k) := by unfold partL; rw [List.length_take, List.length_drop]
theorem part_next (N k : Nat) (h : k < shN N) : min (242 * k) N + min 242 (N - 242 * k) = min (242 * (k + 1)) N := by unfold shN at h; omega
theorem sealed_le (l : List Int) (h : l.length ≤ 4096) : 5 ≤ (sealL l).length ∧ (sealL l).length ≤ 4110 := ⟨sealL_pos l, sealL_le l h⟩
theorem Bods.one {w : World} {A : Option Addr} {n c : Nat} {l : List Int} (h : Bty w A n c l) : Bods (w.alloc (.cells #[.slice A n c] 59)) (some ⟨w.heap.size, 0, none⟩) 1 1 [l] [(A, n, c)] :=
 ⟨⟨rfl, Nat.le_refl _, by unfold maxLen; omega, (fun q => nomatch q), fun _ => ⟨w.heap.size, 0, rfl, fun j u hu => by
  rw [Nat.zero_add, (Bk.new w 59 #[.slice A n c]).cell]
  simpa [slV] using hu⟩⟩, rfl, rfl, fun i hi => by
  obtain rfl : i = 0 := by omega
  exact (h.below ((Below.refl _ _).alloc (Nat.le_refl _) _)).byt⟩
theorem wgSealed_any (A : Option Addr) (n c : Nat) (l : List Int) (w : World) (h : Bty w A n c l) (hl : l.length ≤ 4096) (hT : Tab w) : Calls Tryz.prog 22 #[.slice A n c] w (Ret (.int .i64 ((sealL l).length : Nat)) w) := by
 obtain ⟨W1, hW1⟩ : ∃ W1, W1 = w.alloc (.cells #[.slice A n c] 59) := ⟨_, rfl⟩
 have hb1 : Below w.heap.size w W1 := by rw [hW1]; exact (Below.refl _ _).alloc (Nat.le_refl _) _
 have e1 : layErr 0 0 [l] = 0 := by
  unfold layErr
  rw [if_neg (by decide), if_neg (by rintro ⟨b, hb, q⟩; simp at hb; subst hb; omega), if_neg]
  have := (sealed_le l hl).2
  unfold shN
  simp only [allL, List.flatMap_cons, List.flatMap_nil, List.append_nil]
  omega
 have e2 : layRes 0 0 [l] = layShs 0 0 [l] := if_pos e1
 have e3 : allL [l] = sealL l := by simp [allL]
 have CL := Lib.hid (lay_any 0 0 (some ⟨w.heap.size, 0, none⟩) 1 1 [l] [(A, n, c)] W1 (by rw [hW1]; exact Bods.one h) (by omega) ⟨by omega, by omega⟩ ⟨by omega, by omega⟩ (hT.ret hb1))
 rw [e1, e2] at CL
 have HG : Hid (∀ k, k < shN (sealL l).length → (((layShs 0 0 [l]).getD k sh0).data.size : Int) = (min 242 ((sealL l).length - 242 * k) : Nat)) := Lib.hid (fun k hk => by
  rw [shAt_all 0 0 [l] 1 k (Nat.le_refl _) (by rw [e3]; exact hk)]
  have hr : isB (sealL l) := by rw [← e3]; exact allL_isB (fun b hb => by simp at hb; subst hb; exact h.byt.rng)
  have : (shAt 0 0 [l] 1 k).data = strOfNums (partL (sealL l) k) := by unfold shAt; rw [e3]
  rw [this]
  have e4 : (strOfNums (partL (sealL l) k)).size = (partL (sealL l) k).length := by
   have := nums_len (strOfNums (partL (sealL l) k))
   rw [nums_str (l := partL (sealL l) k) ((hr.drop _).take _)] at this
   exact this.symm
  rw [e4, partL_size])
 have HN : Hid ((layShs 0 0 [l]).length = shN (sealL l).length) := Lib.hid (by rw [layShs_len, e3])
 have hN := sealed_le l hl
 obtain ⟨N, hNN⟩ : ∃ N, (sealL l).length = N := ⟨_, rfl⟩
 rw [hNN] at HG HN hN ⊢
 have HB1 := Lib.hid hb1
 have HW1 := Lib.hid hW1
 obtain ⟨ls, hls⟩ : ∃ ls, layShs 0 0 [l] = ls := ⟨_, rfl⟩
 rw [hls] at CL HG HN
 clear h hT e1 e2 e3 hb1 hW1 hNN hls hl
 go_enter Tryz.func22, Tryz.ntmps22
 go_wp2_with fail
 rw [← HW1.out]
 clear HW1
 refine CL.out.mono ?_
 rintro e w2 ⟨X, m, y, rfl, hs, hb2⟩
 have hm : m = shN N := by rw [← HN.out]; exact hs.len.symm
 subst hm
 have HS := Lib.hid hs
 have HB2 : Hid (Below w.heap.size w w2) := Lib.hid (HB1.out.trans (hb2.mono HB1.out.size))
 clear hs hb2 CL HB1
 go_wp2_with fail
 go_loopw [3, 16] (fun s q wr => ∃ k : Nat, k ≤ shN N ∧ q = .int .i64 k ∧ s = .int .i64 ((min (242 * k) N : Nat) : Int) ∧ Below w2.heap.size w2 wr) (fun _ q _ => shN N - (intOf q).toNat)
 case atStart => exact ⟨0, Nat.zero_le _, rfl, by simp, Below.refl _ _⟩
 case round =>
  obtain ⟨k, hk, rfl, rfl, hbw⟩ := hrel
  have HBW := Lib.hid hbw
  have hshN : shN N ≤ 17 := by unfold shN; omega
  by_cases hlt : k < shN N
  ·obtain ⟨g, off, hA, hc⟩ := (HS.out.below hbw).flt.at_get sh0 Sh.cells Sh.cells_len HS.out.len (by omega)
   subst hA
   have hsz := HG.out k hlt
   have hnx := part_next N k hlt
   obtain ⟨x, hx⟩ : ∃ x, ls.getD k sh0 = x := ⟨_, rfl⟩
   have hci := hc k hlt
   rw [hx] at hci hsz
   obtain ⟨xi, xp, xf, xd⟩ := x
   have HCI : Hid (wr.rangeAt g (off + k * 4) [.int .i64 xi, .int .i64 xp, .int .i64 xf, .string xd]) := Lib.hid hci
   have hsz' : (xd.size : Int) = (min 242 (N - 242 * k) : Nat) := hsz
   obtain ⟨W3, hW3⟩ : ∃ W3, W3 = wr.alloc (.cells #[.int .i64 xi, .int .i64 xp, .int .i64 xf, .string xd] 93) := ⟨_, rfl⟩
   have HW3 := Lib.hid hW3
   have v3 : W3.cell? ⟨wr.heap.size, 3, none⟩ = some (.string xd) := by rw [hW3]; exact (Bk.new wr _ _).cell 3
   have B3 : Hid (Below w2.heap.size w2 W3) := Lib.hid (by rw [hW3]; exact HBW.out.alloc HBW.out.size _)
   obtain ⟨q, hq⟩ : ∃ q, wr.heap.size = q := ⟨_, rfl⟩
   have HQ := Lib.hid hq
   rw [hq] at v3
   clear hci hc hx hsz hbw hW3 hq
   go_upto_region 6 with (first
    | (refine wpList_load_mid rfl 93 _ rfl g (off + k * 4) rfl [.int .i64 xi, .int .i64 xp, .int .i64 xf, .string xd] _ HCI.out Tryz.underlying93 rfl (by kernel_rfl) ?_; simp only [Act.put])
    | (refine wpList_store_new rfl (W := wr) rfl (c := #[.int .i64 0, .int .i64 0, .int .i64 0, .string ⟨#[]⟩]) (c' := #[.int .i64 xi, .int .i64 xp, .int .i64 xf, .string xd]) rfl (by first | rfl | (rw [HQ.out]; rfl)) rfl (by kernel_rfl) rfl (by simp [Value.oneCell']) ?_; simp only [Act.put]))
   (try rw [HQ.out])
   rw [← HW3.out]
   clear HW3 HCI
   go_wp2_with fail
   go_roundw
   case rel => exact ⟨k + 1, by omega, by go_num, by congr 1; omega, B3.out⟩
   case measure => simp [intOf]; omega
  ·have hkn : k = shN N := by omega
   subst hkn
   have R : Hid (Ret (.int .i64 (N : Int)) w (.returned (.int .i64 ((min (242 * shN N) N : Nat) : Int))) wr) := Lib.hid (by
    have : min (242 * shN N) N = N := by unfold shN; omega
    rw [this]
    exact ⟨rfl, HB2.out.trans (HBW.out.mono HB2.out.size)⟩)
   clear hbw
   go_wp2_with fail
   go_ret
   exact R.out
theorem wgCopyOf_any (x : Xr) (w : World) (hx : XrIn w.heap.size w x) (he : encE x.read = 0) : Calls Tryz.prog 27 #[x.val] w (RetRcd x.read w) := by
 obtain ⟨r, hrr⟩ : ∃ r, w.heap.size = r := ⟨_, rfl⟩
 obtain ⟨C0, hC0⟩ : ∃ C, C = x.cells := ⟨_, rfl⟩
 obtain ⟨W1, hW1⟩ : ∃ W1, W1 = (w.alloc (.cells C0 30)).alloc (.cells xr0.cells 30) := ⟨_, rfl⟩
 have hb0 : Below w.heap.size w (w.alloc (.cells C0 30)) := (Below.refl _ _).alloc (Nat.le_refl _) _
 have hb1 : Below w.heap.size w W1 := by rw [hW1]; exact hb0.alloc hb0.size _
 have HV0 : Hid (Bk W1 r 30 C0) := Lib.hid (by
  rw [hW1, ← hrr]
  exact (Bk.new w _ _).later ((Below.refl _ _).alloc (Nat.le_refl _) _))
 have HV1 : Hid (Bk W1 (r + 1) 30 xr0.cells) := Lib.hid (by
  have e : r + 1 = (w.alloc (.cells C0 30)).heap.size := by rw [← hrr]; simp
  rw [hW1, e]
  exact Bk.new _ _ _)
 have HC0 : Hid (C0.size = 16) := Lib.hid (by rw [hC0]; rfl)
 have CE := Lib.hid (recEncode_any isSame_all x W1 ((hx.calm (Calm.of_below hb1)).up hb1.size))
 have HB := Lib.hid hb1
 have HW := Lib.hid (show W1 = (w.alloc (.cells C0 30)).alloc (.cells #[.int .i64 0, .int .i64 0, .int .i64 0, .int .i64 0, .string ⟨#[]⟩, .bool false, .string ⟨#[]⟩, .bool false, .string ⟨#[]⟩, .int .i64 0, .slice none 0 0, .slice none 0 0, .slice none 0 0, .slice none 0 0, .slice none 0 0, .slice none 0 0] 30) from hW1)
 have HRR := Lib.hid hrr
 have hd := decF_enc he
 rw [he] at CE
 obtain ⟨bs, hbs⟩ : ∃ bs, encB x.read = bs := ⟨_, rfl⟩
 obtain ⟨y, hy⟩ : ∃ y, x.read = y := ⟨_, rfl⟩
 rw [hbs] at CE hd
 rw [hy] at hd ⊢
 have HD : Hid ((decF bs).1 = y) := Lib.hid (by rw [hd])
 rw [Xr.val_eq, ← hC0] at CE ⊢
 clear hx he hW1 hb0 hb1 hbs hy hd hC0
 go_enter Tryz.func27, Tryz.ntmps27
 go_upto_region 1 with fail
 (try simp only [World.size_alloc, hrr])
 rw [← HW.out]
 clear HW hrr
 go_wp2_with (refine wpList_load_row rfl 30 _ rfl r rfl 30 _ (0, 0) _ HV0.out Tryz.underlying30 rfl (by rw [HC0.out]; exact inf_rec) ?_; simp only [Act.put])
 refine CE.out.mono ?_
 rintro e v1 ⟨A, n, c, rfl, ho, hr, hb⟩
 have CR := Lib.hid (wgRecordOf_any A n c bs v1 (Byt.of_own ho hr))
 rw [HD.out] at CR
 have HB1 := Lib.hid hb
 clear ho hr hb CE
 go_wp2_with fail
 refine CR.out.mono ?_
 rintro e v2 ⟨x2, rfl, hx2, hn, hr, hb, hwt⟩
 obtain ⟨C, hC⟩ : ∃ C, C = x2.cells := ⟨_, rfl⟩
 have HC1 : Hid (C.all (·.oneCell') = true ∧ C.size = 16) := Lib.hid (by rw [hC]; exact ⟨Xr.cells_one x2, rfl⟩)
 have V1 : Hid (Bk v2 (r + 1) 30 xr0.cells) := Lib.hid ((HV1.out.later HB1.out).later hb)
 have V3 : Hid (Bk (v2.setRow (r + 1) C) (r + 1) 30 C) := Lib.hid (V1.out.rowp C)
 have R : Hid (RetRcd y w (.returned (.agg C)) (v2.setRow (r + 1) C)) := Lib.hid (by
  have h0 := HV1.out.lt
  have h1 := HB1.out.size
  have h2 := hb.size
  have h3 := HB.out.size
  have q := rcd_put (w := w) (r := r + 1) (C := C) ((HB.out.trans (HB1.out.mono HB.out.size)).trans (hb.mono (by omega))) ⟨by rw [HRR.out]; omega, V1.out.lt⟩ hx2 (fun k hk => ⟨by have := hn k hk; omega, by have := hn k hk; omega, by have := hn k hk; omega⟩)
  exact ⟨x2, by rw [hC, Xr.val_eq], q.1, q.2.1, hr, q.2.2, rcd_wrt hwt (fun k hk => by have := hn k hk; omega)⟩)
 rw [Xr.val_eq, ← hC]
 clear hx2 hn hr hb hwt hC CR
 go_wp2_with (refine wpList_store_row rfl 30 _ _ rfl (r + 1) C rfl rfl 30 _ V1.out (by rw [HC1.out.2]; exact inf_rec) (by rw [HC1.out.2]; rfl) HC1.out.1 ?_; simp only [Act.put])
 (try simp only [Exit.inBlock, Exit.then])
 refine bodyPost_ret (results_cell_row rfl _ _ (r + 1) 30 C (0, 0) _ rfl V3.out Tryz.underlying30 rfl (by rw [HC1.out.2]; exact inf_rec)) rfl ?_
 exact R.out
end

/- stamp.free, Next and isStamp answer what the plain mathematics says, and turn nothing. -/
section
open Go.RowKit
section
variable {w : World} {A : Option Addr} {c : Nat} {l : List Int}
theorem Byt.ends (h : Byt w A 256 c l) : ∃ g off, A = some ⟨g, off, none⟩ ∧ w.cell? ⟨g, off, none⟩ = some (.int .u8 (l.getD 0 0)) ∧ w.cell? ⟨g, off + 255, none⟩ = some (.int .u8 (l.getD 255 0)) := by
 obtain ⟨g, off, e, hc⟩ := h.at_ (by omega)
 exact ⟨g, off, e, hc 0 (by omega), hc 255 (by omega)⟩
end
theorem free_any (A : Option Addr) (c : Nat) (l : List Int) (w : World) (h : Byt w A 256 c l) :
  Calls Tryz.prog 79 #[.slice A 256 c] w (Same (.int .u8 (nextOf l)) w) := by
 obtain ⟨g, off, rfl, h0, h1⟩ := h.ends
 have ra := h.lt_ 0 (by omega)
 have rb := h.lt_ 255 (by omega)
 have hcap := h.cap
 have hmax := h.max
 unfold maxLen at hmax
 obtain ⟨a, ha⟩ : ∃ a, l.getD 0 0 = a := ⟨_, rfl⟩
 obtain ⟨b, hb⟩ : ∃ b, l.getD 255 0 = b := ⟨_, rfl⟩
 have HE : Hid (nextOf l = nextB a b) := Lib.hid (by unfold nextOf; rw [ha, hb])
 rw [HE.out]
 rw [ha] at h0 ra
 rw [hb] at h1 rb
 clear ha hb h HE
 go_enter Tryz.func79, Tryz.ntmps79
 go_wp2
 go_step3
 go_wp2
 go_step3
 go_wp2
 go_loopw [3, 5] (fun m q wr => ∃ j : Nat, j ≤ 3 ∧ m = .int .u8 j ∧ q = .int .u8 j ∧ (1 ≤ j → a = 1 ∨ b = 1) ∧ (2 ≤ j → a = 2 ∨ b = 2) ∧ wr = w) (fun _ q _ => 3 - (intOf q).toNat)
 case atStart => exact ⟨0, by omega, rfl, rfl, by omega, by omega, rfl⟩
 case round =>
  obtain ⟨j, hj, rfl, rfl, t1, t2, rfl⟩ := hrel
  by_cases hlt : j < 3
  ·by_cases e1 : ((j : Int) + 1) = a
   ·have d1 : (((j : Int) + 1) != a) = false := by simpa using e1
    have R : Hid ((1 ≤ j + 1 → a = 1 ∨ b = 1) ∧ (2 ≤ j + 1 → a = 2 ∨ b = 2)) := Lib.hid ⟨fun _ => by
     by_cases q : 1 ≤ j
     ·exact t1 q
     ·omega, fun q => by
     by_cases q2 : 2 ≤ j
     ·exact t2 q2
     ·omega⟩
    clear t1 t2 e1
    go_wp2_with fail
    go_roundw
    case rel => exact ⟨j + 1, by omega, by go_num, by go_num, R.out.1, R.out.2, trivial⟩
    case measure => simp [intOf]; omega
   ·have d1 : (((j : Int) + 1) != a) = true := by simpa using e1
    by_cases e2 : ((j : Int) + 1) = b
    ·have d2 : (((j : Int) + 1) != b) = false := by simpa using e2
     have R : Hid ((1 ≤ j + 1 → a = 1 ∨ b = 1) ∧ (2 ≤ j + 1 → a = 2 ∨ b = 2)) := Lib.hid ⟨fun _ => by
      by_cases q : 1 ≤ j
      ·exact t1 q
      ·omega, fun q => by
      by_cases q2 : 2 ≤ j
      ·exact t2 q2
      ·omega⟩
     clear t1 t2 e1 e2
     go_wp2_with fail
     go_roundw
     case rel => exact ⟨j + 1, by omega, by go_num, by go_num, R.out.1, R.out.2, trivial⟩
     case measure => simp [intOf]; omega
    ·have d2 : (((j : Int) + 1) != b) = true := by simpa using e2
     have R : Hid ((j : Int) + 1 = nextB a b) := Lib.hid (by
      have : j = 0 ∨ j = 1 ∨ j = 2 := by omega
      rcases this with q | q | q
      ·rw [nextB_one ⟨by omega, by omega⟩]; omega
      ·rw [nextB_two (t1 (by omega)) ⟨by omega, by omega⟩]; omega
      ·rw [nextB_three (t1 (by omega)) (t2 (by omega))]; omega)
     clear t1 t2 e1 e2
     go_wp2_with fail
     (try rw [Exit.noGoto_ret])
     go_ret
     exact ⟨by rw [← R.out]; rfl, rfl⟩
  ·obtain rfl : j = 3 := by omega
   have R : Hid (3 = nextB a b) := Lib.hid (nextB_three (t1 (by omega)) (t2 (by omega))).symm
   clear t1 t2
   go_wp2_with fail
   (try rw [Exit.noGoto_ret])
   go_ret
   exact ⟨by rw [← R.out]; rfl, rfl⟩
theorem isStamp_any (m : Int) (hm : 0 ≤ m ∧ m < 256) (w : World) : Calls Tryz.prog 110 #[.int .u8 m] w (Same (.bool (decide (1 ≤ m ∧ m ≤ 3))) w) := by
 by_cases h1 : 1 ≤ m
 ·by_cases h3 : m ≤ 3
  ·have e : decide (1 ≤ m ∧ m ≤ 3) = true := by simp; omega
   rw [e]
   go_enter Tryz.func110, Tryz.ntmps110
   go_wp2_with fail
   go_ret
   exact ⟨rfl, rfl⟩
  ·have e : decide (1 ≤ m ∧ m ≤ 3) = false := by simp; omega
   rw [e]
   go_enter Tryz.func110, Tryz.ntmps110
   go_wp2_with fail
   go_ret
   exact ⟨rfl, rfl⟩
 ·have e : decide (1 ≤ m ∧ m ≤ 3) = false := by simp; omega
  rw [e]
  go_enter Tryz.func110, Tryz.ntmps110
  go_wp2_with fail
  go_ret
  exact ⟨rfl, rfl⟩
end

/- stamp.stamped, Wrap and Open answer what the plain mathematics says, in new memory. -/
section
open Go.RowKit
theorem wrap_none (m : Int) : u8C (fun i => if i = 255 then m else if i = 0 then m else 0) = (byC (wrapL m [])).toArray := by
 apply Array.ext_getElem?
 intro i
 have hs : (wrapL m []).length = 256 := by
  unfold wrapL
  rw [List.length_cons, List.length_append, padL_len (by simp)]
  rfl
 by_cases hi : i < 256
 ·rw [u8C_at _ i hi, List.getElem?_toArray]
  unfold byC
  rw [List.getElem?_map]
  have : (wrapL m [])[i]? = some (if i = 255 then m else if i = 0 then m else 0) := by
   unfold wrapL padL
   by_cases h0 : i = 0
   ·subst h0; rfl
   ·obtain ⟨j, rfl⟩ : ∃ j, i = j + 1 := ⟨i - 1, by omega⟩
    rw [List.getElem?_cons_succ]
    by_cases h1 : j + 1 = 255
    ·obtain rfl : j = 254 := by omega
     rfl
    ·rw [if_neg h1, if_neg h0, List.nil_append, List.getElem?_append_left (by rw [List.length_replicate]; show j < 254; omega), List.getElem?_replicate]
     rw [if_pos (by show j < 254; omega)]
  rw [this]
  rfl
 ·have h1 : (u8C (fun i => if i = 255 then m else if i = 0 then m else 0))[i]? = none := Array.getElem?_eq_none (by rw [u8C_size]; omega)
  have h2 : ((byC (wrapL m [])).toArray)[i]? = none := Array.getElem?_eq_none (by rw [List.size_toArray, byC_len, hs]; omega)
  rw [h1, h2]
theorem splice_wrap (m : Int) (p : List Int) (h : p.length ≤ 254) : splice (byC (wrapL m [])) 1 (byC p) = byC (wrapL m p) := by
 unfold splice byC wrapL
 rw [List.length_map]
 simp only [List.map_cons, List.take_succ_cons, List.take_zero]
 rw [show 1 + p.length = p.length + 1 from by omega, List.drop_succ_cons]
 simp only [List.cons_append, List.nil_append]
 congr 1
 unfold padL
 simp only [List.nil_append, List.map_append, List.map_replicate, List.map_cons, List.map_nil, List.length_nil, Nat.sub_zero, List.append_assoc]
 rw [List.drop_append_of_le_length (by rw [List.length_replicate]; omega), List.drop_replicate]
theorem stamped_any (m : Int) (hm : 0 ≤ m ∧ m < 256) (A : Option Addr) (n c : Nat) (p : List Int) (w : World) (h : Byt w A n c p) (hn : n ≤ 254) :
  Calls Tryz.prog 78 #[.int .u8 m, .slice A n c] w (RetFull (wrapL m p) w) := by
 have HM := Lib.hid make_256
 have hcap := h.cap
 have hmax := h.max
 unfold maxLen at hmax
 have hpl := h.len
 obtain ⟨W1, hW1⟩ : ∃ W1, W1 = w.alloc (.cells (u8C (fun _ => 0)) 5) := ⟨_, rfl⟩
 have hB1 : Bk W1 w.heap.size 5 (u8C (fun _ => 0)) := by rw [hW1]; exact heap_alloc_new _ _
 have hb1 : Below w.heap.size w W1 := by rw [hW1]; exact (Below.refl _ _).alloc (Nat.le_refl _) _
 have hB2 := hB1.setc 0 (.int .u8 m)
 rw [u8C_set] at hB2
 have hb2 : Below w.heap.size w (W1.setCell ⟨w.heap.size, 0, none⟩ (.int .u8 m)) := hb1.setCell (Nat.le_refl _) _
 have hB3 := hB2.setc 255 (.int .u8 m)
 rw [u8C_set, wrap_none] at hB3
 have hb3 : Below w.heap.size w ((W1.setCell ⟨w.heap.size, 0, none⟩ (.int .u8 m)).setCell ⟨w.heap.size, 255, none⟩ (.int .u8 m)) := hb2.setCell (Nat.le_refl _) _
 have hc0 : W1.cell? ⟨w.heap.size, 0, none⟩ = some (.int .u8 0) := by rw [hB1.cell]; exact u8C_at _ 0 (by omega)
 have hf0 : W1.frozen? ⟨w.heap.size, 0, none⟩ = false := hB1.frz 0
 have hc1 : W1.cell? ⟨w.heap.size, 255, none⟩ = some (.int .u8 0) := by rw [hB1.cell]; exact u8C_at _ 255 (by omega)
 have hf1 : W1.frozen? ⟨w.heap.size, 255, none⟩ = false := hB1.frz 255
 have hc2 : (W1.setCell ⟨w.heap.size, 0, none⟩ (.int .u8 m)).cell? ⟨w.heap.size, 255, none⟩ = some (.int .u8 0) := by rw [hB2.cell]; exact (u8C_at _ 255 (by omega)).trans (by simp)
 have hf2 : (W1.setCell ⟨w.heap.size, 0, none⟩ (.int .u8 m)).frozen? ⟨w.heap.size, 255, none⟩ = false := hB2.frz 255
 have HP := Lib.hid h
 have HS : Hid ((wrapL m []).length = 256) := Lib.hid (wrapL_sec hm (by simp) (by simp)).1
 have HB3 := Lib.hid hB3
 have Hb3 := Lib.hid hb3
 have HW := Lib.hid hW1
 have HMK : Hid ((Instr.makeSlice 59 (.int .i64 256) (.int .i64 256)).run Tryz.prog w = .ok (.slice (some ⟨w.heap.size, 0, none⟩) 256 256) W1) := by
  rw [hW1]; exact Lib.hid (HM.out w)
 clear h hB1 hB2 hB3 hb1 hb2 hb3 HM hW1
 go_enter Tryz.func78, Tryz.ntmps78
 go_wp2_with (first
  | (refine wpList_run rfl (exec_makeSlice rfl HMK.out) ?_)
  | (refine wpList_copy_splice rfl _ _ 59 59 rfl 5 Tryz.underlying59 (by kernel_rfl) (some ⟨w.heap.size, 1, none⟩) A 254 255 n c (by rfl) (by rfl) w.heap.size 1 (byC (wrapL m [])) 5 HB3.out (byC p) (by rw [byC_len, hpl]; show n = min n 254; omega)
       (fun hq => ⟨rfl, by
        obtain ⟨g, off, e, hc⟩ := HP.out.at_ (by rw [byC_len, hpl] at hq; exact hq)
        exact ⟨_, e, (HP.out.below Hb3.out).cells _ e⟩⟩)
       (by rw [byC_len, byC_len, hpl, HS.out]; omega) (byC_one p) w.heap.size w Hb3.out (Nat.le_refl _) ?_))
 intro W2 hg hb
 have hg' := hg.out
 rw [splice_wrap m p (by omega)] at hg'
 have R : Hid (RetFull (wrapL m p) w (.returned (.slice (some ⟨w.heap.size, 0, none⟩) 256 256)) W2) := Lib.hid ⟨_, Nat.le_refl _, rfl, hg', hb⟩
 clear hg hg' hb HP HB3 Hb3 HMK HW
 go_wp2_with fail
 go_ret
 exact R.out
def RetOwnE (l : List Int) (x : Int) (w : World) (e : Ending) (w' : World) : Prop :=
 ∃ A n c, e = .returned (.tuple #[.slice A n c, .int .i64 x]) ∧ w'.ownsRow w.heap.size 5 1 (.slice A n c) n (l.map (Value.int .u8)) ∧ (∀ x ∈ l, 0 ≤ x ∧ x < 256) ∧ Below w.heap.size w w'
theorem RetOwnE.byt {l : List Int} {x : Int} {w : World} {e : Ending} {w' : World} (h : RetOwnE l x w e w') : RetByt2 l .i64 x w e w' := by
 obtain ⟨A, n, c, he, ho, hr, hb⟩ := h
 exact ⟨A, n, c, he, Byt.of_own ho hr, hb⟩
theorem RetOwnE.no (x : Int) {w w' : World} (h : Below w.heap.size w w') : RetOwnE [] x w (.returned (.tuple #[.slice none 0 0, .int .i64 x])) w' :=
 ⟨none, 0, 0, rfl, World.ownsRow_nil _ _ _ _, by simp, h⟩
theorem Byt.body {w : World} {g off c : Nat} {l : List Int} (h : Byt w (some ⟨g, off, none⟩) 256 c l) : Byt w (some ⟨g, off + 1, none⟩) 254 (c - 1) (bodyL l) := by
 have hcap := h.cap
 have hmax := h.max
 refine ⟨bodyL_len h.len, by omega, by omega, bodyL_rng h.rng, (fun q => nomatch q), fun _ => ⟨g, off + 1, rfl, fun i hi => ?_⟩⟩
 obtain ⟨g1, o1, e, hc⟩ := h.at_ (by omega)
 injection e with e
 injection e with e1 e2
 subst e1 e2
 have := hc (i + 1) (by omega)
 rw [show off + 1 + i = off + (i + 1) from by omega, this]
 congr 2
 unfold bodyL
 simp only [List.getD_eq_getElem?_getD, List.getElem?_take, hi, if_true, List.getElem?_drop]
 rw [show 1 + i = i + 1 from by omega]
theorem stOpen_own (A : Option Addr) (n c : Nat) (l : List Int) (w : World) (h : Byt w A n c l) :
  Calls Tryz.prog 85 #[.slice A n c] w (RetOwnE (openB l) (openE l) w) := by
 have hl := h.len
 have hcap := h.cap
 have hmax := h.max
 unfold maxLen at hmax
 by_cases hn : n = 256
 ·subst hn
  obtain ⟨g, off, rfl, h0, h1⟩ := h.ends
  have ra := h.lt_ 0 (by omega)
  have rb := h.lt_ 255 (by omega)
  have HB := Lib.hid h
  have HR : Hid (rightL l ↔ l.getD 0 0 = l.getD 255 0 ∧ 1 ≤ l.getD 0 0 ∧ l.getD 0 0 ≤ 3) := Lib.hid Iff.rfl
  have HL := Lib.hid hl
  obtain ⟨a, ha⟩ : ∃ a, l.getD 0 0 = a := ⟨_, rfl⟩
  obtain ⟨b, hb⟩ : ∃ b, l.getD 255 0 = b := ⟨_, rfl⟩
  rw [ha, hb] at HR
  rw [ha] at h0 ra
  rw [hb] at h1 rb
  clear ha hb h hl
  have CI : Hid (∀ W, Calls Tryz.prog 110 #[.int .u8 a] W (Same (.bool (decide (1 ≤ a ∧ a ≤ 3))) W)) := Lib.hid (isStamp_any a ra)
  by_cases hab : a = b
  ·subst hab
   have d1 : (a != a) = false := by simp
   by_cases hs : 1 ≤ a ∧ a ≤ 3
   ·have E : Hid (openE l = 0 ∧ openB l = bodyL l) := Lib.hid ⟨openE_right HL.out (HR.out.2 ⟨rfl, hs⟩), openB_right HL.out (HR.out.2 ⟨rfl, hs⟩)⟩
    rw [E.out.1, E.out.2]
    rw [show decide (1 ≤ a ∧ a ≤ 3) = true from by simp; omega] at CI
    have CC : Hid (∀ k, Calls Tryz.prog 103 #[.slice (some ⟨g, off + 1, none⟩) 254 (c - 1)] (w.drewN k) (RetOwn (bodyL l) (w.drewN k))) := Lib.hid (fun k => clone_own _ 254 (c - 1) (bodyL l) (w.drewN k) (HB.out.body.drewN k) (by omega))
    clear hs E HR HL
    go_enter Tryz.func85, Tryz.ntmps85
    go_wp2_with fail
    go_quiet (first | (go_at_call 110; exact Calls.quiet_of_same ((CI.out _).mono fun _ _ h => ⟨h.1, h.2.symm⟩)))
    go_wp2_with fail
    refine (CC.out _).mono ?_
    rintro e w2 ⟨A2, n2, c2, rfl, hb2, hr2, hbel2⟩
    have R : Hid (w2.ownsRow w.heap.size 5 1 (.slice A2 n2 c2) n2 ((bodyL l).map (Value.int .u8)) ∧ (∀ x ∈ bodyL l, 0 ≤ x ∧ x < 256) ∧ Below w.heap.size w w2) := Lib.hid ⟨hb2, hr2, (below_drewN (Below.refl _ _) _).trans hbel2⟩
    clear hb2 hr2 hbel2 CC CI
    go_wp2_with fail
    go_ret2
    exact ⟨_, _, _, rfl, R.out.1, R.out.2.1, R.out.2.2⟩
   ·have E : Hid (openE l = 50 ∧ openB l = []) := Lib.hid ⟨openE_torn HL.out (fun q => hs (HR.out.1 q).2), openB_bad (by rw [openE_torn HL.out (fun q => hs (HR.out.1 q).2)]; omega)⟩
    rw [E.out.1, E.out.2]
    rw [show decide (1 ≤ a ∧ a ≤ 3) = false from by simp; omega] at CI
    clear hs E HR HL
    go_enter Tryz.func85, Tryz.ntmps85
    go_wp2_with fail
    go_quiet (first | (go_at_call 110; exact Calls.quiet_of_same ((CI.out _).mono fun _ _ h => ⟨h.1, h.2.symm⟩)))
    go_wp2_with fail
    go_ret2
    exact RetOwnE.no _ (below_drewN (Below.refl _ _) _)
  ·have d1 : (a != b) = true := by simpa using hab
   have E : Hid (openE l = 50 ∧ openB l = []) := Lib.hid ⟨openE_torn HL.out (fun q => hab (HR.out.1 q).1), openB_bad (by rw [openE_torn HL.out (fun q => hab (HR.out.1 q).1)]; omega)⟩
   rw [E.out.1, E.out.2]
   clear E HR HL CI
   go_enter Tryz.func85, Tryz.ntmps85
   go_wp2_with fail
   go_quiet (fail)
   go_wp2_with fail
   go_ret2
   exact RetOwnE.no _ (below_drewN (Below.refl _ _) _)
 ·have E : Hid (openE l = 12 ∧ openB l = []) := Lib.hid ⟨openE_len (by omega), openB_bad (by rw [openE_len (by omega)]; omega)⟩
  have hd : ((n : Int) != 256) = true := by simp; omega
  rw [E.out.1, E.out.2]
  clear h hl E
  go_enter Tryz.func85, Tryz.ntmps85
  go_wp2_with fail
  go_ret2
  exact RetOwnE.no _ (Below.refl _ _)
theorem stOpen_any (A : Option Addr) (n c : Nat) (l : List Int) (w : World) (h : Byt w A n c l) :
  Calls Tryz.prog 85 #[.slice A n c] w (RetByt2 (openB l) .i64 (openE l) w) := (stOpen_own A n c l w h).mono fun _ _ h => h.byt
end

/- stamp.Put and Get at a disk among other things: what they answer, what becomes of the disk. -/
section
open Go.RowKit
def putE (s : St) (n : Int) (p : List Int) : Int := if 254 < p.length then 12 else if s.rErr n ≠ 0 then s.rErr n else s.wErr n (wrapL (nextOf (s.rBytes n)) p)
def putS (s : St) (n : Int) (p : List Int) : St := if 254 < p.length then s else if s.rErr n ≠ 0 then s else s.write n (wrapL (nextOf (s.rBytes n)) p)
theorem rBytes_sec {s : St} (ok : s.Ok) {n : Int} (h : s.rErr n = 0) : Sec (s.rBytes n) := by
 unfold St.rBytes
 rw [if_pos h]
 exact ok.now _
section
variable {B : Nat} {R : Res} {w : World} {b : Nat} {s : St}
theorem stPut_any (h : Has B ((dsk b s).star R) w) (hB : B ≤ w.heap.size) (A : Option Addr) (m c : Nat) (p : List Int) (hp : Byt w A m c p) (n : Int) (hn : -9223372036854775808 ≤ n ∧ n ≤ 9223372036854775807) (hlim : s.pend.length < 999999) :
  Calls Tryz.prog 51 #[.pointer (some ⟨b, 0, none⟩), .int .i64 n, .slice A m c] w (RetHas (.int .i64 (putE s n p)) B ((dsk b (putS s n p)).star R) w) := by
 have hcap := hp.cap
 have hmax := hp.max
 unfold maxLen at hmax
 have hpl := hp.len
 by_cases h1 : 254 < m
 ·have E : Hid (putE s n p = 12 ∧ putS s n p = s) := Lib.hid ⟨by unfold putE; rw [if_pos (by omega)], by unfold putS; rw [if_pos (by omega)]⟩
  have H := Lib.hid h
  rw [E.out.1, E.out.2]
  clear hp h E hpl
  go_enter Tryz.func51, Tryz.ntmps51
  go_wp2_with fail
  go_ret
  exact ⟨rfl, H.out, Below.refl _ _⟩
 ·have CR := Lib.hid (hasD_read h n)
  obtain ⟨r, hr⟩ : ∃ r, s.rErr n = r := ⟨_, rfl⟩
  by_cases h2 : r = 0
  ·subst h2
   have E : Hid (putE s n p = s.wErr n (wrapL (nextOf (s.rBytes n)) p) ∧ putS s n p = s.write n (wrapL (nextOf (s.rBytes n)) p)) := Lib.hid ⟨by unfold putE; rw [if_neg (by omega), if_neg (by omega)], by unfold putS; rw [if_neg (by omega), if_neg (by omega)]⟩
   rw [E.out.1, E.out.2]
   rw [hr] at CR
   have HS := Lib.hid (rBytes_sec (hasD_ok h) hr)
   have H := Lib.hid h
   have HP := Lib.hid hp
   have HPL := Lib.hid hpl
   obtain ⟨l, hl⟩ : ∃ l, s.rBytes n = l := ⟨_, rfl⟩
   rw [hl] at CR HS ⊢
   clear hp h E hpl hr hl
   go_enter Tryz.func51, Tryz.ntmps51
   go_wp2_with fail
   refine CR.out.mono ?_
   rintro e w1 ⟨A1, n1, c1, rfl, hb1, _, hbel1⟩
   obtain rfl : n1 = 256 := by rw [← hb1.len]; exact HS.out.1
   have CF := Lib.hid (free_any A1 c1 l w1 hb1)
   have hrg := nextOf_rng l
   have CS := Lib.hid (stamped_any (nextOf l) (by omega) A m c p w1 (HP.out.below hbel1) (by omega))
   have HB1 := Lib.hid hbel1
   have hc1 := hb1.cap
   have hm1 := hb1.max
   unfold maxLen at hm1
   clear hb1 hbel1 CR hrg
   go_wp2_with fail
   refine CF.out.mono ?_
   rintro e w2 ⟨rfl, rfl⟩
   go_wp2_with fail
   refine CS.out.mono ?_
   rintro e w3 ⟨g, hg, rfl, hb3, hbel3⟩
   have hrg := nextOf_rng l
   have HB3 : Hid (Below w.heap.size w w3) := Lib.hid (HB1.out.trans (hbel3.mono HB1.out.size))
   have CW := Lib.hid (hasD_write H.out HB3.out hB (Byt.sec hb3 (wrapL_sec (by omega) HP.out.rng (by rw [HPL.out]; omega))) (fun k hk => by
    simp [Value.ownBlock] at hk
    subst hk
    exact Nat.le_trans HB1.out.size hg) n hn hlim)
   clear hb3 hbel3 hg hrg CS CF
   go_wp2_with fail
   refine CW.out.mono ?_
   rintro e w4 ⟨rfl, h4, hb4⟩
   have R4 : Hid (Has B ((dsk b (s.write n (wrapL (nextOf l) p))).star R) w4 ∧ Below B w w4) := Lib.hid ⟨h4, (HB3.out.mono hB).trans hb4⟩
   clear h4 hb4 CW
   go_wp2_with fail
   go_ret
   exact ⟨rfl, R4.out.1, R4.out.2⟩
  ·have E : Hid (putE s n p = r ∧ putS s n p = s) := Lib.hid ⟨by unfold putE; rw [if_neg (by omega), if_pos (by omega), hr], by unfold putS; rw [if_neg (by omega), if_pos (by omega)]⟩
   rw [E.out.1, E.out.2]
   rw [hr] at CR
   have hd : (r != 0) = true := by simpa using h2
   have H := Lib.hid h
   clear hp h E hpl hr
   go_enter Tryz.func51, Tryz.ntmps51
   go_wp2_with fail
   refine CR.out.mono ?_
   rintro e w1 ⟨A1, n1, c1, rfl, hb1, _, hbel1⟩
   have HB1 := Lib.hid hbel1
   clear hb1 hbel1
   go_wp2_with fail
   go_ret
   exact ⟨rfl, H.out.below HB1.out, HB1.out.mono hB⟩
end
end
end Go.Proofs.YtfmfmdiegabobabGreatDoor
