/- What it says: the walk of the law DiskEnds: whatever comes in, it answers true and turns nothing that was there. -/
import Derived.Test.YtlchikllgmkokaaPlayed
import Derived.Test.YtlchikllgmkokaaSame
namespace Go.Proofs.Ytlchikllgmkokaa
open Go.RowKit

/-- A row of one-cell elements. -/
def own1 (e : TypeId) (v : Value) (n : Nat) (xs : List Value) : Res where
  is w F := w.ownsRow 0 e 1 v n xs ∧ (∀ k, v.ownBlock = some k → F k) ∧ ∀ k, F k → k < w.heap.size
  lt _ _ h := h.2.2
  keep w w' F := fun h hs hk => ⟨owns_keep h.1 (fun k q => hk k (h.2.1 k q)), h.2.1, fun k f => Nat.lt_of_lt_of_le (h.2.2 k f) hs⟩

def rangeI (k : Nat) : List Int := (List.range k).map fun (i : Nat) => (i : Int)
theorem rangeI_succ (k : Nat) : rangeI (k + 1) = rangeI k ++ [(k : Int)] := by unfold rangeI; rw [List.range_succ, List.map_append]; rfl
theorem rangeI_len (k : Nat) : (rangeI k).length = k := by simp [rangeI]
theorem rangeI_mem (k i : Nat) (h : i < k) : (i : Int) ∈ rangeI k := by unfold rangeI; exact List.mem_map.2 ⟨i, List.mem_range.2 h, rfl⟩
theorem rangeI_at (k i : Nat) (h : i < k) : (rangeI k).getD i 0 = (i : Int) := by
  unfold rangeI
  rw [List.getD_eq_getElem?_getD, List.getElem?_map, List.getElem?_range h]
  rfl

theorem nts_own {w : World} {base : Nat} {A : Option Addr} {n c : Nat} {e : TypeId} (h : w.ownsRow base e 1 (.slice A n c) n ((rangeI n).map (Value.int .i64))) (hn : n ≤ 1000000) : Nts w A n c (rangeI n) := by
  rcases h.2 with ⟨hv, h0⟩ | ⟨g, cap, cur, hv, _, _, h1, h2, _⟩
  · injection hv with e1 e2 e3
    subst e1 e3 h0
    exact ⟨rfl, Nat.le_refl _, Nat.zero_le _, fun i hi => absurd hi (by omega), fun h => absurd h (by omega)⟩
  · injection hv with e1 e2 e3
    subst e1 e3
    refine ⟨rangeI_len n, h1, h2, fun i hi => by rw [rangeI_at n i hi]; omega, fun _ => ⟨g, 0, rfl, fun i hi => ?_⟩⟩
    have := h.cells (g := g) rfl i (.int .i64 ((rangeI n).getD i 0)) (by
      have hl : i < (rangeI n).length := by rw [rangeI_len]; exact hi
      rw [List.getElem?_map, List.getElem?_eq_getElem hl]
      simp [List.getD, List.getElem?_eq_getElem hl])
    have hadd : (⟨g, 0, none⟩ : Addr).add i = ⟨g, 0 + i, none⟩ := by unfold Addr.add; split <;> simp_all
    rwa [hadd] at this

/-- All writes kept: what there was. -/
theorem left_all (s : St) (ok : s.Ok) (cut : Nat → Nat) : ∀ k, k ≤ s.pend.length → (∀ i, i < k → cut i = 256) → s.left_ cut k = s.upTo k
  | 0, _, _ => rfl
  | k + 1, hk, hc => by
    show upd (s.left_ cut k) (s.at_ k).1 (over (s.at_ k).2 _ (cut k)) = upd (s.upTo k) (s.at_ k).1 (s.at_ k).2
    rw [left_all s ok cut k (by omega) (fun i hi => hc i (by omega)), hc k (by omega)]
    have h1 := ok.at_ k (by omega)
    have h2 := ok.upTo k (by omega) (s.at_ k).1
    congr 1
    unfold over
    rw [List.take_of_length_le (by rw [h1.2.1]; omega), List.drop_of_length_le (by rw [h2.1]; omega), List.append_nil]

theorem crash_all (s : St) (ok : s.Ok) (n : Nat) : (s.crash ⟨rangeI s.pend.length, false, 0⟩).now n = s.now n := by
  show s.left_ (Crs.of ⟨rangeI s.pend.length, false, 0⟩ s.pend.length) s.pend.length n = s.upTo s.pend.length n
  rw [left_all s ok _ _ (Nat.le_refl _) (fun i hi => by
    unfold Crs.of
    rw [if_neg (by simp), if_pos (rangeI_mem _ i hi)])]

theorem left_none (s : St) (cut : Nat → Nat) : ∀ k, (∀ i, i < k → cut i = 0) → s.left_ cut k = s.syn
  | 0, _ => rfl
  | k + 1, hc => by
    show upd (s.left_ cut k) (s.at_ k).1 (over (s.at_ k).2 _ (cut k)) = s.syn
    rw [left_none s cut k (fun i hi => hc i (by omega)), hc k (by omega), over_zero, upd_self]

theorem crash_none (s : St) (n : Nat) : (s.crash ⟨[], false, 0⟩).now n = s.syn n := by
  show s.left_ (Crs.of ⟨[], false, 0⟩ s.pend.length) s.pend.length n = s.syn n
  rw [left_none s _ _ (fun i _ => by
    unfold Crs.of
    rw [if_neg (by simp), if_neg (by simp)])]

theorem rd_ok {s : St} (hg : s.gone = false) (hn : s.num = 4) (k : Nat) (hk : k < 4) : s.rErr k = 0 ∧ s.rBytes k = s.now k := by
  have e : s.rErr k = 0 := by unfold St.rErr; rw [if_neg (by omega), if_neg (by rw [hg]; simp)]
  exact ⟨e, by unfold St.rBytes; rw [if_pos e]; rfl⟩

/-- The row appended to, beside the other things. -/
theorem own1_append {B : Nat} {e : TypeId} {A : Option Addr} {k c g cap : Nat} {xs ys : List Value} {R : Res} {W W3 : World} (h : Has B ((own1 e (.slice A k c) k xs).star R) W) (hB : B ≤ W.heap.size)
    (ho : W3.ownsRow 0 e 1 (.slice (some ⟨g, 0, none⟩) (k + 1) cap) (k + 1) ys) (hg : W.grownBy W3 (Value.slice A k c).ownBlock) (hat : (Value.slice A k c).ownBlock = some g ∨ g = W.heap.size) (hlt : g < W3.heap.size) :
    Has B ((own1 e (.slice (some ⟨g, 0, none⟩) (k + 1) cap) (k + 1) ys).star R) W3 ∧ Below B W W3 := by
  obtain ⟨F, hF, hturn⟩ := h.turn1 hB
  refine hturn _ _ ⟨⟨ho, fun q hq => ?_, fun q f => ?_⟩, (Fr.refl F W).grown hg (fun q hq => .inl (hF.2.1 q hq))⟩
  · have : g = q := by simpa [Value.ownBlock] using hq
    subst this
    rcases hat with h1 | h1
    · exact .inl (hF.2.1 _ h1)
    · exact .inr ⟨by omega, hlt⟩
  · rcases f with f | f
    · exact Nat.lt_of_lt_of_le (hF.2.2 q f) hg.size
    · exact f.2

set_option maxRecDepth 100000 in
set_option maxHeartbeats 8000000 in
theorem diskEnds_walk (A : Option Addr) (n c : Nat) (cs : List Cal) (w : World) (h : Cls w A n c cs) :
    Calls Try.prog 5 #[.slice A n c] w (Ret (.bool true) w) := by
  obtain ⟨i0, hi, hz0, hz1, hz2⟩ := info_parts info_int
  have CL := Lib.hid (long_any A n c cs w h)
  by_cases hlong : longC cs = true
  · rw [hlong] at CL
    clear hlong h
    go_enter Try.func5, Try.ntmps5
    go_wp2_with fail
    refine CL.out.mono ?_
    rintro e w1 ⟨rfl, rfl⟩
    go_wp2_with fail
    refine (awake_any _).mono ?_
    rintro e w1 ⟨rfl, b1⟩
    have B1 := Lib.hid b1
    clear b1
    go_wp2_with fail
    go_ret
    exact ⟨rfl, B1.out⟩
  · have hlong' : longC cs = false := by simpa using hlong
    have hn60 : n ≤ 60 := by rw [← h.len]; exact (longC_no hlong').1
    rw [hlong'] at CL
    have CP := Lib.hid (played_any A n c cs w h hn60)
    clear hlong hlong' h
    go_enter Try.func5, Try.ntmps5
    go_wp2_with fail
    refine CL.out.mono ?_
    rintro e w1 ⟨rfl, rfl⟩
    go_wp2_with fail
    refine CP.out.mono ?_
    rintro e w1 ⟨b, g, s, rfl, hp, hs, hb⟩
    have HP := Lib.hid hp
    have hpl := hp.pend
    have R0 : Hid (Has w.heap.size ((own1 3 (.slice none 0 0) 0 ((rangeI 0).map (Value.int .i64))).star (both b g s)) w1 ∧ Below w.heap.size w w1) := Lib.hid ⟨hs.new hb.size (Below.refl _ _) ⟨World.ownsRow_nil _ _ _ _, fun q hq => by simp [Value.ownBlock] at hq, fun q f => f.2⟩, hb⟩
    clear hp hs hb CL CP
    go_wp2_with fail
    go_loopw [6, 5] (fun q o wr => ∃ k A c, k ≤ s.pend.length ∧ q = .int .i64 (k : Nat) ∧ o = .slice A k c ∧ Has w.heap.size ((own1 3 (.slice A k c) k ((rangeI k).map (Value.int .i64))).star (both b g s)) wr ∧ Below w.heap.size w wr) (fun q _ _ => s.pend.length - (intOf q).toNat)
    case atStart => exact ⟨0, none, 0, Nat.zero_le _, rfl, rfl, R0.out⟩
    case round =>
      obtain ⟨k, A1, c1, hk, rfl, rfl, hs, hb⟩ := hrel
      obtain ⟨SA, sc, LA, lc, x0, x1, x3, x4⟩ := hasR_cells (R := emp.star (dsk b s)) hs.snd.sw
      have HS := Lib.hid hs
      have HB := Lib.hid hb
      by_cases hlt : k < s.pend.length
      · have hbA : Below wr.heap.size wr (wr.alloc (.cells #[.int .i64 k] 3)) := (Below.refl _ _).alloc (Nat.le_refl _) _
        have HSA := Lib.hid (HS.out.below hbA)
        have HBA := Lib.hid (HB.out.trans (hbA.mono HB.out.size))
        obtain ⟨F1, hF1, _⟩ := HSA.out.turn1 HBA.out.size
        have HO := Lib.hid hF1.1
        clear hs hb hF1 hbA
        go_wp2_with (at_builtin; refine wpList_append_lies _ rfl _ _ 33 rfl 0 3 i0 (.int .i64 0) 1 8 Try.underlying33 hi hz0 hz1 hz2 rfl (by omega) (.slice A1 k c1) k ((rangeI k).map (Value.int .i64)) rfl HO.out ⟨wr.heap.size, 0, none⟩ 1 1 [.int .i64 k] rfl rfl (World.news_of_block (cs := #[.int .i64 k]) (t := 3) (fr := (0, 0)) (heap_alloc_new _ _)) (by simp [Value.oneCell']) (by omega) (by unfold maxLen; omega) (by omega) (Nat.zero_le _) _ rfl ?_)
        intro gg cap W3 ho3 hg3 hat3 hlt3
        have R : Hid (Has w.heap.size ((own1 3 (.slice (some ⟨gg, 0, none⟩) (k + 1) cap) (k + 1) ((rangeI (k + 1)).map (Value.int .i64))).star (both b g s)) W3 ∧ Below w.heap.size w W3) := Lib.hid (by
          have e : (rangeI (k + 1)).map (Value.int .i64) = (rangeI k).map (Value.int .i64) ++ [.int .i64 k] := by rw [rangeI_succ, List.map_append]; rfl
          rw [← e] at ho3
          obtain ⟨r1, r2⟩ := own1_append HSA.out HBA.out.size ho3 hg3 (by have hq := hat3; simp only [World.alloc, Array.size_push]; exact hq) hlt3
          exact ⟨r1, HBA.out.trans r2⟩)
        clear ho3 hg3 hat3 hlt3 HSA HBA HO HS HB x0 x1 x3 x4
        go_wp2_with fail
        go_roundw
        case rel => exact ⟨k + 1, _, _, by omega, by go_num, rfl, R.out⟩
        case measure => simp [intOf]; omega
      · obtain rfl : k = s.pend.length := by omega
        obtain ⟨F1, hF1, _⟩ := HS.out.turn1 HB.out.size
        have hnt := nts_own hF1.1 (by omega)
        have HDK : Hid (Has w.heap.size (both b g s) wr) := Lib.hid hs.snd
        have hok := hasD_ok hs.snd
        have C1 := Lib.hid (hasD_crash hs.snd hs.snd HB.out.size A1 s.pend.length c1 ⟨rangeI s.pend.length, false, 0⟩ hnt (by show _ ≤ (0 : Int) ∧ (0 : Int) ≤ _; omega))
        have HOK := Lib.hid hok
        clear hs hb hF1 hnt hok HS x0 x3 x4
        go_wp2_with fail
        unfold crsV at C1
        refine C1.out.mono ?_
        rintro e w2 ⟨bx, rfl, hx, hbx⟩
        have HXX := Lib.hid hx
        have HB2 := Lib.hid (HB.out.trans (hbx.mono HB.out.size))
        have C2 := Lib.hid (hasD_crash hx.snd hx HB2.out.size none 0 0 ⟨[], false, 0⟩ (nts_nil _) (by show _ ≤ (0 : Int) ∧ (0 : Int) ≤ _; omega))
        clear hx hbx C1
        go_wp2_with fail
        unfold crsV at C2
        refine C2.out.mono ?_
        rintro e w3 ⟨by_, rfl, hy, hby⟩
        have HB3 := Lib.hid (HB2.out.trans (hby.mono HB2.out.size))
        have HY := Lib.hid hy
        clear hby C2 HXX
        have HX := Lib.hid hy.snd
        have HD := Lib.hid hy.snd.snd
        obtain ⟨F2, SA, sc, LA, lc, sl, rl, hrd⟩ := hy.snd.snd.sw.oneR
        have HRD := Lib.hid hrd
        clear hy hrd x1
        go_wp2_with fail
        go_loopw [9] (fun q wr => ∃ j : Nat, j ≤ 4 ∧ q = .int .i64 j ∧ Below w3.heap.size w3 wr) (fun q _ => 4 - (intOf q).toNat)
        case atStart => exact ⟨0, Nat.zero_le _, rfl, Below.refl _ _⟩
        case round =>
          obtain ⟨j, hj, rfl, hbj⟩ := hrel
          by_cases hj4 : j < 4
          · have c1 := Lib.hid (hasD_read (HD.out.below hbj) (j : Int))
            rw [(rd_ok HP.out.gone HP.out.num j hj4).1, (rd_ok HP.out.gone HP.out.num j hj4).2] at c1
            have HBJ := Lib.hid hbj
            clear hbj
            go_wp2_with fail
            refine c1.out.mono ?_
            rintro e w4 ⟨A4, n4, c4, rfl, hb4, _, hbel4⟩
            have B4 := Lib.hid (HBJ.out.trans (hbel4.mono HBJ.out.size))
            have Y4 := Lib.hid hb4
            have c2 := Lib.hid (hasD_read (HX.out.below B4.out) (j : Int))
            rw [(rd_ok (s := s.crash ⟨rangeI s.pend.length, false, 0⟩) rfl HP.out.num j hj4).1, (rd_ok (s := s.crash ⟨rangeI s.pend.length, false, 0⟩) rfl HP.out.num j hj4).2, crash_all s HOK.out j] at c2
            clear hb4 hbel4 c1
            go_wp2_with fail
            refine c2.out.mono ?_
            rintro e w5 ⟨A5, n5, c5, rfl, hb5, _, hbel5⟩
            have B5 := Lib.hid (B4.out.trans (hbel5.mono B4.out.size))
            have Y45 := Lib.hid (Y4.out.below hbel5)
            have Y5 := Lib.hid hb5
            have c3 := Lib.hid (hasD_read (HY.out.below B5.out) (j : Int))
            rw [(rd_ok (s := s.crash ⟨[], false, 0⟩) rfl HP.out.num j hj4).1, (rd_ok (s := s.crash ⟨[], false, 0⟩) rfl HP.out.num j hj4).2, crash_none s j] at c3
            clear hb5 hbel5 c2
            go_wp2_with fail
            refine c3.out.mono ?_
            rintro e w6 ⟨A6, n6, c6, rfl, hb6, _, hbel6⟩
            have B6 := Lib.hid (B5.out.trans (hbel6.mono B5.out.size))
            have S1 := Lib.hid (same_yes A4 n4 c4 A5 n5 c5 _ _ w6 (Y45.out.below hbel6) (Y5.out.below hbel6) rfl)
            have Y6 := Lib.hid hb6
            clear hb6 hbel6 c3
            go_wp2_with fail
            refine S1.out.mono ?_
            rintro e w7 ⟨rfl, kd, rfl⟩
            have B7 : Hid (Below w3.heap.size w3 (w6.drewN kd)) := Lib.hid (below_drewN B6.out kd)
            have hd7 := HRD.out.below B7.out
            have hg0 : (w6.drewN kd).cell? ⟨g, 0, none⟩ = some (.slice SA s.num sc) := hd7.blk.cell 0
            obtain ⟨sb, vg, vc, rfl, hs1, hs2, hsx, hsd⟩ := hd7.syn_at j (by rw [HP.out.num]; exact hj4)
            have S2 := Lib.hid (same_yes A6 n6 c6 (some ⟨vg, 0, none⟩) 256 vc _ _ (w6.drewN kd) (Y6.out.drewN kd) (Dat.byt hsd (HOK.out.syn j)) rfl)
            have hnum : s.num = 4 := HP.out.num
            rw [hnum] at hg0 hs1
            unfold maxLen at hs2
            clear hd7 hsd S1 hnum
            have hj0 : (0 : Int) ≤ (j : Int) := Int.natCast_nonneg _
            have hj1 : (j : Int) < 4 := by omega
            go_wp2_with fail
            refine S2.out.mono ?_
            rintro e w8 ⟨rfl, kd2, rfl⟩
            have B8 : Hid (Below w3.heap.size w3 ((w6.drewN kd).drewN kd2)) := Lib.hid (below_drewN B7.out kd2)
            clear S2 hg0 hsx
            go_wp2_with fail
            go_roundw
            case rel => exact ⟨j + 1, by omega, by go_num, by have hq := B8.out; rw [World.drewN_drewN] at hq; exact hq⟩
            case measure => simp [intOf]; omega
          · have P1 := Lib.hid (hasD_pending (HX.out.below hbj))
            have P2 := Lib.hid (hasD_pending (HY.out.below hbj))
            have P3 := Lib.hid (hasD_down (HX.out.below hbj))
            have P4 := Lib.hid (hasD_syncs (HX.out.below hbj))
            have HBJ := Lib.hid (HB3.out.trans (hbj.mono HB3.out.size))
            clear hbj
            go_wp2_with fail
            refine P1.out.mono ?_
            rintro e wy ⟨rfl, rfl⟩
            go_wp2_with fail
            refine P2.out.mono ?_
            rintro e wy ⟨rfl, rfl⟩
            go_wp2_with fail
            refine P3.out.mono ?_
            rintro e wy ⟨rfl, rfl⟩
            go_wp2_with fail
            refine P4.out.mono ?_
            rintro e wy ⟨rfl, rfl⟩
            go_wp2_with fail
            refine (awake_any _).mono ?_
            rintro e w9 ⟨rfl, b9⟩
            have B9 := Lib.hid (HBJ.out.trans (b9.mono HBJ.out.size))
            clear b9
            go_wp2_with fail
            go_ret
            exact ⟨rfl, B9.out⟩
end Go.Proofs.Ytlchikllgmkokaa
