/- What it says: stamp.Put and Get at a disk among other things: what they answer, what becomes of the disk. -/
import Derived.Test.YtlchikllgmkokabStamp2
import Derived.Test.YtlchikllgmkokabHasD
namespace Go.Proofs.Ytlchikllgmkokab
open Go.RowKit

/-- What Put answers, and leaves. -/
def putE (s : St) (n : Int) (p : List Int) : Int := if 254 < p.length then 12 else if s.rErr n ≠ 0 then s.rErr n else s.wErr n (wrapL (nextOf (s.rBytes n)) p)
def putS (s : St) (n : Int) (p : List Int) : St := if 254 < p.length then s else if s.rErr n ≠ 0 then s else s.write n (wrapL (nextOf (s.rBytes n)) p)
/-- What Get answers. -/
def getE (s : St) (n : Int) : Int := if s.rErr n ≠ 0 then s.rErr n else openE (s.rBytes n)
def getB (s : St) (n : Int) : List Int := if s.rErr n ≠ 0 then [] else openB (s.rBytes n)

theorem rErr_cases (s : St) (n : Int) : s.rErr n = 0 ∨ s.rErr n = 1 ∨ s.rErr n = 40 := by unfold St.rErr; split <;> (try split) <;> simp
theorem rBytes_sec {s : St} (ok : s.Ok) {n : Int} (h : s.rErr n = 0) : Sec (s.rBytes n) := by
  unfold St.rBytes
  rw [if_pos h]
  exact ok.now _
theorem rErr_num {s : St} {n : Int} (h : s.rErr n = 0) : 0 ≤ n ∧ n < s.num ∧ s.gone = false := by
  unfold St.rErr at h
  split at h
  · omega
  · split at h
    · omega
    · rename_i h1 h2
      exact ⟨by omega, by omega, by simpa using h2⟩

section
variable {B : Nat} {R : Res} {w : World} {b : Nat} {s : St}

set_option maxHeartbeats 2000000 in
theorem put_any (h : Has B ((dsk b s).star R) w) (hB : B ≤ w.heap.size) (A : Option Addr) (m c : Nat) (p : List Int) (hp : Byt w A m c p) (n : Int) (hn : -9223372036854775808 ≤ n ∧ n ≤ 9223372036854775807) (hlim : s.pend.length < 999999) :
    Calls Try.prog 19 #[.pointer (some ⟨b, 0, none⟩), .int .i64 n, .slice A m c] w (RetHas (.int .i64 (putE s n p)) B ((dsk b (putS s n p)).star R) w) := by
  have hcap := hp.cap
  have hmax := hp.max
  unfold maxLen at hmax
  have hpl := hp.len
  by_cases h1 : 254 < m
  · have E : Hid (putE s n p = 12 ∧ putS s n p = s) := Lib.hid ⟨by unfold putE; rw [if_pos (by omega)], by unfold putS; rw [if_pos (by omega)]⟩
    have H := Lib.hid h
    rw [E.out.1, E.out.2]
    clear hp h E hpl
    go_enter Try.func19, Try.ntmps19
    go_wp2_with fail
    go_ret
    exact ⟨rfl, H.out, Below.refl _ _⟩
  · have CR := Lib.hid (hasD_read h n)
    obtain ⟨r, hr⟩ : ∃ r, s.rErr n = r := ⟨_, rfl⟩
    by_cases h2 : r = 0
    · subst h2
      have E : Hid (putE s n p = s.wErr n (wrapL (nextOf (s.rBytes n)) p) ∧ putS s n p = s.write n (wrapL (nextOf (s.rBytes n)) p)) := Lib.hid ⟨by unfold putE; rw [if_neg (by omega), if_neg (by omega)], by unfold putS; rw [if_neg (by omega), if_neg (by omega)]⟩
      rw [E.out.1, E.out.2]
      rw [hr] at CR
      have HS := Lib.hid (rBytes_sec (hasD_ok h) hr)
      have H := Lib.hid h
      have HP := Lib.hid hp
      have HPL := Lib.hid hpl
      obtain ⟨l, hl⟩ : ∃ l, s.rBytes n = l := ⟨_, rfl⟩
      rw [hl] at CR HS ⊢
      clear hp h E hpl hr hl
      go_enter Try.func19, Try.ntmps19
      go_wp2_with fail
      refine CR.out.mono ?_
      rintro e w1 ⟨A1, n1, c1, rfl, hb1, _, hbel1⟩
      obtain rfl : n1 = 256 := by rw [← hb1.len]; exact HS.out.1
      have CF := Lib.hid (free_any A1 c1 l w1 hb1)
      have hrg := nextOf_rng l
      have CS := Lib.hid (stamped_any (nextOf l) (by omega) A m c p w1 (HP.out.below hbel1) (by omega))
      have HB1 := Lib.hid hbel1
      have hc1 := hb1.cap
      have hm1 := hb1.max
      unfold maxLen at hm1
      clear hb1 hbel1 CR hrg
      go_wp2_with fail
      refine CF.out.mono ?_
      rintro e w2 ⟨rfl, rfl⟩
      go_wp2_with fail
      refine CS.out.mono ?_
      rintro e w3 ⟨g, hg, rfl, hb3, hbel3⟩
      have hrg := nextOf_rng l
      have HB3 : Hid (Below w.heap.size w w3) := Lib.hid (HB1.out.trans (hbel3.mono HB1.out.size))
      have CW := Lib.hid (hasD_write H.out HB3.out hB (Byt.sec hb3 (wrapL_sec (by omega) HP.out.rng (by rw [HPL.out]; omega))) (fun k hk => by
        simp [Value.ownBlock] at hk
        subst hk
        exact Nat.le_trans HB1.out.size hg) n hn hlim)
      clear hb3 hbel3 hg hrg CS CF
      go_wp2_with fail
      refine CW.out.mono ?_
      rintro e w4 ⟨rfl, h4, hb4⟩
      have R4 : Hid (Has B ((dsk b (s.write n (wrapL (nextOf l) p))).star R) w4 ∧ Below B w w4) := Lib.hid ⟨h4, (HB3.out.mono hB).trans hb4⟩
      clear h4 hb4 CW
      go_wp2_with fail
      go_ret
      exact ⟨rfl, R4.out.1, R4.out.2⟩
    · have E : Hid (putE s n p = r ∧ putS s n p = s) := Lib.hid ⟨by unfold putE; rw [if_neg (by omega), if_pos (by omega), hr], by unfold putS; rw [if_neg (by omega), if_pos (by omega)]⟩
      rw [E.out.1, E.out.2]
      rw [hr] at CR
      have hd : (r != 0) = true := by simpa using h2
      have H := Lib.hid h
      clear hp h E hpl hr
      go_enter Try.func19, Try.ntmps19
      go_wp2_with fail
      refine CR.out.mono ?_
      rintro e w1 ⟨A1, n1, c1, rfl, hb1, _, hbel1⟩
      have HB1 := Lib.hid hbel1
      clear hb1 hbel1
      go_wp2_with fail
      go_ret
      exact ⟨rfl, H.out.below HB1.out, HB1.out.mono hB⟩

set_option maxHeartbeats 2000000 in
theorem get_own (h : Has B ((dsk b s).star R) w) (n : Int) (hn : -9223372036854775808 ≤ n ∧ n ≤ 9223372036854775807) :
    Calls Try.prog 23 #[.pointer (some ⟨b, 0, none⟩), .int .i64 n] w (RetOwn2 (getB s n) (getE s n) w) := by
  have CR := Lib.hid (hasD_read h n)
  obtain ⟨r, hr⟩ : ∃ r, s.rErr n = r := ⟨_, rfl⟩
  by_cases h2 : r = 0
  · subst h2
    have E : Hid (getE s n = openE (s.rBytes n) ∧ getB s n = openB (s.rBytes n)) := Lib.hid ⟨by unfold getE; rw [if_neg (by omega)], by unfold getB; rw [if_neg (by omega)]⟩
    rw [E.out.1, E.out.2]
    rw [hr] at CR
    obtain ⟨l, hl⟩ : ∃ l, s.rBytes n = l := ⟨_, rfl⟩
    rw [hl] at CR ⊢
    clear h E hr hl
    go_enter Try.func23, Try.ntmps23
    go_wp2_with fail
    refine CR.out.mono ?_
    rintro e w1 ⟨A1, n1, c1, rfl, hb1, _, hbel1⟩
    have CO := Lib.hid (open_own A1 n1 c1 l w1 hb1)
    have HB1 := Lib.hid hbel1
    clear hb1 hbel1 CR
    go_wp2_with fail
    refine CO.out.mono ?_
    rintro e w2 ⟨A2, n2, c2, rfl, hb2, hr2, hbel2⟩
    have R2 : Hid (w2.ownsRow w.heap.size 5 1 (.slice A2 n2 c2) n2 ((openB l).map (Value.int .u8)) ∧ (∀ x ∈ openB l, 0 ≤ x ∧ x < 256) ∧ Below w.heap.size w w2) := Lib.hid ⟨owns_low hb2 HB1.out.size, hr2, HB1.out.trans (hbel2.mono HB1.out.size)⟩
    clear hb2 hr2 hbel2 CO
    go_wp2_with fail
    go_ret2
    exact ⟨_, _, _, rfl, R2.out.1, R2.out.2.1, R2.out.2.2⟩
  · have E : Hid (getE s n = r ∧ getB s n = []) := Lib.hid ⟨by unfold getE; rw [if_pos (by omega), hr], by unfold getB; rw [if_pos (by omega)]⟩
    rw [E.out.1, E.out.2]
    rw [hr] at CR
    have hd : (r != 0) = true := by simpa using h2
    clear h E hr
    go_enter Try.func23, Try.ntmps23
    go_wp2_with fail
    refine CR.out.mono ?_
    rintro e w1 ⟨A1, n1, c1, rfl, hb1, _, hbel1⟩
    have HB1 := Lib.hid hbel1
    clear hb1 hbel1 CR
    go_wp2_with fail
    go_ret2
    exact RetOwn2.no _ HB1.out

theorem get_any (h : Has B ((dsk b s).star R) w) (n : Int) (hn : -9223372036854775808 ≤ n ∧ n ≤ 9223372036854775807) :
    Calls Try.prog 23 #[.pointer (some ⟨b, 0, none⟩), .int .i64 n] w (RetByt2 (getB s n) .i64 (getE s n) w) := (get_own h n hn).mono fun _ _ h => h.byt

/-- The bytes beside the disk. -/
theorem row_beside {S : Res} {w' : World} {A : Option Addr} {n c : Nat} {l : List Int} (h : Has B S w) (hB : B ≤ w.heap.size) (hb : Below w.heap.size w w')
    (ho : w'.ownsRow w.heap.size 5 1 (.slice A n c) n (l.map (Value.int .u8))) : Has B ((rowOf 5 (.slice A n c) n l).star S) w' :=
  h.new hB hb ⟨owns_low ho (Nat.zero_le _), fun k hk => ho.lt k hk, fun _ f => f.2⟩
theorem row_byt {S : Res} {A : Option Addr} {n c : Nat} {l : List Int} (h : Has B ((rowOf 5 (.slice A n c) n l).star S) w) (hr : ∀ x ∈ l, 0 ≤ x ∧ x < 256) : Byt w A n c l := by
  obtain ⟨F, hF⟩ := h.fst.ex
  exact Byt.of_own hF.1 hr
end

/-- Put at no disk. -/
theorem put_nil (w : World) (n : Int) : Calls Try.prog 19 #[.pointer none, .int .i64 n, .slice none 0 0] w (Same (.int .i64 2) w) := by
  have CR := Lib.hid (read_nil w n)
  go_enter Try.func19, Try.ntmps19
  go_wp2_with fail
  refine CR.out.mono ?_
  rintro e w1 ⟨rfl, rfl⟩
  go_wp2_with fail
  go_ret
  exact ⟨rfl, rfl⟩
end Go.Proofs.Ytlchikllgmkokab
