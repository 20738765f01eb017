/- What it says: what a reader's methods answer, and where they leave it; of a nil one. -/
import Derived.Test.YtlnhillpghjknaaDoorReadStep
import Derived.Test.YtlnhillpghjknaaDoorWriter
namespace Go.Proofs.YtlnhillpghjknaaDoor
open Go.RowKit

/-- A byte, a flag: value, how many bytes, error. -/
def byteF : List Int → Int × Nat × Nat
  | [] => (0, 0, 10)
  | c :: _ => (c, 1, 0)
def flagF : List Int → Bool × Nat × Nat
  | [] => (false, 0, 10)
  | c :: _ => if 1 < c then (false, 0, 11) else (c == 1, 1, 0)

theorem numDec (A : Option Addr) (n c : Nat) (l : List Int) (most : Int) (q : Addr) (w : World) (h : Byt w A n c l) (hq : w.cell? q = some (.int .i64 most)) (hm : -9223372036854775808 ≤ most ∧ most ≤ 9223372036854775807) (x k e : Nat) (hF : numF l most = (x, k, e)) :
    Calls Tryd.prog 43 #[.slice A n c, .pointer (some q)] w (Dec (.int .i64 x) k e w) := by
  have C := Lib.hid (firstNum_any A n c l most w h hm x k e hF)
  clear h hm hF
  go_enter Tryd.func43, Tryd.ntmps43
  go_wp2_with fail
  refine C.out.mono ?_
  rintro e w1 ⟨rfl, m, rfl⟩
  go_wp2_with fail
  go_ret3
  exact ⟨rfl, m, rfl⟩

theorem byteDec (A : Option Addr) (n c : Nat) (l : List Int) (w : World) (h : Byt w A n c l) :
    Calls Tryd.prog 47 #[.slice A n c] w (Dec (.int .u8 (byteF l).1) (byteF l).2.1 (byteF l).2.2 w) := by
  cases l with
  | nil =>
    have hn : n = 0 := by have := h.len; simpa using this.symm
    subst hn
    clear h
    go_enter Tryd.func47, Tryd.ntmps47
    go_wp2_with fail
    go_ret3
    exact ⟨rfl, 0, rfl⟩
  | cons x r =>
    have hn : r.length + 1 = n := h.len
    obtain ⟨g, off, rfl, hc⟩ := h.at_ (by omega)
    have hc0 : w.cell? ⟨g, off, none⟩ = some (.int .u8 x) := by
      have := hc 0 (by omega)
      simpa using this
    have hn0 : ((n : Int) == 0) = false := by simp; omega
    have hn1 : (0 : Int) < (n : Int) := by omega
    have hcap := h.cap
    have hmax := h.max
    unfold maxLen at hmax
    clear h hc hn
    go_enter Tryd.func47, Tryd.ntmps47
    go_wp2_with fail
    go_ret3
    exact ⟨rfl, 0, rfl⟩

theorem flagDec (A : Option Addr) (n c : Nat) (l : List Int) (w : World) (h : Byt w A n c l) :
    Calls Tryd.prog 49 #[.slice A n c] w (Dec (.bool (flagF l).1) (flagF l).2.1 (flagF l).2.2 w) := by
  cases l with
  | nil =>
    have hn : n = 0 := by have := h.len; simpa using this.symm
    subst hn
    clear h
    go_enter Tryd.func49, Tryd.ntmps49
    go_wp2_with fail
    go_ret3
    exact ⟨rfl, 0, rfl⟩
  | cons x r =>
    have hn : r.length + 1 = n := h.len
    obtain ⟨g, off, rfl, hc⟩ := h.at_ (by omega)
    have hc0 : w.cell? ⟨g, off, none⟩ = some (.int .u8 x) := by
      have := hc 0 (by omega)
      simpa using this
    have hn0 : ((n : Int) == 0) = false := by simp; omega
    have hn1 : (0 : Int) < (n : Int) := by omega
    have hcap := h.cap
    have hmax := h.max
    unfold maxLen at hmax
    clear h hc hn
    by_cases h1 : 1 < x
    · rw [show flagF (x :: r) = (false, 0, 11) from if_pos h1]
      go_enter Tryd.func49, Tryd.ntmps49
      go_wp2_with fail
      go_ret3
      exact ⟨rfl, 0, rfl⟩
    · rw [show flagF (x :: r) = (x == 1, 1, 0) from if_neg h1]
      go_enter Tryd.func49, Tryd.ntmps49
      go_wp2_with fail
      go_ret3
      exact ⟨rfl, 0, rfl⟩

theorem textDec (A : Option Addr) (n c : Nat) (l : List Int) (most : Int) (q : Addr) (w : World) (h : Byt w A n c l) (hq : w.cell? q = some (.int .i64 most)) (hm : -9223372036854775808 ≤ most ∧ most ≤ 9223372036854775807) (b : List Int) (u e : Nat) (hF : textF l most = (b, u, e)) :
    Calls Tryd.prog 51 #[.slice A n c, .pointer (some q)] w (Dec (.string (strOfNums b)) u e w) := by
  have C := Lib.hid (firstText_quiet A n c l most w h hm b u e hF)
  clear h hm hF
  go_enter Tryd.func51, Tryd.ntmps51
  go_wp2_with fail
  refine C.out.mono ?_
  rintro e w1 ⟨A1, n1, c1, rfl, hb, m, rfl⟩
  have kc := conv_byt (hb.drewN m)
  clear hb
  go_wp2_with fail
  go_ret3
  exact ⟨rfl, m, rfl⟩

theorem numF_le {l : List Int} (hr : ∀ x ∈ l, 0 ≤ x ∧ x < 256) {most : Int} {x k e : Nat} (hF : numF l most = (x, k, e)) : e = 0 → k ≤ l.length := fun h => by
  have := (numF_ok hr (l := l) (most := most) (by rw [hF]; exact h)).2.1
  rw [hF] at this
  exact this

theorem textF_le {l : List Int} (hr : ∀ x ∈ l, 0 ≤ x ∧ x < 256) {most : Int} {b : List Int} {u e : Nat} (hF : textF l most = (b, u, e)) : e = 0 → u ≤ l.length := fun h => by
  have hF2 := hF
  unfold textF at hF
  split at hF
  · rename_i h0
    injection hF with _ e2
    injection e2 with _ e3
    exact absurd (e3.trans h) h0
  · rename_i h0
    split at hF
    · injection hF with _ e2
      injection e2 with _ e3
      omega
    · rename_i h1
      injection hF with _ e2
      injection e2 with e2 _
      have := (numF_ok hr (l := l) (most := most) (by omega)).2.1
      omega

theorem byteF_le (l : List Int) : (byteF l).2.2 = 0 → (byteF l).2.1 ≤ l.length := by
  cases l with
  | nil => simp [byteF]
  | cons x r => simp [byteF]

theorem flagF_le (l : List Int) : (flagF l).2.2 = 0 → (flagF l).2.1 ≤ l.length := by
  cases l with
  | nil => simp [flagF]
  | cons x r =>
    by_cases h1 : 1 < x
    · rw [show flagF (x :: r) = (false, 0, 11) from if_pos h1]; simp
    · rw [show flagF (x :: r) = (x == 1, 1, 0) from if_neg h1]; simp

theorem Rd.byt {w : World} {t : TypeId} {b g : Nat} {l : List Int} {e : Nat} (h : Rd w t b g l e) : ∃ A n c, Byt w A n c l ∧ w.cell? ⟨b, 0, none⟩ = some (.slice A n c) ∧ w.cell? ⟨b, 1, none⟩ = some (.int .i64 e) ∧ n = l.length := by
  obtain ⟨A, n, c, h1, h2, _⟩ := h.ex
  exact ⟨A, n, c, h2, h1.cell 0, h1.cell 1, h2.len.symm⟩

theorem Rd.rng {w : World} {t : TypeId} {b g : Nat} {l : List Int} {e : Nat} (h : Rd w t b g l e) : ∀ x ∈ l, 0 ≤ x ∧ x < 256 := by
  obtain ⟨A, n, c, h2, _⟩ := h.byt
  exact h2.rng

theorem RdPost.later {t : TypeId} {b g : Nat} {l : List Int} {e0 : Nat} {v : Value} {w w1 : World} {e : Ending} {w' : World} (hg : w.grownBy w1 (some b)) (h : RdPost t b g l e0 v w1 e w') : RdPost t b g l e0 v w e w' :=
  ⟨h.1, h.2.1, grown_trans hg h.2.2⟩

theorem Rd.alloc {w : World} {t : TypeId} {b g : Nat} {l : List Int} {e : Nat} (h : Rd w t b g l e) (o : Obj) : Rd (w.alloc o) t b g l e :=
  h.grown (World.grownBy_alloc w o none) (by simp) (by simp)

set_option maxHeartbeats 1000000 in
theorem rNum_any (b g : Nat) (l : List Int) (e0 : Nat) (most : Int) (w : World) (h : Rd w 72 b g l e0) (hm : -9223372036854775808 ≤ most ∧ most ≤ 9223372036854775807) (x k er : Nat) (hF : numF l most = (x, k, er)) :
    Calls Tryd.prog 19 #[.pointer (some ⟨b, 0, none⟩), .int .i64 most] w (RdPost 72 b g (stepL l k e0 er) (stepE e0 er) (stepV (.int .i64 0) (.int .i64 x) e0 er) w) := by
  have hq : (w.alloc (.cells #[.int .i64 most] 3)).cell? ⟨w.heap.size, 0, none⟩ = some (.int .i64 most) := (Bk.new w _ _).cell 0
  have C := takeInt_step b g ⟨w.heap.size, 0, none⟩ l e0 (.int .i64 x) k er _ (h.alloc (.cells #[.int .i64 most] 3)) (numF_le h.rng hF) (fun _ A n c hb => numDec A n c l most _ _ hb hq hm x k er hF)
  have C := Lib.hid (C.mono fun e w' hp => hp.later (World.grownBy_alloc w _ (some b)))
  clear h hm hF hq
  go_enter Tryd.func19, Tryd.ntmps19
  go_wp2_with fail
  refine C.out.mono ?_
  rintro e w1 ⟨rfl, R⟩
  have R := Lib.hid R
  go_wp2_with fail
  go_ret
  exact ⟨rfl, R.out⟩

set_option maxHeartbeats 1000000 in
theorem rText_any (b g : Nat) (l : List Int) (e0 : Nat) (most : Int) (w : World) (h : Rd w 72 b g l e0) (hm : -9223372036854775808 ≤ most ∧ most ≤ 9223372036854775807) (s : List Int) (k er : Nat) (hF : textF l most = (s, k, er)) :
    Calls Tryd.prog 25 #[.pointer (some ⟨b, 0, none⟩), .int .i64 most] w (RdPost 72 b g (stepL l k e0 er) (stepE e0 er) (stepV (.string ByteArray.empty) (.string (strOfNums s)) e0 er) w) := by
  have hq : (w.alloc (.cells #[.int .i64 most] 3)).cell? ⟨w.heap.size, 0, none⟩ = some (.int .i64 most) := (Bk.new w _ _).cell 0
  have C := takeStr_step b g ⟨w.heap.size, 0, none⟩ l e0 (.string (strOfNums s)) k er _ (h.alloc (.cells #[.int .i64 most] 3)) (textF_le h.rng hF) (fun _ A n c hb => textDec A n c l most _ _ hb hq hm s k er hF)
  have C := Lib.hid (C.mono fun e w' hp => hp.later (World.grownBy_alloc w _ (some b)))
  clear h hm hF hq
  go_enter Tryd.func25, Tryd.ntmps25
  go_wp2_with fail
  refine C.out.mono ?_
  rintro e w1 ⟨rfl, R⟩
  have R := Lib.hid R
  go_wp2_with fail
  go_ret
  exact ⟨rfl, R.out⟩

set_option maxHeartbeats 1000000 in
theorem rByte_any (b g : Nat) (l : List Int) (e0 : Nat) (w : World) (h : Rd w 72 b g l e0) :
    Calls Tryd.prog 21 #[.pointer (some ⟨b, 0, none⟩)] w (RdPost 72 b g (stepL l (byteF l).2.1 e0 (byteF l).2.2) (stepE e0 (byteF l).2.2) (stepV (.int .u8 0) (.int .u8 (byteF l).1) e0 (byteF l).2.2) w) := by
  have C := Lib.hid (takeByte_step b g l e0 _ _ _ w h (byteF_le l) (fun _ A n c hb => byteDec A n c l w hb))
  clear h
  go_enter Tryd.func21, Tryd.ntmps21
  go_wp2_with fail
  refine C.out.mono ?_
  rintro e w1 ⟨rfl, R⟩
  have R := Lib.hid R
  go_wp2_with fail
  go_ret
  exact ⟨rfl, R.out⟩

set_option maxHeartbeats 1000000 in
theorem rFlag_any (b g : Nat) (l : List Int) (e0 : Nat) (w : World) (h : Rd w 72 b g l e0) :
    Calls Tryd.prog 23 #[.pointer (some ⟨b, 0, none⟩)] w (RdPost 72 b g (stepL l (flagF l).2.1 e0 (flagF l).2.2) (stepE e0 (flagF l).2.2) (stepV (.bool false) (.bool (flagF l).1) e0 (flagF l).2.2) w) := by
  have C := Lib.hid (takeBool_step b g l e0 _ _ _ w h (flagF_le l) (fun _ A n c hb => flagDec A n c l w hb))
  clear h
  go_enter Tryd.func23, Tryd.ntmps23
  go_wp2_with fail
  refine C.out.mono ?_
  rintro e w1 ⟨rfl, R⟩
  have R := Lib.hid R
  go_wp2_with fail
  go_ret
  exact ⟨rfl, R.out⟩
end Go.Proofs.YtlnhillpghjknaaDoor
