/- What it says: bytes.Clone of any slice, bytes.Equal, the writer's Bytes, and the four bytes of a checksum. -/
import Derived.Test.YtlnhillpghjknaaDoorWriter
import Derived.Test.YtlnhillpghjknaaDoorCrcSum
namespace Go.Proofs.YtlnhillpghjknaaDoor
open Go.RowKit

theorem Tab.ret {w w' : World} (h : Tab w) (hb : Below w.heap.size w w') : Tab w' := h.below hb (World.block_lt_of_cell? w _ (h 0 (by omega)))

theorem cloneNil (c : Nat) (l : List Int) (w : World) (h : Byt w none 0 c l) : Calls Tryd.prog 41 #[.slice none 0 0] w (RetOwn l w) := by
  have e : l = [] := List.eq_nil_of_length_eq_zero h.len
  subst e
  have q := fun w : World => Lib.run_eql_slice_nil (P := Tryd.prog) w 25 5 none 0 0 0 0 Tryd.underlying25
  clear h
  go_enter Tryd.func41, Tryd.ntmps41
  go_wp2_with fail
  go_ret
  exact ⟨none, 0, 0, rfl, World.ownsRow_nil _ _ _ _, by simp, Below.refl _ _⟩

/-- bytes.Clone, nil or not. -/
theorem clone_all_own (A : Option Addr) (n c : Nat) (l : List Int) (w : World) (h : Byt w A n c l) (hn : n ≤ 140737488355328) :
    Calls Tryd.prog 41 #[.slice A n c] w (RetOwn l w) := by
  cases A with
  | none =>
    obtain ⟨rfl, rfl⟩ := h.nil_ rfl
    exact cloneNil 0 l w h
  | some a => exact clone_own a n c l w h hn

theorem clone_all (A : Option Addr) (n c : Nat) (l : List Int) (w : World) (h : Byt w A n c l) (hn : n ≤ 140737488355328) :
    Calls Tryd.prog 41 #[.slice A n c] w (RetByt l w) := (clone_all_own A n c l w h hn).mono fun _ _ h => h.byt

/-- bytes.Equal: are the bytes the same? -/
theorem equal_any (A : Option Addr) (n c : Nat) (A' : Option Addr) (n' c' : Nat) (l l' : List Int) (w : World) (h : Byt w A n c l) (h' : Byt w A' n' c' l') :
    Calls Tryd.prog 56 #[.slice A n c, .slice A' n' c'] w (fun e w' => e = .returned (.bool (decide (l = l'))) ∧ w = w') := by
  have k1 := conv_byt h
  have k2 := conv_byt h'
  have hq : ((strOfNums l).toList == (strOfNums l').toList) = decide (l = l') := by
    rw [Lib.toList_data, Lib.toList_data]
    by_cases e : l = l'
    · subst e; simp
    · have : (strOfNums l).data.toList ≠ (strOfNums l').data.toList := fun e' => e (str_inj h.rng h'.rng (ByteArray.ext (Array.ext' e')))
      simp only [e, decide_false]
      rw [beq_eq_false_iff_ne]
      exact this
  have HQ := Lib.hid hq
  clear hq h h'
  go_enter Tryd.func56, Tryd.ntmps56
  go_wp2_with fail
  go_ret
  refine ⟨?_, rfl⟩
  rw [← HQ.out]
  rfl

theorem equal_yes (A : Option Addr) (n c : Nat) (A' : Option Addr) (n' c' : Nat) (l l' : List Int) (w : World) (h : Byt w A n c l) (h' : Byt w A' n' c' l') (e : l = l') :
    Calls Tryd.prog 56 #[.slice A n c, .slice A' n' c'] w (fun e w' => e = .returned (.bool true) ∧ w = w') := by
  have := equal_any A n c A' n' c' l l' w h h'
  rw [show decide (l = l') = true from by simp [e]] at this
  exact this

theorem equal_no (A : Option Addr) (n c : Nat) (A' : Option Addr) (n' c' : Nat) (l l' : List Int) (w : World) (h : Byt w A n c l) (h' : Byt w A' n' c' l') (e : l ≠ l') :
    Calls Tryd.prog 56 #[.slice A n c, .slice A' n' c'] w (fun e w' => e = .returned (.bool false) ∧ w = w') := by
  have := equal_any A n c A' n' c' l l' w h h'
  rw [show decide (l = l') = false from by simp [e]] at this
  exact this

set_option maxHeartbeats 1000000 in
theorem wBytes_own (base b : Nat) (l : List Int) (w : World) (h : Wrt w base b l) (hl : l.length ≤ 140737488355328) :
    Calls Tryd.prog 36 #[.pointer (some ⟨b, 0, none⟩)] w (RetOwn l w) := by
  obtain ⟨A, n, c, hb, ho⟩ := h.ex
  have hn : l.length = n := by simpa using ho.1
  have hcell : w.cell? ⟨b, 0, none⟩ = some (.slice A n c) := hb.cell 0
  have C := Lib.hid (clone_all_own A n c l w (Byt.of_own ho h.rng) (by omega))
  clear h hb ho hn
  go_enter Tryd.func36, Tryd.ntmps36
  go_wp2_with fail
  refine C.out.mono ?_
  rintro e w1 ⟨A1, n1, c1, rfl, R⟩
  have R := Lib.hid R
  go_wp2_with fail
  go_ret
  exact ⟨A1, n1, c1, rfl, R.out⟩

theorem wBytes_any (base b : Nat) (l : List Int) (w : World) (h : Wrt w base b l) (hl : l.length ≤ 140737488355328) :
    Calls Tryd.prog 36 #[.pointer (some ⟨b, 0, none⟩)] w (RetByt l w) := (wBytes_own base b l w h hl).mono fun _ _ h => h.byt

/-- The four bytes of a checksum. -/
def sumL (l : List Int) : List Int := le4 (crcL l)
theorem sumL_rng (l : List Int) : ∀ x ∈ sumL l, 0 ≤ x ∧ x < 256 := le4_rng _
theorem sumL_len (l : List Int) : (sumL l).length = 4 := rfl

set_option maxHeartbeats 1000000 in
theorem sumOf_any (A : Option Addr) (n c : Nat) (l : List Int) (w : World) (h : Byt w A n c l) (hT : Tab w) :
    Calls Tryd.prog 54 #[.slice A n c] w (RetByt (sumL l) w) := by
  have C := Lib.hid (crcSum_any A n c l w h hT)
  have hx := crcL_lt l h.rng
  have e : sumL l = le4 (crcL l) := rfl
  obtain ⟨x, ex⟩ : ∃ x, crcL l = x := ⟨_, rfl⟩
  rw [ex] at C hx e
  have E := Lib.hid e
  clear h hT ex e
  go_enter Tryd.func54, Tryd.ntmps54
  go_wp2_with fail
  refine C.out.mono ?_
  rintro e w1 ⟨rfl, rfl⟩
  go_wp2_with fail
  go_ret
  refine ⟨_, 4, 4, rfl, ?_, (Below.refl _ _).alloc (Nat.le_refl _) _⟩
  rw [E.out]
  have := Byt.lit w 5 (le4 x) 4 rfl (by unfold maxLen; omega) (le4_rng x)
  have e4 : (x : Int) / 16777216 = (x : Int) / 16777216 % 256 := by omega
  rw [e4]
  simpa [le4] using this

/-- What is gathered of a sum: i bytes, the rest is z. -/
structure SumRel (w : World) (x i z : Nat) (A : Option Addr) (k c : Nat) (acc : List Int) (wr : World) : Prop where
  own : wr.ownsRow w.heap.size 5 1 (.slice A k c) k (acc.map (Value.int .u8))
  rng : ∀ y ∈ acc, 0 ≤ y ∧ y < 256
  len : k = i
  num : z = x / 256 ^ i
  all : acc = (le4 x).take i
  bel : Below w.heap.size w wr

theorem le4_next (x i : Nat) (h : i < 4) : (le4 x).take (i + 1) = (le4 x).take i ++ [((x / 256 ^ i : Nat) : Int) % 256] := by
  have : i = 0 ∨ i = 1 ∨ i = 2 ∨ i = 3 := by omega
  rcases this with h | h | h | h <;> subst h <;> simp [le4]

theorem SumRel.step {w : World} {x i z : Nat} {A A' : Option Addr} {k c c' k' : Nat} {acc : List Int} {wr w' : World} (h : SumRel w x i z A k c acc wr) (hi : i < 4)
    (h1 : w'.ownsRow w.heap.size 5 1 (.slice A' k' c') k' (acc.map (Value.int .u8) ++ [(z : Int) % 256].map (Value.int .u8))) (hk : k' = k + 1)
    (h2 : (wr.alloc (.cells #[.int .u8 ((z : Int) % 256)] 5)).grownBy w' (Value.ownBlock (.slice A k c))) :
    SumRel w x (i + 1) (z / 256) A' k' c' (acc ++ [(z : Int) % 256]) w' := by
  rw [← List.map_append] at h1
  refine ⟨h1, fun y hy => ?_, by rw [hk, h.len], by rw [h.num, Nat.pow_succ, Nat.div_div_eq_div_mul], by rw [le4_next x i hi, ← h.num, ← h.all], (h.bel.alloc h.bel.size _).grown h2 (by have := h.bel.size; simp; omega) (fun j hj => (h.own.lt j hj).1)⟩
  rcases List.mem_append.1 hy with h3 | h3
  · exact h.rng y h3
  · simp at h3; subst h3; omega

set_option maxHeartbeats 1000000 in
theorem refSumOf_any (A : Option Addr) (n c : Nat) (l : List Int) (w : World) (h : Byt w A n c l) :
    Calls Tryd.prog 55 #[.slice A n c] w (RetOwn (sumL l) w) := by
  obtain ⟨i0, hi, hz0, hz1, hz2⟩ := info_parts info_u8
  have C := Lib.hid (refSum_any A n c l w h)
  have hx := crcL_lt l h.rng
  have e : sumL l = le4 (crcL l) := rfl
  obtain ⟨x, ex⟩ : ∃ x, crcL l = x := ⟨_, rfl⟩
  rw [ex] at C hx e
  have E := Lib.hid e
  have R0 := Lib.hid (show SumRel w x 0 x none 0 0 [] w from ⟨World.ownsRow_nil _ _ _ _, by simp, rfl, by simp, rfl, Below.refl _ _⟩)
  clear h ex e
  go_enter Tryd.func55, Tryd.ntmps55
  go_wp2_with fail
  refine C.out.mono ?_
  rintro e w1 ⟨rfl, rfl⟩
  go_wp2_with fail
  go_loopw [3, 4, 5] (fun s v q wr => ∃ (i z : Nat) (A : Option Addr) (k c : Nat) (acc : List Int), i ≤ 4 ∧ z < 4294967296 ∧ s = .int .u32 z ∧ v = .slice A k c ∧ q = .int .i64 i ∧ SumRel w x i z A k c acc wr) (fun _ _ q _ => 4 - (intOf q).toNat)
  case atStart => exact ⟨0, x, none, 0, 0, [], by omega, hx, rfl, rfl, rfl, R0.out⟩
  case round =>
    obtain ⟨i, z, A1, k1, c1, acc, hi4, hz, rfl, rfl, rfl, R⟩ := hrel
    have HR := Lib.hid R
    clear R
    by_cases hlt : i < 4
    · have hbs := HR.out.bel.size
      have hk : k1 ≤ 4 := by have := HR.out.len; omega
      have ho := HR.out.own.alloc (.cells #[.int .u8 ((z : Int) % 256)] 5)
      have hb := one_byt wr ((z : Int) % 256) (by omega)
      go_wp2_with (at_builtin; refine wpList_append_byt rfl _ _ 25 rfl w.heap.size 5 i0 Tryd.underlying25 hi hz0 hz1 hz2 _ k1 acc rfl (by exact ho) _ 1 1 [(z : Int) % 256] rfl (by exact hb) (by omega) (by simp; omega) ?_)
      intro A' c' w' h1 h2
      have R := Lib.hid (HR.out.step hlt h1 rfl h2)
      clear h1 h2 hb ho
      go_wp2_with fail
      go_roundw
      case rel => exact ⟨i + 1, z / 256, _, _, _, _, by omega, by omega, by go_num, rfl, by go_num, R.out⟩
      case measure => simp [intOf]; omega
    · have h4 : i = 4 := by omega
      have H4 := Lib.hid h4
      clear h4
      go_wp2_with fail
      go_ret
      have e := HR.out.all
      rw [H4.out] at e
      have e2 : acc = sumL l := by rw [e, E.out]; rfl
      exact ⟨A1, k1, c1, rfl, by rw [← e2]; exact HR.out.own, by rw [← e2]; exact HR.out.rng, HR.out.bel⟩
end Go.Proofs.YtlnhillpghjknaaDoor
