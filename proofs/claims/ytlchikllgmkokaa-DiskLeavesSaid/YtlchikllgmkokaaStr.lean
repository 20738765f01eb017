/- What it says: strings as lists of bytes; '[]byte(s)', 'string(b)' and 'append(b, s...)' as the laws on slices of bytes want them. No program's function is named; no condition. -/
import Derived.Test.YtlchikllgmkokaaOwn
import Derived.Laws.BytesArg
import Derived.Lib.ConvBytes
import Derived.Lib.AppendStr
import Derived.Lib.Strings
namespace Go.Proofs.Ytlchikllgmkokaa
open Go.RowKit

/-- A string's bytes as numbers. -/
def nums (s : ByteArray) : List Int := s.data.toList.map fun b => (b.toNat : Int)

theorem nums_rng (s : ByteArray) : ∀ x ∈ nums s, 0 ≤ x ∧ x < 256 := by
  intro x hx
  obtain ⟨b, _, rfl⟩ := List.mem_map.1 hx
  have := b.toNat_lt
  omega

theorem nums_len (s : ByteArray) : (nums s).length = s.size := by
  unfold nums
  rw [List.length_map, Array.length_toList]
  rfl

theorem nums_str (l : List Int) (hr : ∀ x ∈ l, 0 ≤ x ∧ x < 256) : nums (strOfNums l) = l := by
  unfold nums
  rw [strOfNums_data, List.map_map]
  conv => rhs; rw [← List.map_id l]
  refine List.map_congr_left fun x hx => ?_
  have := hr x hx
  simp only [Function.comp, id, UInt8.toNat_ofNat']
  omega

theorem str_nums (s : ByteArray) : strOfNums (nums s) = s := by
  apply ByteArray.ext
  apply Array.ext'
  rw [strOfNums_data]
  unfold nums
  rw [List.map_map]
  conv => rhs; rw [← List.map_id s.data.toList]
  refine List.map_congr_left fun b _ => ?_
  simp [Function.comp]

theorem str_inj {l m : List Int} (hl : ∀ x ∈ l, 0 ≤ x ∧ x < 256) (hm : ∀ x ∈ m, 0 ≤ x ∧ x < 256) (h : strOfNums l = strOfNums m) : l = m := by
  rw [← nums_str l hl, ← nums_str m hm, h]

theorem strCells_nums (s : ByteArray) : Lib.strCells s = (nums s).map (Value.int .u8) := by
  unfold Lib.strCells nums
  rw [List.map_map]
  rfl

theorem nums_getD (s : ByteArray) (j : Nat) (hj : j < s.size) : (nums s).getD j 0 = ((s.data.toList.getD j 0).toNat : Int) := by
  have h : j < s.data.toList.length := by rw [Array.length_toList]; exact hj
  unfold nums
  simp only [List.getD, List.getElem?_map, List.getElem?_eq_getElem h, Option.map_some, Option.getD_some]

theorem bytesWorld_below (w : World) (e : TypeId) (s : ByteArray) : Below w.heap.size w (Lib.bytesWorld w e s) :=
  ⟨rfl, rfl, rfl, by rw [Lib.bytesWorld_size]; omega, fun k hk => Lib.bytesWorld_at_old w e s k hk⟩

/-- '[]byte(s)': new memory that reads as the string's bytes. -/
theorem Byt.ofString (w : World) (e : TypeId) (s : ByteArray) (hs : s.size ≤ maxLen) : Byt (Lib.bytesWorld w e s) (some ⟨w.heap.size, 0, none⟩) s.size (grownCap w s.size 0 e) (nums s) :=
  ⟨nums_len s, grownCap_ge w s.size 0 e, grownCap_le_maxLen w s.size 0 e hs, nums_rng s, (fun h => nomatch h), fun _ => ⟨w.heap.size, 0, rfl, fun i hi => by
    rw [Nat.zero_add, Lib.bytesWorld_cell w e s i hi, nums_getD s i hi]⟩⟩

theorem conv_str (w : World) (s : ByteArray) : (convert 9 32 (.string s)).run Try.prog w = .ok (.slice (some ⟨w.heap.size, 0, none⟩) s.size (grownCap w s.size 0 5)) (Lib.bytesWorld w 5 s) :=
  Lib.run_convert_string_bytes w _ _ _ s Try.underlying9 Try.underlying32 Try.underlying5

/-- 'string(b)': a string of just these bytes; nothing is turned. -/
theorem conv_byt {w : World} {A : Option Addr} {n c : Nat} {l : List Int} (h : Byt w A n c l) : (convert 32 9 (.slice A n c)).run Try.prog w = .ok (.string (strOfNums l)) w := by
  by_cases hn : 0 < n
  · obtain ⟨g, off, rfl, hc⟩ := h.at_ hn
    exact run_convert_bytes_arg w _ _ Try.underlying32 Try.underlying5 g off n c l h.len hc _ Try.underlying9
  · have h0 : n = 0 := by omega
    subst h0
    have e : l = [] := List.eq_nil_of_length_eq_zero h.len
    subst e
    cases A with
    | none => exact run_convert_bytes_nil w _ _ Try.underlying32 Try.underlying5 _ _ _ Try.underlying9
    | some a =>
      rw [run_convert_bytes_string w _ _ _ _ _ _ Try.underlying32 Try.underlying5 Try.underlying9]
      rw [run_bytesToString w a 0 c [] (by simpa using run_loadCells_list (P := Try.prog) w a [] (by simp))]
      rfl

theorem str_size (l : List Int) : (strOfNums l).size = l.length := strOfNums_size l

/-- Where 's[j:..]' begins. -/
def subA (A : Option Addr) (c j : Nat) : Option Addr := if c = j then A else A.map (·.add (j * 1))

/-- 's[j:k]' reads as that part. -/
theorem Byt.sub {w : World} {A : Option Addr} {n c : Nat} {l : List Int} (h : Byt w A n c l) (j k : Nat) (hjk : j ≤ k) (hk : k ≤ n) : Byt w (subA A c j) (k - j) (c - j) ((l.drop j).take (k - j)) := by
  have hcap := h.cap
  have hmax := h.max
  refine ⟨by rw [List.length_take, List.length_drop, h.len]; omega, by omega, by omega, fun x hx => h.rng x (List.mem_of_mem_drop (List.mem_of_mem_take hx)), fun e => ?_, fun hp => ?_⟩
  · have e' : A = none := by
      unfold subA at e
      split at e
      · exact e
      · cases A with
        | none => rfl
        | some a => simp at e
    have := h.nil_ e'
    omega
  · obtain ⟨g, off, h1, hc⟩ := h.at_ (by omega)
    subst h1
    refine ⟨g, off + j, ?_, fun i hi => ?_⟩
    · unfold subA
      rw [if_neg (by omega)]
      simp [Addr.add]
    · rw [Nat.add_assoc, hc (j + i) (by omega)]
      congr 2
      simp [List.getD, hi]

theorem elem25 : Try.prog.elem 32 = 5 := by kernel_rfl
theorem under25 : Try.prog.underlying 32 = some (.slice (Try.prog.elem 32)) := by kernel_rfl

theorem sz_u8 (W : World) : (sizeOf 5).run Try.prog W = .ok 1 W := by
  obtain ⟨i0, hi, hz0, hz1, hz2⟩ := info_parts info_u8
  simp [sizeOf, typeInfo, hi, hz1]

/-- 's[j:k]'. -/
theorem cut_lh {w : World} {A : Option Addr} {n c : Nat} {l : List Int} (h : Byt w A n c l) (j k : Nat) (hjk : j ≤ k) (hk : k ≤ n) (zj zk : Int) (ej : zj = j) (ek : zk = k) :
    ∃ B m d, (∀ v, (Instr.slice 32 (.slice A n c) (some (.int .i64 zj)) (some (.int .i64 zk)) none).run Try.prog v = .ok (.slice B m d) v) ∧ m = k - j ∧ Byt w B m d ((l.drop j).take (k - j)) := by
  have hcap := h.cap
  subst ej ek
  refine ⟨subA A c j, k - j, c - j, fun v => ?_, rfl, h.sub j k hjk hk⟩
  rw [run_slice_lh (P := Try.prog) (w := v) 32 A n c under25 .i64 .i64 j k (by omega) (by omega) (by omega), elem25, sz_u8]
  simp [sliced, Result.andThen, subA]

/-- 's[j:]'. -/
theorem cut_l {w : World} {A : Option Addr} {n c : Nat} {l : List Int} (h : Byt w A n c l) (j : Nat) (hj : j ≤ n) (zj : Int) (ej : zj = j) :
    ∃ B m d, (∀ v, (Instr.slice 32 (.slice A n c) (some (.int .i64 zj)) none none).run Try.prog v = .ok (.slice B m d) v) ∧ m = n - j ∧ Byt w B m d (l.drop j) := by
  have hcap := h.cap
  subst ej
  refine ⟨subA A c j, n - j, c - j, fun v => ?_, rfl, ?_⟩
  · rw [run_slice_l (P := Try.prog) (w := v) 32 A n c under25 .i64 j (by omega) (by omega), elem25, sz_u8]
    simp [sliced, Result.andThen, subA]
  · have := h.sub j n hj (Nat.le_refl _)
    rwa [List.take_of_length_le (by rw [List.length_drop, h.len]; omega)] at this

theorem subA_block {A : Option Addr} {c j : Nat} {a : Addr} (h : subA A c j = some a) : ∃ a', A = some a' ∧ a.block = a'.block := by
  unfold subA at h
  split at h
  · exact ⟨a, h, rfl⟩
  · cases A with
    | none => simp at h
    | some a' =>
      simp at h
      refine ⟨a', rfl, ?_⟩
      rw [← h]
      unfold Addr.add
      split <;> rfl

/-- 's[j:]', and in which block it lies. -/
theorem cut_lb {w : World} {A : Option Addr} {n c : Nat} {l : List Int} (h : Byt w A n c l) (j : Nat) (hj : j ≤ n) (zj : Int) (ej : zj = j) :
    ∃ B m d, (∀ v, (Instr.slice 32 (.slice A n c) (some (.int .i64 zj)) none none).run Try.prog v = .ok (.slice B m d) v) ∧ m = n - j ∧ Byt w B m d (l.drop j) ∧ ∀ a, B = some a → ∃ a', A = some a' ∧ a.block = a'.block := by
  have hcap := h.cap
  subst ej
  refine ⟨subA A c j, n - j, c - j, fun v => ?_, rfl, ?_, fun a ha => subA_block ha⟩
  · rw [run_slice_l (P := Try.prog) (w := v) 32 A n c under25 .i64 j (by omega) (by omega), elem25, sz_u8]
    simp [sliced, Result.andThen, subA]
  · have := h.sub j n hj (Nat.le_refl _)
    rwa [List.take_of_length_le (by rw [List.length_drop, h.len]; omega)] at this

/-- 's[:k]'. -/
theorem cut_h {w : World} {A : Option Addr} {n c : Nat} {l : List Int} (h : Byt w A n c l) (k : Nat) (hk : k ≤ n) (zk : Int) (ek : zk = k) :
    ∃ B d, (∀ v, (Instr.slice 32 (.slice A n c) none (some (.int .i64 zk)) none).run Try.prog v = .ok (.slice B k d) v) ∧ Byt w B k d (l.take k) := by
  have hcap := h.cap
  subst ek
  refine ⟨subA A c 0, c - 0, fun v => ?_, ?_⟩
  · rw [run_slice_h (P := Try.prog) (w := v) 32 A n c under25 .i64 k (by omega) (by omega), elem25, sz_u8]
    simp [sliced, Result.andThen, subA]
  · have := h.sub 0 k (Nat.zero_le _) hk
    simpa using this
end Go.Proofs.Ytlchikllgmkokaa
