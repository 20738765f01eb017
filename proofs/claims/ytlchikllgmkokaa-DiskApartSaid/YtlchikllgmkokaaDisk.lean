/- What it says: a disk in memory: its block, its map of sectors, its list of writes; find, step and the methods that tell or lay a number. -/
import Derived.Test.YtlchikllgmkokaaRows
import Derived.Test.YtlchikllgmkokaaMap
import Derived.Test.YtlchikllgmkokaaDMath
import Derived.Deep.WholeRow
namespace Go.Proofs.Ytlchikllgmkokaa
open Go.RowKit

/-- Bytes as cells; a sector as a value. -/
def byC (l : List Int) : List Value := l.map (Value.int .u8)
def secV (l : List Int) : Value := .agg (byC l).toArray
theorem byC_len (l : List Int) : (byC l).length = l.length := by simp [byC]
theorem byC_one (l : List Int) : ∀ v ∈ byC l, v.oneCell' = true := u8_one l

/-- A write's cells. -/
def wrC (p : Nat × List Int) : List Value := .int .i64 p.1 :: byC p.2
theorem wrC_len {p : Nat × List Int} (h : Sec p.2) : (wrC p).length = 257 := by simp [wrC, byC_len, h.1]
def pdC (l : List (Nat × List Int)) : List Value := l.flatMap wrC

theorem info_sec : (Try.prog.info? 73).map (fun i => (i.zero, i.size)) = some (some (secV zeros), 256) := by kernel_rfl
theorem zero_sec (w : World) : (zeroValue 73).run Try.prog w = .ok (secV zeros) w := (zero_of_info info_sec).1 w
theorem size_sec : (Try.prog.info? 73).map (·.size) = some 256 := (zero_of_info info_sec).2
theorem info_wr : (Try.prog.info? 75).map (fun i => (i.zero, i.size, i.bytes)) = some (some (.agg (wrC (0, zeros)).toArray), 257, 264) := by kernel_rfl

/-- The disk at block b. -/
structure DskB (w : World) (F : Nat → Prop) (b mb : Nat) (A : Option Addr) (c : Nat) (s : St) : Prop where
  blk : Bk w b 71 #[.int .i64 s.num, .map (some mb), .slice A s.pend.length c, .int .i64 s.left, .bool s.gone, .int .i64 s.syncs]
  map : MapFn w mb (secV zeros) (fun n => secV (s.syn n))
  row : w.ownsRow 0 75 257 (.slice A s.pend.length c) s.pend.length (pdC s.pend)
  fb : F b
  fm : F mb
  fp : ∀ k, (Value.slice A s.pend.length c).ownBlock = some k → F k
  lt : ∀ k, F k → k < w.heap.size
  ok : s.Ok
  lim : s.pend.length < 1000000 ∧ s.syncs < 1000000

section
variable {w w' : World} {F G : Nat → Prop} {b mb : Nat} {A : Option Addr} {c : Nat} {s : St}
theorem DskB.keep (h : DskB w F b mb A c s) (hs : w.heap.size ≤ w'.heap.size) (hk : ∀ k, F k → w'.heap[k]? = w.heap[k]?) : DskB w' F b mb A c s :=
  ⟨h.blk.eq (hk b h.fb), h.map.eq (hk mb h.fm), owns_keep h.row (fun k hk' => hk k (h.fp k hk')), h.fb, h.fm, h.fp, fun k f => Nat.lt_of_lt_of_le (h.lt k f) hs, h.ok, h.lim⟩
theorem DskB.mono (h : DskB w F b mb A c s) (hF : ∀ k, F k → G k) (hG : ∀ k, G k → k < w.heap.size) : DskB w G b mb A c s :=
  ⟨h.blk, h.map, h.row, hF b h.fb, hF mb h.fm, fun k hk => hF k (h.fp k hk), hG, h.ok, h.lim⟩
theorem DskB.below (h : DskB w F b mb A c s) (hb : Below w.heap.size w w') : DskB w' F b mb A c s := h.keep hb.size (fun k f => hb.block k (h.lt k f))
end

/-- The disk at block b, as a thing. -/
def dsk (b : Nat) (s : St) : Res where
  is w F := ∃ mb A c, DskB w F b mb A c s
  lt _ _ := fun ⟨_, _, _, h⟩ => h.lt
  keep _ _ _ := fun ⟨mb, A, c, h⟩ hs hk => ⟨mb, A, c, h.keep hs hk⟩

section
variable {w w' : World} {F : Nat → Prop} {b mb : Nat} {A : Option Addr} {c : Nat} {s : St}
theorem DskB.turn {s' : St} {mb' : Nat} {A' : Option Addr} {c' : Nat} (h : DskB w' (grow F w w') b mb' A' c' s') (hf : Fr F w w') : Turn (dsk b s') F w w' := ⟨⟨mb', A', c', h⟩, hf⟩

/-- Behind stores into the disk's own block alone. -/
theorem DskB.set {cs : Array Value} {s' : St} (h : DskB w F b mb A c s) (hb : Bk w' b 71 #[.int .i64 s'.num, .map (some mb), .slice A s'.pend.length c, .int .i64 s'.left, .bool s'.gone, .int .i64 s'.syncs])
    (hf : Fr (fun k => k = b) w w') (h1 : s'.syn = s.syn) (h2 : s'.pend = s.pend) (h3 : s'.Ok) (h4 : s'.syncs < 1000000) : DskB w' F b mb A c s' := by
  have hne : mb ≠ b := h.map.not_bk h.blk
  have hpe : ∀ k, (Value.slice A s.pend.length c).ownBlock = some k → k ≠ b := by
    rintro k hk rfl
    rcases h.row.2 with ⟨q, _⟩ | ⟨g, cap, cur, q, _, hg, _⟩
    · rw [q] at hk; simp [Value.ownBlock] at hk
    · rw [q] at hk
      simp [Value.ownBlock] at hk
      subst hk
      have := h.blk
      unfold Bk at this
      rw [this] at hg
      simp at hg
  refine ⟨hb, ?_, ?_, h.fb, h.fm, ?_, fun k f => Nat.lt_of_lt_of_le (h.lt k f) hf.size, h3, by rw [h2]; exact ⟨h.lim.1, h4⟩⟩
  · rw [h1]
    exact h.map.eq (hf.block mb h.map.lt hne)
  · rw [h2]
    exact owns_keep h.row (fun k hk => hf.block k (h.lt k (h.fp k hk)) (hpe k hk))
  · rw [h2]
    exact h.fp
end

/-- The step's answer. -/
def RetStep (F : Nat → Prop) (b mb : Nat) (A : Option Addr) (c : Nat) (s : St) (w : World) (e : Ending) (w' : World) : Prop :=
  e = .returned (.int .i64 (if s.can then 0 else 40)) ∧ DskB w' F b mb A c s.step ∧ Fr (fun k => k = b) w w'

set_option maxHeartbeats 1000000 in
theorem step_any {w : World} {F : Nat → Prop} {b mb : Nat} {A : Option Addr} {c : Nat} {s : St} (h : DskB w F b mb A c s) :
    Calls Try.prog 34 #[.pointer (some ⟨b, 0, none⟩)] w (RetStep F b mb A c s w) := by
  obtain ⟨num, syn, pend, left, gone, syncs⟩ := s
  have hl := h.ok.left
  have hb := h.blk
  have c3 : w.cell? ⟨b, 3, none⟩ = some (.int .i64 left) := hb.cell 3
  have c4 : w.cell? ⟨b, 4, none⟩ = some (.bool gone) := hb.cell 4
  have f3 : w.frozen? ⟨b, 3, none⟩ = false := hb.frz 3
  have f4 : w.frozen? ⟨b, 4, none⟩ = false := hb.frz 4
  simp only at hl
  have E : ∀ w' s', s' = (St.mk num syn pend left gone syncs).step → Bk w' b 71 #[.int .i64 s'.num, .map (some mb), .slice A s'.pend.length c, .int .i64 s'.left, .bool s'.gone, .int .i64 s'.syncs] → Fr (fun k => k = b) w w' →
      DskB w' F b mb A c (St.mk num syn pend left gone syncs).step ∧ Fr (fun k => k = b) w w' := by
    intro w' s' e hb' hf
    subst e
    exact ⟨h.set (cs := #[]) hb' hf (St.step_syn _) (St.step_pend _) h.ok.step (by rw [St.step_syncs]; exact h.lim.2), hf⟩
  have E := Lib.hid E
  have HB := Lib.hid hb
  clear h hb
  cases gone with
  | true =>
    by_cases h0 : left = 0
    · subst h0
      have R : Hid (RetStep F b mb A c ⟨num, syn, pend, 0, true, syncs⟩ w (.returned (.int .i64 40)) (w.setCell ⟨b, 4, none⟩ (.bool true))) :=
        Lib.hid ⟨rfl, E.out _ _ rfl (by have := HB.out.setc 4 (.bool true); simpa [St.step] using this) (Fr.cell1 _ _ _ _)⟩
      clear E HB
      go_enter Try.func34, Try.ntmps34
      go_wp2_with fail
      go_ret
      exact R.out
    · have R : Hid (RetStep F b mb A c ⟨num, syn, pend, left, true, syncs⟩ w (.returned (.int .i64 40)) w) :=
        Lib.hid ⟨rfl, E.out _ _ rfl (by simpa [St.step] using HB.out) (Fr.refl _ _)⟩
      have hd : (left == 0) = false := by simpa using h0
      clear E HB
      go_enter Try.func34, Try.ntmps34
      go_wp2_with fail
      go_ret
      exact R.out
  | false =>
    by_cases h0 : left = 0
    · subst h0
      have R : Hid (RetStep F b mb A c ⟨num, syn, pend, 0, false, syncs⟩ w (.returned (.int .i64 40)) (w.setCell ⟨b, 4, none⟩ (.bool true))) :=
        Lib.hid ⟨rfl, E.out _ _ rfl (by have := HB.out.setc 4 (.bool true); simpa [St.step] using this) (Fr.cell1 _ _ _ _)⟩
      clear E HB
      go_enter Try.func34, Try.ntmps34
      go_wp2_with fail
      go_ret
      exact R.out
    · have hd : (left == 0) = false := by simpa using h0
      by_cases h1 : left = -1
      · subst h1
        have R : Hid (RetStep F b mb A c ⟨num, syn, pend, -1, false, syncs⟩ w (.returned (.int .i64 0)) w) :=
          Lib.hid ⟨rfl, E.out _ _ rfl (by simpa [St.step] using HB.out) (Fr.refl _ _)⟩
        clear E HB
        go_enter Try.func34, Try.ntmps34
        go_wp2_with fail
        go_ret
        exact R.out
      · have hd1 : (left != -1) = true := by simpa using h1
        have hp : 0 < left := by omega
        have R : Hid (RetStep F b mb A c ⟨num, syn, pend, left, false, syncs⟩ w (.returned (.int .i64 0)) (w.setCell ⟨b, 3, none⟩ (.int .i64 (left - 1)))) :=
          Lib.hid ⟨by simp [St.can, hd], E.out _ _ rfl (by have := HB.out.setc 3 (.int .i64 (left - 1)); simpa [St.step, h0, hp] using this) (Fr.cell1 _ _ _ _)⟩
        clear E HB
        go_enter Try.func34, Try.ntmps34
        go_wp2_with fail
        go_ret
        exact R.out
end Go.Proofs.Ytlchikllgmkokaa
