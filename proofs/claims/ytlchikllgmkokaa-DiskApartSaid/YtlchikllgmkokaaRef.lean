/- What it says: the document's disk (trothref04) in memory; is, step, Fuse. -/
import Derived.Test.YtlchikllgmkokaaDSync
namespace Go.Proofs.Ytlchikllgmkokaa
open Go.RowKit

theorem info_u8r : (Try.prog.info? 5).map (fun i => (i.zero, i.size, i.bytes)) = some (some (.int .u8 0), 1, 1) := by kernel_rfl

/-- A sector's bytes as a slice of its own. -/
def Dat (w : World) (F : Nat → Prop) (v : Value) (l : List Int) : Prop := w.ownsRow 0 5 1 v 256 (byC l) ∧ ∀ k, v.ownBlock = some k → F k

/-- The writes' cells. -/
def rlC (l : List (Nat × Value)) : List Value := l.flatMap fun p => [.int .i64 p.1, p.2]
theorem rlC_len (l : List (Nat × Value)) : (rlC l).length = l.length * 2 := flatMap_len _ 2 l (fun _ _ => rfl)
theorem rlC_at {l : List (Nat × Value)} {i : Nat} {p : Nat × Value} (h : l[i]? = some p) : (rlC l)[i * 2]? = some (.int .i64 p.1) ∧ (rlC l)[i * 2 + 1]? = some p.2 := by
  have h0 := flatMap_at (fun p : Nat × Value => [Value.int .i64 p.1, p.2]) 2 l i 0 p (fun _ _ => rfl) h (by omega)
  have h1 := flatMap_at (fun p : Nat × Value => [Value.int .i64 p.1, p.2]) 2 l i 1 p (fun _ _ => rfl) h (by omega)
  exact ⟨h0, h1⟩

/-- The document's disk at block g. -/
structure RfdB (w : World) (F : Nat → Prop) (g : Nat) (SA : Option Addr) (sc : Nat) (LA : Option Addr) (lc : Nat) (sl : List Value) (rl : List (Nat × Value)) (s : St) : Prop where
  blk : Bk w g 55 #[.slice SA s.num sc, .slice LA s.pend.length lc, .int .i64 s.left, .bool s.gone, .int .i64 s.syncs]
  srow : w.ownsRow 0 32 1 (.slice SA s.num sc) s.num sl
  lrow : w.ownsRow 0 60 2 (.slice LA s.pend.length lc) s.pend.length (rlC rl)
  rlen : rl.length = s.pend.length
  syn : ∀ n, n < s.num → ∃ v, sl[n]? = some v ∧ Dat w F v (s.syn n)
  pnd : ∀ i, i < s.pend.length → ∃ v, rl[i]? = some ((s.at_ i).1, v) ∧ Dat w F v (s.at_ i).2
  fg : F g
  fs : ∀ k, (Value.slice SA s.num sc).ownBlock = some k → F k
  fl : ∀ k, (Value.slice LA s.pend.length lc).ownBlock = some k → F k
  lt : ∀ k, F k → k < w.heap.size
  ok : s.Ok
  lim : s.pend.length < 1000000 ∧ s.syncs < 1000000

section
variable {w w' : World} {F G : Nat → Prop} {g : Nat} {SA LA : Option Addr} {sc lc : Nat} {sl : List Value} {rl : List (Nat × Value)} {s : St} {v : Value} {l : List Int}
theorem Dat.keep (h : Dat w F v l) (hk : ∀ k, F k → w'.heap[k]? = w.heap[k]?) : Dat w' F v l := ⟨owns_keep h.1 (fun k hk' => hk k (h.2 k hk')), h.2⟩
theorem Dat.mono (h : Dat w F v l) (hF : ∀ k, F k → G k) : Dat w G v l := ⟨h.1, fun k hk => hF k (h.2 k hk)⟩
theorem RfdB.keep (h : RfdB w F g SA sc LA lc sl rl s) (hs : w.heap.size ≤ w'.heap.size) (hk : ∀ k, F k → w'.heap[k]? = w.heap[k]?) : RfdB w' F g SA sc LA lc sl rl s :=
  ⟨h.blk.eq (hk g h.fg), owns_keep h.srow (fun k q => hk k (h.fs k q)), owns_keep h.lrow (fun k q => hk k (h.fl k q)), h.rlen, fun n hn => by
    obtain ⟨v, h1, h2⟩ := h.syn n hn
    exact ⟨v, h1, h2.keep hk⟩, fun i hi => by
    obtain ⟨v, h1, h2⟩ := h.pnd i hi
    exact ⟨v, h1, h2.keep hk⟩, h.fg, h.fs, h.fl, fun k f => Nat.lt_of_lt_of_le (h.lt k f) hs, h.ok, h.lim⟩
theorem RfdB.mono (h : RfdB w F g SA sc LA lc sl rl s) (hF : ∀ k, F k → G k) (hG : ∀ k, G k → k < w.heap.size) : RfdB w G g SA sc LA lc sl rl s :=
  ⟨h.blk, h.srow, h.lrow, h.rlen, fun n hn => by
    obtain ⟨v, h1, h2⟩ := h.syn n hn
    exact ⟨v, h1, h2.mono hF⟩, fun i hi => by
    obtain ⟨v, h1, h2⟩ := h.pnd i hi
    exact ⟨v, h1, h2.mono hF⟩, hF g h.fg, fun k q => hF k (h.fs k q), fun k q => hF k (h.fl k q), hG, h.ok, h.lim⟩
theorem RfdB.below (h : RfdB w F g SA sc LA lc sl rl s) (hb : Below w.heap.size w w') : RfdB w' F g SA sc LA lc sl rl s := h.keep hb.size (fun k f => hb.block k (h.lt k f))
end

/-- The document's disk at block g, as a thing. -/
def rfd (g : Nat) (s : St) : Res where
  is w F := ∃ SA sc LA lc sl rl, RfdB w F g SA sc LA lc sl rl s
  lt _ _ := fun ⟨_, _, _, _, _, _, h⟩ => h.lt
  keep _ _ _ := fun ⟨SA, sc, LA, lc, sl, rl, h⟩ hs hk => ⟨SA, sc, LA, lc, sl, rl, h.keep hs hk⟩

/-- A row of one type is no block of another. -/
theorem row_not_row {w : World} {base e size n base' e' size' n' : Nat} {v v' : Value} {xs xs' : List Value} (h : w.ownsRow base e size v n xs) (h' : w.ownsRow base' e' size' v' n' xs') (hne : e ≠ e') : ∀ k, v.ownBlock = some k → v'.ownBlock ≠ some k := by
  intro k hk hk'
  rcases h.2 with ⟨rfl, _⟩ | ⟨g, cap, cur, rfl, _, hg, _⟩
  · simp [Value.ownBlock] at hk
  · rcases h'.2 with ⟨rfl, _⟩ | ⟨g', cap', cur', rfl, _, hg', _⟩
    · simp [Value.ownBlock] at hk'
    · simp [Value.ownBlock] at hk hk'
      subst hk hk'
      rw [hg] at hg'
      simp at hg'
      exact hne hg'.2

section
variable {w w' : World} {F : Nat → Prop} {g : Nat} {SA LA : Option Addr} {sc lc : Nat} {sl : List Value} {rl : List (Nat × Value)} {s : St}

/-- Behind stores into the disk's own block alone. -/
theorem RfdB.set {s' : St} (h : RfdB w F g SA sc LA lc sl rl s) (hb : Bk w' g 55 #[.slice SA s'.num sc, .slice LA s'.pend.length lc, .int .i64 s'.left, .bool s'.gone, .int .i64 s'.syncs])
    (hf : Fr (fun k => k = g) w w') (h0 : s'.num = s.num) (h1 : s'.syn = s.syn) (h2 : s'.pend = s.pend) (h3 : s'.Ok) (h4 : s'.syncs < 1000000) : RfdB w' F g SA sc LA lc sl rl s' := by
  have hsg : ∀ k, (Value.slice SA s.num sc).ownBlock = some k → k ≠ g := fun k hk e => row_not_bk h.srow h.blk (by decide) (e ▸ hk)
  have hlg : ∀ k, (Value.slice LA s.pend.length lc).ownBlock = some k → k ≠ g := fun k hk e => row_not_bk h.lrow h.blk (by decide) (e ▸ hk)
  have hd : ∀ {v l}, Dat w F v l → Dat w' F v l := fun {v l} hd => ⟨owns_keep hd.1 (fun k hk => hf.block k (h.lt k (hd.2 k hk)) (fun e => row_not_bk hd.1 h.blk (by decide) (e ▸ hk))), hd.2⟩
  have e2 : ∀ i, s'.at_ i = s.at_ i := fun i => by unfold St.at_; rw [h2]
  refine ⟨hb, ?_, ?_, by rw [h2]; exact h.rlen, fun n hn => ?_, fun i hi => ?_, h.fg, by rw [h0]; exact h.fs, by rw [h2]; exact h.fl, fun k f => Nat.lt_of_lt_of_le (h.lt k f) hf.size, h3, by rw [h2]; exact ⟨h.lim.1, h4⟩⟩
  · rw [h0]
    exact owns_keep h.srow (fun k hk => hf.block k (h.lt k (h.fs k hk)) (hsg k hk))
  · rw [h2]
    exact owns_keep h.lrow (fun k hk => hf.block k (h.lt k (h.fl k hk)) (hlg k hk))
  · rw [h0] at hn
    obtain ⟨v, a1, a2⟩ := h.syn n hn
    exact ⟨v, a1, by rw [h1]; exact hd a2⟩
  · rw [h2] at hi
    obtain ⟨v, a1, a2⟩ := h.pnd i hi
    exact ⟨v, by rw [e2]; exact a1, by rw [e2]; exact hd a2⟩

theorem RfdB.turned {s' : St} (h : RfdB w F g SA sc LA lc sl rl s) (h' : RfdB w' F g SA sc LA lc sl rl s') (hf : Fr (fun k => k = g) w w') : Turn (rfd g s') F w w' :=
  ⟨⟨SA, sc, LA, lc, sl, rl, h'.mono (fun _ f => .inl f) (fun k f => by
    rcases f with f | f
    · exact h'.lt k f
    · exact f.2)⟩, hf.mono fun k e => e ▸ h.fg⟩

theorem RfdB.same (h : RfdB w F g SA sc LA lc sl rl s) : Turn (rfd g s) F w w := h.turned h (Fr.refl _ _)

theorem ris_bad (h : RfdB w F g SA sc LA lc sl rl s) (n : Int) (hn : n < 0 ∨ (s.num : Int) ≤ n) : Calls Try.prog 35 #[.pointer (some ⟨g, 0, none⟩), .int .i64 n] w (Same (.bool false) w) := by
  have c2 : w.cell? ⟨g, 0, none⟩ = some (.slice SA s.num sc) := h.blk.cell 0
  clear h
  by_cases h0 : n < 0
  · have hd : decide ((0 : Int) ≤ n) = false := by simp; omega
    go_enter Try.func35, Try.ntmps35
    go_wp2_with fail
    go_ret
    exact ⟨rfl, rfl⟩
  · have h1 : (s.num : Int) ≤ n := by omega
    have hd : decide ((0 : Int) ≤ n) = true := by simp; omega
    have hd2 : decide (n < (s.num : Int)) = false := by simp; omega
    clear hn
    go_enter Try.func35, Try.ntmps35
    go_wp2_with fail
    go_ret
    exact ⟨rfl, rfl⟩

theorem ris_ok (h : RfdB w F g SA sc LA lc sl rl s) (n : Nat) (hn : n < s.num) : Calls Try.prog 35 #[.pointer (some ⟨g, 0, none⟩), .int .i64 n] w (Same (.bool true) w) := by
  have c2 : w.cell? ⟨g, 0, none⟩ = some (.slice SA s.num sc) := h.blk.cell 0
  have h0 : (0 : Int) ≤ (n : Int) := Int.natCast_nonneg _
  have h1 : (n : Int) < (s.num : Int) := by omega
  clear h
  go_enter Try.func35, Try.ntmps35
  go_wp2_with fail
  go_ret
  exact ⟨rfl, rfl⟩

/-- The step's answer. -/
def RetRStep (F : Nat → Prop) (g : Nat) (SA : Option Addr) (sc : Nat) (LA : Option Addr) (lc : Nat) (sl : List Value) (rl : List (Nat × Value)) (s : St) (w : World) (e : Ending) (w' : World) : Prop :=
  e = .returned (.bool s.can) ∧ RfdB w' F g SA sc LA lc sl rl s.step ∧ Fr (fun k => k = g) w w'

set_option maxHeartbeats 1000000 in
theorem rstep_any (h : RfdB w F g SA sc LA lc sl rl s) :
    Calls Try.prog 36 #[.pointer (some ⟨g, 0, none⟩)] w (RetRStep F g SA sc LA lc sl rl s w) := by
  obtain ⟨num, syn, pend, left, gone, syncs⟩ := s
  have hl := h.ok.left
  have hb := h.blk
  have c3 : w.cell? ⟨g, 2, none⟩ = some (.int .i64 left) := hb.cell 2
  have c4 : w.cell? ⟨g, 3, none⟩ = some (.bool gone) := hb.cell 3
  have f3 : w.frozen? ⟨g, 2, none⟩ = false := hb.frz 2
  have f4 : w.frozen? ⟨g, 3, none⟩ = false := hb.frz 3
  simp only at hl
  have E : ∀ w' s', s' = (St.mk num syn pend left gone syncs).step → Bk w' g 55 #[.slice SA s'.num sc, .slice LA s'.pend.length lc, .int .i64 s'.left, .bool s'.gone, .int .i64 s'.syncs] → Fr (fun k => k = g) w w' →
      RfdB w' F g SA sc LA lc sl rl (St.mk num syn pend left gone syncs).step ∧ Fr (fun k => k = g) w w' := by
    intro w' s' e hb' hf
    subst e
    exact ⟨h.set hb' hf (St.step_num _) (St.step_syn _) (St.step_pend _) h.ok.step (by rw [St.step_syncs]; exact h.lim.2), hf⟩
  have E := Lib.hid E
  have HB := Lib.hid hb
  clear h hb
  cases gone with
  | true =>
    have R : Hid (RetRStep F g SA sc LA lc sl rl ⟨num, syn, pend, left, true, syncs⟩ w (.returned (.bool false)) w) :=
      Lib.hid ⟨rfl, E.out _ _ rfl (by simpa [St.step] using HB.out) (Fr.refl _ _)⟩
    clear E HB
    go_enter Try.func36, Try.ntmps36
    go_wp2_with fail
    go_ret
    exact R.out
  | false =>
    by_cases h0 : left = 0
    · subst h0
      have R : Hid (RetRStep F g SA sc LA lc sl rl ⟨num, syn, pend, 0, false, syncs⟩ w (.returned (.bool false)) (w.setCell ⟨g, 3, none⟩ (.bool true))) :=
        Lib.hid ⟨rfl, E.out _ _ rfl (by have := HB.out.setc 3 (.bool true); simpa [St.step] using this) (Fr.cell1 _ _ _ _)⟩
      clear E HB
      go_enter Try.func36, Try.ntmps36
      go_wp2_with fail
      go_ret
      exact R.out
    · have hd : (left == 0) = false := by simpa using h0
      by_cases h1 : left = -1
      · subst h1
        have R : Hid (RetRStep F g SA sc LA lc sl rl ⟨num, syn, pend, -1, false, syncs⟩ w (.returned (.bool true)) w) :=
          Lib.hid ⟨rfl, E.out _ _ rfl (by simpa [St.step] using HB.out) (Fr.refl _ _)⟩
        clear E HB
        go_enter Try.func36, Try.ntmps36
        go_wp2_with fail
        go_ret
        exact R.out
      · have hp : 0 < left := by omega
        have R : Hid (RetRStep F g SA sc LA lc sl rl ⟨num, syn, pend, left, false, syncs⟩ w (.returned (.bool true)) (w.setCell ⟨g, 2, none⟩ (.int .i64 (left - 1)))) :=
          Lib.hid ⟨by simp [St.can, hd], E.out _ _ rfl (by have := HB.out.setc 2 (.int .i64 (left - 1)); simpa [St.step, h0, hp] using this) (Fr.cell1 _ _ _ _)⟩
        clear E HB h1
        go_enter Try.func36, Try.ntmps36
        go_wp2_with fail
        go_ret
        exact R.out

/-- What Fuse leaves. -/
def RetRFuse (F : Nat → Prop) (g : Nat) (s' : St) (w : World) (e : Ending) (w' : World) : Prop := e = .returned (.tuple #[]) ∧ Turn (rfd g s') F w w'

set_option maxHeartbeats 1000000 in
theorem rfuse_any (h : RfdB w F g SA sc LA lc sl rl s) (n : Int) (hn : -9223372036854775808 ≤ n ∧ n ≤ 9223372036854775807) :
    Calls Try.prog 22 #[.pointer (some ⟨g, 0, none⟩), .int .i64 n] w (RetRFuse F g (s.fuse n) w) := by
  have c3 : w.cell? ⟨g, 2, none⟩ = some (.int .i64 s.left) := h.blk.cell 2
  have f3 : w.frozen? ⟨g, 2, none⟩ = false := h.blk.frz 2
  have R : Hid (RetRFuse F g (s.fuse n) w (.returned (.tuple #[])) (w.setCell ⟨g, 2, none⟩ (.int .i64 (max n (-1))))) := by
    have hb : Bk (w.setCell ⟨g, 2, none⟩ (.int .i64 (max n (-1)))) g 55 #[.slice SA (s.fuse n).num sc, .slice LA (s.fuse n).pend.length lc, .int .i64 (s.fuse n).left, .bool (s.fuse n).gone, .int .i64 (s.fuse n).syncs] := by
      have := h.blk.setc 2 (.int .i64 (max n (-1)))
      simpa [St.fuse] using this
    have hf := Fr.cell1 w g 2 (.int .i64 (max n (-1)))
    exact Lib.hid ⟨rfl, h.turned (h.set hb hf rfl rfl rfl (h.ok.fuse hn.2) h.lim.2) hf⟩
  clear h
  by_cases h1 : n < -1
  · rw [show max n (-1) = -1 from by omega] at R
    go_enter Try.func22, Try.ntmps22
    go_wp2_with fail
    all_goals first | omega | skip
    go_end0
    exact R.out
  · rw [show max n (-1) = n from by omega] at R
    go_enter Try.func22, Try.ntmps22
    go_wp2_with fail
    all_goals first | omega | skip
    go_end0
    exact R.out
end
end Go.Proofs.Ytlchikllgmkokaa
