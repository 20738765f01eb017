/- What it says: what Put, a synchronization and a crash behind it, and Get make of the plain disk, where all was synchronized. No program is named. -/
import Derived.Test.YtlchikllgmkokabStPut
import Derived.Test.YtlchikllgmkokabStHave
import Derived.Test.YtlchikllgmkokabDNow
import Derived.Test.YtlchikllgmkokabDLeaves
namespace Go.Proofs.Ytlchikllgmkokab
open Go.RowKit

/-- Behind k puts, each synchronized, or crashed. -/
structure Pts (s : St) (k : Nat) : Prop where
  num : s.num = 4
  left : s.left = -1
  gone : s.gone = false
  pend : s.pend = []
  syncs : s.syncs ≤ k

theorem Pts.start : Pts (St.new 4) 0 := ⟨rfl, rfl, rfl, rfl, Nat.le_refl _⟩
section
variable {s : St} {k n : Nat} {p : List Int}
theorem Pts.step (h : Pts s k) : s.step = s := by
  have h1 := h.left
  have h2 := h.gone
  unfold St.step
  rw [if_neg (by rw [h2]; simp), if_neg (by omega), if_neg (by omega)]
theorem Pts.can (h : Pts s k) : s.can = true := by
  have h1 := h.left
  have h2 := h.gone
  unfold St.can
  rw [h1, h2]
  rfl
theorem Pts.next (h : Pts s k) : Pts s (k + 1) := ⟨h.num, h.left, h.gone, h.pend, Nat.le_succ_of_le h.syncs⟩
theorem Pts.rd (h : Pts s k) (hn : n < 4) : s.rErr n = 0 ∧ s.rBytes n = s.syn n := by
  have e : s.rErr n = 0 := by
    unfold St.rErr
    rw [if_neg (by rw [h.num]; omega), if_neg (by rw [h.gone]; simp)]
  refine ⟨e, ?_⟩
  unfold St.rBytes
  rw [if_pos e, now_nothing h.pend]
  rfl
theorem Pts.get (h : Pts s k) (hn : n < 4) : getE s n = openE (s.syn n) ∧ getB s n = openB (s.syn n) := by
  obtain ⟨h1, h2⟩ := h.rd hn
  refine ⟨?_, ?_⟩
  · unfold getE
    rw [if_neg (by rw [h1]; simp), h2]
  · unfold getB
    rw [if_neg (by rw [h1]; simp), h2]
/-- The sector that is put. -/
def putL (s : St) (n : Nat) (p : List Int) : List Int := wrapL (nextOf (s.syn n)) p
theorem putL_sec (hp : p.length ≤ 254) (hr : ∀ x ∈ p, 0 ≤ x ∧ x < 256) : Sec (putL s n p) := by
  have := nextOf_rng (s.syn n)
  exact wrapL_sec (by omega) hr hp
theorem putL_right (hp : p.length ≤ 254) : rightL (putL s n p) := right_wrap (nextOf_rng _) hp
theorem Pts.put (h : Pts s k) (hn : n < 4) (hp : p.length ≤ 254) (hr : ∀ x ∈ p, 0 ≤ x ∧ x < 256) : putE s n p = 0 ∧ putS s n p = s.wrote n (putL s n p) := by
  obtain ⟨h1, h2⟩ := h.rd hn
  have hs := putL_sec (s := s) (n := n) hp hr
  have hl : (wrapL (nextOf (s.syn n)) p).length = 256 := hs.1
  have e : ¬ ((n : Int) < 0 ∨ (s.num : Int) ≤ n) := by rw [h.num]; omega
  refine ⟨?_, ?_⟩
  · unfold putE
    rw [if_neg (by omega), if_neg (by rw [h1]; simp), h2]
    unfold St.wErr
    rw [if_neg e, if_neg (by rw [hl]; simp), if_pos h.can]
  · unfold putS
    rw [if_neg (by omega), if_neg (by rw [h1]; simp), h2]
    unfold St.write
    rw [if_neg e, if_neg (by rw [hl]; simp), if_pos h.can]
    rfl
theorem Pts.wrote_can (h : Pts s k) {l : List Int} : (s.wrote n l).can = true := by
  show (_ : Bool) = true
  unfold St.wrote
  rw [h.step]
  exact h.can
theorem Pts.wrote_step (h : Pts s k) {l : List Int} : (s.wrote n l).step = s.wrote n l := by
  have h1 := h.left
  have h2 := h.gone
  have e1 : (s.wrote n l).left = -1 := by unfold St.wrote; rw [h.step]; exact h1
  have e2 : (s.wrote n l).gone = false := by unfold St.wrote; rw [h.step]; exact h2
  unfold St.step
  rw [if_neg (by rw [e2]; simp), if_neg (by omega), if_neg (by omega)]
theorem Pts.sync (h : Pts s k) {l : List Int} : (s.wrote n l).sErr = 0 ∧ Pts (s.wrote n l).sync (k + 1) ∧ (s.wrote n l).sync.syn = upd s.syn n l := by
  have hc := h.wrote_can (n := n) (l := l)
  have e : (s.wrote n l).sync = (s.wrote n l).synced := by unfold St.sync; rw [if_pos hc]
  refine ⟨by unfold St.sErr; rw [if_pos hc], ?_, ?_⟩
  · rw [e]
    unfold St.synced
    rw [h.wrote_step]
    unfold St.wrote
    rw [h.step]
    exact ⟨h.num, h.left, h.gone, rfl, by show s.syncs + 1 ≤ k + 1; have := h.syncs; omega⟩
  · rw [e]
    show (s.wrote n l).now = _
    rw [wrote_now, now_nothing h.pend]
theorem Pts.crash (h : Pts s k) {l : List Int} (c : Crs) : Pts ((s.wrote n l).crash c) (k + 1) ∧ ((s.wrote n l).crash c).syn = upd s.syn n (over l (s.syn n) (c.of 1 0)) := by
  refine ⟨⟨?_, rfl, rfl, rfl, Nat.zero_le _⟩, crash_one h.pend c⟩
  show (s.wrote n l).num = 4
  unfold St.wrote
  rw [h.step]
  exact h.num
theorem Pts.lim (h : Pts s k) (hk : k ≤ 40) {l : List Int} : (s.wrote n l).syncs < 999999 := by
  unfold St.wrote
  rw [h.step]
  have := h.syncs
  show s.syncs < _
  omega

/-- A sector that was put, and torn over what was there. -/
theorem torn_over (hp : p.length ≤ 254) (hr : ∀ x ∈ p, 0 ≤ x ∧ x < 256) (ho : Sec (s.syn n)) (j : Nat) (hj : j ≤ 256) :
    over (putL s n p) (s.syn n) j = s.syn n ∨ over (putL s n p) (s.syn n) j = putL s n p ∨ openE (over (putL s n p) (s.syn n) j) = 50 := by
  have hs := putL_sec (s := s) (n := n) hp hr
  by_cases h0 : j = 0
  · subst h0; exact .inl (over_none _ _)
  · by_cases h1 : j = 256
    · subst h1; exact .inr (.inl (over_full hs ho))
    · refine .inr (.inr (openE_torn (over_sec hs ho j hj).1 ?_))
      exact torn_mix hp ho.1 (nextB_ne _ _).2 j (by omega) (by omega)
end

/-- What is remembered behind a put, against the disk. -/
structure PutsRel (L : Nat → List Int) (s : St) (n : Nat) (falls : Bool) (p : List Int) : Prop where
  others : ∀ m, m < 4 → m ≠ n → L m = openB (s.syn m)
  it : L n = openB (s.syn n) ∨ (falls = true ∧ (openE (s.syn n) = 50 ∨ (openE (s.syn n) = 0 ∧ openB (s.syn n) = padL p)))

theorem PutsRel.sync {L : Nat → List Int} {s : St} {k n : Nat} {p : List Int} (h : Pts s k) (hp : p.length ≤ 254) (hr : ∀ x ∈ p, 0 ≤ x ∧ x < 256) (hL : ∀ m, m < 4 → L m = openB (s.syn m)) :
    PutsRel (fun m => if m = n then padL p else L m) (s.wrote n (putL s n p)).sync n false p := by
  obtain ⟨_, _, e⟩ := h.sync (n := n) (l := putL s n p)
  refine ⟨fun m hm hne => ?_, .inl ?_⟩
  · rw [e, upd_ne _ _ hne]
    simp only [if_neg hne]
    exact hL m hm
  · rw [e, upd_at]
    simp only [if_pos]
    rw [openB_right (putL_sec hp hr).1 (putL_right hp)]
    exact (bodyL_wrap hp).symm
theorem PutsRel.crash {L : Nat → List Int} {s : St} {k n : Nat} {p : List Int} (ok : s.Ok) (h : Pts s k) (hp : p.length ≤ 254) (hr : ∀ x ∈ p, 0 ≤ x ∧ x < 256) (hL : ∀ m, m < 4 → L m = openB (s.syn m)) (hn : n < 4) (c : Crs) :
    PutsRel L ((s.wrote n (putL s n p)).crash c) n true p := by
  obtain ⟨_, e⟩ := h.crash (n := n) (l := putL s n p) c
  refine ⟨fun m hm hne => ?_, ?_⟩
  · rw [e, upd_ne _ _ hne]
    exact hL m hm
  · rw [e, upd_at]
    rcases torn_over hp hr (ok.syn n) (c.of 1 0) (c.of_le 1 0) with q | q | q
    · rw [q]; exact .inl (hL n hn)
    · rw [q]
      refine .inr ⟨rfl, .inr ⟨openE_right (putL_sec hp hr).1 (putL_right hp), ?_⟩⟩
      rw [openB_right (putL_sec hp hr).1 (putL_right hp)]
      exact bodyL_wrap hp
    · exact .inr ⟨rfl, .inl q⟩

theorem openE_two {l : List Int} (h : Sec l) : openE l = 0 ∨ openE l = 50 := by
  unfold openE
  rw [if_neg (by rw [h.1]; simp)]
  split
  · exact .inl rfl
  · exact .inr rfl
theorem openB_len0 {l : List Int} (h : Sec l) (e : openE l = 0) : (openB l).length = 254 := by
  unfold openB
  rw [if_pos e]
  exact bodyL_len h.1
theorem openB_len50 {l : List Int} (e : openE l = 50) : openB l = [] := openB_bad (by rw [e]; simp)

theorem Res.star_assoc {R S T : Res} {w : World} {F : Nat → Prop} (h : ((R.star S).star T).is w F) : (R.star (S.star T)).is w F := by
  obtain ⟨F1, F2, ⟨F3, F4, a1, a2, a3, a4, a5, a6⟩, h2, h3, h4, h5, h6⟩ := h
  refine ⟨F3, fun k => F4 k ∨ F2 k, a1, ⟨F4, F2, a2, h2, fun k f => h3 k (a5 k f), fun _ f => .inl f, fun _ f => .inr f, ?_⟩, ?_, fun k f => h4 k (a4 k f), ?_, h6⟩
  · intro k f
    rcases f with f | f
    · exact a6 k (a5 k f)
    · exact h6 k (h5 k f)
  · intro k f g
    rcases g with g | g
    · exact a3 k f g
    · exact h3 k (a4 k f) g
  · intro k f
    rcases f with f | f
    · exact h4 k (a5 k f)
    · exact h5 k f

/-- The struct that the loop copies, beside the others. -/
theorem toP {B : Nat} {K D H X : Res} {w : World} (h : Has B (K.star (D.star (H.star X))) w) : Has B (D.star (H.star (X.star K))) w := h.sw.map2 (fun _ => Res.star_assoc)
theorem bk_of {B g : Nat} {t : TypeId} {cs : Array Value} {w : World} (h : Has B (blkR g t cs) w) : Bk w g t cs := by
  obtain ⟨F, hF⟩ := h.ex
  exact hF.1
end Go.Proofs.Ytlchikllgmkokab
