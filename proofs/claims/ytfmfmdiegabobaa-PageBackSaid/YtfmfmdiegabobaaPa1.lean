/- What it says: contracts and plain mathematics that the laws' walks use, 1 of 5: each part's own remark says what; no condition. -/
import Derived.Laws.World
import Derived.WalkKit
import Derived.Deep.Draws
import Derived.Lib.Hide
import Derived.Laws.AppendOwnNone
import Derived.Test.YtfmfmdiegabobaaRows
import Derived.Lib.SliceRun
import Derived.Laws.BytesArg
import Derived.Lib.ConvBytes
import Derived.Lib.AppendStr
import Derived.Lib.Strings
import Derived.Below
import Derived.Deep.QuietTactic
import Derived.BigQuiet
import Derived.Laws.Build
import Derived.Laws.BitsAllLaws
import Derived.RegionTactic
import Derived.BigRegion
import Derived.Deep.RegionHeld3

set_option linter.unusedSimpArgs false
set_option linter.unusedVariables false
set_option linter.deprecated false
set_option linter.unusedSectionVars false
set_option linter.all false
namespace Go.Proofs.Ytfmfmdiegabobaa

/- the simulated disk in plain mathematics: what is synchronized, the writes since, the fuse; what each call makes of it. No program is named. -/
section
def Sec (l : List Int) : Prop := l.length = 256 ∧ ∀ x ∈ l, 0 ≤ x ∧ x < 256
def zeros : List Int := List.replicate 256 0
structure St where
  num : Nat
  syn : Nat → List Int
  pend : List (Nat × List Int)
  left : Int
  gone : Bool
  syncs : Nat
def St.at_ (s : St) (i : Nat) : Nat × List Int := s.pend.getD i (0, zeros)
structure St.Ok (s : St) : Prop where
  num : 1 ≤ s.num ∧ s.num ≤ 4096
  syn : ∀ n, Sec (s.syn n)
  pend : ∀ p ∈ s.pend, p.1 < s.num ∧ Sec p.2
  left : -1 ≤ s.left ∧ s.left ≤ 9223372036854775807
theorem St.Ok.at_ {s : St} (h : s.Ok) (i : Nat) (hi : i < s.pend.length) : (s.at_ i).1 < s.num ∧ Sec (s.at_ i).2 := by
  have e : s.at_ i = s.pend[i] := by simp [St.at_, List.getD, List.getElem?_eq_getElem hi]
  rw [e]
  exact h.pend _ (List.getElem_mem hi)
def St.new (n : Nat) : St := ⟨n, fun _ => zeros, [], -1, false, 0⟩
def St.step (s : St) : St := if s.gone then s else if s.left = 0 then { s with gone := true } else if 0 < s.left then { s with left := s.left - 1 } else s
theorem St.step_num (s : St) : s.step.num = s.num := by unfold St.step; split <;> (try rfl); split <;> (try rfl); split <;> rfl
theorem St.step_syn (s : St) : s.step.syn = s.syn := by unfold St.step; split <;> (try rfl); split <;> (try rfl); split <;> rfl
theorem St.step_pend (s : St) : s.step.pend = s.pend := by unfold St.step; split <;> (try rfl); split <;> (try rfl); split <;> rfl
theorem St.Ok.step {s : St} (h : s.Ok) : s.step.Ok := by
  refine ⟨by rw [St.step_num]; exact h.num, by rw [St.step_syn]; exact h.syn, by rw [St.step_pend, St.step_num]; exact h.pend, ?_⟩
  have hl := h.left
  unfold St.step
  split
  · exact hl
  · split
    · exact hl
    · split
      · show -1 ≤ s.left - 1 ∧ s.left - 1 ≤ _
        omega
      · exact hl
def upd (f : Nat → List Int) (n : Nat) (l : List Int) : Nat → List Int := fun m => if m = n then l else f m
theorem upd_sec {f : Nat → List Int} (h : ∀ n, Sec (f n)) {l : List Int} (hl : Sec l) (n : Nat) : ∀ m, Sec (upd f n l m) := fun m => by
  unfold upd
  split
  · exact hl
  · exact h m
def St.upTo (s : St) : Nat → Nat → List Int
  | 0 => s.syn
  | k + 1 => upd (s.upTo k) (s.at_ k).1 (s.at_ k).2
theorem St.Ok.upTo {s : St} (h : s.Ok) : ∀ k, k ≤ s.pend.length → ∀ n, Sec (s.upTo k n)
  | 0, _ => h.syn
  | k + 1, hk => upd_sec (h.upTo k (by omega)) (h.at_ k (by omega)).2 _
structure Crs where
  keep : List Int
  torn : Bool
  cut : Int
def clamp (c : Int) : Nat := (min (max c 0) 256).toNat
def Crs.of (c : Crs) (len i : Nat) : Nat := if c.torn = true ∧ i + 1 = len then clamp c.cut else if (i : Int) ∈ c.keep then 256 else 0
end

/- stamped sectors in plain mathematics: the next stamp, a wrapped payload, what is opened. No program is named. -/
section
def rightL (l : List Int) : Prop := l.getD 0 0 = l.getD 255 0 ∧ 1 ≤ l.getD 0 0 ∧ l.getD 0 0 ≤ 3
instance (l : List Int) : Decidable (rightL l) := by unfold rightL; infer_instance
end

/- a slice value reads as a list of bytes, and goes on reading so behind new blocks, draws, and writes to blocks of the call's own. No program is named; no condition. -/
section
open Go.RowKit
structure Byt (w : World) (A : Option Addr) (n c : Nat) (l : List Int) : Prop where
  len : l.length = n
  cap : n ≤ c
  max : c ≤ maxLen
  rng : ∀ x ∈ l, 0 ≤ x ∧ x < 256
  nil_ : A = none → n = 0 ∧ c = 0
  at_ : 0 < n → ∃ g off, A = some ⟨g, off, none⟩ ∧ ∀ i, i < n → w.cell? ⟨g, off + i, none⟩ = some (.int .u8 (l.getD i 0))
section
variable {w w' : World} {A : Option Addr} {n c : Nat} {l : List Int}
theorem Byt.nil (w : World) : Byt w none 0 0 [] := ⟨rfl, Nat.le_refl _, Nat.zero_le _, by simp, fun _ => ⟨rfl, rfl⟩, fun h => absurd h (by omega)⟩
theorem Byt.keep (h : Byt w A n c l) (hk : ∀ (p : Addr) u, w.cell? p = some u → w'.cell? p = some u) : Byt w' A n c l :=
  ⟨h.len, h.cap, h.max, h.rng, h.nil_, fun hn => by
    obtain ⟨g, off, e, hc⟩ := h.at_ hn
    exact ⟨g, off, e, fun i hi => hk _ _ (hc i hi)⟩⟩
theorem Byt.below (h : Byt w A n c l) (hb : Below w.heap.size w w') : Byt w' A n c l :=
  h.keep fun p _ hu => (hb.cell (World.block_lt_of_cell? w p hu)).trans hu
theorem Byt.drewN (h : Byt w A n c l) (k : Nat) : Byt (w.drewN k) A n c l := h.keep fun _ _ hu => hu
theorem Byt.drew (h : Byt w A n c l) : Byt w.drew A n c l := h.keep fun _ _ hu => hu
theorem Byt.alloc (h : Byt w A n c l) (o : Obj) : Byt (w.alloc o) A n c l :=
  h.below ((Below.refl _ _).alloc (Nat.le_refl _) o)
theorem Byt.lt_ (h : Byt w A n c l) (i : Nat) (hi : i < n) : 0 ≤ l.getD i 0 ∧ l.getD i 0 < 256 := by
  have hl : i < l.length := by rw [h.len]; exact hi
  have : l.getD i 0 = l[i] := by simp [List.getD, List.getElem?_eq_getElem hl]
  rw [this]
  exact h.rng _ (List.getElem_mem hl)
theorem Byt.of_own {base : Nat} {e : TypeId} (h : w.ownsRow base e 1 (.slice A n c) n (l.map (Value.int .u8))) (hr : ∀ x ∈ l, 0 ≤ x ∧ x < 256) : Byt w A n c l := by
  have hl : l.length = n := by simpa using h.1
  rcases h.2 with ⟨hv, hn⟩ | ⟨g, cap, cur, hv, hb, hg, hnc, hm, hs, ht⟩
  · injection hv with h1 h2 h3
    subst h1 h2 h3
    exact ⟨hl, Nat.le_refl _, Nat.zero_le _, hr, fun _ => ⟨rfl, rfl⟩, fun h => absurd h (by omega)⟩
  · injection hv with h1 h2 h3
    subst h1 h3
    refine ⟨hl, hnc, hm, hr, (fun h => nomatch h), fun _ => ⟨g, 0, rfl, fun i hi => ?_⟩⟩
    have := h.cells (g := g) rfl i (.int .u8 (l.getD i 0)) (by
      have hil : i < l.length := by omega
      simp [List.getElem?_map, List.getElem?_eq_getElem hil, List.getD])
    have hadd : (⟨g, 0, none⟩ : Addr).add i = ⟨g, 0 + i, none⟩ := by unfold Addr.add; split <;> simp_all
    rwa [hadd] at this
theorem Byt.take (h : Byt w A n c l) (k : Nat) (hk : k ≤ n) : Byt w A k c (l.take k) := by
  refine ⟨by rw [List.length_take, h.len]; omega, by have := h.cap; omega, h.max, fun x hx => h.rng x (List.mem_of_mem_take hx), fun e => ⟨by have := (h.nil_ e).1; omega, (h.nil_ e).2⟩, fun hk0 => ?_⟩
  obtain ⟨g, off, e, hc⟩ := h.at_ (by omega)
  refine ⟨g, off, e, fun i hi => ?_⟩
  rw [hc i (by omega)]
  congr 2
  simp [List.getD, hi]
theorem Byt.cells (h : Byt w A n c l) (ad : Addr) (hA : A = some ad) : ∀ j u, (l.map (Value.int .u8))[j]? = some u → w.cell? (ad.add j) = some u := by
  intro j u hu
  rw [List.getElem?_map] at hu
  have hj : j < l.length := by
    rcases Nat.lt_or_ge j l.length with h1 | h1
    · exact h1
    · rw [List.getElem?_eq_none h1] at hu; simp at hu
  obtain ⟨g, off, e, hc⟩ := h.at_ (by rw [← h.len]; omega)
  rw [hA] at e
  injection e with e
  subst e
  rw [List.getElem?_eq_getElem hj] at hu
  have hadd : (⟨g, off, none⟩ : Addr).add j = ⟨g, off + j, none⟩ := by unfold Addr.add; split <;> simp_all
  rw [hadd, hc j (by rw [← h.len]; exact hj)]
  simp at hu
  rw [← hu]
  simp [List.getD, List.getElem?_eq_getElem hj]
end
def Bk (w : World) (g : Nat) (t : TypeId) (cs : Array Value) : Prop := w.heap[g]? = some (.cells cs t (0, 0))
section
variable {w w' : World} {g : Nat} {t : TypeId} {cs : Array Value}
theorem Bk.lt (h : Bk w g t cs) : g < w.heap.size := (Array.getElem?_eq_some_iff.1 h).1
theorem Bk.cell (h : Bk w g t cs) (i : Nat) : w.cell? ⟨g, i, none⟩ = cs[i]? := cell_of_row w g i cs t (0, 0) h
theorem Bk.frz (h : Bk w g t cs) (i : Nat) : w.frozen? ⟨g, i, none⟩ = false := by
  unfold Bk at h
  simp [World.frozen?, h]
theorem Bk.new (w : World) (t : TypeId) (cs : Array Value) : Bk (w.alloc (.cells cs t)) w.heap.size t cs := heap_alloc_new w _
theorem Bk.setc (h : Bk w g t cs) (i : Nat) (u : Value) : Bk (w.setCell ⟨g, i, none⟩ u) g t (cs.setIfInBounds i u) := by
  unfold Bk at h ⊢
  simp [World.setCell, Array.getElem?_modify, h]
theorem Bk.bel (h : Bk w g t cs) {B : Nat} (hb : Below B w w') (hg : g < B) : Bk w' g t cs := (hb.block g hg).trans h
end
theorem Byt.of_bk {w : World} {g : Nat} {t : TypeId} {cs : Array Value} (h : Bk w g t cs) (off n c : Nat) (l : List Int) (hl : l.length = n) (hc : n ≤ c) (hm : c ≤ maxLen) (hr : ∀ x ∈ l, 0 ≤ x ∧ x < 256)
    (ha : ∀ i, i < n → cs[off + i]? = some (.int .u8 (l.getD i 0))) : Byt w (some ⟨g, off, none⟩) n c l :=
  ⟨hl, hc, hm, hr, (fun h => nomatch h), fun _ => ⟨g, off, rfl, fun i hi => by rw [h.cell]; exact ha i hi⟩⟩
def Ret (v : Value) (w : World) (e : Ending) (w' : World) : Prop := e = .returned v ∧ Below w.heap.size w w'
def RetByt (l : List Int) (w : World) (e : Ending) (w' : World) : Prop :=
  ∃ A n c, e = .returned (.slice A n c) ∧ Byt w' A n c l ∧ Below w.heap.size w w'
def Quiet (v : Value) (w : World) (e : Ending) (w' : World) : Prop := e = .returned v ∧ ∃ k, w' = w.drewN k
theorem below_drewN {B : Nat} {a w : World} (h : Below B a w) (n : Nat) : Below B a (w.drewN n) := ⟨h.os, h.tape, h.output, h.size, h.block⟩
theorem Below.then {w w1 w2 : World} (h : Below w.heap.size w w1) (k : Below w1.heap.size w1 w2) : Below w.heap.size w w2 :=
  h.trans (k.mono h.size)
theorem Quiet.ret {P : Program} {f : FuncId} {args : Array Value} {v : Value} {w : World} (h : Calls P f args w (Quiet v w)) : Calls P f args w (Ret v w) :=
  h.mono fun _ _ ⟨he, k, hw⟩ => ⟨he, by rw [hw]; exact below_drewN (Below.refl _ _) k⟩
end

/- the statements' own() hands back the same bytes in new memory; the slice that comes in holds at most 2^47 bytes. -/
section
open Go.RowKit
def RetOwn (l : List Int) (w : World) (e : Ending) (w' : World) : Prop :=
  ∃ A n c, e = .returned (.slice A n c) ∧ w'.ownsRow w.heap.size 5 1 (.slice A n c) n (l.map (Value.int .u8)) ∧ (∀ x ∈ l, 0 ≤ x ∧ x < 256) ∧ Below w.heap.size w w'
theorem RetOwn.byt {l : List Int} {w : World} {e : Ending} {w' : World} (h : RetOwn l w e w') : RetByt l w e w' := by
  obtain ⟨A, n, c, he, ho, hr, hb⟩ := h
  exact ⟨A, n, c, he, Byt.of_own ho hr, hb⟩
/- What an append onto a row of one's own leaves. -/
end

/- strings as lists of bytes; '[]byte(s)', 'string(b)' and 'append(b, s...)' as the laws on slices of bytes want them. No program's function is named; no condition. -/
section
open Go.RowKit
def nums (s : ByteArray) : List Int := s.data.toList.map fun b => (b.toNat : Int)
theorem nums_rng (s : ByteArray) : ∀ x ∈ nums s, 0 ≤ x ∧ x < 256 := by
  intro x hx
  obtain ⟨b, _, rfl⟩ := List.mem_map.1 hx
  have := b.toNat_lt
  omega
theorem nums_len (s : ByteArray) : (nums s).length = s.size := by
  unfold nums
  rw [List.length_map, Array.length_toList]
  rfl
theorem nums_getD (s : ByteArray) (j : Nat) (hj : j < s.size) : (nums s).getD j 0 = ((s.data.toList.getD j 0).toNat : Int) := by
  have h : j < s.data.toList.length := by rw [Array.length_toList]; exact hj
  unfold nums
  simp only [List.getD, List.getElem?_map, List.getElem?_eq_getElem h, Option.map_some, Option.getD_some]
theorem bytesWorld_below (w : World) (e : TypeId) (s : ByteArray) : Below w.heap.size w (Lib.bytesWorld w e s) :=
  ⟨rfl, rfl, rfl, by rw [Lib.bytesWorld_size]; omega, fun k hk => Lib.bytesWorld_at_old w e s k hk⟩
theorem Byt.ofString (w : World) (e : TypeId) (s : ByteArray) (hs : s.size ≤ maxLen) : Byt (Lib.bytesWorld w e s) (some ⟨w.heap.size, 0, none⟩) s.size (grownCap w s.size 0 e) (nums s) :=
  ⟨nums_len s, grownCap_ge w s.size 0 e, grownCap_le_maxLen w s.size 0 e hs, nums_rng s, (fun h => nomatch h), fun _ => ⟨w.heap.size, 0, rfl, fun i hi => by
    rw [Nat.zero_add, Lib.bytesWorld_cell w e s i hi, nums_getD s i hi]⟩⟩
theorem conv_str (w : World) (s : ByteArray) : (convert 9 25 (.string s)).run Try.prog w = .ok (.slice (some ⟨w.heap.size, 0, none⟩) s.size (grownCap w s.size 0 5)) (Lib.bytesWorld w 5 s) :=
  Lib.run_convert_string_bytes w _ _ _ s Try.underlying9 Try.underlying25 Try.underlying5
end

/- plain mathematics of layer 1: digits to the base 128, what is read of them, big-endian bytes. No program is named; no condition. -/
section
def hiD (n : Nat) : List Int := if _h : n = 0 then [] else hiD (n / 128) ++ [((n : Int) % 128) + 128]
termination_by n
decreasing_by omega
def shortL (n : Nat) : List Int := hiD (n / 128) ++ [((n : Int) % 128)]
theorem hiD_zero : hiD 0 = [] := by rw [hiD]; simp
theorem hiD_pos {n : Nat} (h : n ≠ 0) : hiD n = hiD (n / 128) ++ [((n : Int) % 128) + 128] := by rw [hiD]; simp [h]
theorem hiD_rng (n : Nat) : ∀ x ∈ hiD n, 128 ≤ x ∧ x < 256 := by
  induction n using Nat.strongRecOn with
  | _ n ih =>
    intro x hx
    by_cases h : n = 0
    · rw [h, hiD_zero] at hx; simp at hx
    · rw [hiD_pos h, List.mem_append] at hx
      rcases hx with hx | hx
      · exact ih (n / 128) (by omega) x hx
      · simp at hx; omega
theorem shortL_rng (n : Nat) : ∀ x ∈ shortL n, 0 ≤ x ∧ x < 256 := by
  intro x hx
  unfold shortL at hx
  rw [List.mem_append] at hx
  rcases hx with hx | hx
  · have := hiD_rng _ x hx; omega
  · simp at hx; omega
theorem hiD_len (n k : Nat) (h : n < 128 ^ k) : (hiD n).length ≤ k := by
  induction k generalizing n with
  | zero =>
    have : n = 0 := by simpa using h
    rw [this, hiD_zero]; simp
  | succ k ih =>
    by_cases h0 : n = 0
    · rw [h0, hiD_zero]; simp
    · rw [hiD_pos h0]
      have := ih (n / 128) (by rw [Nat.pow_succ] at h; omega)
      simp; omega
theorem shortL_len (n : Nat) (h : n < 18446744073709551616) : (shortL n).length ≤ 10 := by
  unfold shortL
  have := hiD_len (n / 128) 9 (by omega)
  simp; omega
theorem shortL_pos (n : Nat) : 0 < (shortL n).length := by unfold shortL; simp
def takeF : List Int → Nat → Nat → Nat × Nat × Nat
  | [], _, _ => (0, 0, 10)
  | c :: r, n, i => if i = 0 ∧ c = 128 then (0, 0, 11) else if 144115188075855872 ≤ n then (0, 0, 12) else
      if c < 128 then (n * 128 + (c % 128).toNat, i + 1, 0) else takeF r (n * 128 + (c % 128).toNat) (i + 1)
theorem takeF_cons (c : Int) (r : List Int) (n i : Nat) : takeF (c :: r) n i = if i = 0 ∧ c = 128 then (0, 0, 11) else if 144115188075855872 ≤ n then (0, 0, 12) else
      if c < 128 then (n * 128 + (c % 128).toNat, i + 1, 0) else takeF r (n * 128 + (c % 128).toNat) (i + 1) := rfl
theorem takeF_hiD (m : Nat) (hm : m < 144115188075855872) (rest : List Int) (hd : m = 0 → True) : takeF (hiD m ++ rest) 0 0 = takeF rest m (hiD m).length := by
  induction m using Nat.strongRecOn generalizing rest with
  | _ m ih =>
    by_cases h : m = 0
    · rw [h, hiD_zero]; rfl
    · rw [hiD_pos h, List.append_assoc, ih (m / 128) (by omega) (by omega) _ (fun _ => trivial)]
      have hl : (hiD (m / 128)).length = 0 → m / 128 = 0 := by
        intro hl
        by_cases h0 : m / 128 = 0
        · exact h0
        · rw [hiD_pos h0] at hl; simp at hl
      rw [List.cons_append, List.nil_append, takeF_cons, if_neg (by intro ⟨h1, h2⟩; have := hl h1; omega), if_neg (by omega), if_neg (by omega)]
      have e : m / 128 * 128 + ((((m : Int) % 128) + 128) % 128).toNat = m := by omega
      rw [e, List.length_append]
      congr 1
theorem takeF_short (n : Nat) (hn : n < 18446744073709551616) (rest : List Int) : takeF (shortL n ++ rest) 0 0 = (n, (shortL n).length, 0) := by
  unfold shortL
  rw [List.append_assoc, takeF_hiD _ (by omega) _ (fun _ => trivial)]
  rw [List.cons_append, List.nil_append, takeF_cons, if_neg (by omega), if_neg (by omega), if_pos (by omega)]
  have e : n / 128 * 128 + (((n : Int) % 128) % 128).toNat = n := by omega
  rw [e, List.length_append]
  congr 1
theorem takeF_cut (m : Nat) (hm : m < 144115188075855872) (c : Nat) (hc : c ≤ (hiD m).length) : takeF ((hiD m).take c) 0 0 = (0, 0, 10) := by
  induction m using Nat.strongRecOn generalizing c with
  | _ m ih =>
    by_cases h : m = 0
    · rw [h, hiD_zero]; simp [takeF]
    · by_cases hc1 : c ≤ (hiD (m / 128)).length
      · rw [hiD_pos h, List.take_append_of_le_length hc1]
        exact ih (m / 128) (by omega) (by omega) c hc1
      · have hl : (hiD m).length = (hiD (m / 128)).length + 1 := by rw [hiD_pos h]; simp
        rw [List.take_of_length_le (by omega)]
        have := takeF_hiD m hm [] (fun _ => trivial)
        rw [List.append_nil] at this
        rw [this]; rfl
theorem takeF_short_cut (n : Nat) (hn : n < 18446744073709551616) (c : Nat) (hc : c < (shortL n).length) : takeF ((shortL n).take c) 0 0 = (0, 0, 10) := by
  unfold shortL at hc ⊢
  simp at hc
  rw [List.take_append_of_le_length (by omega)]
  exact takeF_cut _ (by omega) c (by omega)
theorem takeF_back (l : List Int) (hr : ∀ x ∈ l, 0 ≤ x ∧ x < 256) (done : List Int) (n i : Nat) (hd : done = hiD n) (hi : i = done.length) :
    ∀ z k, takeF l n i = (z, k, 0) → z < 18446744073709551616 ∧ i < k ∧ k ≤ i + l.length ∧ shortL z = (done ++ l).take k := by
  induction l generalizing done n i with
  | nil => intro z k h; simp [takeF] at h
  | cons c r ih =>
    intro z k h
    have hc := hr c (by simp)
    have hr' : ∀ x ∈ r, 0 ≤ x ∧ x < 256 := fun x hx => hr x (by simp [hx])
    rw [takeF_cons] at h
    by_cases h1 : i = 0 ∧ c = 128
    · rw [if_pos h1] at h; simp at h
    rw [if_neg h1] at h
    by_cases h2 : 144115188075855872 ≤ n
    · rw [if_pos h2] at h; simp at h
    rw [if_neg h2] at h
    have hn0 : i = 0 → n = 0 := by
      intro h0
      by_cases hn : n = 0
      · exact hn
      · rw [hd, hiD_pos hn] at hi; simp at hi; omega
    by_cases h3 : c < 128
    · rw [if_pos h3] at h
      simp only [Prod.mk.injEq, and_true] at h
      obtain ⟨hz, hk⟩ := h
      subst hk
      have hz' : z / 128 = n := by omega
      have hzm : ((z : Int) % 128) = c := by omega
      refine ⟨by omega, by omega, by simp, ?_⟩
      unfold shortL
      rw [hz', hzm, ← hd]
      rw [List.take_append, List.take_of_length_le (by omega)]
      have : i + 1 - done.length = 1 := by omega
      rw [this]; simp
    · rw [if_neg h3] at h
      have hne : n * 128 + (c % 128).toNat ≠ 0 := by
        intro h0
        have hn0' : n = 0 := by omega
        have hc0 : c = 128 := by omega
        have : i = 0 := by rw [hi, hd, hn0', hiD_zero]; rfl
        exact h1 ⟨this, hc0⟩
      have hstep : done ++ [c] = hiD (n * 128 + (c % 128).toNat) := by
        rw [hiD_pos hne]
        have e1 : (n * 128 + (c % 128).toNat) / 128 = n := by omega
        have e2 : ((n * 128 + (c % 128).toNat : Nat) : Int) % 128 + 128 = c := by omega
        rw [e1, e2, hd]
      obtain ⟨a1, a2, a3, a4⟩ := ih hr' (done ++ [c]) _ (i + 1) hstep (by simp [hi]) z k h
      refine ⟨a1, by omega, by simp; omega, ?_⟩
      rw [a4]; simp
theorem takeF_read (l : List Int) (hr : ∀ x ∈ l, 0 ≤ x ∧ x < 256) (z k : Nat) (h : takeF l 0 0 = (z, k, 0)) : z < 18446744073709551616 ∧ k ≤ l.length ∧ shortL z = l.take k := by
  obtain ⟨h1, _, h3, h4⟩ := takeF_back l hr [] 0 0 (by rw [hiD_zero]) rfl z k h
  exact ⟨h1, by omega, by simpa using h4⟩
theorem snocRec {α : Type} {p : List α → Prop} (nil : p []) (snoc : ∀ l c, p l → p (l ++ [c])) (l : List α) : p l := by
  have : ∀ n (l : List α), l.length = n → p l := by
    intro n
    induction n with
    | zero => intro l h; rw [List.eq_nil_of_length_eq_zero h]; exact nil
    | succ n ih =>
      intro l h
      have hne : l ≠ [] := by intro e; rw [e] at h; simp at h
      rw [← List.dropLast_concat_getLast hne]
      exact snoc _ _ (ih _ (by simp [h]))
  exact this _ l rfl
def foldL (l : List Int) (n : Nat) : Nat := l.foldl (fun v c => (v * 31 + c.toNat) % n) 0
theorem foldL_snoc (l : List Int) (c : Int) (n : Nat) : foldL (l ++ [c]) n = (foldL l n * 31 + c.toNat) % n := by simp [foldL]
theorem foldL_lt (l : List Int) (n : Nat) (h : 0 < n) : foldL l n < n := by
  induction l using snocRec with
  | nil => exact h
  | snoc l c _ => rw [foldL_snoc]; exact Nat.mod_lt _ h
theorem foldL_step (l : List Int) (n k : Nat) (h : k < l.length) : foldL (l.take (k + 1)) n = (foldL (l.take k) n * 31 + (l.getD k 0).toNat) % n := by
  rw [List.take_succ_eq_append_getElem h, foldL_snoc]
  simp [List.getD, List.getElem?_eq_getElem h]
end

/- num.TakeShort and trothref01.TakeShort answer what 'takeF' reads of the bytes, and write nothing. -/
section
open Go.RowKit
end

/- seal.firstNum and firstText answer the number, the text at the beginning of bytes; nothing is turned. -/
section
open Go.RowKit
def numF (l : List Int) (most : Int) : Nat × Nat × Nat :=
  if (takeF l 0 0).2.2 ≠ 0 then (0, 0, (takeF l 0 0).2.2) else if most < 0 ∨ most < ((takeF l 0 0).1 : Int) then (0, 0, 12) else ((takeF l 0 0).1, (takeF l 0 0).2.1, 0)
def textF (l : List Int) (most : Int) : List Int × Nat × Nat :=
  if (numF l most).2.2 ≠ 0 then ([], 0, (numF l most).2.2) else if l.length - (numF l most).2.1 < (numF l most).1 then ([], 0, 10) else ((l.drop (numF l most).2.1).take (numF l most).1, (numF l most).2.1 + (numF l most).1, 0)
theorem numF_ok {l : List Int} (hr : ∀ x ∈ l, 0 ≤ x ∧ x < 256) {most : Int} (h : (numF l most).2.2 = 0) : ((numF l most).1 : Int) ≤ most ∧ (numF l most).2.1 ≤ l.length ∧ shortL (numF l most).1 = l.take (numF l most).2.1 := by
  unfold numF at h ⊢
  split at h
  · rename_i h0; exact absurd h h0
  · rename_i h0
    split at h
    · simp at h
    · rename_i h1
      rw [if_neg h0, if_neg h1]
      have := takeF_read l hr (takeF l 0 0).1 (takeF l 0 0).2.1 (Prod.ext rfl (Prod.ext rfl (by omega)))
      simp only [not_or, Int.not_lt] at h1
      exact ⟨h1.2, this.2.1, this.2.2⟩
end

/- seal.take at its four types: behind an error, or of a nil reader, it answers nothing; what its decoder refuses becomes the reader's error; else the reader goes on behind the value. -/
section
open Go.RowKit
theorem Bk.drewN {w : World} {g : Nat} {t : TypeId} {cs : Array Value} (h : Bk w g t cs) (m : Nat) : Bk (w.drewN m) g t cs := h
end

/- a reader behind a pointer; seal.take at its four types as one step of it: the value, the rest, the error. -/
section
open Go.RowKit
structure Rd (w : World) (t : TypeId) (b g : Nat) (l : List Int) (e : Nat) : Prop where
  ne : g ≠ b
  ex : ∃ A n c, Bk w b t #[.slice A n c, .int .i64 e] ∧ Byt w A n c l ∧ (0 < n → ∀ a, A = some a → a.block = g)
theorem Rd.lt {w : World} {t : TypeId} {b g : Nat} {l : List Int} {e : Nat} (h : Rd w t b g l e) : b < w.heap.size := by
  obtain ⟨A, n, c, hb, _⟩ := h.ex
  exact hb.lt
theorem Byt.grown {w w' : World} {A : Option Addr} {n c : Nat} {l : List Int} {row : Option Nat} (h : Byt w A n c l) (hg : w.grownBy w' row) (hne : 0 < n → ∀ a, A = some a → some a.block ≠ row) : Byt w' A n c l :=
  ⟨h.len, h.cap, h.max, h.rng, h.nil_, fun hn => by
    obtain ⟨g, off, e, hc⟩ := h.at_ hn
    exact ⟨g, off, e, fun i hi => hg.cell (hc i hi) (show some g ≠ row from hne hn ⟨g, off, none⟩ e)⟩⟩
theorem Rd.grown {w w' : World} {t : TypeId} {b g : Nat} {l : List Int} {e : Nat} {row : Option Nat} (h : Rd w t b g l e) (hg : w.grownBy w' row) (hb : some b ≠ row) (hgr : some g ≠ row) : Rd w' t b g l e := by
  obtain ⟨A, n, c, h1, h2, h3⟩ := h.ex
  exact ⟨h.ne, A, n, c, (hg.block b h1.lt hb).trans h1, h2.grown hg (fun hn a ha => by rw [h3 hn a ha]; exact hgr), h3⟩
theorem grown_drewN (w : World) (m : Nat) (row : Option Nat) : w.grownBy (w.drewN m) row := ⟨rfl, rfl, rfl, Nat.le_refl _, fun _ _ _ => rfl⟩
theorem grown_set (w : World) (b k : Nat) (v : Value) : w.grownBy (w.setCell ⟨b, k, none⟩ v) (some b) :=
  ⟨rfl, rfl, rfl, by simp [World.setCell], fun i _ hi => Below.heap_setCell w _ _ i (fun e => hi (by simp [e]))⟩
theorem grown_trans {a b c : World} {row : Option Nat} (h : a.grownBy b row) (k : b.grownBy c row) : a.grownBy c row :=
  ⟨k.os.trans h.os, k.tape.trans h.tape, k.output.trans h.output, Nat.le_trans h.size k.size, fun i hi hr => (k.block i (Nat.lt_of_lt_of_le hi h.size) hr).trans (h.block i hi hr)⟩
def RdPost (t : TypeId) (b g : Nat) (l : List Int) (e0 : Nat) (v : Value) (w : World) (e : Ending) (w' : World) : Prop := e = .returned v ∧ Rd w' t b g l e0 ∧ w.grownBy w' (some b)
theorem Rd.fail {w : World} {t : TypeId} {b g : Nat} {l : List Int} {e : Nat} (h : Rd w t b g l e) (m er : Nat) : Rd ((w.drewN m).setCell ⟨b, 1, none⟩ (.int .i64 er)) t b g l er ∧ w.grownBy ((w.drewN m).setCell ⟨b, 1, none⟩ (.int .i64 er)) (some b) := by
  have hg := grown_trans (grown_drewN w m (some b)) (grown_set (w.drewN m) b 1 (.int .i64 er))
  obtain ⟨A, n, c, h1, h2, h3⟩ := h.ex
  refine ⟨⟨h.ne, A, n, c, ?_, h2.grown hg (fun hn a ha => by rw [h3 hn a ha]; simpa using h.ne), h3⟩, hg⟩
  have := (h1.drewN m).setc 1 (.int .i64 er)
  simpa using this
theorem Rd.next {w : World} {t : TypeId} {b g : Nat} {l l' : List Int} {e : Nat} (h : Rd w t b g l e) (m : Nat) {B : Option Addr} {k d : Nat} (hb : Byt w B k d l') (hB : 0 < k → ∀ a, B = some a → a.block = g) :
    Rd ((w.drewN m).setCell ⟨b, 0, none⟩ (.slice B k d)) t b g l' e ∧ w.grownBy ((w.drewN m).setCell ⟨b, 0, none⟩ (.slice B k d)) (some b) := by
  have hg := grown_trans (grown_drewN w m (some b)) (grown_set (w.drewN m) b 0 (.slice B k d))
  obtain ⟨A, n, c, h1, h2, h3⟩ := h.ex
  refine ⟨⟨h.ne, B, k, d, ?_, hb.grown hg (fun hk a ha => by rw [hB hk a ha]; simpa using h.ne), hB⟩, hg⟩
  have := (h1.drewN m).setc 0 (.slice B k d)
  simpa using this
end

/- bytes.Clone hands back the same bytes in new memory. -/
section
open Go.RowKit
end

/- num.Short hands back a number's digits to the base 128, in new memory. -/
section
open Go.RowKit
structure ArrRel (n : Nat) (w : World) (m at_ : Nat) (acc : List Int) (cs : Array Value) (wr : World) : Prop where
  blk : Bk wr w.heap.size 104 cs
  size : cs.size = 10
  len : acc.length + at_ = 10
  pos : 0 < acc.length
  cells : ∀ i, i < acc.length → cs[at_ + i]? = some (.int .u8 (acc.getD i 0))
  all : hiD (m / 128) ++ acc = shortL n
  bel : Below w.heap.size w wr
theorem ArrRel.step {n : Nat} {w : World} {m j : Nat} {acc : List Int} {cs : Array Value} {wr : World} (h : ArrRel n w m (j + 1) acc cs wr) (hm : m / 128 ≠ 0) :
    ArrRel n w (m / 128) j ((((m / 128 : Nat) : Int) % 128 + 128) :: acc) (cs.setIfInBounds j (.int .u8 (((m / 128 : Nat) : Int) % 128 + 128))) (wr.setCell ⟨w.heap.size, j, none⟩ (.int .u8 (((m / 128 : Nat) : Int) % 128 + 128))) := by
  have hl := h.len
  refine ⟨h.blk.setc j _, by simp [h.size], by simp; omega, by simp, fun i hi => ?_, by rw [← h.all, hiD_pos hm]; simp, h.bel.setCell (Nat.le_refl _) _⟩
  have hs := h.size
  cases i with
  | zero => simp [Array.getElem?_setIfInBounds, hs]; omega
  | succ i =>
    have := h.cells i (by simpa using hi)
    rw [Array.getElem?_setIfInBounds, if_neg (by omega)]
    rw [show j + (i + 1) = j + 1 + i from by omega, this]
    simp
theorem ArrRel.byt {n : Nat} {w : World} {m at_ : Nat} {acc : List Int} {cs : Array Value} {wr : World} (h : ArrRel n w m at_ acc cs wr) (hm : m / 128 = 0) : Byt wr (some ⟨w.heap.size, at_, none⟩) (10 - at_) (10 - at_) (shortL n) := by
  have e := h.all
  rw [hm, hiD_zero, List.nil_append] at e
  have hl := h.len
  rw [← e]
  exact Byt.of_bk h.blk at_ _ _ acc (by omega) (Nat.le_refl _) (by unfold maxLen; omega) (by rw [e]; exact shortL_rng n) (fun i hi => h.cells i (by omega))
theorem ArrRel.start (n : Nat) (w : World) : ArrRel n w n 9 [(n : Int) % 128] #[.int .u8 0, .int .u8 0, .int .u8 0, .int .u8 0, .int .u8 0, .int .u8 0, .int .u8 0, .int .u8 0, .int .u8 0, .int .u8 ((n : Int) % 128)]
    (w.alloc (.cells #[.int .u8 0, .int .u8 0, .int .u8 0, .int .u8 0, .int .u8 0, .int .u8 0, .int .u8 0, .int .u8 0, .int .u8 0, .int .u8 ((n : Int) % 128)] 104)) :=
  ⟨Bk.new _ _ _, rfl, rfl, by simp, fun i hi => by
    have : i = 0 := by simpa using hi
    subst this; rfl, rfl, (Below.refl _ _).alloc (Nat.le_refl _) _⟩
end

/- a writer behind a pointer, and what its methods gather; nothing else that was there is turned. -/
section
open Go.RowKit
structure Wrt (w : World) (base b : Nat) (l : List Int) : Prop where
  low : base ≤ b
  rng : ∀ x ∈ l, 0 ≤ x ∧ x < 256
  ex : ∃ A n c, Bk w b 56 #[.slice A n c] ∧ w.ownsRow base 5 1 (.slice A n c) n (l.map (Value.int .u8))
theorem Wrt.lt {w : World} {base b : Nat} {l : List Int} (h : Wrt w base b l) : b < w.heap.size := by
  obtain ⟨A, n, c, hb, _⟩ := h.ex
  exact hb.lt
theorem Wrt.ret {w w' : World} {base b : Nat} {l : List Int} (h : Wrt w base b l) (hb : Below w.heap.size w w') : Wrt w' base b l := by
  obtain ⟨A, n, c, h1, h2⟩ := h.ex
  refine ⟨h.low, h.rng, A, n, c, h1.bel hb h1.lt, ?_⟩
  exact h2.kept (row := none) ⟨hb.os, hb.tape, hb.output, hb.size, fun k hk _ => hb.block k hk⟩ (by
    cases A with
    | none => exact .inl rfl
    | some a => exact .inr (by simp [Value.ownBlock]))
end

/- what a writer's methods gather: a number, a byte, a flag, a text; a nil one gathers nothing; Bytes hands it back in new memory. -/
section
open Go.RowKit
def flagL (is : Bool) : List Int := [if is then 1 else 0]
def textL (m : List Int) : List Int := shortL m.length ++ m
theorem textL_rng {m : List Int} (h : ∀ x ∈ m, 0 ≤ x ∧ x < 256) : ∀ x ∈ textL m, 0 ≤ x ∧ x < 256 := fun x hx => by
  rcases List.mem_append.1 hx with h1 | h1
  · exact shortL_rng _ x h1
  · exact h x h1
end

/- a master record in plain mathematics: which may be, its bytes, what is read back out of a sector, which of two counts. -/
section
open Go.RowKit
structure Ms where
  gen : Int
  inc : Int
  first : Int
  lsn : Int
  chk : Int
def Ms.at_ (m : Ms) : Nat → Int
  | 0 => m.gen
  | 1 => m.inc
  | 2 => m.first
  | 3 => m.lsn
  | _ => m.chk
def Ms.fits (m : Ms) : Prop := ∀ k, -9223372036854775808 ≤ m.at_ k ∧ m.at_ k ≤ 9223372036854775807
theorem Ms.fits.all {m : Ms} (h : m.fits) : (-9223372036854775808 ≤ m.gen ∧ m.gen ≤ 9223372036854775807) ∧ (-9223372036854775808 ≤ m.inc ∧ m.inc ≤ 9223372036854775807) ∧ (-9223372036854775808 ≤ m.first ∧ m.first ≤ 9223372036854775807) ∧ (-9223372036854775808 ≤ m.lsn ∧ m.lsn ≤ 9223372036854775807) ∧ (-9223372036854775808 ≤ m.chk ∧ m.chk ≤ 9223372036854775807) := ⟨h 0, h 1, h 2, h 3, h 4⟩
structure Ms.ok (m : Ms) : Prop where
  gen : 1 ≤ m.gen ∧ m.gen ≤ 1099511627776
  inc : 0 ≤ m.inc ∧ m.inc ≤ 1099511627776
  first : 0 ≤ m.first ∧ m.first ≤ 1099511627776
  lsn : 0 ≤ m.lsn ∧ m.lsn ≤ 1099511627776
  chk : 0 ≤ m.chk ∧ m.chk ≤ 1099511627776
instance (m : Ms) : Decidable m.ok := decidable_of_iff ((1 ≤ m.gen ∧ m.gen ≤ 1099511627776) ∧ (0 ≤ m.inc ∧ m.inc ≤ 1099511627776) ∧ (0 ≤ m.first ∧ m.first ≤ 1099511627776) ∧ (0 ≤ m.lsn ∧ m.lsn ≤ 1099511627776) ∧ (0 ≤ m.chk ∧ m.chk ≤ 1099511627776)) ⟨fun ⟨a, b, c, d, e⟩ => ⟨a, b, c, d, e⟩, fun h => ⟨h.gen, h.inc, h.first, h.lsn, h.chk⟩⟩
theorem Ms.ok.at0 {m : Ms} (h : m.ok) (k : Nat) : 0 ≤ m.at_ k ∧ m.at_ k ≤ 1099511627776 := by
  match k with
  | 0 => exact ⟨by have := h.gen; show 0 ≤ m.gen; omega, h.gen.2⟩
  | 1 => exact h.inc
  | 2 => exact h.first
  | 3 => exact h.lsn
  | _ + 4 => exact h.chk
end

/- what a reader's methods answer, and where they leave it; of a nil one. -/
section
open Go.RowKit
theorem Rd.byt {w : World} {t : TypeId} {b g : Nat} {l : List Int} {e : Nat} (h : Rd w t b g l e) : ∃ A n c, Byt w A n c l ∧ w.cell? ⟨b, 0, none⟩ = some (.slice A n c) ∧ w.cell? ⟨b, 1, none⟩ = some (.int .i64 e) ∧ n = l.length := by
  obtain ⟨A, n, c, h1, h2, _⟩ := h.ex
  exact ⟨A, n, c, h2, h1.cell 0, h1.cell 1, h2.len.symm⟩
theorem Rd.rng {w : World} {t : TypeId} {b g : Nat} {l : List Int} {e : Nat} (h : Rd w t b g l e) : ∀ x ∈ l, 0 ≤ x ∧ x < 256 := by
  obtain ⟨A, n, c, h2, _⟩ := h.byt
  exact h2.rng
theorem Rd.alloc {w : World} {t : TypeId} {b g : Nat} {l : List Int} {e : Nat} (h : Rd w t b g l e) (o : Obj) : Rd (w.alloc o) t b g l e :=
  h.grown (World.grownBy_alloc w o none) (by simp) (by simp)
end

/- plain mathematics of CRC-32: the register's step over one bit is linear and one to one; bytes put in one behind the other are one great number put in at the start. No program is named; no condition. -/
section
def poly : Nat := 3988292384
def stepBit (c : Nat) : Nat := if c % 2 = 1 then (c / 2) ^^^ poly else c / 2
def steps : Nat → Nat → Nat
  | 0, c => c
  | k + 1, c => steps k (stepBit c)
def stepByte (c : Nat) (x : Int) : Nat := steps 8 (c ^^^ x.toNat)
def crcFrom (c : Nat) (l : List Int) : Nat := l.foldl stepByte c
def ones : Nat := 4294967295
def crcL (l : List Int) : Nat := crcFrom ones l ^^^ ones
def le4 (x : Nat) : List Int := [((x % 256 : Nat) : Int), ((x / 256 % 256 : Nat) : Int), ((x / 65536 % 256 : Nat) : Int), ((x / 16777216 % 256 : Nat) : Int)]
theorem le4_rng (x : Nat) : ∀ y ∈ le4 x, 0 ≤ y ∧ y < 256 := by
  intro y hy
  simp only [le4, List.mem_cons, List.not_mem_nil, or_false] at hy
  rcases hy with h | h | h | h <;> subst h <;> omega
end

/- crc.shiftByte and trothref02.Step shift a register by eight bits, crc.unshift back by 32; nothing is turned. The table reads as its text lays it. -/
section
open Go.RowKit
end

/- crc.Sum and trothref02.Sum answer the checksum of what a slice reads as; nothing is turned. -/
section
open Go.RowKit
end

/- bytes.Clone of any slice, bytes.Equal, the writer's Bytes, and the four bytes of a checksum. -/
section
open Go.RowKit
def sumL (l : List Int) : List Int := le4 (crcL l)
theorem sumL_rng (l : List Int) : ∀ x ∈ sumL l, 0 ≤ x ∧ x < 256 := le4_rng _
theorem sumL_len (l : List Int) : (sumL l).length = 4 := rfl
structure SumRel (w : World) (x i z : Nat) (A : Option Addr) (k c : Nat) (acc : List Int) (wr : World) : Prop where
  own : wr.ownsRow w.heap.size 5 1 (.slice A k c) k (acc.map (Value.int .u8))
  rng : ∀ y ∈ acc, 0 ≤ y ∧ y < 256
  len : k = i
  num : z = x / 256 ^ i
  all : acc = (le4 x).take i
  bel : Below w.heap.size w wr
theorem le4_next (x i : Nat) (h : i < 4) : (le4 x).take (i + 1) = (le4 x).take i ++ [((x / 256 ^ i : Nat) : Int) % 256] := by
  have : i = 0 ∨ i = 1 ∨ i = 2 ∨ i = 3 := by omega
  rcases this with h | h | h | h <;> subst h <;> simp [le4]
theorem SumRel.step {w : World} {x i z : Nat} {A A' : Option Addr} {k c c' k' : Nat} {acc : List Int} {wr w' : World} (h : SumRel w x i z A k c acc wr) (hi : i < 4)
    (h1 : w'.ownsRow w.heap.size 5 1 (.slice A' k' c') k' (acc.map (Value.int .u8) ++ [(z : Int) % 256].map (Value.int .u8))) (hk : k' = k + 1)
    (h2 : (wr.alloc (.cells #[.int .u8 ((z : Int) % 256)] 5)).grownBy w' (Value.ownBlock (.slice A k c))) :
    SumRel w x (i + 1) (z / 256) A' k' c' (acc ++ [(z : Int) % 256]) w' := by
  rw [← List.map_append] at h1
  refine ⟨h1, fun y hy => ?_, by rw [hk, h.len], by rw [h.num, Nat.pow_succ, Nat.div_div_eq_div_mul], by rw [le4_next x i hi, ← h.num, ← h.all], (h.bel.alloc h.bel.size _).grown h2 (by have := h.bel.size; simp; omega) (fun j hj => (h.own.lt j hj).1)⟩
  rcases List.mem_append.1 hy with h3 | h3
  · exact h.rng y h3
  · simp at h3; subst h3; omega
end

/- seal.Open answers the body at the beginning of bytes, how many bytes it has with its sum, or the first error. -/
section
open Go.RowKit
theorem textF_ok {l : List Int} (hr : ∀ x ∈ l, 0 ≤ x ∧ x < 256) {most : Int} (h : (textF l most).2.2 = 0) :
    (textF l most).2.1 ≤ l.length ∧ l.take (textF l most).2.1 = textL (textF l most).1 ∧ ((textF l most).1.length : Int) ≤ most := by
  unfold textF at h ⊢
  split at h
  · rename_i h0; exact absurd h h0
  · rename_i h0
    split at h
    · simp at h
    · rename_i h1
      rw [if_neg h0, if_neg h1]
      obtain ⟨hx, hk, hs⟩ := numF_ok hr (l := l) (most := most) (by omega)
      have hl : ((l.drop (numF l most).2.1).take (numF l most).1).length = (numF l most).1 := by rw [List.length_take, List.length_drop]; omega
      refine ⟨by simp only; omega, ?_, by simp only; rw [hl]; exact hx⟩
      simp only
      unfold textL
      rw [hl, hs, List.take_add]
def openF (l : List Int) : List Int × Nat × Nat :=
  if (textF l 4096).2.2 ≠ 0 then ([], 0, (textF l 4096).2.2) else if l.length - (textF l 4096).2.1 < 4 then ([], 0, 10) else
    if (l.drop (textF l 4096).2.1).take 4 = sumL (l.take (textF l 4096).2.1) then ((textF l 4096).1, (textF l 4096).2.1 + 4, 0) else ([], 0, 30)
theorem triple {α β γ : Type} {a a' : α} {b b' : β} {c c' : γ} (h : (a, b, c) = (a', b', c')) : a = a' ∧ b = b' ∧ c = c' := by
  injection h with e1 e2
  injection e2 with e2 e3
  exact ⟨e1, e2, e3⟩
def Ret3O (l : List Int) (u e0 : Nat) (w : World) (e : Ending) (w' : World) : Prop :=
  ∃ A n c, e = .returned (.tuple #[.slice A n c, .int .i64 u, .int .i64 e0]) ∧ w'.ownsRow w.heap.size 5 1 (.slice A n c) n (l.map (Value.int .u8)) ∧ (∀ x ∈ l, 0 ≤ x ∧ x < 256) ∧ Below w.heap.size w w'
theorem Ret3O.nil {w w' : World} (u e0 : Nat) (hb : Below w.heap.size w w') : Ret3O [] u e0 w (.returned (.tuple #[.slice none 0 0, .int .i64 u, .int .i64 e0])) w' := ⟨none, 0, 0, rfl, World.ownsRow_nil _ _ _ _, by simp, hb⟩
end

/- readings that go one behind the other: each hands back what was written, and the rest; what is read has just the bytes that were read; no beginning of what was written is read. Put together of numbers, flags and texts. No program is named. -/
section
open Go.RowKit
abbrev Sg := List Int × Nat
structure Codec {α : Type} (p : Sg → α × Sg) (enc : α → List Int) (D : α → Prop) : Prop where
  stick : ∀ σ : Sg, σ.2 ≠ 0 → (p σ).2 = σ
  rng : ∀ σ : Sg, (∀ y ∈ σ.1, 0 ≤ y ∧ y < 256) → ∀ y ∈ (p σ).2.1, 0 ≤ y ∧ y < 256
  back : ∀ x r, D x → p (enc x ++ r, 0) = (x, (r, 0))
  exact : ∀ l, (∀ y ∈ l, 0 ≤ y ∧ y < 256) → (p (l, 0)).2.2 = 0 → l = enc (p (l, 0)).1 ++ (p (l, 0)).2.1 ∧ D (p (l, 0)).1
  cut : ∀ x k, D x → k < (enc x).length → (p ((enc x).take k, 0)).2.2 = 10
section
variable {α β : Type}
theorem Codec.map {p : Sg → α × Sg} {ea : α → List Int} {DA : α → Prop} (hp : Codec p ea DA) (f : α → β) (g : β → α) (hfg : ∀ b, f (g b) = b) (hgf : ∀ a, g (f a) = a) :
    Codec (fun σ => (f (p σ).1, (p σ).2)) (fun b => ea (g b)) (fun b => DA (g b)) :=
  ⟨hp.stick, hp.rng, fun x r hx => by rw [hp.back _ _ hx, hfg], fun l hl h => by
    have := hp.exact l hl h
    simp only [hgf]
    exact this, fun x k hx hk => hp.cut _ k hx hk⟩
end
end

/- a log record in plain mathematics (stage 7): its fields, its bytes by its kind, and how they are read back: the readings of Codec put together. No program is named. -/
section
open Go.RowKit
structure Vl where
  has : Bool
  data : ByteArray
structure Lk where
  key : ByteArray
  x : Bool
structure Rw where
  tx : Int
  st : Int
  fi : Int
  la : Int
  un : Int
  co : Int
  mem : List Int
  lks : List Lk
structure Dt where
  page : Int
  lsn : Int
structure Dd where
  tx : Int
  mem : List Int
structure Rc where
  kind : Int
  tx : Int
  prev : Int
  next : Int
  key : ByteArray
  old : Vl
  new : Vl
  co : Int
  mem : List Int
  lks : List Lk
  rows : List Rw
  dirty : List Dt
  deeds : List Dd
  past : List Int
def vl0 : Vl := ⟨false, ByteArray.empty⟩
def rc0 (kind : Int) : Rc := ⟨kind, 0, 0, 0, ByteArray.empty, vl0, vl0, 0, [], [], [], [], [], []⟩
def valL (v : Vl) : List Int := flagL v.has ++ if v.has then textL (nums v.data) else []
def mkU (q : (((Int × Int) × ByteArray) × Vl) × Vl) : Rc := { rc0 1 with tx := q.1.1.1.1, prev := q.1.1.1.2, key := q.1.1.2, old := q.1.2, new := q.2 }
def mkC (q : (((Int × Int) × Int) × ByteArray) × Vl) : Rc := { rc0 2 with tx := q.1.1.1.1, prev := q.1.1.1.2, next := q.1.1.2, key := q.1.2, new := q.2 }
def mkP (q : (((Int × Int) × Int) × List Int) × List Lk) : Rc := { rc0 3 with tx := q.1.1.1.1, prev := q.1.1.1.2, co := q.1.1.2, mem := q.1.2, lks := q.2 }
def mkE (kind : Int) (q : Int × Int) : Rc := { rc0 kind with tx := q.1, prev := q.2 }
def mkK (q : ((List Rw × List Dt) × List Dd) × List Int) : Rc := { rc0 8 with rows := q.1.1.1, dirty := q.1.1.2, deeds := q.1.2, past := q.2 }
def mkD (q : Int × List Int) : Rc := { rc0 9 with tx := q.1, mem := q.2 }
def mkF (q : Int) : Rc := { rc0 10 with tx := q }
def uU (r : Rc) := ((((r.tx, r.prev), r.key), r.old), r.new)
def uC (r : Rc) := ((((r.tx, r.prev), r.next), r.key), r.new)
def uP (r : Rc) := ((((r.tx, r.prev), r.co), r.mem), r.lks)
def uE (r : Rc) := (r.tx, r.prev)
def uK (r : Rc) := (((r.rows, r.dirty), r.deeds), r.past)
def uD (r : Rc) := (r.tx, r.mem)
end

/- which log records may be (stage 7), what Encode and Decode answer of them, in plain mathematics: what may be is read back, what is read has just its bytes, no beginning is read. No program is named. -/
section
open Go.RowKit
def kLt (a b : ByteArray) : Prop := Op.bytesLess a.toList b.toList = true
instance (a b : ByteArray) : Decidable (kLt a b) := by unfold kLt; infer_instance
instance : Inhabited Lk := ⟨⟨ByteArray.empty, false⟩⟩
instance : Inhabited Rw := ⟨⟨0, 0, 0, 0, 0, 0, [], []⟩⟩
instance : Inhabited Dt := ⟨⟨0, 0⟩⟩
instance : Inhabited Dd := ⟨⟨0, []⟩⟩
def seqOk (least z : Int) : Prop := least ≤ z ∧ z ≤ 1099511627776
instance (a b : Int) : Decidable (seqOk a b) := by unfold seqOk; infer_instance
def keyOk (k : ByteArray) : Prop := 1 ≤ k.size ∧ k.size ≤ 16
instance (k : ByteArray) : Decidable (keyOk k) := by unfold keyOk; infer_instance
def vlOk (v : Vl) : Prop := if v.has then (v.data.size : Int) ≤ 32 else v.data = ByteArray.empty
def rises {α : Type} [Inhabited α] (p : α → Prop) (q : α → α → Prop) (l : List α) : Prop := ∀ i, i < l.length → p (l.getD i default) ∧ (0 < i → q (l.getD (i - 1) default) (l.getD i default))
def memOk (l : List Int) : Prop := rises (fun x => 0 ≤ x ∧ x ≤ 7) (· < ·) l
def lksOk (l : List Lk) : Prop := l.length ≤ 64 ∧ rises (fun k => keyOk k.key) (fun a b => kLt a.key b.key) l
def rwOk (r : Rw) : Prop := seqOk 1 r.tx ∧ (1 ≤ r.st ∧ r.st ≤ 4) ∧ seqOk 0 r.fi ∧ seqOk 0 r.la ∧ seqOk 0 r.un ∧ (0 ≤ r.co ∧ r.co ≤ 7) ∧ memOk r.mem ∧ lksOk r.lks
def rwsOk (l : List Rw) : Prop := l.length ≤ 64 ∧ rises rwOk (fun a b => a.tx < b.tx) l
def dtsOk (l : List Dt) : Prop := l.length ≤ 64 ∧ rises (fun d => (0 ≤ d.page ∧ d.page ≤ 63) ∧ seqOk 1 d.lsn) (fun a b => a.page < b.page) l
def ddsOk (l : List Dd) : Prop := l.length ≤ 64 ∧ rises (fun d => seqOk 1 d.tx ∧ memOk d.mem) (fun a b => a.tx < b.tx) l
def pastOk (l : List Int) : Prop := l.length ≤ 256 ∧ rises (seqOk 1) (· < ·) l
def checkOk (r : Rc) : Prop := rwsOk r.rows ∧ dtsOk r.dirty ∧ ddsOk r.deeds ∧ pastOk r.past
def onlyRc (r : Rc) : Rc :=
  if r.kind = 1 then mkU (uU r) else if r.kind = 2 then mkC (uC r) else if r.kind = 3 then mkP (uP r) else if r.kind = 4 ∨ r.kind = 5 ∨ r.kind = 6 then mkE r.kind (uE r) else if r.kind = 7 then rc0 7 else if r.kind = 8 then mkK (uK r) else if r.kind = 9 then mkD (uD r) else mkF r.tx
structure Rc.ok (r : Rc) : Prop where
  kind : 1 ≤ r.kind ∧ r.kind ≤ 10
  only : onlyRc r = r
  check : r.kind = 8 → checkOk r
  seq : r.kind ≠ 7 → r.kind ≠ 8 → seqOk 1 r.tx ∧ seqOk 0 r.prev ∧ seqOk 0 r.next
  vals : r.kind = 1 ∨ r.kind = 2 → keyOk r.key ∧ vlOk r.old ∧ vlOk r.new
  rest : r.kind ≠ 7 → r.kind ≠ 8 → r.kind ≠ 1 → r.kind ≠ 2 → (0 ≤ r.co ∧ r.co ≤ 7) ∧ memOk r.mem ∧ lksOk r.lks
theorem rises_all {α : Type} [Inhabited α] {p : α → Prop} {q : α → α → Prop} {l : List α} (h : rises p q l) : ∀ x ∈ l, p x := fun x hx => by
  obtain ⟨i, hi, rfl⟩ := List.getElem_of_mem hx
  have := (h i hi).1
  rwa [List.getD_eq_getElem?_getD, List.getElem?_eq_getElem hi] at this
end

/- pages in plain mathematics (stage 10): their bytes, how they are read back, what Set makes of them, what is got of them. No program is named. -/
section
open Go.RowKit
structure Cl where
  key : ByteArray
  val : Vl
structure Pg where
  lsn : Int
  cells : List Cl
instance : Inhabited Cl := ⟨⟨ByteArray.empty, vl0⟩⟩
def pg0 : Pg := ⟨0, []⟩
def clL (c : Cl) : List Int := textL (nums c.key) ++ valL c.val
def clOk (c : Cl) : Prop := keyOk c.key ∧ vlOk c.val
instance (v : Vl) : Decidable (vlOk v) := by unfold vlOk; infer_instance
instance (c : Cl) : Decidable (clOk c) := by unfold clOk; infer_instance
def Pg.ok (p : Pg) : Prop := (0 ≤ p.lsn ∧ p.lsn ≤ 1099511627776) ∧ p.cells.length ≤ 4 ∧ rises clOk (fun a b => kLt a.key b.key) p.cells
noncomputable instance (p : Pg) : Decidable p.ok := Classical.propDecidable _
theorem shortL_len1 (n : Nat) (h : n ≤ 127) : (shortL n).length = 1 := by
  unfold shortL
  rw [show n / 128 = 0 by omega, hiD_zero]
  rfl
theorem clL_len {c : Cl} (h : clOk c) : (clL c).length ≤ 51 := by
  have h1 := h.1.2
  have e1 : (textL (nums c.key)).length = 1 + c.key.size := by
    unfold textL
    rw [List.length_append, nums_len, shortL_len1 _ (by omega)]
  have e2 : (valL c.val).length ≤ 34 := by
    have hv := h.2
    unfold vlOk at hv
    unfold valL
    rw [List.length_append]
    have : (flagL c.val.has).length = 1 := rfl
    split
    · rename_i hh
      rw [if_pos hh] at hv
      have : (textL (nums c.val.data)).length = 1 + c.val.data.size := by
        unfold textL
        rw [List.length_append, nums_len, shortL_len1 _ (by omega)]
      omega
    · simp; omega
  unfold clL
  rw [List.length_append]
  omega
theorem cells_len {l : List Cl} (h : ∀ c ∈ l, clOk c) : (l.flatMap clL).length ≤ 51 * l.length := by
  induction l with
  | nil => simp
  | cons c r ih =>
    rw [List.flatMap_cons, List.length_append, List.length_cons]
    have := clL_len (h c (by simp))
    have := ih (fun x hx => h x (by simp [hx]))
    omega
theorem bytesLess_iff : ∀ (x y : List UInt8), Op.bytesLess x y = decide (x < y)
  | [], [] => by simp [Op.bytesLess]
  | _ :: _, [] => by simp [Op.bytesLess]
  | [], _ :: _ => by simp [Op.bytesLess]
  | a :: x, b :: y => by
    rw [Op.bytesLess, bytesLess_iff x y]
    simp only [List.cons_lt_cons_iff]
    by_cases h1 : a < b <;> by_cases h2 : a = b <;> by_cases h3 : x < y <;> simp [h1, h2, h3]
theorem kLt_iff (a b : ByteArray) : kLt a b ↔ a.toList < b.toList := by unfold kLt; rw [bytesLess_iff]; simp
theorem ba_inj {a b : ByteArray} (h : a.toList = b.toList) : a = b := by
  rw [Lib.toList_data, Lib.toList_data] at h
  exact ByteArray.ext (Array.ext' h)
theorem kLt_irrefl (a : ByteArray) : ¬ kLt a a := by rw [kLt_iff]; exact List.lt_irrefl _
theorem kLt_trans {a b c : ByteArray} (h1 : kLt a b) (h2 : kLt b c) : kLt a c := by rw [kLt_iff] at *; exact List.lt_trans h1 h2
theorem kLt_tri {a b : ByteArray} (h : ¬ kLt a b) (hne : a ≠ b) : kLt b a := by
  rw [kLt_iff] at *
  rcases List.le_iff_lt_or_eq.1 (List.not_lt.1 h) with q | q
  · exact q
  · exact absurd (ba_inj q.symm) hne
theorem kLt_ne {a b : ByteArray} (h : kLt a b) : a ≠ b := fun e => kLt_irrefl b (e ▸ h)
theorem kLt_asym {a b : ByteArray} (h : kLt a b) : ¬ kLt b a := fun q => kLt_irrefl a (kLt_trans h q)
theorem rises_pw {α : Type} [Inhabited α] {p : α → Prop} {q : α → α → Prop} (ht : ∀ a b c, q a b → q b c → q a c) (l : List α) : rises p q l ↔ (∀ x ∈ l, p x) ∧ l.Pairwise q := by
  constructor
  · intro h
    refine ⟨rises_all h, List.pairwise_iff_getElem.2 ?_⟩
    intro i j hi hj hij
    have key : ∀ d, i + d + 1 < l.length → q (l.getD i default) (l.getD (i + d + 1) default) := by
      intro d
      induction d with
      | zero => intro hd; exact (h (i + 0 + 1) hd).2 (by omega)
      | succ d ih => intro hd; exact ht _ _ _ (ih (by omega)) ((h (i + (d + 1) + 1) hd).2 (by omega))
    have := key (j - i - 1) (by omega)
    rw [show i + (j - i - 1) + 1 = j by omega] at this
    rwa [List.getD_eq_getElem?_getD, List.getElem?_eq_getElem hi, List.getD_eq_getElem?_getD, List.getElem?_eq_getElem hj] at this
  · rintro ⟨h1, h2⟩ i hi
    have e : ∀ j (hj : j < l.length), l.getD j default = l[j] := fun j hj => by rw [List.getD_eq_getElem?_getD, List.getElem?_eq_getElem hj]; rfl
    refine ⟨by rw [e i hi]; exact h1 _ (List.getElem_mem hi), fun h0 => ?_⟩
    rw [e (i - 1) (by omega), e i hi]
    exact List.pairwise_iff_getElem.1 h2 (i - 1) i (by omega) hi (by omega)
abbrev qCl (a b : Cl) : Prop := kLt a.key b.key
def clsOk (l : List Cl) : Prop := rises clOk qCl l
theorem clsOk_pw (l : List Cl) : clsOk l ↔ (∀ x ∈ l, clOk x) ∧ l.Pairwise qCl := rises_pw (q := qCl) (fun _ _ _ h1 h2 => kLt_trans h1 h2) l
def atC : List Cl → ByteArray → Nat
  | [], _ => 0
  | c :: r, k => if kLt c.key k then atC r k + 1 else 0
theorem atC_le : ∀ (l : List Cl) (k : ByteArray), atC l k ≤ l.length
  | [], _ => Nat.le_refl _
  | c :: r, k => by unfold atC; have := atC_le r k; split <;> simp; omega
theorem atC_uniq {k : ByteArray} : ∀ {l : List Cl} {n : Nat}, n ≤ l.length → (∀ i, i < n → kLt (l.getD i default).key k) → (∀ i, n ≤ i → i < l.length → ¬ kLt (l.getD i default).key k) → atC l k = n
  | [], n, h1, _, _ => by simp at h1; subst h1; rfl
  | c :: r, 0, _, _, h3 => by
    have := h3 0 (Nat.le_refl _) (by simp)
    unfold atC
    rw [if_neg (by simpa using this)]
  | c :: r, n + 1, h1, h2, h3 => by
    have := h2 0 (by omega)
    unfold atC
    rw [if_pos (by simpa using this), atC_uniq (l := r) (n := n) (by simpa using h1) (fun i hi => by simpa using h2 (i + 1) (by omega)) (fun i hi hl => by simpa using h3 (i + 1) (by omega) (by simpa using hl))]
theorem atC_lo {k : ByteArray} : ∀ {l : List Cl} {i : Nat}, i < atC l k → kLt (l.getD i default).key k
  | [], _, h => by simp [atC] at h
  | c :: r, i, h => by
    unfold atC at h
    split at h
    · rename_i hc
      cases i with
      | zero => simpa using hc
      | succ i => simpa using atC_lo (l := r) (i := i) (by omega)
    · omega
theorem atC_at {k : ByteArray} : ∀ {l : List Cl}, atC l k < l.length → ¬ kLt (l.getD (atC l k) default).key k
  | [], h => by simp at h
  | c :: r, h => by
    unfold atC at h ⊢
    split
    · rename_i hc
      rw [if_pos hc] at h
      simpa using atC_at (l := r) (by simpa using h)
    · rename_i hc
      simpa using hc
theorem pw_get {l : List Cl} (h : l.Pairwise qCl) {i j : Nat} (hij : i < j) (hj : j < l.length) : kLt (l.getD i default).key (l.getD j default).key := by
  have := List.pairwise_iff_getElem.1 h i j (by omega) hj hij
  rwa [List.getD_eq_getElem?_getD, List.getElem?_eq_getElem (by omega), List.getD_eq_getElem?_getD, List.getElem?_eq_getElem hj]
theorem atC_hi {l : List Cl} (h : l.Pairwise qCl) {k : ByteArray} {i : Nat} (h1 : atC l k ≤ i) (h2 : i < l.length) : ¬ kLt (l.getD i default).key k := by
  rcases Nat.lt_or_ge (atC l k) i with q | q
  · intro hk
    exact atC_at (by omega) (kLt_trans (pw_get h q h2) hk)
  · have : i = atC l k := by omega
    rw [this]; exact atC_at (by omega)
def isAt (l : List Cl) (k : ByteArray) : Bool := decide (atC l k < l.length ∧ (l.getD (atC l k) default).key = k)
def behC (l : List Cl) (k : ByteArray) : Nat := if isAt l k then atC l k + 1 else atC l k
def setC (l : List Cl) (c : Cl) : List Cl := l.take (atC l c.key) ++ [c] ++ l.drop (behC l c.key)
def getC (l : List Cl) (k : ByteArray) : Option Cl := l.find? (fun c => decide (c.key = k))
def getV (l : List Cl) (k : ByteArray) : Vl := ((getC l k).map Cl.val).getD vl0
def hasC (l : List Cl) (k : ByteArray) : Bool := l.any (fun c => decide (c.key = k))
theorem behC_le (l : List Cl) (k : ByteArray) : behC l k ≤ l.length := by
  unfold behC isAt
  split
  · rename_i h; have := of_decide_eq_true h; omega
  · exact atC_le l k
theorem take_lo {l : List Cl} {k : ByteArray} : ∀ x ∈ l.take (atC l k), kLt x.key k := by
  intro x hx
  obtain ⟨i, hi, rfl⟩ := List.getElem_of_mem hx
  have h1 : i < atC l k := by rw [List.length_take] at hi; omega
  have h2 : i < l.length := by rw [List.length_take] at hi; omega
  have := atC_lo h1
  rw [List.getElem_take]
  rwa [List.getD_eq_getElem?_getD, List.getElem?_eq_getElem h2] at this
theorem drop_hi {l : List Cl} (h : l.Pairwise qCl) {k : ByteArray} : ∀ x ∈ l.drop (behC l k), kLt k x.key := by
  intro x hx
  obtain ⟨i, hi, rfl⟩ := List.getElem_of_mem hx
  rw [List.length_drop] at hi
  have h2 : behC l k + i < l.length := by omega
  have e : l.getD (behC l k + i) default = l[behC l k + i] := by rw [List.getD_eq_getElem?_getD, List.getElem?_eq_getElem h2]; rfl
  rw [List.getElem_drop, ← e]
  have hb : atC l k ≤ behC l k := by unfold behC; split <;> omega
  have hn := atC_hi h (k := k) (i := behC l k + i) (by omega) h2
  refine kLt_tri hn (fun eq => ?_)
  by_cases ha : isAt l k = true
  · have hb' : behC l k = atC l k + 1 := by unfold behC; rw [if_pos ha]
    have ha' := of_decide_eq_true ha
    have := pw_get h (i := atC l k) (j := behC l k + i) (by omega) h2
    rw [ha'.2, eq] at this
    exact kLt_irrefl _ this
  · have hb' : behC l k = atC l k := by unfold behC; rw [if_neg ha]
    rcases Nat.eq_zero_or_pos i with q | q
    · subst q
      apply ha
      refine decide_eq_true ⟨by omega, ?_⟩
      rw [← hb']
      simpa using eq
    · have h3 := pw_get h (i := atC l k) (j := behC l k + i) (by omega) h2
      rw [eq] at h3
      exact atC_at (by omega) h3
theorem split3 {l : List Cl} {k : ByteArray} : ∃ m, l = l.take (atC l k) ++ m ++ l.drop (behC l k) ∧ (∀ x ∈ m, x.key = k) ∧ (isAt l k = true → m ≠ []) ∧ (isAt l k = false → m = []) := by
  by_cases ha : isAt l k = true
  · have hb : behC l k = atC l k + 1 := by unfold behC; rw [if_pos ha]
    have ha' := of_decide_eq_true ha
    refine ⟨[l.getD (atC l k) default], ?_, by simpa using ha'.2, by simp, fun q => by rw [ha] at q; cases q⟩
    have hl := ha'.1
    have e : l.getD (atC l k) default = l[atC l k]'hl := by rw [List.getD_eq_getElem?_getD, List.getElem?_eq_getElem hl]; rfl
    rw [hb, e, List.append_assoc, List.singleton_append, List.getElem_cons_drop, List.take_append_drop]
  · have ha0 : isAt l k = false := by simpa using ha
    have hb : behC l k = atC l k := by unfold behC; rw [if_neg ha]
    exact ⟨[], by rw [hb, List.append_nil, List.take_append_drop], by simp, fun q => absurd q ha, fun _ => rfl⟩
theorem find_none {l : List Cl} {k : ByteArray} (h : ∀ x ∈ l, x.key ≠ k) : l.find? (fun c => decide (c.key = k)) = none := by
  rw [List.find?_eq_none]
  intro x hx
  simpa using h x hx
theorem has_iff (l : List Cl) (k : ByteArray) : hasC l k = true ↔ ∃ x ∈ l, x.key = k := by unfold hasC; simp [List.any_eq_true]
theorem has_at {l : List Cl} (h : l.Pairwise qCl) (k : ByteArray) : hasC l k = isAt l k := by
  obtain ⟨m, hm, hk, h1, h2⟩ := split3 (l := l) (k := k)
  cases ha : isAt l k with
  | true =>
    have := h1 ha
    rw [has_iff]
    obtain ⟨x, r, rfl⟩ := List.exists_cons_of_ne_nil this
    exact ⟨x, by rw [hm]; simp, hk x (by simp)⟩
  | false =>
    have hm0 := h2 ha
    subst hm0
    cases hh : hasC l k with
    | false => rfl
    | true =>
      obtain ⟨x, hx, hxk⟩ := (has_iff l k).1 hh
      rw [hm, List.append_nil] at hx
      rcases List.mem_append.1 hx with q | q
      · exact absurd hxk (kLt_ne (take_lo x q))
      · exact absurd hxk.symm (kLt_ne (drop_hi h x q))
theorem setC_get {l : List Cl} (c : Cl) : getC (setC l c) c.key = some c := by
  unfold getC setC
  rw [List.append_assoc, List.find?_append, find_none (fun x hx => kLt_ne (take_lo x hx))]
  simp
theorem setC_other {l : List Cl} (h : l.Pairwise qCl) (c : Cl) {k : ByteArray} (hk : k ≠ c.key) : getC (setC l c) k = getC l k := by
  obtain ⟨m, hm, hmk, _, _⟩ := split3 (l := l) (k := c.key)
  have e : getC l k = getC (l.take (atC l c.key) ++ m ++ l.drop (behC l c.key)) k := by rw [← hm]
  rw [e]
  unfold getC setC
  rw [List.find?_append, List.find?_append, List.find?_append, List.find?_append, find_none (l := m) (fun x hx => by rw [hmk x hx]; exact fun q => hk q.symm), find_none (l := [c]) (fun x hx => by simp at hx; subst hx; exact fun q => hk q.symm)]
theorem setC_ok {l : List Cl} (h : clsOk l) {c : Cl} (hc : clOk c) : clsOk (setC l c) := by
  rw [clsOk_pw] at h ⊢
  obtain ⟨h1, h2⟩ := h
  unfold setC
  refine ⟨fun x hx => ?_, ?_⟩
  · rcases List.mem_append.1 hx with q | q
    · rcases List.mem_append.1 q with q | q
      · exact h1 x (List.mem_of_mem_take q)
      · simp at q; subst q; exact hc
    · exact h1 x (List.mem_of_mem_drop q)
  · rw [List.pairwise_append, List.pairwise_append]
    refine ⟨⟨h2.sublist (List.take_sublist _ _), List.pairwise_singleton _ _, fun a ha b hb => ?_⟩, h2.sublist (List.drop_sublist _ _), fun a ha b hb => ?_⟩
    · simp at hb; subst hb; exact take_lo a ha
    · have hb' := drop_hi h2 b hb
      rcases List.mem_append.1 ha with q | q
      · exact kLt_trans (take_lo a q) hb'
      · simp at q; subst q; exact hb'
theorem setC_len {l : List Cl} (h : l.Pairwise qCl) (c : Cl) (hl : l.length ≤ 4) (hr : hasC l c.key = true ∨ l.length < 4) : (setC l c).length ≤ 4 := by
  have ha := atC_le l c.key
  have hb := behC_le l c.key
  unfold setC
  rw [List.length_append, List.length_append, List.length_take, List.length_drop]
  simp only [List.length_singleton]
  rcases hr with q | q
  · rw [has_at h] at q
    have : behC l c.key = atC l c.key + 1 := by unfold behC; rw [if_pos q]
    omega
  · have : atC l c.key ≤ behC l c.key := by unfold behC; split <;> omega
    omega
theorem setC_has {l : List Cl} (c : Cl) : hasC (setC l c) c.key = true := by
  rw [has_iff]
  exact ⟨c, by unfold setC; simp, rfl⟩
theorem getV_ok {l : List Cl} (h : ∀ x ∈ l, clOk x) (k : ByteArray) : vlOk (getV l k) := by
  unfold getV getC
  cases hf : l.find? (fun c => decide (c.key = k)) with
  | none => show vlOk vl0; unfold vlOk vl0; simp
  | some c => exact (h c (List.mem_of_find?_eq_some hf)).2
def roomC (l : List Cl) (k : ByteArray) : Bool := hasC l k || decide (l.length < 4)
noncomputable def setPg (p : Pg) (lsn : Int) (c : Cl) : Pg × Nat :=
  if p.ok ∧ clOk c ∧ 1 ≤ lsn ∧ lsn ≤ 1099511627776 then (if roomC p.cells c.key then (⟨lsn, setC p.cells c⟩, 0) else (pg0, 100)) else (pg0, 1)
theorem setPg_arg {p : Pg} {lsn : Int} {c : Cl} (h : ¬ (p.ok ∧ clOk c ∧ 1 ≤ lsn ∧ lsn ≤ 1099511627776)) : setPg p lsn c = (pg0, 1) := if_neg h
theorem setPg_page {p : Pg} {lsn : Int} {c : Cl} (h : p.ok ∧ clOk c ∧ 1 ≤ lsn ∧ lsn ≤ 1099511627776) (hr : roomC p.cells c.key = false) : setPg p lsn c = (pg0, 100) := by unfold setPg; rw [if_pos h, hr]; rfl
theorem setPg_ok {p : Pg} {lsn : Int} {c : Cl} (h : p.ok ∧ clOk c ∧ 1 ≤ lsn ∧ lsn ≤ 1099511627776) (hr : roomC p.cells c.key = true) : setPg p lsn c = (⟨lsn, setC p.cells c⟩, 0) := by unfold setPg; rw [if_pos h, hr]; rfl
theorem setPg_isok {p : Pg} {lsn : Int} {c : Cl} (h : p.ok ∧ clOk c ∧ 1 ≤ lsn ∧ lsn ≤ 1099511627776) (hr : roomC p.cells c.key = true) : (⟨lsn, setC p.cells c⟩ : Pg).ok :=
  ⟨⟨Int.le_trans (by omega) h.2.2.1, h.2.2.2⟩, setC_len ((clsOk_pw _).1 h.1.2.2).2 c h.1.2.1 (by unfold roomC at hr; simpa using hr), setC_ok h.1.2.2 h.2.1⟩
end

/- trothref01.Short hands back a number's digits to the base 128, in new memory. -/
section
open Go.RowKit
structure ShortRel (n : Nat) (w : World) (m : Nat) (A : Option Addr) (k c : Nat) (acc : List Int) (wr : World) : Prop where
  own : wr.ownsRow w.heap.size 5 1 (.slice A k c) k (acc.map (Value.int .u8))
  all : hiD m ++ acc = shortL n
  bel : Below w.heap.size w wr
theorem ShortRel.rng {n : Nat} {w : World} {m : Nat} {A : Option Addr} {k c : Nat} {acc : List Int} {wr : World} (h : ShortRel n w m A k c acc wr) : ∀ x ∈ acc, 0 ≤ x ∧ x < 256 :=
  fun x hx => shortL_rng n x (by rw [← h.all]; simp [hx])
theorem ShortRel.len {n : Nat} {w : World} {m : Nat} {A : Option Addr} {k c : Nat} {acc : List Int} {wr : World} (h : ShortRel n w m A k c acc wr) (hn : n < 18446744073709551616) : k ≤ 10 := by
  have h1 := shortL_len n hn
  rw [← h.all] at h1
  have h2 : acc.length = k := by simpa using h.own.1
  simp at h1; omega
theorem ShortRel.step {n : Nat} {w : World} {m : Nat} {A A' : Option Addr} {k c c' k' : Nat} {acc : List Int} {wr w' : World} (h : ShortRel n w m A k c acc wr) (hm : m ≠ 0) (_hk : k' = 1 + k)
    (h1 : w'.ownsRow w.heap.size 5 1 (.slice A' k' c') k' (([((m : Int) % 128) + 128] ++ acc).map (Value.int .u8)))
    (h2 : (wr.alloc (.cells #[.int .u8 (((m : Int) % 128) + 128)] 5)).grownBy w' (Value.ownBlock (.slice (some ⟨wr.heap.size, 0, none⟩) 1 1))) :
    ShortRel n w (m / 128) A' k' c' ((((m : Int) % 128) + 128) :: acc) w' :=
  ⟨h1, by rw [← h.all, hiD_pos hm]; simp, (h.bel.alloc h.bel.size _).grown h2 (by have := h.bel.size; simp; omega) (by intro g hg; have := h.bel.size; simp [Value.ownBlock] at hg; omega)⟩
end

/- seal.Seal and trothref03.Seal hand back the document's sealed body, in new memory, or ErrLong. -/
section
open Go.RowKit
def sealL (l : List Int) : List Int := textL l ++ sumL (textL l)
theorem sealL_rng {l : List Int} (h : ∀ x ∈ l, 0 ≤ x ∧ x < 256) : ∀ x ∈ sealL l, 0 ≤ x ∧ x < 256 := fun x hx => by
  rcases List.mem_append.1 hx with h1 | h1
  · exact textL_rng h x h1
  · exact sumL_rng _ x h1
theorem Wrt.new (w : World) : Wrt (w.alloc (.cells #[.slice none 0 0] 56)) w.heap.size w.heap.size [] :=
  ⟨Nat.le_refl _, by simp, none, 0, 0, Bk.new _ _ _, World.ownsRow_nil _ _ _ _⟩
end

/- trothref01.Same tells whether two slices read as the same bytes, and writes nothing. -/
section
open Go.RowKit
end

/- of a sealed body the body is opened, whatever stands behind it; the statements' awake() answers true. -/
section
open Go.RowKit
theorem numF_short (x : Nat) (hx : x < 18446744073709551616) (r : List Int) (most : Int) : numF (shortL x ++ r) most = if most < 0 ∨ most < (x : Int) then (0, 0, 12) else (x, (shortL x).length, 0) := by
  unfold numF
  rw [takeF_short x hx r, if_neg (by simp)]
theorem textF_text (l r : List Int) (hl : l.length < 18446744073709551616) (most : Int) (hm : (l.length : Int) ≤ most) : textF (textL l ++ r) most = (l, (textL l).length, 0) := by
  have e := numF_short l.length hl (l ++ r) most
  rw [if_neg (by omega)] at e
  unfold textF textL
  rw [List.append_assoc, e, if_neg (by simp), if_neg (by simp)]
  simp
theorem open_seal (l r : List Int) (hl : l.length ≤ 4096) : openF (sealL l ++ r) = (l, (sealL l).length, 0) := by
  have e : sealL l ++ r = textL l ++ (sumL (textL l) ++ r) := by simp [sealL]
  unfold openF
  rw [e, textF_text l _ (by omega) 4096 (by omega), if_neg (by simp)]
  simp only [List.drop_left, List.take_left]
  have h4 : (sumL (textL l)).length = 4 := sumL_len _
  rw [if_neg (by simp; omega), if_pos (by rw [List.take_append_of_le_length (by omega), List.take_of_length_le (by omega)])]
  simp [sealL, h4]
theorem open_seal0 (l : List Int) (hl : l.length ≤ 4096) : openF (sealL l) = (l, (sealL l).length, 0) := by
  have := open_seal l [] hl
  rwa [List.append_nil] at this
theorem sealL_len (l : List Int) : (sealL l).length = (textL l).length + 4 := by simp [sealL, sumL_len]
end

/- the Go text of trothlaw03.SealCuts answers true, and writes nothing that was there. -/
section
open Go.RowKit
theorem numF_cut (x : Nat) (hx : x < 18446744073709551616) (k : Nat) (hk : k < (shortL x).length) (most : Int) : numF ((shortL x).take k) most = (0, 0, 10) := by
  unfold numF
  rw [takeF_short_cut x hx k hk, if_pos (by simp)]
theorem textF_cut (l : List Int) (hl : l.length < 18446744073709551616) (most : Int) (hm : (l.length : Int) ≤ most) (k : Nat) (hk : k < (textL l).length) : textF ((textL l).take k) most = ([], 0, 10) := by
  unfold textF
  by_cases h : k < (shortL l.length).length
  · have e : (textL l).take k = (shortL l.length).take k := by
      unfold textL; rw [List.take_append_of_le_length (by omega)]
    rw [e, numF_cut _ hl k h, if_pos (by simp)]
  · have e : (textL l).take k = shortL l.length ++ l.take (k - (shortL l.length).length) := by
      unfold textL; rw [List.take_append, List.take_of_length_le (by omega)]
    have en := numF_short l.length hl (l.take (k - (shortL l.length).length)) most
    rw [if_neg (by omega)] at en
    rw [e, en, if_neg (by simp), if_pos (by simp [textL] at hk; simp; omega)]
theorem open_cut (l : List Int) (hl : l.length ≤ 4096) (k : Nat) (hk : k < (sealL l).length) : openF ((sealL l).take k) = ([], 0, 10) := by
  unfold openF
  by_cases h : k < (textL l).length
  · have e : (sealL l).take k = (textL l).take k := by
      unfold sealL; rw [List.take_append_of_le_length (by omega)]
    rw [e, textF_cut l (by omega) 4096 (by omega) k h, if_pos (by simp)]
  · have e : (sealL l).take k = textL l ++ (sumL (textL l)).take (k - (textL l).length) := by
      unfold sealL; rw [List.take_append, List.take_of_length_le (by omega)]
    rw [e, textF_text l _ (by omega) 4096 (by omega), if_neg (by simp)]
    rw [sealL_len] at hk
    rw [if_pos (by simp [sumL_len]; omega)]
end

/- seal.Read lays a reader in new memory; Left, Err, End; a nil reader's methods. -/
section
open Go.RowKit
theorem Rd.new {w1 : World} (t : TypeId) {A : Option Addr} {n c : Nat} {l : List Int} (h : Byt w1 A n c l) (h0 : 0 < w1.heap.size) : ∃ g, g < w1.heap.size ∧ Rd (w1.alloc (.cells #[.slice A n c, .int .i64 0] t)) t w1.heap.size g l 0 := by
  by_cases hn : 0 < n
  · obtain ⟨g, off, rfl, hc⟩ := h.at_ hn
    have hg : g < w1.heap.size := World.block_lt_of_cell? w1 _ (hc 0 hn)
    exact ⟨g, hg, by omega, _, n, c, Bk.new _ _ _, h.alloc _, fun _ a ha => by injection ha with ha; rw [← ha]⟩
  · exact ⟨0, h0, by omega, A, n, c, Bk.new _ _ _, h.alloc _, fun h => absurd h hn⟩
end

/- the methods of trothref03.Reader step as seal.Reader's do; trothref03.Open answers what seal.Open answers. -/
section
open Go.RowKit
theorem Rd.back {w w1 : World} {t : TypeId} {b g : Nat} {l l1 : List Int} {e e1 er : Nat} {A : Option Addr} {n c : Nat} (h : Rd w t b g l e) (h1 : Rd w1 t b g l1 e1) (hg : w.grownBy w1 (some b)) (hb : Byt w A n c l) (hA : 0 < n → ∀ a, A = some a → a.block = g) :
    Rd ((w1.setCell ⟨b, 1, none⟩ (.int .i64 er)).setCell ⟨b, 0, none⟩ (.slice A n c)) t b g l er ∧ w.grownBy ((w1.setCell ⟨b, 1, none⟩ (.int .i64 er)).setCell ⟨b, 0, none⟩ (.slice A n c)) (some b) := by
  have g1 := grown_trans hg (grown_trans (grown_set w1 b 1 (.int .i64 er)) (grown_set (w1.setCell ⟨b, 1, none⟩ (.int .i64 er)) b 0 (.slice A n c)))
  obtain ⟨A1, n1, c1, k1, _, _⟩ := h1.ex
  refine ⟨⟨h.ne, A, n, c, ?_, hb.grown g1 (fun hn a ha => by rw [hA hn a ha]; simpa using h.ne), hA⟩, g1⟩
  have := (k1.setc 1 (.int .i64 er)).setc 0 (.slice A n c)
  simpa using this
end

/- trothref03.Reader's Text steps as seal.Reader's does; trothref03.Open answers what seal.Open answers. -/
section
open Go.RowKit
theorem RdPost.below {t : TypeId} {b g : Nat} {l : List Int} {e0 : Nat} {v : Value} {w w1 : World} {e : Ending} {w' : World} (hb : Below w.heap.size w w1) (hw : w.heap.size ≤ b) (h : RdPost t b g l e0 v w1 e w') : Below w.heap.size w w' :=
  hb.grown h.2.2 hb.size (fun k hk => by injection hk with hk; omega)
end

/- the Go text of trothlaw03.SealOpens answers true, and writes nothing that was there. -/
section
open Go.RowKit
theorem openF_ok {l : List Int} (hr : ∀ x ∈ l, 0 ≤ x ∧ x < 256) {b : List Int} {u : Nat} (h : openF l = (b, u, 0)) : u ≤ l.length ∧ l.take u = sealL b ∧ b.length ≤ 4096 := by
  unfold openF at h
  split at h
  · rename_i h0
    exact absurd (triple h).2.2 h0
  · rename_i h0
    split at h
    · have := (triple h).2.2; omega
    · rename_i h1
      split at h
      · rename_i h2
        obtain ⟨e1, e2, _⟩ := triple h
        obtain ⟨hu, ht, hb⟩ := textF_ok hr (l := l) (most := 4096) (by omega)
        rw [e1] at ht hb
        refine ⟨by omega, ?_, by omega⟩
        rw [← e2, List.take_add, h2, ht]
        rfl
      · have := (triple h).2.2; omega
end

/- plain mathematics of sheets: what is found in them, how bodies are laid into them; what was laid is found. No program is named; no condition. -/
section
open Go.RowKit
def isB (l : List Int) : Prop := ∀ x ∈ l, 0 ≤ x ∧ x < 256
theorem isB.drop {l : List Int} (h : isB l) (n : Nat) : isB (l.drop n) := fun x hx => h x (List.mem_of_mem_drop hx)
theorem isB.take {l : List Int} (h : isB l) (n : Nat) : isB (l.take n) := fun x hx => h x (List.mem_of_mem_take hx)
theorem isB.app {l m : List Int} (h : isB l) (k : isB m) : isB (l ++ m) := fun x hx => by
  rcases List.mem_append.1 hx with q | q
  · exact h x q
  · exact k x q
def opensF : Nat → List Int → List (List Int) × List Int × Bool
  | 0, _ => ([], [], true)
  | f + 1, b => if b = [] then ([], [], true) else
      if (openF b).2.2 = 0 then ((openF b).1 :: (opensF f (b.drop (openF b).2.1)).1, (opensF f (b.drop (openF b).2.1)).2) else if (openF b).2.2 = 10 then ([], b, true) else ([], [], false)
theorem sealL_pos (b : List Int) : 4 < (sealL b).length := by
  rw [sealL_len]
  have h := shortL_pos b.length
  unfold textL
  rw [List.length_append]
  omega
theorem opensF_more : ∀ (f g : Nat) (b : List Int), isB b → b.length < f → b.length < g → opensF f b = opensF g b
  | 0, _, b, _, h, _ => absurd h (by omega)
  | _, 0, b, _, _, h => absurd h (by omega)
  | f + 1, g + 1, b, hb, h1, h2 => by
    unfold opensF
    by_cases h0 : b = []
    · rw [if_pos h0, if_pos h0]
    · rw [if_neg h0, if_neg h0]
      by_cases he : (openF b).2.2 = 0
      · rw [if_pos he, if_pos he]
        obtain ⟨hu, ht, _⟩ := openF_ok hb (b := (openF b).1) (u := (openF b).2.1) (by rw [← he])
        have hp := sealL_pos (openF b).1
        have : (b.take (openF b).2.1).length = (sealL (openF b).1).length := by rw [ht]
        rw [List.length_take] at this
        have hl : (b.drop (openF b).2.1).length < b.length := by rw [List.length_drop]; omega
        rw [opensF_more f g _ (hb.drop _) (by omega) (by omega)]
      · rw [if_neg he, if_neg he]
def opens (b : List Int) : List (List Int) × List Int × Bool := opensF (b.length + 1) b
theorem opens_nil : opens [] = ([], [], true) := rfl
theorem opens_ok {b x : List Int} {u : Nat} (hb : isB b) (h0 : b ≠ []) (h : openF b = (x, u, 0)) : opens b = (x :: (opens (b.drop u)).1, (opens (b.drop u)).2) := by
  unfold opens
  have e : opensF (b.length + 1) b = (x :: (opensF b.length (b.drop u)).1, (opensF b.length (b.drop u)).2) := by
    rw [opensF, if_neg h0, h, if_pos rfl]
  rw [e]
  obtain ⟨hu, ht, _⟩ := openF_ok hb h
  have hp := sealL_pos x
  have : (b.take u).length = (sealL x).length := by rw [ht]
  rw [List.length_take] at this
  have hl : (b.drop u).length < b.length := by rw [List.length_drop]; omega
  rw [opensF_more b.length ((b.drop u).length + 1) _ (hb.drop _) hl (by omega)]
theorem opens_short {b x : List Int} {u : Nat} (h0 : b ≠ []) (h : openF b = (x, u, 10)) : opens b = ([], b, true) := by
  unfold opens
  rw [opensF, if_neg h0, h, if_neg (by simp), if_pos rfl]
structure Fs where
  out : List (List Int × Int)
  beg : List Int
  frm : Int
def headF (s : Fs) (h : List Int) : Fs × Bool :=
  if s.beg = [] then (s, true) else
    if (openF (s.beg ++ h)).2.2 = 10 then (⟨s.out, s.beg ++ h, s.frm⟩, true)
    else if (openF (s.beg ++ h)).2.2 = 0 ∧ (openF (s.beg ++ h)).2.1 = (s.beg ++ h).length then (⟨s.out ++ [((openF (s.beg ++ h)).1, s.frm)], [], s.frm⟩, true) else (s, false)
def bodsF (s : Fs) (b : List Int) (i : Int) : Fs × Bool := (⟨s.out ++ (opens b).1.map (fun x => (x, i)), (opens b).2.1, i⟩, (opens b).2.2)
def inS (first : Int) (d : List Int) : Prop := 0 ≤ first ∧ first ≤ (d.length : Int)
instance (first : Int) (d : List Int) : Decidable (inS first d) := inferInstanceAs (Decidable (_ ∧ _))
def cutS (first : Int) (d : List Int) : Nat := if inS first d then first.toNat else d.length
def sheetF (s : Fs) (i : Int) (first : Int) (d : List Int) : Fs × Bool :=
  if (headF s (d.take (cutS first d))).2 = false then headF s (d.take (cutS first d))
  else if inS first d then bodsF (headF s (d.take (cutS first d))).1 (d.drop (cutS first d)) i else headF s (d.take (cutS first d))
/- What was found are bytes, and what is begun. -/
/- How long what is begun may be, and how much is found. -/
end

/- plain mathematics of sheets: bodies laid into sheets, by place; of the first sheets of what was laid just those bodies are found that end in them; what was laid later is found too. No program is named; no condition. -/
section
open Go.RowKit
def allL (bs : List (List Int)) : List Int := bs.flatMap sealL
def bgn (bs : List (List Int)) (j : Nat) : Nat := (allL (bs.take j)).length
def bgns (bs : List (List Int)) : List Nat := (List.range bs.length).map (bgn bs)
def fstIn (l : List Nat) (i : Nat) : Int := match l.find? (fun b => b / 242 == i) with
  | some b => ((b % 242 : Nat) : Int)
  | none => 255
def laidAt (bs : List (List Int)) (i : Nat) : Int × List Int := (fstIn (bgns bs) i, ((allL bs).drop (242 * i)).take 242)
theorem allL_cons (b : List Int) (r : List (List Int)) : allL (b :: r) = sealL b ++ allL r := by simp [allL]
theorem allL_app (a r : List (List Int)) : allL (a ++ r) = allL a ++ allL r := by simp [allL]
theorem allL_isB {bs : List (List Int)} (h : ∀ b ∈ bs, isB b) : isB (allL bs) := fun x hx => by
  obtain ⟨b, hb, hx⟩ := List.mem_flatMap.1 hx
  exact sealL_rng (h b hb) x hx
section
variable {bs : List (List Int)}
theorem bgn_zero : bgn bs 0 = 0 := by simp [bgn, allL]
theorem bgn_end {j : Nat} (h : bs.length ≤ j) : bgn bs j = (allL bs).length := by unfold bgn; rw [List.take_of_length_le h]
theorem take_succ_getD {α : Type} (l : List α) (d : α) (j : Nat) (h : j < l.length) : l.take (j + 1) = l.take j ++ [l.getD j d] := by
  rw [List.take_add_one]
  congr 1
  simp [List.getElem?_eq_getElem h]
theorem bgn_next {j : Nat} (h : j < bs.length) : bgn bs (j + 1) = bgn bs j + (sealL (bs.getD j [])).length := by
  unfold bgn
  rw [take_succ_getD bs [] j h, allL_app, List.length_append]
  simp [allL]
theorem bgn_lt {j : Nat} (h : j < bs.length) : bgn bs j < bgn bs (j + 1) := by
  rw [bgn_next h]
  have := sealL_pos (bs.getD j [])
  omega
theorem bgn_mono {i j : Nat} (h : i ≤ j) : bgn bs i ≤ bgn bs j := by
  induction j with
  | zero => rw [Nat.le_zero.1 h]; exact Nat.le_refl _
  | succ j ih =>
    by_cases e : i = j + 1
    · rw [e]; exact Nat.le_refl _
    · have h1 := ih (by omega)
      by_cases hj : j < bs.length
      · have := bgn_lt hj; omega
      · rw [bgn_end (by omega : bs.length ≤ j)] at h1
        rw [bgn_end (j := j + 1) (by omega)]
        exact h1
theorem bgn_le (j : Nat) : bgn bs j ≤ (allL bs).length := by
  rw [← bgn_end (Nat.le_refl bs.length)]
  by_cases h : j ≤ bs.length
  · exact bgn_mono h
  · rw [bgn_end (by omega), bgn_end (Nat.le_refl _)]; exact Nat.le_refl _
theorem bgn_smono {i j : Nat} (h : i < j) (hj : j ≤ bs.length) : bgn bs i < bgn bs j :=
  Nat.lt_of_lt_of_le (bgn_lt (by omega)) (bgn_mono h)
theorem all_drop (j : Nat) : (allL bs).drop (bgn bs j) = allL (bs.drop j) := by
  have e : allL bs = allL (bs.take j) ++ allL (bs.drop j) := by rw [← allL_app, List.take_append_drop]
  rw [e]
  unfold bgn
  rw [List.drop_left]
theorem drop_getD_cons {α : Type} (l : List α) (d : α) (j : Nat) (h : j < l.length) : l.drop j = l.getD j d :: l.drop (j + 1) := by
  rw [List.drop_eq_getElem_cons h]
  simp [List.getD, List.getElem?_eq_getElem h]
/- The first begin in a sheet. -/
theorem fst_is {i j : Nat} (hj : j < bs.length) (h1 : bgn bs j / 242 = i) (h2 : ∀ k, k < j → bgn bs k / 242 ≠ i) : fstIn (bgns bs) i = ((bgn bs j % 242 : Nat) : Int) := by
  have : (bgns bs).find? (fun b => b / 242 == i) = some (bgn bs j) := by
    rw [List.find?_eq_some_iff_getElem]
    refine ⟨by simpa using h1, j, by simpa [bgns] using hj, by simp [bgns], fun k hk => ?_⟩
    simpa [bgns] using h2 k hk
  unfold fstIn
  rw [this]
theorem fst_none {i : Nat} (h : ∀ k, k < bs.length → bgn bs k / 242 ≠ i) : fstIn (bgns bs) i = 255 := by
  have : (bgns bs).find? (fun b => b / 242 == i) = none := by
    rw [List.find?_eq_none]
    intro x hx
    obtain ⟨k, hk, rfl⟩ := List.mem_map.1 hx
    simpa using h k (by simpa using hk)
  unfold fstIn
  rw [this]
end
theorem opens_all : ∀ (bs : List (List Int)) (n : Nat), (∀ b ∈ bs, isB b ∧ b.length ≤ 4096) → n ≤ (allL bs).length → ∃ q, q ≤ bs.length ∧ bgn bs q ≤ n ∧ (q < bs.length → n < bgn bs (q + 1)) ∧
    opens ((allL bs).take n) = (bs.take q, ((allL bs).drop (bgn bs q)).take (n - bgn bs q), true)
  | [], n, _, hn => ⟨0, Nat.le_refl _, by simp [bgn, allL], fun h => absurd h (by simp), by simp [allL, opens_nil]⟩
  | b :: r, n, hb, hn => by
    obtain ⟨hb1, hb2⟩ := hb b (by simp)
    have hp := sealL_pos b
    by_cases h0 : n = 0
    · subst h0
      refine ⟨0, Nat.zero_le _, by simp [bgn_zero], fun _ => ?_, by simp [bgn_zero, opens_nil]⟩
      rw [bgn_next (by simp), bgn_zero]
      simp
      omega
    · rw [allL_cons, List.length_append] at hn
      by_cases h1 : n < (sealL b).length
      · have e : (allL (b :: r)).take n = (sealL b).take n := by rw [allL_cons, List.take_append_of_le_length (by omega)]
        refine ⟨0, Nat.zero_le _, by simp [bgn_zero], fun _ => ?_, ?_⟩
        · rw [bgn_next (by simp), bgn_zero]
          simpa using h1
        · have hne : (sealL b).take n ≠ [] := by
            intro q
            have := congrArg List.length q
            rw [List.length_take] at this
            simp only [List.length_nil] at this
            omega
          rw [bgn_zero, List.drop_zero, Nat.sub_zero, e, opens_short hne (open_cut b hb2 n h1)]
          simp
      · obtain ⟨q, hq, hq1, hq2, hq3⟩ := opens_all r (n - (sealL b).length) (fun x hx => hb x (by simp [hx])) (by omega)
        have bq : ∀ k, bgn (b :: r) (k + 1) = (sealL b).length + bgn r k := by
          intro k
          unfold bgn
          rw [List.take_succ_cons, allL_cons, List.length_append]
        refine ⟨q + 1, by simp; omega, by rw [bq]; omega, fun h => ?_, ?_⟩
        · rw [bq]
          have := hq2 (by simpa using h)
          omega
        · have e : (allL (b :: r)).take n = sealL b ++ (allL r).take (n - (sealL b).length) := by
            rw [allL_cons, List.take_append, List.take_of_length_le (by omega)]
          have hB : isB ((allL (b :: r)).take n) := (allL_isB (fun x hx => (hb x hx).1)).take n
          have hne : (allL (b :: r)).take n ≠ [] := by
            rw [e]
            intro q
            have := congrArg List.length q
            simp at this
            have := sealL_pos b
            simp_all
          rw [opens_ok hB hne (by rw [e]; exact open_seal b _ hb2), e, List.drop_left, hq3, bq]
          have e2 : (allL (b :: r)).drop ((sealL b).length + bgn r q) = (allL r).drop (bgn r q) := by
            rw [allL_cons, List.drop_append, List.drop_of_length_le (by omega), List.nil_append]
            congr 1
            omega
          rw [e2, List.take_succ_cons, Nat.sub_sub]
structure InvL (bs : List (List Int)) (o : List (List Int)) (k : Nat) (s : Fs) (j : Nat) : Prop where
  le : j ≤ bs.length
  out : s.out.map Prod.fst = o ++ bs.take j
  low : bgn bs j ≤ 242 * k
  high : j < bs.length → 242 * k < bgn bs (j + 1)
  beg : s.beg = ((allL bs).take (242 * k)).drop (bgn bs j)
theorem take_more {α : Type} (l : List α) (a b c : Nat) (h : a ≤ b) : (l.drop a).take (b - a) ++ (l.drop b).take c = (l.drop a).take (b - a + c) := by
  rw [List.take_add, List.drop_drop]
  congr 3
  omega
section
variable {bs : List (List Int)} {o : List (List Int)} {k j : Nat} {s : Fs}
theorem InvL.step (h : InvL bs o k s j) (hb : ∀ b ∈ bs, isB b ∧ b.length ≤ 4096) (hk : 242 * k < (allL bs).length) (i : Int) :
    (sheetF s i (laidAt bs k).1 (laidAt bs k).2).2 = true ∧ ∃ j', InvL bs o (k + 1) (sheetF s i (laidAt bs k).1 (laidAt bs k).2).1 j' := by
  obtain ⟨hle, hout, hlow, hhigh, hbeg⟩ := h
  have hj : j < bs.length := by
    rcases Nat.lt_or_ge j bs.length with q | q
    · exact q
    · rw [bgn_end q] at hlow; omega
  have hnx := hhigh hj
  have hnl : bgn bs (j + 1) ≤ (allL bs).length := bgn_le _
  obtain ⟨T, hT⟩ : ∃ T, T = (allL bs).length := ⟨_, rfl⟩
  obtain ⟨d, hd⟩ : ∃ d, d = ((allL bs).drop (242 * k)).take 242 := ⟨_, rfl⟩
  have hdl : d.length = min 242 (T - 242 * k) := by rw [hd, List.length_take, List.length_drop, hT]
  have hla : laidAt bs k = (fstIn (bgns bs) k, d) := by unfold laidAt; rw [hd]
  rw [hla]
  have hS := bgn_next hj
  have hbj : isB (bs.getD j []) ∧ (bs.getD j []).length ≤ 4096 := by
    have : bs.getD j [] = bs[j] := by simp [List.getD, List.getElem?_eq_getElem hj]
    rw [this]
    exact hb _ (List.getElem_mem hj)
  have hrest : (allL bs).drop (bgn bs j) = sealL (bs.getD j []) ++ allL (bs.drop (j + 1)) := by rw [all_drop, drop_getD_cons bs [] j hj, allL_cons]
  have hbeg' : s.beg = ((allL bs).drop (bgn bs j)).take (242 * k - bgn bs j) := by rw [hbeg, List.drop_take]
  have hbl : s.beg.length = 242 * k - bgn bs j := by rw [hbeg', List.length_take, List.length_drop]; omega
  have happ : ∀ c, s.beg ++ (d.take c) = ((allL bs).drop (bgn bs j)).take (242 * k - bgn bs j + min c 242) := by
    intro c
    rw [hbeg', hd, List.take_take, take_more _ _ _ _ hlow]
  have hbefore : ∀ i, i ≤ j → bgn bs i ≤ 242 * k := fun i hi => Nat.le_trans (bgn_mono hi) hlow
  have hbods : ∀ (q c : Nat) (s1 : Fs), q ≤ bs.length → c ≤ d.length → bgn bs q = 242 * k + c → s1.out.map Prod.fst = o ++ bs.take q → (bodsF s1 (d.drop c) i).2 = true ∧ ∃ j', InvL bs o (k + 1) (bodsF s1 (d.drop c) i).1 j' := by
    intro q c s1 hq hc hbq ho1
    have hdc : d.drop c = (allL (bs.drop q)).take (d.length - c) := by
      rw [hd, List.drop_take, List.drop_drop, ← hbq, all_drop]
      have hl : (allL (bs.drop q)).length = T - bgn bs q := by rw [← all_drop, List.length_drop, hT]
      by_cases h242 : 242 ≤ T - 242 * k
      · rw [← hd, hdl, Nat.min_eq_left h242]
      · rw [← hd, hdl, Nat.min_eq_right (by omega), List.take_of_length_le (by omega), List.take_of_length_le (by omega)]
    have hl : (allL (bs.drop q)).length = T - bgn bs q := by rw [← all_drop, List.length_drop, hT]
    obtain ⟨r, hr, hr1, hr2, hr3⟩ := opens_all (bs.drop q) (d.length - c) (fun b hb' => hb b (List.mem_of_mem_drop hb')) (by omega)
    have hbr : ∀ m, bgn (bs.drop q) m = bgn bs (q + m) - bgn bs q := by
      intro m
      unfold bgn
      rw [List.take_add, allL_app, List.length_append]
      omega
    have hge : ∀ m, bgn bs q ≤ bgn bs (q + m) := fun m => bgn_mono (by omega)
    rw [List.length_drop] at hr hr2
    unfold bodsF
    rw [hdc, hr3]
    refine ⟨rfl, q + r, by omega, ?_, ?_, fun hlt => ?_, ?_⟩
    · simp only [List.map_append, ho1, List.map_map]
      rw [List.append_assoc, List.take_add]
      congr 2
      exact List.map_id _
    · rw [hbr] at hr1
      have := hge r
      omega
    · have h1 := hr2 (by omega)
      rw [hbr] at h1
      have h2 := hge (r + 1)
      have h3 : q + r + 1 = q + (r + 1) := by omega
      rw [h3]
      rcases Nat.lt_or_ge T (242 * (k + 1)) with q1 | q1
      · have := bgn_le (bs := bs) (q + (r + 1))
        have := bgn_smono (bs := bs) (i := q + r) (j := q + (r + 1)) (by omega) (by omega)
        omega
      · omega
    · simp only
      rw [hbr] at hr1 ⊢
      have := hge r
      rw [← all_drop, List.drop_drop, List.drop_take]
      have e : bgn bs q + (bgn bs (q + r) - bgn bs q) = bgn bs (q + r) := by omega
      rw [e]
      by_cases h242 : 242 ≤ T - 242 * k
      · congr 1
        omega
      · rw [List.take_of_length_le (by rw [List.length_drop]; omega), List.take_of_length_le (by rw [List.length_drop]; omega)]
  have hnone : ¬ (bgn bs (j + 1) < 242 * (k + 1) ∧ j + 1 < bs.length) → bgn bs j < 242 * k → fstIn (bgns bs) k = 255 := by
    intro hno hjl
    refine fst_none (fun m hm hmk => ?_)
    rcases Nat.lt_or_ge j m with q | q
    · have := bgn_mono (bs := bs) (i := j + 1) (j := m) q
      have : 242 * k ≤ bgn bs m ∧ bgn bs m < 242 * (k + 1) := by omega
      apply hno
      omega
    · have := bgn_mono (bs := bs) q
      omega
  unfold sheetF
  by_cases hcase : bgn bs j < 242 * k
  · have hbne : s.beg ≠ [] := by intro q; rw [q] at hbl; simp at hbl; omega
    by_cases hin : bgn bs (j + 1) < 242 * (k + 1) ∧ j + 1 < bs.length
    · -- the body ends, and another one begins
      have hf : fstIn (bgns bs) k = ((bgn bs (j + 1) - 242 * k : Nat) : Int) := by
        rw [fst_is (bs := bs) (j := j + 1) hin.2 (by omega) (fun m hm => by have := hbefore m (by omega); have := bgn_mono (bs := bs) (i := m) (j := j) (by omega); omega)]
        congr 1
        omega
      have hlt : bgn bs (j + 1) < T := by
        have := bgn_smono (bs := bs) (i := j + 1) (j := j + 2) (by omega) (by omega)
        have := bgn_le (bs := bs) (j + 2)
        omega
      have hIn : inS (fstIn (bgns bs) k) d := by rw [hf]; exact ⟨by omega, by omega⟩
      have hcut : cutS (fstIn (bgns bs) k) d = bgn bs (j + 1) - 242 * k := by
        unfold cutS
        rw [if_pos hIn, hf]
        omega
      rw [hcut]
      have hx : s.beg ++ d.take (bgn bs (j + 1) - 242 * k) = sealL (bs.getD j []) := by
        rw [happ, hrest, List.take_append_of_le_length (by omega), List.take_of_length_le (by omega)]
      have hH : headF s (d.take (bgn bs (j + 1) - 242 * k)) = (⟨s.out ++ [(bs.getD j [], s.frm)], [], s.frm⟩, true) := by
        unfold headF
        rw [if_neg hbne, hx, open_seal0 _ hbj.2, if_neg (by simp), if_pos ⟨rfl, rfl⟩]
      rw [hH, if_neg (by simp), if_pos hIn]
      refine hbods (j + 1) (bgn bs (j + 1) - 242 * k) _ (by omega) (by omega) (by omega) ?_
      simp only [List.map_append, hout, List.map_cons, List.map_nil, List.append_assoc]
      rw [take_succ_getD bs [] j hj]
    · have hf := hnone hin hcase
      have hIn : ¬ inS (fstIn (bgns bs) k) d := by rw [hf]; intro q; have := q.2; omega
      have hcut : cutS (fstIn (bgns bs) k) d = d.length := by unfold cutS; rw [if_neg hIn]
      rw [hcut, List.take_of_length_le (Nat.le_refl _)]
      have happ' : s.beg ++ d = ((allL bs).drop (bgn bs j)).take (242 * k - bgn bs j + 242) := by
        have := happ 242
        rw [List.take_of_length_le (by omega), Nat.min_self] at this
        exact this
      by_cases hend : bgn bs (j + 1) ≤ 242 * (k + 1)
      · -- the body ends with the sheet
        have hE : bgn bs (j + 1) = 242 * (k + 1) ∨ bgn bs (j + 1) = T := by
          by_cases hl : j + 1 < bs.length
          · left; omega
          · right; rw [bgn_end (by omega), hT]
        have hx : s.beg ++ d = sealL (bs.getD j []) := by
          rw [happ']
          rcases hE with q | q
          · rw [hrest, List.take_append_of_le_length (by omega), List.take_of_length_le (by omega)]
          · have hlast : bs.drop (j + 1) = [] := by
              rcases Nat.lt_or_ge (j + 1) bs.length with r | r
              · have := bgn_smono (bs := bs) (i := j + 1) (j := j + 2) (by omega) (by omega)
                have := bgn_le (bs := bs) (j + 2)
                omega
              · exact List.drop_of_length_le r
            rw [hrest, hlast]
            simp only [allL, List.flatMap_nil, List.append_nil]
            rw [List.take_of_length_le (by omega)]
        have hH : headF s d = (⟨s.out ++ [(bs.getD j [], s.frm)], [], s.frm⟩, true) := by
          unfold headF
          rw [if_neg hbne, hx, open_seal0 _ hbj.2, if_neg (by simp), if_pos ⟨rfl, rfl⟩]
        rw [hH, if_neg (by simp), if_neg hIn]
        refine ⟨rfl, j + 1, by omega, ?_, hend, fun hl => ?_, ?_⟩
        · simp only [List.map_append, hout, List.map_cons, List.map_nil, List.append_assoc]
          rw [take_succ_getD bs [] j hj]
        · have := bgn_lt hl
          rcases hE with q | q
          · omega
          · have := bgn_le (bs := bs) (j + 1 + 1)
            omega
        · simp only
          symm
          apply List.drop_of_length_le
          rw [List.length_take]
          rcases hE with q | q
          · omega
          · omega
      · -- it goes on
        have hx : s.beg ++ d = (sealL (bs.getD j [])).take (242 * (k + 1) - bgn bs j) := by
          rw [happ', hrest, List.take_append_of_le_length (by omega)]
          congr 1
          omega
        have hH : headF s d = (⟨s.out, s.beg ++ d, s.frm⟩, true) := by
          unfold headF
          rw [if_neg hbne, hx, open_cut _ hbj.2 _ (by omega), if_pos rfl]
        rw [hH, if_neg (by simp), if_neg hIn]
        refine ⟨rfl, j, hle, hout, by omega, fun _ => by omega, ?_⟩
        simp only
        rw [happ', List.drop_take]
        congr 1
        omega
  · have hjk : bgn bs j = 242 * k := by omega
    have hb0 : s.beg = [] := List.eq_nil_of_length_eq_zero (by omega)
    have hf : fstIn (bgns bs) k = 0 := by
      rw [fst_is (bs := bs) (j := j) hj (by omega) (fun m hm => by have := bgn_smono (bs := bs) hm hle; omega), hjk]
      simp
    have hIn : inS (fstIn (bgns bs) k) d := by rw [hf]; exact ⟨by omega, by omega⟩
    have hcut : cutS (fstIn (bgns bs) k) d = 0 := by unfold cutS; rw [if_pos hIn, hf]; rfl
    rw [hcut]
    have hH : headF s (d.take 0) = (s, true) := by unfold headF; rw [if_pos hb0]
    rw [hH, if_neg (by simp), if_pos hIn]
    exact hbods j 0 s hle (by omega) (by omega) hout
end
theorem InvL.start (bs : List (List Int)) (o : List (List Int)) (s : Fs) (ho : s.out.map Prod.fst = o) (hb : s.beg = []) : InvL bs o 0 s 0 :=
  ⟨Nat.zero_le _, by simp [ho], by simp [bgn_zero], fun h => by have := bgn_lt h; rw [bgn_zero] at this; omega, by simp [hb]⟩
end
end Go.Proofs.Ytfmfmdiegabobaa
