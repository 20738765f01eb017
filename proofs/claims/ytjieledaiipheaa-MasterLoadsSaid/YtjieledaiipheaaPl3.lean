/- What it says: contracts and plain mathematics that the laws' walks use, 3 of 3: each part's own remark says what; no condition. -/
import Derived.Test.YtjieledaiipheaaPl2
import Derived.Deep.QuietTactic
import Derived.BigQuiet
import Derived.RegionTactic
import Derived.BigRegion
import Derived.Deep.RegionHeld3
import Derived.Test.YtjieledaiipheaaRows
import Derived.ProofKit
import Derived.OpenShut
import Derived.ShutString
import Derived.ChangeOld
import Derived.SizedLaws

/- the statements' awake() answers true: the document's example. -/
namespace Go.Proofs.Ytjieledaiipheaa
open Go.RowKit

def aw1 : St := (St.new 2).write 0 (fullL 1)
def aw2 : St := aw1.sync
def aw3 : St := aw2.write 0 (fullL 2)
def awC : Crs := ⟨[], true, 3⟩
theorem aw1_eq : aw1 = (St.new 2).wrote 0 (fullL 1) := by
  unfold aw1 St.write
  rw [if_neg (by decide), if_neg (by rw [(fullL_sec (x := 1) (by omega)).1]; decide), if_pos (by rfl)]
  rfl
theorem aw2_eq : aw2 = aw1.synced := by
  unfold aw2 St.sync
  rw [if_pos (by rw [aw1_eq]; rfl)]
theorem aw3_eq : aw3 = aw2.wrote 0 (fullL 2) := by
  unfold aw3 St.write
  rw [if_neg (by rw [aw2_eq, aw1_eq]; decide), if_neg (by rw [(fullL_sec (x := 2) (by omega)).1]; decide), if_pos (by rw [aw2_eq, aw1_eq]; rfl)]
  rfl
theorem aw_e1 : (St.new 2).wErr 0 (fullL 1) = 0 := by
  unfold St.wErr
  rw [if_neg (by decide), if_neg (by rw [(fullL_sec (x := 1) (by omega)).1]; decide), if_pos (by rfl)]
theorem aw_e2 : aw1.sErr = 0 := by
  unfold St.sErr
  rw [if_pos (by rw [aw1_eq]; rfl)]
theorem aw_e3 : aw2.wErr 0 (fullL 2) = 0 := by
  unfold St.wErr
  rw [if_neg (by rw [aw2_eq, aw1_eq]; decide), if_neg (by rw [(fullL_sec (x := 2) (by omega)).1]; decide), if_pos (by rw [aw2_eq, aw1_eq]; rfl)]
theorem aw_p1 : (St.new 2).pend.length = 0 := rfl
theorem aw_p2 : aw2.pend.length = 0 := by rw [aw2_eq]; rfl
theorem aw_s1 : aw1.syncs = 0 := by rw [aw1_eq]; rfl
theorem aw_p3 : aw3.pend.length = 1 := by rw [aw3_eq]; show (aw2.pend ++ [_]).length = 1; rw [List.length_append, aw_p2]; rfl
theorem aw_r : (aw3.crash awC).rErr 0 = 0 := by
  unfold St.rErr
  rw [if_neg (by rw [aw3_eq, aw2_eq, aw1_eq]; decide)]
  rfl
theorem aw_now : (aw3.crash awC).now 0 = over (fullL 2) (fullL 1) 3 := by
  rw [aw3_eq, aw2_eq, aw1_eq]
  rfl
theorem aw_b : (aw3.crash awC).rBytes 0 = over (fullL 2) (fullL 1) 3 := by
  unfold St.rBytes
  rw [if_pos aw_r]
  exact aw_now
theorem full_at (x : Int) (i : Nat) (hi : i < 256) : (fullL x)[i]? = some x := by
  unfold fullL
  rw [List.getElem?_replicate, if_pos hi]
theorem over_left {l m : List Int} (hl : Sec l) (k i : Nat) (hk : k ≤ 256) (h : i < k) : (over l m k)[i]? = l[i]? := by
  unfold over
  have : (l.take k).length = k := by rw [List.length_take, hl.1]; omega
  rw [List.getElem?_append_left (by omega), List.getElem?_take, if_pos h]
theorem over_right {l m : List Int} (hl : Sec l) (k i : Nat) (hk : k ≤ 256) (h : k ≤ i) : (over l m k)[i]? = m[i]? := by
  unfold over
  have : (l.take k).length = k := by rw [List.length_take, hl.1]; omega
  rw [List.getElem?_append_right (by omega), List.getElem?_drop, this]
  congr 1
  omega
theorem over_at1 : (over (fullL 2) (fullL 1) 3).getD 2 0 = 2 := by
  rw [List.getD_eq_getElem?_getD, over_left (fullL_sec (x := 2) (by omega)) 3 2 (by omega) (by omega), full_at 2 2 (by omega)]
  rfl
theorem over_at2 : (over (fullL 2) (fullL 1) 3).getD 3 0 = 1 := by
  rw [List.getD_eq_getElem?_getD, over_right (fullL_sec (x := 2) (by omega)) 3 3 (by omega) (by omega), full_at 1 3 (by omega)]
  rfl

theorem new_two (w : World) : Calls Try.prog 7 #[.int .i64 2] w (fun e w' => ∃ b, e = .returned (.tuple #[.pointer (some ⟨b, 0, none⟩), .int .i64 0]) ∧ Has w.heap.size ((dsk b (St.new 2)).star emp) w' ∧ Below w.heap.size w w') :=
  hasD_new (Has.emp _ _) (Nat.le_refl _) 2 (by omega)

theorem nts_nil (w : World) : Nts w none 0 0 [] := ⟨rfl, Nat.le_refl _, Nat.zero_le _, fun i hi => absurd hi (by omega), fun h => absurd h (by omega)⟩

end Go.Proofs.Ytjieledaiipheaa

/- the statements' awake() answers true: a record is saved, and loaded. -/
namespace Go.Proofs.Ytjieledaiipheaa
open Go.RowKit

def mA : Ms := ⟨1, 0, 0, 7, 0⟩
theorem mA_ok : mA.ok := ⟨⟨by decide, by decide⟩, ⟨by decide, by decide⟩, ⟨by decide, by decide⟩, ⟨by decide, by decide⟩, ⟨by decide, by decide⟩⟩
theorem mA_v : msV mA = .agg #[.int .i64 1, .int .i64 0, .int .i64 0, .int .i64 7, .int .i64 0] := rfl

set_option maxRecDepth 100000 in
set_option maxHeartbeats 2000000 in
theorem awakeM_any (w : World) : Calls Try.prog 12 #[] w (Ret (.bool true) w) := by
  have CN := Lib.hid (new_two w)
  obtain ⟨a1, a2, a3, _⟩ := Mst.start.save mA_ok
  have A1 := Lib.hid a1
  have A3 := Lib.hid a3
  have AL : Hid (loadM ((saveS (St.new 2) mA).syn 0) ((saveS (St.new 2) mA).syn 1) = mA ∧ lostE (loadM ((saveS (St.new 2) mA).syn 0) ((saveS (St.new 2) mA).syn 1)) = 0) := Lib.hid (by
    rw [a2]
    exact (Lst.first mA_ok (fun _ => rfl) (msL_rec mA_ok)).load)
  clear a1 a2 a3
  go_enter Try.func12, Try.ntmps12
  go_wp2_with fail
  refine CN.out.mono ?_
  rintro e w1 ⟨b, rfl, h1, b1⟩
  have CS := save_any h1 b1.size mA mA_ok.fits (Nat.zero_lt_succ _) (by rw [putS_syncs0 Mst.start]; exact Nat.zero_lt_succ _)
  rw [A1.out, mA_v] at CS
  have CS := Lib.hid CS
  have B1 := Lib.hid b1
  clear h1 b1 CN
  go_wp2_with fail
  refine CS.out.mono ?_
  rintro e w2 ⟨rfl, h2, b2⟩
  have CL := load_any h2
  rw [A3.out.load.1, A3.out.load.2, AL.out.2, AL.out.1, mA_v] at CL
  have CL := Lib.hid CL
  have B2 := Lib.hid (B1.out.trans b2)
  clear h2 b2 CS
  go_wp2_with fail
  refine CL.out.mono ?_
  rintro e w3 ⟨rfl, b3⟩
  have B3 := Lib.hid (B2.out.trans (b3.mono B2.out.size))
  clear b3 CL
  go_wp2_with fail
  go_ret
  exact ⟨rfl, B3.out.alloc B3.out.size _⟩
end Go.Proofs.Ytjieledaiipheaa

/- 'append' onto a row of the call's own lays it where it was, or in a new block: so two such rows stay apart. No program is named; no condition. -/
namespace Go.Proofs.Ytjieledaiipheaa
open Go.RowKit

/-- Where the answer lies. -/
theorem append_where {P : Program} {w : World} {base : Nat} {t ty e : TypeId} {i : TypeInfo} (ht : P.underlying t = some (.slice e)) (hi : P.info? e = some i) (hz : i.zero = some (.int .u8 0)) (hsize : i.size = 1) (hby : i.bytes = 1)
    {v : Value} {k : Nat} {xs : List Value} (hown : w.ownsRow base e 1 v k xs) {ad : Addr} {n c : Nat} {l : List Value} (hl : l.length = n) (hc : ∀ j u, l[j]? = some u → w.cell? (ad.add j) = some u) (h1 : ∀ u ∈ l, u.oneCell' = true) (hbytes : k + n ≤ 140737488355328)
    {v' : Value} {w' : World} (hr : (Builtin.append_ #[t, t] ty #[v, .slice (some ad) n c]).run P w = .ok v' w') : ∀ q, v'.ownBlock = some q → v.ownBlock = some q ∨ w.heap.size ≤ q := by
  have hl' : l.length = n * i.size := by rw [hsize]; omega
  have done : ∀ {x : Value} {w1 : World}, (Builtin.append_ #[t, t] ty #[v, .slice (some ad) n c]).run P w = .ok x w1 → (∀ q, x.ownBlock = some q → v.ownBlock = some q ∨ w.heap.size ≤ q) → ∀ q, v'.ownBlock = some q → v.ownBlock = some q ∨ w.heap.size ≤ q := by
    intro x w1 h h2
    rw [hr] at h
    injection h with h _
    rw [h]
    exact h2
  rcases hown.2 with ⟨rfl, rfl⟩ | ⟨g, cap, cur, rfl, _, hg, hkc, _, hcs, _⟩
  · by_cases hn : n = 0
    · subst hn
      obtain rfl : l = [] := List.eq_nil_of_length_eq_zero hl
      refine done (x := .slice none 0 0) (w1 := w) ?_ (fun q hq => by simp [Value.ownBlock] at hq)
      simp [Builtin.append_, run_underlying ht, sizeOf, typeInfo, hi, Builtin.lenOf, Builtin.firstCells, loadCells, loadCellsFrom]
    · exact done (run_append_nil (P := P) w t ty e i _ ht hi hz ad n c l hl' hc (by omega) (by omega) (by rw [hby]; omega)) (fun q hq => .inr (by simp [Value.ownBlock] at hq; omega))
  · by_cases hroom : k + n ≤ cap
    · exact done (run_append_room (P := P) w t ty e i ht hi g k cap cur hg ad n c l hl' hc h1 hroom (by rw [hl', hcs, hsize]; omega)) (fun q hq => .inl (by simpa [Value.ownBlock] using hq))
    · refine done (run_append_grow (P := P) w t ty e i _ ht hi hz ⟨g, 0, none⟩ k cap xs (by rw [hown.1, hsize]) (hown.cells (g := g) rfl) ad n c l hl' hc (by omega) (by omega) (growslice_fits (by omega) (by rw [hby]; omega))) (fun q hq => .inr (by simp [Value.ownBlock] at hq; omega))

/-- 'out = append(out, xs...)', and where it lies. -/
theorem wpList_append_at {P : Program} {w : World} {ops : Array Oper} {rest : List Oper} {o : Oper} {a : Act} {Q : Exit → Act → World → Prop} (hgd : o.guard = none) (s x : Operand) (t : TypeId)
    (ho : o.op = .call { callee := .builtin .append, args := #[s, x], argTypes := #[t, t] })
    (base : Nat) (e : TypeId) (i : TypeInfo) (ht : P.underlying t = some (.slice e)) (hi : P.info? e = some i) (hz : i.zero = some (.int .u8 0)) (hsize : i.size = 1) (hby : i.bytes = 1)
    (v : Value) (k : Nat) (xs : List Int) (hs : a.eval s = v) (hown : w.ownsRow base e 1 v k (xs.map (Value.int .u8)))
    (A : Option Addr) (n c : Nat) (l : List Int) (hx : a.eval x = .slice A n c) (hl : Byt w A n c l)
    (hbytes : k + n ≤ 140737488355328) (hbase : base ≤ w.heap.size)
    (h : ∀ A' c' w', w'.ownsRow base e 1 (.slice A' (k + n) c') (k + n) ((xs ++ l).map (Value.int .u8)) → w.grownBy w' v.ownBlock → (∀ q, (Value.slice A' (k + n) c').ownBlock = some q → v.ownBlock = some q ∨ w.heap.size ≤ q) → wpList P ops Q rest (a.put o.dst (.slice A' (k + n) c')) w') :
    wpList P ops Q (o :: rest) a w := by
  refine wpList_plain hgd fun K hK => ?_
  have form : ∀ (v' : Value) (w' : World) (m : Nat) (ys : List Value), w'.ownsRow base e 1 v' m ys → ∃ A' c', v' = .slice A' m c' := by
    intro v' w' m ys ho'
    rcases ho'.2 with ⟨h1, h2⟩ | ⟨g, cap, _, h1, _⟩
    · subst h2; exact ⟨none, 0, h1⟩
    · exact ⟨_, _, h1⟩
  cases A with
  | none =>
    obtain ⟨rfl, rfl⟩ := hl.nil_ rfl
    have hl0 : l = [] := List.eq_nil_of_length_eq_zero hl.len
    subst hl0
    have hrun := run_append_owned_none (P := P) (w := w) base t o.type e i 1 ht hi v k _ hown
    obtain ⟨A', c', rfl⟩ := form _ _ _ _ hown
    have h' := h A' c' w
    simp only [Nat.add_zero, List.append_nil] at h'
    unfold Oper.wp
    simp [execOp, ho, resolve, invoke, builtin, hs, hx, hrun, Result.andThen]
    exact hK _ _ (h' hown (World.grownBy.refl w _) (fun q hq => .inl hq))
  | some ad =>
    have hll : (l.map (Value.int .u8)).length = n := by simp [hl.len]
    obtain ⟨v', w', hrun, h1, h2, _⟩ := run_append_own (P := P) w base t o.type e i (.int .u8 0) 1 1 ht hi hz hsize hby rfl (by decide) v k _ hown ad n c (l.map (Value.int .u8)) (by simp [hl.len]) (hl.cells ad rfl) (u8_one l) (by unfold maxLen; omega) (by omega) hbase
    have hw := append_where ht hi hz hsize hby hown hll (hl.cells ad rfl) (u8_one l) hbytes hrun
    obtain ⟨A', c', rfl⟩ := form _ _ _ _ h1
    unfold Oper.wp
    simp [execOp, ho, resolve, invoke, builtin, hs, hx, hrun, Result.andThen]
    exact hK _ _ (h A' c' w' (by simpa using h1) h2 hw)
end Go.Proofs.Ytjieledaiipheaa

/- the document's Next, Wrap and Open (trothref05) answer what the plain mathematics says. -/
namespace Go.Proofs.Ytjieledaiipheaa
open Go.RowKit

set_option maxHeartbeats 4000000 in
theorem ropen_any (A : Option Addr) (n c : Nat) (l : List Int) (w : World) (h : Byt w A n c l) :
    Calls Try.prog 46 #[.slice A n c] w (RetByt2 (openB l) .i64 (openE l) w) := by
  have hl := h.len
  have hcap := h.cap
  have hmax := h.max
  unfold maxLen at hmax
  by_cases hn : n = 256
  · subst hn
    obtain ⟨g, off, rfl, h0, h1⟩ := h.ends
    have ra := h.lt_ 0 (by omega)
    have rb := h.lt_ 255 (by omega)
    have HB := Lib.hid h
    have HR : Hid (rightL l ↔ l.getD 0 0 = l.getD 255 0 ∧ 1 ≤ l.getD 0 0 ∧ l.getD 0 0 ≤ 3) := Lib.hid Iff.rfl
    have HL := Lib.hid hl
    obtain ⟨a, ha⟩ : ∃ a, l.getD 0 0 = a := ⟨_, rfl⟩
    obtain ⟨b, hb⟩ : ∃ b, l.getD 255 0 = b := ⟨_, rfl⟩
    rw [ha, hb] at HR
    rw [ha] at h0 ra
    rw [hb] at h1 rb
    clear ha hb h hl
    by_cases hab : a = b
    · subst hab
      have d1 : (a != a) = false := by simp
      by_cases hs : 1 ≤ a ∧ a ≤ 3
      · have E : Hid (openE l = 0 ∧ openB l = bodyL l) := Lib.hid ⟨openE_right HL.out (HR.out.2 ⟨rfl, hs⟩), openB_right HL.out (HR.out.2 ⟨rfl, hs⟩)⟩
        rw [E.out.1, E.out.2]
        obtain ⟨i0, hi, hz0, hz1, hz2⟩ := info_parts info_u8
        have d2 : decide (a < 1) = false := by simp; omega
        have d3 : decide (3 < a) = false := by simp; omega
        have HBD : Hid (∀ k, Byt (w.drewN k) (some ⟨g, off + 1, none⟩) 254 (c - 1) (bodyL l)) := Lib.hid (fun k => HB.out.body.drewN k)
        have HOW : Hid (∀ k, ((w.drewN k).alloc (.cells #[] 5)).ownsRow w.heap.size 5 1 (.slice (some ⟨w.heap.size, 0, none⟩) 0 0) 0 ([].map (Value.int .u8))) := Lib.hid (fun k => World.ownsRow_made (base := w.heap.size) (e := 5) (size := 1) (w.drewN k) #[] 0 (Nat.le_refl _) (Nat.zero_le _) rfl)
        clear hs E HR HL
        go_enter Try.func46, Try.ntmps46
        go_wp2_with fail
        go_quiet (fail)
        go_wp2_with (at_builtin; refine wpList_append_byt rfl _ _ 34 rfl w.heap.size 5 i0 Try.underlying34 hi hz0 hz1 hz2 _ 0 [] rfl (by exact HOW.out _) (some ⟨g, off + 1, none⟩) 254 (c - 1) (bodyL l) rfl ((HBD.out _).alloc _) (by omega) (by simp) ?_)
        intro A' c' w' h1' h2'
        have R : Hid (Byt w' A' (0 + 254) c' ([] ++ bodyL l) ∧ Below w.heap.size w w') := Lib.hid ⟨Byt.of_own h1' (bodyL_rng HB.out.rng), ((below_drewN (Below.refl w.heap.size w) _).alloc (Nat.le_refl _) _).grown h2' (by simp) (by intro k hk; simp [Value.ownBlock] at hk; omega)⟩
        clear h1' h2' HBD HOW
        go_wp2_with fail
        go_ret2
        exact ⟨_, _, _, rfl, R.out.1, R.out.2⟩
      · have E : Hid (openE l = 50 ∧ openB l = []) := Lib.hid ⟨openE_torn HL.out (fun q => hs (HR.out.1 q).2), openB_bad (by rw [openE_torn HL.out (fun q => hs (HR.out.1 q).2)]; omega)⟩
        rw [E.out.1, E.out.2]
        by_cases h1' : a < 1
        · have d2 : decide (a < 1) = true := by simpa using h1'
          clear hs E HR HL h1'
          go_enter Try.func46, Try.ntmps46
          go_wp2_with fail
          go_quiet (fail)
          go_wp2_with fail
          go_ret2
          exact ⟨none, 0, 0, rfl, Byt.nil _, below_drewN (Below.refl _ _) _⟩
        · have d2 : decide (a < 1) = false := by simp; omega
          have d3 : decide (3 < a) = true := by simp; omega
          clear hs E HR HL h1'
          go_enter Try.func46, Try.ntmps46
          go_wp2_with fail
          go_quiet (fail)
          go_wp2_with fail
          go_ret2
          exact ⟨none, 0, 0, rfl, Byt.nil _, below_drewN (Below.refl _ _) _⟩
    · have d1 : (a != b) = true := by simpa using hab
      have E : Hid (openE l = 50 ∧ openB l = []) := Lib.hid ⟨openE_torn HL.out (fun q => hab (HR.out.1 q).1), openB_bad (by rw [openE_torn HL.out (fun q => hab (HR.out.1 q).1)]; omega)⟩
      rw [E.out.1, E.out.2]
      clear E HR HL
      go_enter Try.func46, Try.ntmps46
      go_wp2_with fail
      go_quiet (fail)
      go_wp2_with fail
      go_ret2
      exact ⟨none, 0, 0, rfl, Byt.nil _, below_drewN (Below.refl _ _) _⟩
  · have E : Hid (openE l = 12 ∧ openB l = []) := Lib.hid ⟨openE_len (by omega), openB_bad (by rw [openE_len (by omega)]; omega)⟩
    have hd : ((n : Int) != 256) = true := by simp; omega
    rw [E.out.1, E.out.2]
    clear h hl E
    go_enter Try.func46, Try.ntmps46
    go_wp2_with fail
    go_ret2
    exact ⟨none, 0, 0, rfl, Byt.nil _, Below.refl _ _⟩

/-- What refWrap gathers: k bytes. -/
def gathL (m : Int) (p : List Int) (k : Nat) : List Int := m :: (p ++ List.replicate (k - 1 - p.length) 0)
theorem gathL_rng {m : Int} {p : List Int} (hm : 0 ≤ m ∧ m < 256) (hp : ∀ x ∈ p, 0 ≤ x ∧ x < 256) (k : Nat) : ∀ x ∈ gathL m p k, 0 ≤ x ∧ x < 256 := by
  intro x hx
  rcases List.mem_cons.1 hx with q | q
  · rw [q]; exact hm
  · rcases List.mem_append.1 q with q | q
    · exact hp x q
    · obtain ⟨_, rfl⟩ := List.mem_replicate.1 q
      omega
theorem gathL_next {m : Int} {p : List Int} {k : Nat} (h : 1 + p.length ≤ k) : gathL m p k ++ [0] = gathL m p (k + 1) := by
  unfold gathL
  rw [show k + 1 - 1 - p.length = (k - 1 - p.length) + 1 from by omega, List.replicate_succ']
  simp
theorem gathL_full {m : Int} {p : List Int} (h : p.length ≤ 254) : gathL m p 255 ++ [m] = wrapL m p := by
  unfold gathL wrapL padL
  simp

theorem byt_one (W : World) (x : Int) (hx : 0 ≤ x ∧ x < 256) : Byt (W.alloc (.cells #[.int .u8 x] 5)) (some ⟨W.heap.size, 0, none⟩) 1 1 [x] :=
  Byt.lit W 5 [x] 1 rfl (by unfold maxLen; omega) (fun y hy => by simp at hy; rw [hy]; exact hx)

set_option maxRecDepth 100000 in
set_option maxHeartbeats 4000000 in
theorem rwrap_any (m : Int) (hm : 0 ≤ m ∧ m < 256) (A : Option Addr) (n c : Nat) (p : List Int) (w : World) (h : Byt w A n c p) :
    Calls Try.prog 14 #[.int .u8 m, .slice A n c] w (RetByt2 (wrapB m p) .i64 (wrapE m p) w) := by
  have hcap := h.cap
  have hmax := h.max
  unfold maxLen at hmax
  have hpl := h.len
  by_cases h1 : m < 1
  · have E : Hid (wrapE m p = 1 ∧ wrapB m p = []) := Lib.hid ⟨wrapE_arg (.inl h1), wrapB_bad (by rw [wrapE_arg (.inl h1)]; omega)⟩
    rw [E.out.1, E.out.2]
    clear h E
    go_enter Try.func14, Try.ntmps14
    go_wp2_with fail
    go_ret2
    exact ⟨none, 0, 0, rfl, Byt.nil _, Below.refl _ _⟩
  · by_cases h3 : 3 < m
    · have E : Hid (wrapE m p = 1 ∧ wrapB m p = []) := Lib.hid ⟨wrapE_arg (.inr h3), wrapB_bad (by rw [wrapE_arg (.inr h3)]; omega)⟩
      rw [E.out.1, E.out.2]
      clear h E
      go_enter Try.func14, Try.ntmps14
      go_wp2_with fail
      go_ret2
      exact ⟨none, 0, 0, rfl, Byt.nil _, Below.refl _ _⟩
    · have hc1 : ¬ (m < 1 ∨ 3 < m) := by omega
      by_cases h2 : 254 < n
      · have E : Hid (wrapE m p = 12 ∧ wrapB m p = []) := Lib.hid ⟨wrapE_long hc1 (by omega), wrapB_bad (by rw [wrapE_long hc1 (by omega)]; omega)⟩
        rw [E.out.1, E.out.2]
        clear h E hc1
        go_enter Try.func14, Try.ntmps14
        go_wp2_with fail
        go_ret2
        exact ⟨none, 0, 0, rfl, Byt.nil _, Below.refl _ _⟩
      · have E : Hid (wrapE m p = 0 ∧ wrapB m p = wrapL m p) := Lib.hid ⟨wrapE_ok hc1 (by omega), wrapB_ok hc1 (by omega)⟩
        rw [E.out.1, E.out.2]
        obtain ⟨i0, hi, hz0, hz1, hz2⟩ := info_parts info_u8
        have hown0 := own_one w w.heap.size 5 m (Nat.le_refl _)
        have hB0 : Below w.heap.size w (w.alloc (.cells #[.int .u8 m] 5)) := (Below.refl _ _).alloc (Nat.le_refl _) _
        have HP := Lib.hid h
        have HPL := Lib.hid hpl
        clear h E hc1 hpl
        go_enter Try.func14, Try.ntmps14
        go_wp2_with (at_builtin; refine wpList_append_byt rfl _ _ 34 rfl w.heap.size 5 i0 Try.underlying34 hi hz0 hz1 hz2 _ 1 [m] rfl (by exact hown0) A n c p rfl (HP.out.below hB0) (by omega) (by simp) ?_)
        intro A' c' w' h1' h2'
        have R0 : Hid (w'.ownsRow w.heap.size 5 1 (.slice A' (1 + n) c') (1 + n) ((gathL m p (1 + n)).map (Value.int .u8)) ∧ Below w.heap.size w w') := Lib.hid ⟨by
          have e : gathL m p (1 + n) = [m] ++ p := by unfold gathL; rw [HPL.out, show 1 + n - 1 - n = 0 from by omega]; simp
          rw [e]; exact h1', hB0.grown h2' (by simp) (by intro k hk; simp [Value.ownBlock] at hk; omega)⟩
        clear h1' h2' hown0 hB0
        go_wp2_with fail
        go_loopw [6] (fun v wr => ∃ (B : Option Addr) (k d : Nat), 1 + n ≤ k ∧ k ≤ 255 ∧ v = .slice B k d ∧ wr.ownsRow w.heap.size 5 1 (.slice B k d) k ((gathL m p k).map (Value.int .u8)) ∧ Below w.heap.size w wr) (fun v _ => 255 - (match v with | .slice _ k _ => k | _ => 0))
        case atStart => exact ⟨A', 1 + n, c', Nat.le_refl _, by omega, rfl, R0.out⟩
        case round =>
          obtain ⟨B, k, d, hk1, hk2, rfl, ho, hb⟩ := hrel
          have HO := Lib.hid ho
          have HB := Lib.hid hb
          have HK1 := Lib.hid hk1
          clear ho hb hk1
          by_cases hlt : k < 255
          · have ho2 := HO.out.alloc (.cells #[.int .u8 0] 5)
            have hb2 := byt_one wr 0 (by omega)
            go_wp2_with (at_builtin; refine wpList_append_byt rfl _ _ 34 rfl w.heap.size 5 i0 Try.underlying34 hi hz0 hz1 hz2 _ k (gathL m p k) rfl (by exact ho2) _ 1 1 [0] rfl (by exact hb2) (by omega) (by have := HB.out.size; simp; omega) ?_)
            intro A2 c2 w2 h1' h2'
            have R : Hid (w2.ownsRow w.heap.size 5 1 (.slice A2 (k + 1) c2) (k + 1) ((gathL m p (k + 1)).map (Value.int .u8)) ∧ Below w.heap.size w w2) := Lib.hid ⟨by
              rw [← gathL_next (by have := HK1.out; rw [HPL.out]; omega), List.map_append]; exact h1', (HB.out.alloc HB.out.size _).grown h2' (by have := HB.out.size; simp; omega) (fun q hq => (HO.out.lt q hq).1)⟩
            clear h1' h2' ho2 hb2
            go_wp2_with fail
            go_roundw
            case rel => exact ⟨A2, k + 1, c2, by have := HK1.out; omega, by omega, rfl, R.out⟩
            case measure => simp; omega
          · obtain rfl : k = 255 := by omega
            have ho2 := HO.out.alloc (.cells #[.int .u8 m] 5)
            have hb2 := byt_one wr m hm
            go_wp2_with (at_builtin; refine wpList_append_byt rfl _ _ 34 rfl w.heap.size 5 i0 Try.underlying34 hi hz0 hz1 hz2 _ 255 (gathL m p 255) rfl (by exact ho2) _ 1 1 [m] rfl (by exact hb2) (by omega) (by have := HB.out.size; simp; omega) ?_)
            intro A2 c2 w2 h1' h2'
            have R : Hid (Byt w2 A2 (255 + 1) c2 (wrapL m p) ∧ Below w.heap.size w w2) := Lib.hid ⟨by
              rw [← gathL_full (by rw [HPL.out]; omega)]; exact app_byt h1' (gathL_rng hm HP.out.rng 255) (fun y hy => by simp at hy; rw [hy]; exact hm), (HB.out.alloc HB.out.size _).grown h2' (by have := HB.out.size; simp; omega) (fun q hq => (HO.out.lt q hq).1)⟩
            clear h1' h2' ho2 hb2
            go_wp2_with fail
            go_ret2
            exact ⟨_, _, _, rfl, R.out.1, R.out.2⟩
end Go.Proofs.Ytjieledaiipheaa

/- seal.Open answers the body at the beginning of bytes, how many bytes it has with its sum, or the first error. -/
namespace Go.Proofs.Ytjieledaiipheaa
open Go.RowKit

theorem textF_ok {l : List Int} (hr : ∀ x ∈ l, 0 ≤ x ∧ x < 256) {most : Int} (h : (textF l most).2.2 = 0) :
    (textF l most).2.1 ≤ l.length ∧ l.take (textF l most).2.1 = textL (textF l most).1 ∧ ((textF l most).1.length : Int) ≤ most := by
  unfold textF at h ⊢
  split at h
  · rename_i h0; exact absurd h h0
  · rename_i h0
    split at h
    · simp at h
    · rename_i h1
      rw [if_neg h0, if_neg h1]
      obtain ⟨hx, hk, hs⟩ := numF_ok hr (l := l) (most := most) (by omega)
      have hl : ((l.drop (numF l most).2.1).take (numF l most).1).length = (numF l most).1 := by rw [List.length_take, List.length_drop]; omega
      refine ⟨by simp only; omega, ?_, by simp only; rw [hl]; exact hx⟩
      simp only
      unfold textL
      rw [hl, hs, List.take_add]

theorem triple {α β γ : Type} {a a' : α} {b b' : β} {c c' : γ} (h : (a, b, c) = (a', b', c')) : a = a' ∧ b = b' ∧ c = c' := by
  injection h with e1 e2
  injection e2 with e2 e3
  exact ⟨e1, e2, e3⟩

/-- A row of the call's own, a number and an error. -/
def Ret3O (l : List Int) (u e0 : Nat) (w : World) (e : Ending) (w' : World) : Prop :=
  ∃ A n c, e = .returned (.tuple #[.slice A n c, .int .i64 u, .int .i64 e0]) ∧ w'.ownsRow w.heap.size 5 1 (.slice A n c) n (l.map (Value.int .u8)) ∧ (∀ x ∈ l, 0 ≤ x ∧ x < 256) ∧ Below w.heap.size w w'

theorem Ret3O.nil {w w' : World} (u e0 : Nat) (hb : Below w.heap.size w w') : Ret3O [] u e0 w (.returned (.tuple #[.slice none 0 0, .int .i64 u, .int .i64 e0])) w' := ⟨none, 0, 0, rfl, World.ownsRow_nil _ _ _ _, by simp, hb⟩

theorem own_base {w : World} {b b' n : Nat} {v : Value} {xs : List Value} (h : w.ownsRow b 5 1 v n xs) (hb : b' ≤ b) : w.ownsRow b' 5 1 v n xs := by
  refine ⟨h.1, ?_⟩
  rcases h.2 with h | ⟨g, cap, cur, h1, h2, h3⟩
  · exact .inl h
  · exact .inr ⟨g, cap, cur, h1, Nat.le_trans hb h2, h3⟩

end Go.Proofs.Ytjieledaiipheaa

/- the methods of trothref03.Reader step as seal.Reader's do; trothref03.Open answers what seal.Open answers. -/
namespace Go.Proofs.Ytjieledaiipheaa
open Go.RowKit

set_option maxHeartbeats 1000000 in
theorem mNum_any (b g : Nat) (l : List Int) (e0 : Nat) (most : Int) (w : World) (h : Rd w 90 b g l e0) (hm : -9223372036854775808 ≤ most ∧ most ≤ 9223372036854775807) (x k er : Nat) (hF : numF l most = (x, k, er)) :
    Calls Try.prog 47 #[.pointer (some ⟨b, 0, none⟩), .int .i64 most] w (RdPost 90 b g (stepL l k e0 er) (stepE e0 er) (stepV (.int .i64 0) (.int .i64 x) e0 er) w) := by
  have hf0 : w.frozen? ⟨b, 0, none⟩ = false := by obtain ⟨A, n, c, h1, _⟩ := h.ex; exact h1.frz 0
  have hf1 : w.frozen? ⟨b, 1, none⟩ = false := by obtain ⟨A, n, c, h1, _⟩ := h.ex; exact h1.frz 1
  have H := Lib.hid h
  by_cases he : e0 = 0
  · subst he
    obtain ⟨A, n, c, h1, h2, h3⟩ := h.ex
    have c0 : w.cell? ⟨b, 0, none⟩ = some (.slice A n c) := h1.cell 0
    have c1 : w.cell? ⟨b, 1, none⟩ = some (.int .i64 0) := h1.cell 1
    obtain ⟨x0, k0, e1, ht⟩ : ∃ x k e, takeF l 0 0 = (x, k, e) := ⟨_, _, _, rfl⟩
    have hlt : e1 = 0 → x0 < 18446744073709551616 ∧ k0 ≤ l.length := fun e => by have := takeF_read l h2.rng x0 k0 (by rw [ht, e]); exact ⟨this.1, this.2.1⟩
    have C := Lib.hid (refTake_is A n c l x0 k0 e1 w h2 ht)
    have hF' : (if e1 ≠ 0 then (0, 0, e1) else if most < 0 ∨ most < (x0 : Int) then (0, 0, 12) else (x0, k0, 0)) = (x, k, er) := by
      rw [← hF]; unfold numF; rw [ht]
    have hlen := h2.len
    clear ht hF
    by_cases h0 : e1 = 0
    · subst h0
      obtain ⟨hx, hk⟩ := hlt rfl
      rw [if_neg (by simp)] at hF'
      clear hlt
      by_cases hm1 : most < 0 ∨ most < (x0 : Int)
      · rw [if_pos hm1] at hF'
        obtain ⟨rfl, rfl, rfl⟩ := triple hF'
        have R := Lib.hid (fun m => H.out.fail m 12)
        have hm2 : (most < 0) ∨ (0 ≤ most ∧ most < (x0 : Int)) := by omega
        clear h h1 h2 h3 hm1 hF'
        rcases hm2 with q1 | ⟨q1, q2⟩
        · go_enter Try.func47, Try.ntmps47
          go_wp2_with fail
          refine C.out.mono ?_
          rintro e w1 ⟨rfl, m, rfl⟩
          go_wp2_with fail
          go_ret
          exact ⟨rfl, R.out m⟩
        · obtain ⟨z, rfl⟩ := Int.eq_ofNat_of_zero_le q1
          obtain ⟨_, hz⟩ := hm
          go_enter Try.func47, Try.ntmps47
          go_wp2_with fail
          refine C.out.mono ?_
          rintro e w1 ⟨rfl, m, rfl⟩
          go_wp2_with fail
          go_ret
          exact ⟨rfl, R.out m⟩
      · rw [if_neg hm1] at hF'
        obtain ⟨rfl, rfl, rfl⟩ := triple hF'
        obtain ⟨B, j, d, hs, hkn, hb, hB⟩ := cut_lb h2 k0 (by omega) (k0 : Int) rfl
        have R := Lib.hid (fun m => H.out.next m hb (fun hk a ha => by obtain ⟨a', e1, e2⟩ := hB a ha; rw [e2]; exact h3 (by omega) a' e1))
        obtain ⟨z, rfl⟩ := Int.eq_ofNat_of_zero_le (show 0 ≤ most by omega)
        obtain ⟨_, hz⟩ := hm
        have q2 : ¬ (z : Int) < (x0 : Int) := by omega
        clear h h1 h2 h3 hm1 hF' hb hB hkn
        go_enter Try.func47, Try.ntmps47
        go_wp2_with fail
        refine C.out.mono ?_
        rintro e w1 ⟨rfl, m, rfl⟩
        go_wp2_with fail
        go_ret
        exact ⟨rfl, R.out m⟩
    · rw [if_pos h0] at hF'
      obtain ⟨rfl, rfl, rfl⟩ := triple hF'
      have hne : ((e1 : Int) != 0) = true := by simp; omega
      have R := Lib.hid (fun m => H.out.fail m e1)
      have e2 : stepL l 0 0 e1 = l := by simp [stepL, h0]
      have e3 : stepE 0 e1 = e1 := rfl
      have e4 : stepV (.int .i64 0) (.int .i64 (0 : Nat)) 0 e1 = .int .i64 0 := by simp [stepV]
      rw [e2, e3, e4]
      clear hlt h h1 h2 h3 hF' h0 e2 e3 e4
      go_enter Try.func47, Try.ntmps47
      go_wp2_with fail
      refine C.out.mono ?_
      rintro e w1 ⟨rfl, m, rfl⟩
      go_wp2_with fail
      go_ret
      exact ⟨rfl, R.out m⟩
  · have c1 : w.cell? ⟨b, 1, none⟩ = some (.int .i64 e0) := by obtain ⟨A, n, c, h1, _⟩ := h.ex; exact h1.cell 1
    have hne : ((e0 : Int) != 0) = true := by simp; omega
    have e2 : stepL l k e0 er = l := by simp [stepL, he]
    have e3 : stepE e0 er = e0 := by simp [stepE, he]
    have e4 : stepV (.int .i64 0) (.int .i64 x) e0 er = .int .i64 0 := by simp [stepV, he]
    rw [e2, e3, e4]
    clear h he e2 e3 e4
    go_enter Try.func47, Try.ntmps47
    go_wp2_with fail
    go_ret
    exact ⟨rfl, H.out, grown_drewN w 0 _⟩

/-- A reader that is set back. -/
theorem Rd.back {w w1 : World} {t : TypeId} {b g : Nat} {l l1 : List Int} {e e1 er : Nat} {A : Option Addr} {n c : Nat} (h : Rd w t b g l e) (h1 : Rd w1 t b g l1 e1) (hg : w.grownBy w1 (some b)) (hb : Byt w A n c l) (hA : 0 < n → ∀ a, A = some a → a.block = g) :
    Rd ((w1.setCell ⟨b, 1, none⟩ (.int .i64 er)).setCell ⟨b, 0, none⟩ (.slice A n c)) t b g l er ∧ w.grownBy ((w1.setCell ⟨b, 1, none⟩ (.int .i64 er)).setCell ⟨b, 0, none⟩ (.slice A n c)) (some b) := by
  have g1 := grown_trans hg (grown_trans (grown_set w1 b 1 (.int .i64 er)) (grown_set (w1.setCell ⟨b, 1, none⟩ (.int .i64 er)) b 0 (.slice A n c)))
  obtain ⟨A1, n1, c1, k1, _, _⟩ := h1.ex
  refine ⟨⟨h.ne, A, n, c, ?_, hb.grown g1 (fun hn a ha => by rw [hA hn a ha]; simpa using h.ne), hA⟩, g1⟩
  have := (k1.setc 1 (.int .i64 er)).setc 0 (.slice A n c)
  simpa using this

theorem flagF_byte (l : List Int) : (byteF l).2.2 ≠ 0 → l = [] := by
  cases l with
  | nil => simp
  | cons x r => simp [byteF]

end Go.Proofs.Ytjieledaiipheaa

/- the document's One and Load (trothref06) answer what the plain mathematics says. -/
namespace Go.Proofs.Ytjieledaiipheaa
open Go.RowKit

theorem mdNum_any (b g : Nat) (l : List Int) (e : Nat) (w : World) (h : Rd w 90 b g l e) :
    Calls Try.prog 47 #[.pointer (some ⟨b, 0, none⟩), .int .i64 1099511627776] w (RdPost 90 b g (rdL l e) (rdE l e) (.int .i64 (rdV l e)) w) := by
  have := mNum_any b g l e 1099511627776 w h (by omega) (numF l 1099511627776).1 (numF l 1099511627776).2.1 (numF l 1099511627776).2.2 rfl
  rw [rdV_step] at this
  exact this

set_option maxRecDepth 100000 in
set_option maxHeartbeats 8000000 in
theorem rone_any (z : Int) (A : Option Addr) (n c : Nat) (l : List Int) (w : World) (h : Byt w A n c l) :
    Calls Try.prog 35 #[.slice A n c, .int .i64 z] w (Ret (msV (recM z l)) w) := by
  obtain ⟨W0, hW0⟩ : ∃ W0, W0 = w.alloc (.cells #[.int .i64 0, .int .i64 0, .int .i64 0, .int .i64 0, .int .i64 0] 23) := ⟨_, rfl⟩
  have HZ0 : Hid (Bk W0 w.heap.size 23 #[.int .i64 0, .int .i64 0, .int .i64 0, .int .i64 0, .int .i64 0]) := Lib.hid (by rw [hW0]; exact Bk.new w _ _)
  have HB0 : Hid (Below w.heap.size w W0) := Lib.hid (by rw [hW0]; exact (Below.refl _ _).alloc (Nat.le_refl _) _)
  have CO := Lib.hid (ropen_any A n c l W0 (h.below HB0.out))
  have HW0 := Lib.hid hW0
  have HRG : Hid (∀ x ∈ openB l, 0 ≤ x ∧ x < 256) := Lib.hid (by
    unfold openB
    split
    · exact bodyL_rng h.rng
    · simp)
  obtain ⟨r, hr⟩ : ∃ r, w.heap.size = r := ⟨_, rfl⟩
  rw [hr] at HZ0
  have HR := Lib.hid hr
  clear h hW0 hr
  by_cases h1 : openE l = 0
  · by_cases h2 : decE (openB l) = 0
    · by_cases h3 : (decR (openB l)).gen < 1
      · have E : Hid (recM z l = ms0) := Lib.hid (recM_no (fun q => (by have := q.2.2.1.gen; omega)))
        obtain ⟨m, hm⟩ : ∃ m, decR (openB l) = m := ⟨_, rfl⟩
        have HM := Lib.hid hm
        have HMG : Hid (0 ≤ m.gen) := Lib.hid (by rw [← hm]; exact (rdN_rng HRG.out 0).1)
        rw [h1] at CO
        rw [hm] at h3
        clear hm h1
        go_enter Try.func35, Try.ntmps35
        go_wp2_with fail
        rw [← HW0.out, HR.out]
        refine CO.out.mono ?_
        rintro e W1 ⟨A1, n1, c1, rfl, hb, hbel⟩
        have HBY := Lib.hid hb
        have Z1 : Hid (Bk W1 r 23 #[.int .i64 0, .int .i64 0, .int .i64 0, .int .i64 0, .int .i64 0]) := Lib.hid (HZ0.out.later hbel)
        have L1 : Hid (Below r w W1) := Lib.hid (by rw [← HR.out]; exact HB0.out.trans (hbel.mono HB0.out.size))
        clear hb hbel CO HW0 HZ0 HB0
        obtain ⟨b, hb⟩ : ∃ b, W1.heap.size = b := ⟨_, rfl⟩
        obtain ⟨g, hg, hrd⟩ := Rd.new 90 HBY.out (Nat.lt_of_le_of_lt (Nat.zero_le _) Z1.out.lt)
        obtain ⟨w0, hw0⟩ : ∃ w0, w0 = (W1.alloc (.cells #[.slice A1 n1 c1, .int .i64 0] 90)).alloc (.cells #[.int .i64 0, .int .i64 0, .int .i64 0, .int .i64 0, .int .i64 0] 23) := ⟨_, rfl⟩
        have HBB : Hid (r < b ∧ g < b) := Lib.hid ⟨by rw [← hb]; exact Z1.out.lt, by rw [← hb]; exact hg⟩
        have R0 : Hid (Rd w0 90 b g (rdAt (openB l) 0).1 (rdAt (openB l) 0).2) := Lib.hid (by rw [hw0, ← hb]; exact hrd.alloc _)
        have M0 : Hid (Bk w0 (b + 1) 23 #[.int .i64 0, .int .i64 0, .int .i64 0, .int .i64 0, .int .i64 0]) := Lib.hid (by
          have := Bk.new (W1.alloc (.cells #[.slice A1 n1 c1, .int .i64 0] 90)) 23 #[.int .i64 0, .int .i64 0, .int .i64 0, .int .i64 0, .int .i64 0]
          rw [World.size_alloc, hb] at this
          rw [hw0]
          exact this)
        have Z0 : Hid (Bk w0 r 23 #[.int .i64 0, .int .i64 0, .int .i64 0, .int .i64 0, .int .i64 0]) := Lib.hid (by rw [hw0]; exact (Z1.out.later ((Below.refl _ _).alloc (Nat.le_refl _) _)).later ((Below.refl _ _).alloc (Nat.le_refl _) _))
        have L0 : Hid (Below r w w0) := Lib.hid (by rw [hw0]; exact (L1.out.alloc (Nat.le_of_lt Z1.out.lt) _).alloc (by simp only [World.size_alloc]; have := Z1.out.lt; omega) _)
        have HW := Lib.hid hw0
        have HBE := Lib.hid hb
        clear hw0 hb hg hrd HBY Z1 L1
        go_wp2_with fail
        rw [← HW.out, HBE.out]
        clear HW HBE
        have CW0 := Lib.hid (mdNum_any b g (rdAt (openB l) 0).1 (rdAt (openB l) 0).2 w0 R0.out)
        refine CW0.out.mono ?_
        rintro e v0 ⟨rfl, hrd, hg⟩
        have M0' : Hid (Bk v0 (b + 1) 23 #[.int .i64 0, .int .i64 0, .int .i64 0, .int .i64 0, .int .i64 0]) := Lib.hid ((hg.block _ M0.out.lt (by simp)).trans M0.out)
        have Z0' : Hid (Bk v0 r 23 #[.int .i64 0, .int .i64 0, .int .i64 0, .int .i64 0, .int .i64 0]) := Lib.hid ((hg.block _ Z0.out.lt (by have := HBB.out; simp; omega)).trans Z0.out)
        have L0' : Hid (Below r w v0) := Lib.hid (L0.out.grown hg (Nat.le_of_lt Z0.out.lt) (fun q hq => by have := HBB.out; injection hq with hq; omega))
        have c0 : v0.cell? ⟨b + 1, 0, none⟩ = some (.int .i64 0) := M0'.out.cell 0
        have f0 : v0.frozen? ⟨b + 1, 0, none⟩ = false := M0'.out.frz 0
        obtain ⟨w1, hw1⟩ : ∃ w1, w1 = v0.setCell ⟨b + 1, 0, none⟩ (.int .i64 (rdV (rdAt (openB l) 0).1 (rdAt (openB l) 0).2)) := ⟨_, rfl⟩
        have R1 : Hid (Rd w1 90 b g (rdAt (openB l) 1).1 (rdAt (openB l) 1).2) := Lib.hid (by
          rw [hw1]
          exact Rd.grown (row := some (b + 1)) hrd (grown_set v0 (b + 1) 0 _) (by simp) (by have := HBB.out; simp; omega))
        have M1 : Hid (Bk w1 (b + 1) 23 #[.int .i64 (rdN (openB l) 0), .int .i64 0, .int .i64 0, .int .i64 0, .int .i64 0]) := Lib.hid (by rw [hw1]; exact M0'.out.setc 0 _)
        have Z1 : Hid (Bk w1 r 23 #[.int .i64 0, .int .i64 0, .int .i64 0, .int .i64 0, .int .i64 0]) := Lib.hid (by rw [hw1]; exact ((grown_set v0 (b + 1) 0 _).block r Z0'.out.lt (by have := HBB.out; simp; omega)).trans Z0'.out)
        have L1 : Hid (Below r w w1) := Lib.hid (by rw [hw1]; exact L0'.out.setCell (by have := HBB.out; show r ≤ b + 1; omega) _)
        have HWW1 := Lib.hid hw1
        clear hrd hg CW0 hw1 R0 M0 Z0 L0 M0' Z0' L0'
        go_wp2_with fail
        rw [← HWW1.out]
        clear HWW1 c0 f0
        have CW1 := Lib.hid (mdNum_any b g (rdAt (openB l) 1).1 (rdAt (openB l) 1).2 w1 R1.out)
        refine CW1.out.mono ?_
        rintro e v1 ⟨rfl, hrd, hg⟩
        have M1' : Hid (Bk v1 (b + 1) 23 #[.int .i64 (rdN (openB l) 0), .int .i64 0, .int .i64 0, .int .i64 0, .int .i64 0]) := Lib.hid ((hg.block _ M1.out.lt (by simp)).trans M1.out)
        have Z1' : Hid (Bk v1 r 23 #[.int .i64 0, .int .i64 0, .int .i64 0, .int .i64 0, .int .i64 0]) := Lib.hid ((hg.block _ Z1.out.lt (by have := HBB.out; simp; omega)).trans Z1.out)
        have L1' : Hid (Below r w v1) := Lib.hid (L1.out.grown hg (Nat.le_of_lt Z1.out.lt) (fun q hq => by have := HBB.out; injection hq with hq; omega))
        have c1 : v1.cell? ⟨b + 1, 1, none⟩ = some (.int .i64 0) := M1'.out.cell 1
        have f1 : v1.frozen? ⟨b + 1, 1, none⟩ = false := M1'.out.frz 1
        obtain ⟨w2, hw2⟩ : ∃ w2, w2 = v1.setCell ⟨b + 1, 1, none⟩ (.int .i64 (rdV (rdAt (openB l) 1).1 (rdAt (openB l) 1).2)) := ⟨_, rfl⟩
        have R2 : Hid (Rd w2 90 b g (rdAt (openB l) 2).1 (rdAt (openB l) 2).2) := Lib.hid (by
          rw [hw2]
          exact Rd.grown (row := some (b + 1)) hrd (grown_set v1 (b + 1) 1 _) (by simp) (by have := HBB.out; simp; omega))
        have M2 : Hid (Bk w2 (b + 1) 23 #[.int .i64 (rdN (openB l) 0), .int .i64 (rdN (openB l) 1), .int .i64 0, .int .i64 0, .int .i64 0]) := Lib.hid (by rw [hw2]; exact M1'.out.setc 1 _)
        have Z2 : Hid (Bk w2 r 23 #[.int .i64 0, .int .i64 0, .int .i64 0, .int .i64 0, .int .i64 0]) := Lib.hid (by rw [hw2]; exact ((grown_set v1 (b + 1) 1 _).block r Z1'.out.lt (by have := HBB.out; simp; omega)).trans Z1'.out)
        have L2 : Hid (Below r w w2) := Lib.hid (by rw [hw2]; exact L1'.out.setCell (by have := HBB.out; show r ≤ b + 1; omega) _)
        have HWW2 := Lib.hid hw2
        clear hrd hg CW1 hw2 R1 M1 Z1 L1 M1' Z1' L1'
        go_wp2_with fail
        rw [← HWW2.out]
        clear HWW2 c1 f1
        have CW2 := Lib.hid (mdNum_any b g (rdAt (openB l) 2).1 (rdAt (openB l) 2).2 w2 R2.out)
        refine CW2.out.mono ?_
        rintro e v2 ⟨rfl, hrd, hg⟩
        have M2' : Hid (Bk v2 (b + 1) 23 #[.int .i64 (rdN (openB l) 0), .int .i64 (rdN (openB l) 1), .int .i64 0, .int .i64 0, .int .i64 0]) := Lib.hid ((hg.block _ M2.out.lt (by simp)).trans M2.out)
        have Z2' : Hid (Bk v2 r 23 #[.int .i64 0, .int .i64 0, .int .i64 0, .int .i64 0, .int .i64 0]) := Lib.hid ((hg.block _ Z2.out.lt (by have := HBB.out; simp; omega)).trans Z2.out)
        have L2' : Hid (Below r w v2) := Lib.hid (L2.out.grown hg (Nat.le_of_lt Z2.out.lt) (fun q hq => by have := HBB.out; injection hq with hq; omega))
        have c2 : v2.cell? ⟨b + 1, 2, none⟩ = some (.int .i64 0) := M2'.out.cell 2
        have f2 : v2.frozen? ⟨b + 1, 2, none⟩ = false := M2'.out.frz 2
        obtain ⟨w3, hw3⟩ : ∃ w3, w3 = v2.setCell ⟨b + 1, 2, none⟩ (.int .i64 (rdV (rdAt (openB l) 2).1 (rdAt (openB l) 2).2)) := ⟨_, rfl⟩
        have R3 : Hid (Rd w3 90 b g (rdAt (openB l) 3).1 (rdAt (openB l) 3).2) := Lib.hid (by
          rw [hw3]
          exact Rd.grown (row := some (b + 1)) hrd (grown_set v2 (b + 1) 2 _) (by simp) (by have := HBB.out; simp; omega))
        have M3 : Hid (Bk w3 (b + 1) 23 #[.int .i64 (rdN (openB l) 0), .int .i64 (rdN (openB l) 1), .int .i64 (rdN (openB l) 2), .int .i64 0, .int .i64 0]) := Lib.hid (by rw [hw3]; exact M2'.out.setc 2 _)
        have Z3 : Hid (Bk w3 r 23 #[.int .i64 0, .int .i64 0, .int .i64 0, .int .i64 0, .int .i64 0]) := Lib.hid (by rw [hw3]; exact ((grown_set v2 (b + 1) 2 _).block r Z2'.out.lt (by have := HBB.out; simp; omega)).trans Z2'.out)
        have L3 : Hid (Below r w w3) := Lib.hid (by rw [hw3]; exact L2'.out.setCell (by have := HBB.out; show r ≤ b + 1; omega) _)
        have HWW3 := Lib.hid hw3
        clear hrd hg CW2 hw3 R2 M2 Z2 L2 M2' Z2' L2'
        go_wp2_with fail
        rw [← HWW3.out]
        clear HWW3 c2 f2
        have CW3 := Lib.hid (mdNum_any b g (rdAt (openB l) 3).1 (rdAt (openB l) 3).2 w3 R3.out)
        refine CW3.out.mono ?_
        rintro e v3 ⟨rfl, hrd, hg⟩
        have M3' : Hid (Bk v3 (b + 1) 23 #[.int .i64 (rdN (openB l) 0), .int .i64 (rdN (openB l) 1), .int .i64 (rdN (openB l) 2), .int .i64 0, .int .i64 0]) := Lib.hid ((hg.block _ M3.out.lt (by simp)).trans M3.out)
        have Z3' : Hid (Bk v3 r 23 #[.int .i64 0, .int .i64 0, .int .i64 0, .int .i64 0, .int .i64 0]) := Lib.hid ((hg.block _ Z3.out.lt (by have := HBB.out; simp; omega)).trans Z3.out)
        have L3' : Hid (Below r w v3) := Lib.hid (L3.out.grown hg (Nat.le_of_lt Z3.out.lt) (fun q hq => by have := HBB.out; injection hq with hq; omega))
        have c3 : v3.cell? ⟨b + 1, 3, none⟩ = some (.int .i64 0) := M3'.out.cell 3
        have f3 : v3.frozen? ⟨b + 1, 3, none⟩ = false := M3'.out.frz 3
        obtain ⟨w4, hw4⟩ : ∃ w4, w4 = v3.setCell ⟨b + 1, 3, none⟩ (.int .i64 (rdV (rdAt (openB l) 3).1 (rdAt (openB l) 3).2)) := ⟨_, rfl⟩
        have R4 : Hid (Rd w4 90 b g (rdAt (openB l) 4).1 (rdAt (openB l) 4).2) := Lib.hid (by
          rw [hw4]
          exact Rd.grown (row := some (b + 1)) hrd (grown_set v3 (b + 1) 3 _) (by simp) (by have := HBB.out; simp; omega))
        have M4 : Hid (Bk w4 (b + 1) 23 #[.int .i64 (rdN (openB l) 0), .int .i64 (rdN (openB l) 1), .int .i64 (rdN (openB l) 2), .int .i64 (rdN (openB l) 3), .int .i64 0]) := Lib.hid (by rw [hw4]; exact M3'.out.setc 3 _)
        have Z4 : Hid (Bk w4 r 23 #[.int .i64 0, .int .i64 0, .int .i64 0, .int .i64 0, .int .i64 0]) := Lib.hid (by rw [hw4]; exact ((grown_set v3 (b + 1) 3 _).block r Z3'.out.lt (by have := HBB.out; simp; omega)).trans Z3'.out)
        have L4 : Hid (Below r w w4) := Lib.hid (by rw [hw4]; exact L3'.out.setCell (by have := HBB.out; show r ≤ b + 1; omega) _)
        have HWW4 := Lib.hid hw4
        clear hrd hg CW3 hw4 R3 M3 Z3 L3 M3' Z3' L3'
        go_wp2_with fail
        rw [← HWW4.out]
        clear HWW4 c3 f3
        have CW4 := Lib.hid (mdNum_any b g (rdAt (openB l) 4).1 (rdAt (openB l) 4).2 w4 R4.out)
        refine CW4.out.mono ?_
        rintro e v4 ⟨rfl, hrd, hg⟩
        have M4' : Hid (Bk v4 (b + 1) 23 #[.int .i64 (rdN (openB l) 0), .int .i64 (rdN (openB l) 1), .int .i64 (rdN (openB l) 2), .int .i64 (rdN (openB l) 3), .int .i64 0]) := Lib.hid ((hg.block _ M4.out.lt (by simp)).trans M4.out)
        have Z4' : Hid (Bk v4 r 23 #[.int .i64 0, .int .i64 0, .int .i64 0, .int .i64 0, .int .i64 0]) := Lib.hid ((hg.block _ Z4.out.lt (by have := HBB.out; simp; omega)).trans Z4.out)
        have L4' : Hid (Below r w v4) := Lib.hid (L4.out.grown hg (Nat.le_of_lt Z4.out.lt) (fun q hq => by have := HBB.out; injection hq with hq; omega))
        have c4 : v4.cell? ⟨b + 1, 4, none⟩ = some (.int .i64 0) := M4'.out.cell 4
        have f4 : v4.frozen? ⟨b + 1, 4, none⟩ = false := M4'.out.frz 4
        obtain ⟨w5, hw5⟩ : ∃ w5, w5 = v4.setCell ⟨b + 1, 4, none⟩ (.int .i64 (rdV (rdAt (openB l) 4).1 (rdAt (openB l) 4).2)) := ⟨_, rfl⟩
        have R5 : Hid (Rd w5 90 b g (rdAt (openB l) 5).1 (rdAt (openB l) 5).2) := Lib.hid (by
          rw [hw5]
          exact Rd.grown (row := some (b + 1)) hrd (grown_set v4 (b + 1) 4 _) (by simp) (by have := HBB.out; simp; omega))
        have M5 : Hid (Bk w5 (b + 1) 23 #[.int .i64 (rdN (openB l) 0), .int .i64 (rdN (openB l) 1), .int .i64 (rdN (openB l) 2), .int .i64 (rdN (openB l) 3), .int .i64 (rdN (openB l) 4)]) := Lib.hid (by rw [hw5]; exact M4'.out.setc 4 _)
        have Z5 : Hid (Bk w5 r 23 #[.int .i64 0, .int .i64 0, .int .i64 0, .int .i64 0, .int .i64 0]) := Lib.hid (by rw [hw5]; exact ((grown_set v4 (b + 1) 4 _).block r Z4'.out.lt (by have := HBB.out; simp; omega)).trans Z4'.out)
        have L5 : Hid (Below r w w5) := Lib.hid (by rw [hw5]; exact L4'.out.setCell (by have := HBB.out; show r ≤ b + 1; omega) _)
        have HWW5 := Lib.hid hw5
        clear hrd hg CW4 hw5 R4 M4 Z4 L4 M4' Z4' L4'
        obtain ⟨x, hx⟩ : ∃ x, (rdAt (openB l) 5).2 = x := ⟨_, rfl⟩
        have HX : Hid (decE (openB l) = x) := Lib.hid hx
        have M5m : Hid (Bk (v4.setCell ⟨b + 1, 4, none⟩ (.int .i64 (rdV (rdAt (openB l) 4).1 (rdAt (openB l) 4).2))) (b + 1) 23 (msC m)) := Lib.hid (by rw [← HWW5.out, ← HM.out]; exact M5.out)
        have Z5m : Hid (Bk (v4.setCell ⟨b + 1, 4, none⟩ (.int .i64 (rdV (rdAt (openB l) 4).1 (rdAt (openB l) 4).2))) r 23 #[.int .i64 0, .int .i64 0, .int .i64 0, .int .i64 0, .int .i64 0]) := Lib.hid (by rw [← HWW5.out]; exact Z5.out)
        have ce : (v4.setCell ⟨b + 1, 4, none⟩ (.int .i64 (rdV (rdAt (openB l) 4).1 (rdAt (openB l) 4).2))).cell? ⟨b, 1, none⟩ = some (.int .i64 x) := by
          obtain ⟨_, _, _, _, _, q, _⟩ := R5.out.byt
          rw [← hx, ← HWW5.out]; exact q
        have cg : (v4.setCell ⟨b + 1, 4, none⟩ (.int .i64 (rdV (rdAt (openB l) 4).1 (rdAt (openB l) 4).2))).cell? ⟨b + 1, 0, none⟩ = some (.int .i64 m.gen) := M5m.out.cell 0
        clear hx R5 M5 Z5
        obtain rfl : x = 0 := by rw [← HX.out]; exact h2
        have h3' : m.gen < 1 := by omega
        clear h2 h3
        go_wp2_with (refine wpList_store_row rfl 23 _ _ rfl r #[.int .i64 0, .int .i64 0, .int .i64 0, .int .i64 0, .int .i64 0] rfl rfl 23 _ Z5m.out ms_info rfl (ms_one _ _ _ _ _) ?_; simp only [Act.put])
        (try simp only [Exit.inBlock, Exit.then])
        refine bodyPost_ret (v := .agg #[.int .i64 0, .int .i64 0, .int .i64 0, .int .i64 0, .int .i64 0]) (results_cell_row (p := 4) (ty := 23) rfl _ _ r 23 _ (0, 0) _ rfl (Z5m.out.row _) Try.underlying23 rfl ms_info) rfl ?_
        rw [E.out]
        refine ⟨rfl, ?_⟩
        rw [HR.out]
        rw [← HWW5.out]
        exact below_setRow L5.out (Nat.le_refl r) _
      · by_cases h4 : (decR (openB l)).gen % 2 = z
        · have E : Hid (recM z l = decR (openB l)) := Lib.hid (recM_yes ⟨h1, h2, (decR_ok HRG.out).2 (by omega), h4⟩)
          obtain ⟨m, hm⟩ : ∃ m, decR (openB l) = m := ⟨_, rfl⟩
          have HM := Lib.hid hm
          have HMG : Hid (0 ≤ m.gen) := Lib.hid (by rw [← hm]; exact (rdN_rng HRG.out 0).1)
          rw [h1] at CO
          rw [hm] at h3
          rw [hm] at h4
          clear hm h1
          go_enter Try.func35, Try.ntmps35
          go_wp2_with fail
          rw [← HW0.out, HR.out]
          refine CO.out.mono ?_
          rintro e W1 ⟨A1, n1, c1, rfl, hb, hbel⟩
          have HBY := Lib.hid hb
          have Z1 : Hid (Bk W1 r 23 #[.int .i64 0, .int .i64 0, .int .i64 0, .int .i64 0, .int .i64 0]) := Lib.hid (HZ0.out.later hbel)
          have L1 : Hid (Below r w W1) := Lib.hid (by rw [← HR.out]; exact HB0.out.trans (hbel.mono HB0.out.size))
          clear hb hbel CO HW0 HZ0 HB0
          obtain ⟨b, hb⟩ : ∃ b, W1.heap.size = b := ⟨_, rfl⟩
          obtain ⟨g, hg, hrd⟩ := Rd.new 90 HBY.out (Nat.lt_of_le_of_lt (Nat.zero_le _) Z1.out.lt)
          obtain ⟨w0, hw0⟩ : ∃ w0, w0 = (W1.alloc (.cells #[.slice A1 n1 c1, .int .i64 0] 90)).alloc (.cells #[.int .i64 0, .int .i64 0, .int .i64 0, .int .i64 0, .int .i64 0] 23) := ⟨_, rfl⟩
          have HBB : Hid (r < b ∧ g < b) := Lib.hid ⟨by rw [← hb]; exact Z1.out.lt, by rw [← hb]; exact hg⟩
          have R0 : Hid (Rd w0 90 b g (rdAt (openB l) 0).1 (rdAt (openB l) 0).2) := Lib.hid (by rw [hw0, ← hb]; exact hrd.alloc _)
          have M0 : Hid (Bk w0 (b + 1) 23 #[.int .i64 0, .int .i64 0, .int .i64 0, .int .i64 0, .int .i64 0]) := Lib.hid (by
            have := Bk.new (W1.alloc (.cells #[.slice A1 n1 c1, .int .i64 0] 90)) 23 #[.int .i64 0, .int .i64 0, .int .i64 0, .int .i64 0, .int .i64 0]
            rw [World.size_alloc, hb] at this
            rw [hw0]
            exact this)
          have Z0 : Hid (Bk w0 r 23 #[.int .i64 0, .int .i64 0, .int .i64 0, .int .i64 0, .int .i64 0]) := Lib.hid (by rw [hw0]; exact (Z1.out.later ((Below.refl _ _).alloc (Nat.le_refl _) _)).later ((Below.refl _ _).alloc (Nat.le_refl _) _))
          have L0 : Hid (Below r w w0) := Lib.hid (by rw [hw0]; exact (L1.out.alloc (Nat.le_of_lt Z1.out.lt) _).alloc (by simp only [World.size_alloc]; have := Z1.out.lt; omega) _)
          have HW := Lib.hid hw0
          have HBE := Lib.hid hb
          clear hw0 hb hg hrd HBY Z1 L1
          go_wp2_with fail
          rw [← HW.out, HBE.out]
          clear HW HBE
          have CW0 := Lib.hid (mdNum_any b g (rdAt (openB l) 0).1 (rdAt (openB l) 0).2 w0 R0.out)
          refine CW0.out.mono ?_
          rintro e v0 ⟨rfl, hrd, hg⟩
          have M0' : Hid (Bk v0 (b + 1) 23 #[.int .i64 0, .int .i64 0, .int .i64 0, .int .i64 0, .int .i64 0]) := Lib.hid ((hg.block _ M0.out.lt (by simp)).trans M0.out)
          have Z0' : Hid (Bk v0 r 23 #[.int .i64 0, .int .i64 0, .int .i64 0, .int .i64 0, .int .i64 0]) := Lib.hid ((hg.block _ Z0.out.lt (by have := HBB.out; simp; omega)).trans Z0.out)
          have L0' : Hid (Below r w v0) := Lib.hid (L0.out.grown hg (Nat.le_of_lt Z0.out.lt) (fun q hq => by have := HBB.out; injection hq with hq; omega))
          have c0 : v0.cell? ⟨b + 1, 0, none⟩ = some (.int .i64 0) := M0'.out.cell 0
          have f0 : v0.frozen? ⟨b + 1, 0, none⟩ = false := M0'.out.frz 0
          obtain ⟨w1, hw1⟩ : ∃ w1, w1 = v0.setCell ⟨b + 1, 0, none⟩ (.int .i64 (rdV (rdAt (openB l) 0).1 (rdAt (openB l) 0).2)) := ⟨_, rfl⟩
          have R1 : Hid (Rd w1 90 b g (rdAt (openB l) 1).1 (rdAt (openB l) 1).2) := Lib.hid (by
            rw [hw1]
            exact Rd.grown (row := some (b + 1)) hrd (grown_set v0 (b + 1) 0 _) (by simp) (by have := HBB.out; simp; omega))
          have M1 : Hid (Bk w1 (b + 1) 23 #[.int .i64 (rdN (openB l) 0), .int .i64 0, .int .i64 0, .int .i64 0, .int .i64 0]) := Lib.hid (by rw [hw1]; exact M0'.out.setc 0 _)
          have Z1 : Hid (Bk w1 r 23 #[.int .i64 0, .int .i64 0, .int .i64 0, .int .i64 0, .int .i64 0]) := Lib.hid (by rw [hw1]; exact ((grown_set v0 (b + 1) 0 _).block r Z0'.out.lt (by have := HBB.out; simp; omega)).trans Z0'.out)
          have L1 : Hid (Below r w w1) := Lib.hid (by rw [hw1]; exact L0'.out.setCell (by have := HBB.out; show r ≤ b + 1; omega) _)
          have HWW1 := Lib.hid hw1
          clear hrd hg CW0 hw1 R0 M0 Z0 L0 M0' Z0' L0'
          go_wp2_with fail
          rw [← HWW1.out]
          clear HWW1 c0 f0
          have CW1 := Lib.hid (mdNum_any b g (rdAt (openB l) 1).1 (rdAt (openB l) 1).2 w1 R1.out)
          refine CW1.out.mono ?_
          rintro e v1 ⟨rfl, hrd, hg⟩
          have M1' : Hid (Bk v1 (b + 1) 23 #[.int .i64 (rdN (openB l) 0), .int .i64 0, .int .i64 0, .int .i64 0, .int .i64 0]) := Lib.hid ((hg.block _ M1.out.lt (by simp)).trans M1.out)
          have Z1' : Hid (Bk v1 r 23 #[.int .i64 0, .int .i64 0, .int .i64 0, .int .i64 0, .int .i64 0]) := Lib.hid ((hg.block _ Z1.out.lt (by have := HBB.out; simp; omega)).trans Z1.out)
          have L1' : Hid (Below r w v1) := Lib.hid (L1.out.grown hg (Nat.le_of_lt Z1.out.lt) (fun q hq => by have := HBB.out; injection hq with hq; omega))
          have c1 : v1.cell? ⟨b + 1, 1, none⟩ = some (.int .i64 0) := M1'.out.cell 1
          have f1 : v1.frozen? ⟨b + 1, 1, none⟩ = false := M1'.out.frz 1
          obtain ⟨w2, hw2⟩ : ∃ w2, w2 = v1.setCell ⟨b + 1, 1, none⟩ (.int .i64 (rdV (rdAt (openB l) 1).1 (rdAt (openB l) 1).2)) := ⟨_, rfl⟩
          have R2 : Hid (Rd w2 90 b g (rdAt (openB l) 2).1 (rdAt (openB l) 2).2) := Lib.hid (by
            rw [hw2]
            exact Rd.grown (row := some (b + 1)) hrd (grown_set v1 (b + 1) 1 _) (by simp) (by have := HBB.out; simp; omega))
          have M2 : Hid (Bk w2 (b + 1) 23 #[.int .i64 (rdN (openB l) 0), .int .i64 (rdN (openB l) 1), .int .i64 0, .int .i64 0, .int .i64 0]) := Lib.hid (by rw [hw2]; exact M1'.out.setc 1 _)
          have Z2 : Hid (Bk w2 r 23 #[.int .i64 0, .int .i64 0, .int .i64 0, .int .i64 0, .int .i64 0]) := Lib.hid (by rw [hw2]; exact ((grown_set v1 (b + 1) 1 _).block r Z1'.out.lt (by have := HBB.out; simp; omega)).trans Z1'.out)
          have L2 : Hid (Below r w w2) := Lib.hid (by rw [hw2]; exact L1'.out.setCell (by have := HBB.out; show r ≤ b + 1; omega) _)
          have HWW2 := Lib.hid hw2
          clear hrd hg CW1 hw2 R1 M1 Z1 L1 M1' Z1' L1'
          go_wp2_with fail
          rw [← HWW2.out]
          clear HWW2 c1 f1
          have CW2 := Lib.hid (mdNum_any b g (rdAt (openB l) 2).1 (rdAt (openB l) 2).2 w2 R2.out)
          refine CW2.out.mono ?_
          rintro e v2 ⟨rfl, hrd, hg⟩
          have M2' : Hid (Bk v2 (b + 1) 23 #[.int .i64 (rdN (openB l) 0), .int .i64 (rdN (openB l) 1), .int .i64 0, .int .i64 0, .int .i64 0]) := Lib.hid ((hg.block _ M2.out.lt (by simp)).trans M2.out)
          have Z2' : Hid (Bk v2 r 23 #[.int .i64 0, .int .i64 0, .int .i64 0, .int .i64 0, .int .i64 0]) := Lib.hid ((hg.block _ Z2.out.lt (by have := HBB.out; simp; omega)).trans Z2.out)
          have L2' : Hid (Below r w v2) := Lib.hid (L2.out.grown hg (Nat.le_of_lt Z2.out.lt) (fun q hq => by have := HBB.out; injection hq with hq; omega))
          have c2 : v2.cell? ⟨b + 1, 2, none⟩ = some (.int .i64 0) := M2'.out.cell 2
          have f2 : v2.frozen? ⟨b + 1, 2, none⟩ = false := M2'.out.frz 2
          obtain ⟨w3, hw3⟩ : ∃ w3, w3 = v2.setCell ⟨b + 1, 2, none⟩ (.int .i64 (rdV (rdAt (openB l) 2).1 (rdAt (openB l) 2).2)) := ⟨_, rfl⟩
          have R3 : Hid (Rd w3 90 b g (rdAt (openB l) 3).1 (rdAt (openB l) 3).2) := Lib.hid (by
            rw [hw3]
            exact Rd.grown (row := some (b + 1)) hrd (grown_set v2 (b + 1) 2 _) (by simp) (by have := HBB.out; simp; omega))
          have M3 : Hid (Bk w3 (b + 1) 23 #[.int .i64 (rdN (openB l) 0), .int .i64 (rdN (openB l) 1), .int .i64 (rdN (openB l) 2), .int .i64 0, .int .i64 0]) := Lib.hid (by rw [hw3]; exact M2'.out.setc 2 _)
          have Z3 : Hid (Bk w3 r 23 #[.int .i64 0, .int .i64 0, .int .i64 0, .int .i64 0, .int .i64 0]) := Lib.hid (by rw [hw3]; exact ((grown_set v2 (b + 1) 2 _).block r Z2'.out.lt (by have := HBB.out; simp; omega)).trans Z2'.out)
          have L3 : Hid (Below r w w3) := Lib.hid (by rw [hw3]; exact L2'.out.setCell (by have := HBB.out; show r ≤ b + 1; omega) _)
          have HWW3 := Lib.hid hw3
          clear hrd hg CW2 hw3 R2 M2 Z2 L2 M2' Z2' L2'
          go_wp2_with fail
          rw [← HWW3.out]
          clear HWW3 c2 f2
          have CW3 := Lib.hid (mdNum_any b g (rdAt (openB l) 3).1 (rdAt (openB l) 3).2 w3 R3.out)
          refine CW3.out.mono ?_
          rintro e v3 ⟨rfl, hrd, hg⟩
          have M3' : Hid (Bk v3 (b + 1) 23 #[.int .i64 (rdN (openB l) 0), .int .i64 (rdN (openB l) 1), .int .i64 (rdN (openB l) 2), .int .i64 0, .int .i64 0]) := Lib.hid ((hg.block _ M3.out.lt (by simp)).trans M3.out)
          have Z3' : Hid (Bk v3 r 23 #[.int .i64 0, .int .i64 0, .int .i64 0, .int .i64 0, .int .i64 0]) := Lib.hid ((hg.block _ Z3.out.lt (by have := HBB.out; simp; omega)).trans Z3.out)
          have L3' : Hid (Below r w v3) := Lib.hid (L3.out.grown hg (Nat.le_of_lt Z3.out.lt) (fun q hq => by have := HBB.out; injection hq with hq; omega))
          have c3 : v3.cell? ⟨b + 1, 3, none⟩ = some (.int .i64 0) := M3'.out.cell 3
          have f3 : v3.frozen? ⟨b + 1, 3, none⟩ = false := M3'.out.frz 3
          obtain ⟨w4, hw4⟩ : ∃ w4, w4 = v3.setCell ⟨b + 1, 3, none⟩ (.int .i64 (rdV (rdAt (openB l) 3).1 (rdAt (openB l) 3).2)) := ⟨_, rfl⟩
          have R4 : Hid (Rd w4 90 b g (rdAt (openB l) 4).1 (rdAt (openB l) 4).2) := Lib.hid (by
            rw [hw4]
            exact Rd.grown (row := some (b + 1)) hrd (grown_set v3 (b + 1) 3 _) (by simp) (by have := HBB.out; simp; omega))
          have M4 : Hid (Bk w4 (b + 1) 23 #[.int .i64 (rdN (openB l) 0), .int .i64 (rdN (openB l) 1), .int .i64 (rdN (openB l) 2), .int .i64 (rdN (openB l) 3), .int .i64 0]) := Lib.hid (by rw [hw4]; exact M3'.out.setc 3 _)
          have Z4 : Hid (Bk w4 r 23 #[.int .i64 0, .int .i64 0, .int .i64 0, .int .i64 0, .int .i64 0]) := Lib.hid (by rw [hw4]; exact ((grown_set v3 (b + 1) 3 _).block r Z3'.out.lt (by have := HBB.out; simp; omega)).trans Z3'.out)
          have L4 : Hid (Below r w w4) := Lib.hid (by rw [hw4]; exact L3'.out.setCell (by have := HBB.out; show r ≤ b + 1; omega) _)
          have HWW4 := Lib.hid hw4
          clear hrd hg CW3 hw4 R3 M3 Z3 L3 M3' Z3' L3'
          go_wp2_with fail
          rw [← HWW4.out]
          clear HWW4 c3 f3
          have CW4 := Lib.hid (mdNum_any b g (rdAt (openB l) 4).1 (rdAt (openB l) 4).2 w4 R4.out)
          refine CW4.out.mono ?_
          rintro e v4 ⟨rfl, hrd, hg⟩
          have M4' : Hid (Bk v4 (b + 1) 23 #[.int .i64 (rdN (openB l) 0), .int .i64 (rdN (openB l) 1), .int .i64 (rdN (openB l) 2), .int .i64 (rdN (openB l) 3), .int .i64 0]) := Lib.hid ((hg.block _ M4.out.lt (by simp)).trans M4.out)
          have Z4' : Hid (Bk v4 r 23 #[.int .i64 0, .int .i64 0, .int .i64 0, .int .i64 0, .int .i64 0]) := Lib.hid ((hg.block _ Z4.out.lt (by have := HBB.out; simp; omega)).trans Z4.out)
          have L4' : Hid (Below r w v4) := Lib.hid (L4.out.grown hg (Nat.le_of_lt Z4.out.lt) (fun q hq => by have := HBB.out; injection hq with hq; omega))
          have c4 : v4.cell? ⟨b + 1, 4, none⟩ = some (.int .i64 0) := M4'.out.cell 4
          have f4 : v4.frozen? ⟨b + 1, 4, none⟩ = false := M4'.out.frz 4
          obtain ⟨w5, hw5⟩ : ∃ w5, w5 = v4.setCell ⟨b + 1, 4, none⟩ (.int .i64 (rdV (rdAt (openB l) 4).1 (rdAt (openB l) 4).2)) := ⟨_, rfl⟩
          have R5 : Hid (Rd w5 90 b g (rdAt (openB l) 5).1 (rdAt (openB l) 5).2) := Lib.hid (by
            rw [hw5]
            exact Rd.grown (row := some (b + 1)) hrd (grown_set v4 (b + 1) 4 _) (by simp) (by have := HBB.out; simp; omega))
          have M5 : Hid (Bk w5 (b + 1) 23 #[.int .i64 (rdN (openB l) 0), .int .i64 (rdN (openB l) 1), .int .i64 (rdN (openB l) 2), .int .i64 (rdN (openB l) 3), .int .i64 (rdN (openB l) 4)]) := Lib.hid (by rw [hw5]; exact M4'.out.setc 4 _)
          have Z5 : Hid (Bk w5 r 23 #[.int .i64 0, .int .i64 0, .int .i64 0, .int .i64 0, .int .i64 0]) := Lib.hid (by rw [hw5]; exact ((grown_set v4 (b + 1) 4 _).block r Z4'.out.lt (by have := HBB.out; simp; omega)).trans Z4'.out)
          have L5 : Hid (Below r w w5) := Lib.hid (by rw [hw5]; exact L4'.out.setCell (by have := HBB.out; show r ≤ b + 1; omega) _)
          have HWW5 := Lib.hid hw5
          clear hrd hg CW4 hw5 R4 M4 Z4 L4 M4' Z4' L4'
          obtain ⟨x, hx⟩ : ∃ x, (rdAt (openB l) 5).2 = x := ⟨_, rfl⟩
          have HX : Hid (decE (openB l) = x) := Lib.hid hx
          have M5m : Hid (Bk (v4.setCell ⟨b + 1, 4, none⟩ (.int .i64 (rdV (rdAt (openB l) 4).1 (rdAt (openB l) 4).2))) (b + 1) 23 (msC m)) := Lib.hid (by rw [← HWW5.out, ← HM.out]; exact M5.out)
          have Z5m : Hid (Bk (v4.setCell ⟨b + 1, 4, none⟩ (.int .i64 (rdV (rdAt (openB l) 4).1 (rdAt (openB l) 4).2))) r 23 #[.int .i64 0, .int .i64 0, .int .i64 0, .int .i64 0, .int .i64 0]) := Lib.hid (by rw [← HWW5.out]; exact Z5.out)
          have ce : (v4.setCell ⟨b + 1, 4, none⟩ (.int .i64 (rdV (rdAt (openB l) 4).1 (rdAt (openB l) 4).2))).cell? ⟨b, 1, none⟩ = some (.int .i64 x) := by
            obtain ⟨_, _, _, _, _, q, _⟩ := R5.out.byt
            rw [← hx, ← HWW5.out]; exact q
          have cg : (v4.setCell ⟨b + 1, 4, none⟩ (.int .i64 (rdV (rdAt (openB l) 4).1 (rdAt (openB l) 4).2))).cell? ⟨b + 1, 0, none⟩ = some (.int .i64 m.gen) := M5m.out.cell 0
          clear hx R5 M5 Z5
          obtain rfl : x = 0 := by rw [← HX.out]; exact h2
          obtain ⟨gn, hgn⟩ := Int.eq_ofNat_of_zero_le HMG.out
          have h3' : ¬ m.gen < 1 := by omega
          have hdn : ((m.gen % 2) != z) = false := by simpa using h4
          rw [hgn] at cg h3' hdn
          clear h2 h3 h4
          go_wp2_with (first | (refine wpList_load_row rfl 23 _ rfl (b + 1) rfl 23 (msC m) (0, 0) _ M5m.out Try.underlying23 rfl ms_info ?_) | (refine wpList_store_row rfl 23 _ _ rfl r (msC m) rfl rfl 23 _ Z5m.out ms_info rfl (ms_one _ _ _ _ _) ?_; simp only [Act.put]))
          (try simp only [Exit.inBlock, Exit.then])
          refine bodyPost_ret (v := .agg (msC m)) (results_cell_row (p := 4) (ty := 23) rfl _ _ r 23 _ (0, 0) _ rfl (Z5m.out.row _) Try.underlying23 rfl ms_info) rfl ?_
          rw [E.out, HM.out]
          refine ⟨rfl, ?_⟩
          rw [HR.out]
          rw [← HWW5.out]
          exact below_setRow L5.out (Nat.le_refl r) _
        · have E : Hid (recM z l = ms0) := Lib.hid (recM_no (fun q => h4 q.2.2.2))
          obtain ⟨m, hm⟩ : ∃ m, decR (openB l) = m := ⟨_, rfl⟩
          have HM := Lib.hid hm
          have HMG : Hid (0 ≤ m.gen) := Lib.hid (by rw [← hm]; exact (rdN_rng HRG.out 0).1)
          rw [h1] at CO
          rw [hm] at h3
          rw [hm] at h4
          clear hm h1
          go_enter Try.func35, Try.ntmps35
          go_wp2_with fail
          rw [← HW0.out, HR.out]
          refine CO.out.mono ?_
          rintro e W1 ⟨A1, n1, c1, rfl, hb, hbel⟩
          have HBY := Lib.hid hb
          have Z1 : Hid (Bk W1 r 23 #[.int .i64 0, .int .i64 0, .int .i64 0, .int .i64 0, .int .i64 0]) := Lib.hid (HZ0.out.later hbel)
          have L1 : Hid (Below r w W1) := Lib.hid (by rw [← HR.out]; exact HB0.out.trans (hbel.mono HB0.out.size))
          clear hb hbel CO HW0 HZ0 HB0
          obtain ⟨b, hb⟩ : ∃ b, W1.heap.size = b := ⟨_, rfl⟩
          obtain ⟨g, hg, hrd⟩ := Rd.new 90 HBY.out (Nat.lt_of_le_of_lt (Nat.zero_le _) Z1.out.lt)
          obtain ⟨w0, hw0⟩ : ∃ w0, w0 = (W1.alloc (.cells #[.slice A1 n1 c1, .int .i64 0] 90)).alloc (.cells #[.int .i64 0, .int .i64 0, .int .i64 0, .int .i64 0, .int .i64 0] 23) := ⟨_, rfl⟩
          have HBB : Hid (r < b ∧ g < b) := Lib.hid ⟨by rw [← hb]; exact Z1.out.lt, by rw [← hb]; exact hg⟩
          have R0 : Hid (Rd w0 90 b g (rdAt (openB l) 0).1 (rdAt (openB l) 0).2) := Lib.hid (by rw [hw0, ← hb]; exact hrd.alloc _)
          have M0 : Hid (Bk w0 (b + 1) 23 #[.int .i64 0, .int .i64 0, .int .i64 0, .int .i64 0, .int .i64 0]) := Lib.hid (by
            have := Bk.new (W1.alloc (.cells #[.slice A1 n1 c1, .int .i64 0] 90)) 23 #[.int .i64 0, .int .i64 0, .int .i64 0, .int .i64 0, .int .i64 0]
            rw [World.size_alloc, hb] at this
            rw [hw0]
            exact this)
          have Z0 : Hid (Bk w0 r 23 #[.int .i64 0, .int .i64 0, .int .i64 0, .int .i64 0, .int .i64 0]) := Lib.hid (by rw [hw0]; exact (Z1.out.later ((Below.refl _ _).alloc (Nat.le_refl _) _)).later ((Below.refl _ _).alloc (Nat.le_refl _) _))
          have L0 : Hid (Below r w w0) := Lib.hid (by rw [hw0]; exact (L1.out.alloc (Nat.le_of_lt Z1.out.lt) _).alloc (by simp only [World.size_alloc]; have := Z1.out.lt; omega) _)
          have HW := Lib.hid hw0
          have HBE := Lib.hid hb
          clear hw0 hb hg hrd HBY Z1 L1
          go_wp2_with fail
          rw [← HW.out, HBE.out]
          clear HW HBE
          have CW0 := Lib.hid (mdNum_any b g (rdAt (openB l) 0).1 (rdAt (openB l) 0).2 w0 R0.out)
          refine CW0.out.mono ?_
          rintro e v0 ⟨rfl, hrd, hg⟩
          have M0' : Hid (Bk v0 (b + 1) 23 #[.int .i64 0, .int .i64 0, .int .i64 0, .int .i64 0, .int .i64 0]) := Lib.hid ((hg.block _ M0.out.lt (by simp)).trans M0.out)
          have Z0' : Hid (Bk v0 r 23 #[.int .i64 0, .int .i64 0, .int .i64 0, .int .i64 0, .int .i64 0]) := Lib.hid ((hg.block _ Z0.out.lt (by have := HBB.out; simp; omega)).trans Z0.out)
          have L0' : Hid (Below r w v0) := Lib.hid (L0.out.grown hg (Nat.le_of_lt Z0.out.lt) (fun q hq => by have := HBB.out; injection hq with hq; omega))
          have c0 : v0.cell? ⟨b + 1, 0, none⟩ = some (.int .i64 0) := M0'.out.cell 0
          have f0 : v0.frozen? ⟨b + 1, 0, none⟩ = false := M0'.out.frz 0
          obtain ⟨w1, hw1⟩ : ∃ w1, w1 = v0.setCell ⟨b + 1, 0, none⟩ (.int .i64 (rdV (rdAt (openB l) 0).1 (rdAt (openB l) 0).2)) := ⟨_, rfl⟩
          have R1 : Hid (Rd w1 90 b g (rdAt (openB l) 1).1 (rdAt (openB l) 1).2) := Lib.hid (by
            rw [hw1]
            exact Rd.grown (row := some (b + 1)) hrd (grown_set v0 (b + 1) 0 _) (by simp) (by have := HBB.out; simp; omega))
          have M1 : Hid (Bk w1 (b + 1) 23 #[.int .i64 (rdN (openB l) 0), .int .i64 0, .int .i64 0, .int .i64 0, .int .i64 0]) := Lib.hid (by rw [hw1]; exact M0'.out.setc 0 _)
          have Z1 : Hid (Bk w1 r 23 #[.int .i64 0, .int .i64 0, .int .i64 0, .int .i64 0, .int .i64 0]) := Lib.hid (by rw [hw1]; exact ((grown_set v0 (b + 1) 0 _).block r Z0'.out.lt (by have := HBB.out; simp; omega)).trans Z0'.out)
          have L1 : Hid (Below r w w1) := Lib.hid (by rw [hw1]; exact L0'.out.setCell (by have := HBB.out; show r ≤ b + 1; omega) _)
          have HWW1 := Lib.hid hw1
          clear hrd hg CW0 hw1 R0 M0 Z0 L0 M0' Z0' L0'
          go_wp2_with fail
          rw [← HWW1.out]
          clear HWW1 c0 f0
          have CW1 := Lib.hid (mdNum_any b g (rdAt (openB l) 1).1 (rdAt (openB l) 1).2 w1 R1.out)
          refine CW1.out.mono ?_
          rintro e v1 ⟨rfl, hrd, hg⟩
          have M1' : Hid (Bk v1 (b + 1) 23 #[.int .i64 (rdN (openB l) 0), .int .i64 0, .int .i64 0, .int .i64 0, .int .i64 0]) := Lib.hid ((hg.block _ M1.out.lt (by simp)).trans M1.out)
          have Z1' : Hid (Bk v1 r 23 #[.int .i64 0, .int .i64 0, .int .i64 0, .int .i64 0, .int .i64 0]) := Lib.hid ((hg.block _ Z1.out.lt (by have := HBB.out; simp; omega)).trans Z1.out)
          have L1' : Hid (Below r w v1) := Lib.hid (L1.out.grown hg (Nat.le_of_lt Z1.out.lt) (fun q hq => by have := HBB.out; injection hq with hq; omega))
          have c1 : v1.cell? ⟨b + 1, 1, none⟩ = some (.int .i64 0) := M1'.out.cell 1
          have f1 : v1.frozen? ⟨b + 1, 1, none⟩ = false := M1'.out.frz 1
          obtain ⟨w2, hw2⟩ : ∃ w2, w2 = v1.setCell ⟨b + 1, 1, none⟩ (.int .i64 (rdV (rdAt (openB l) 1).1 (rdAt (openB l) 1).2)) := ⟨_, rfl⟩
          have R2 : Hid (Rd w2 90 b g (rdAt (openB l) 2).1 (rdAt (openB l) 2).2) := Lib.hid (by
            rw [hw2]
            exact Rd.grown (row := some (b + 1)) hrd (grown_set v1 (b + 1) 1 _) (by simp) (by have := HBB.out; simp; omega))
          have M2 : Hid (Bk w2 (b + 1) 23 #[.int .i64 (rdN (openB l) 0), .int .i64 (rdN (openB l) 1), .int .i64 0, .int .i64 0, .int .i64 0]) := Lib.hid (by rw [hw2]; exact M1'.out.setc 1 _)
          have Z2 : Hid (Bk w2 r 23 #[.int .i64 0, .int .i64 0, .int .i64 0, .int .i64 0, .int .i64 0]) := Lib.hid (by rw [hw2]; exact ((grown_set v1 (b + 1) 1 _).block r Z1'.out.lt (by have := HBB.out; simp; omega)).trans Z1'.out)
          have L2 : Hid (Below r w w2) := Lib.hid (by rw [hw2]; exact L1'.out.setCell (by have := HBB.out; show r ≤ b + 1; omega) _)
          have HWW2 := Lib.hid hw2
          clear hrd hg CW1 hw2 R1 M1 Z1 L1 M1' Z1' L1'
          go_wp2_with fail
          rw [← HWW2.out]
          clear HWW2 c1 f1
          have CW2 := Lib.hid (mdNum_any b g (rdAt (openB l) 2).1 (rdAt (openB l) 2).2 w2 R2.out)
          refine CW2.out.mono ?_
          rintro e v2 ⟨rfl, hrd, hg⟩
          have M2' : Hid (Bk v2 (b + 1) 23 #[.int .i64 (rdN (openB l) 0), .int .i64 (rdN (openB l) 1), .int .i64 0, .int .i64 0, .int .i64 0]) := Lib.hid ((hg.block _ M2.out.lt (by simp)).trans M2.out)
          have Z2' : Hid (Bk v2 r 23 #[.int .i64 0, .int .i64 0, .int .i64 0, .int .i64 0, .int .i64 0]) := Lib.hid ((hg.block _ Z2.out.lt (by have := HBB.out; simp; omega)).trans Z2.out)
          have L2' : Hid (Below r w v2) := Lib.hid (L2.out.grown hg (Nat.le_of_lt Z2.out.lt) (fun q hq => by have := HBB.out; injection hq with hq; omega))
          have c2 : v2.cell? ⟨b + 1, 2, none⟩ = some (.int .i64 0) := M2'.out.cell 2
          have f2 : v2.frozen? ⟨b + 1, 2, none⟩ = false := M2'.out.frz 2
          obtain ⟨w3, hw3⟩ : ∃ w3, w3 = v2.setCell ⟨b + 1, 2, none⟩ (.int .i64 (rdV (rdAt (openB l) 2).1 (rdAt (openB l) 2).2)) := ⟨_, rfl⟩
          have R3 : Hid (Rd w3 90 b g (rdAt (openB l) 3).1 (rdAt (openB l) 3).2) := Lib.hid (by
            rw [hw3]
            exact Rd.grown (row := some (b + 1)) hrd (grown_set v2 (b + 1) 2 _) (by simp) (by have := HBB.out; simp; omega))
          have M3 : Hid (Bk w3 (b + 1) 23 #[.int .i64 (rdN (openB l) 0), .int .i64 (rdN (openB l) 1), .int .i64 (rdN (openB l) 2), .int .i64 0, .int .i64 0]) := Lib.hid (by rw [hw3]; exact M2'.out.setc 2 _)
          have Z3 : Hid (Bk w3 r 23 #[.int .i64 0, .int .i64 0, .int .i64 0, .int .i64 0, .int .i64 0]) := Lib.hid (by rw [hw3]; exact ((grown_set v2 (b + 1) 2 _).block r Z2'.out.lt (by have := HBB.out; simp; omega)).trans Z2'.out)
          have L3 : Hid (Below r w w3) := Lib.hid (by rw [hw3]; exact L2'.out.setCell (by have := HBB.out; show r ≤ b + 1; omega) _)
          have HWW3 := Lib.hid hw3
          clear hrd hg CW2 hw3 R2 M2 Z2 L2 M2' Z2' L2'
          go_wp2_with fail
          rw [← HWW3.out]
          clear HWW3 c2 f2
          have CW3 := Lib.hid (mdNum_any b g (rdAt (openB l) 3).1 (rdAt (openB l) 3).2 w3 R3.out)
          refine CW3.out.mono ?_
          rintro e v3 ⟨rfl, hrd, hg⟩
          have M3' : Hid (Bk v3 (b + 1) 23 #[.int .i64 (rdN (openB l) 0), .int .i64 (rdN (openB l) 1), .int .i64 (rdN (openB l) 2), .int .i64 0, .int .i64 0]) := Lib.hid ((hg.block _ M3.out.lt (by simp)).trans M3.out)
          have Z3' : Hid (Bk v3 r 23 #[.int .i64 0, .int .i64 0, .int .i64 0, .int .i64 0, .int .i64 0]) := Lib.hid ((hg.block _ Z3.out.lt (by have := HBB.out; simp; omega)).trans Z3.out)
          have L3' : Hid (Below r w v3) := Lib.hid (L3.out.grown hg (Nat.le_of_lt Z3.out.lt) (fun q hq => by have := HBB.out; injection hq with hq; omega))
          have c3 : v3.cell? ⟨b + 1, 3, none⟩ = some (.int .i64 0) := M3'.out.cell 3
          have f3 : v3.frozen? ⟨b + 1, 3, none⟩ = false := M3'.out.frz 3
          obtain ⟨w4, hw4⟩ : ∃ w4, w4 = v3.setCell ⟨b + 1, 3, none⟩ (.int .i64 (rdV (rdAt (openB l) 3).1 (rdAt (openB l) 3).2)) := ⟨_, rfl⟩
          have R4 : Hid (Rd w4 90 b g (rdAt (openB l) 4).1 (rdAt (openB l) 4).2) := Lib.hid (by
            rw [hw4]
            exact Rd.grown (row := some (b + 1)) hrd (grown_set v3 (b + 1) 3 _) (by simp) (by have := HBB.out; simp; omega))
          have M4 : Hid (Bk w4 (b + 1) 23 #[.int .i64 (rdN (openB l) 0), .int .i64 (rdN (openB l) 1), .int .i64 (rdN (openB l) 2), .int .i64 (rdN (openB l) 3), .int .i64 0]) := Lib.hid (by rw [hw4]; exact M3'.out.setc 3 _)
          have Z4 : Hid (Bk w4 r 23 #[.int .i64 0, .int .i64 0, .int .i64 0, .int .i64 0, .int .i64 0]) := Lib.hid (by rw [hw4]; exact ((grown_set v3 (b + 1) 3 _).block r Z3'.out.lt (by have := HBB.out; simp; omega)).trans Z3'.out)
          have L4 : Hid (Below r w w4) := Lib.hid (by rw [hw4]; exact L3'.out.setCell (by have := HBB.out; show r ≤ b + 1; omega) _)
          have HWW4 := Lib.hid hw4
          clear hrd hg CW3 hw4 R3 M3 Z3 L3 M3' Z3' L3'
          go_wp2_with fail
          rw [← HWW4.out]
          clear HWW4 c3 f3
          have CW4 := Lib.hid (mdNum_any b g (rdAt (openB l) 4).1 (rdAt (openB l) 4).2 w4 R4.out)
          refine CW4.out.mono ?_
          rintro e v4 ⟨rfl, hrd, hg⟩
          have M4' : Hid (Bk v4 (b + 1) 23 #[.int .i64 (rdN (openB l) 0), .int .i64 (rdN (openB l) 1), .int .i64 (rdN (openB l) 2), .int .i64 (rdN (openB l) 3), .int .i64 0]) := Lib.hid ((hg.block _ M4.out.lt (by simp)).trans M4.out)
          have Z4' : Hid (Bk v4 r 23 #[.int .i64 0, .int .i64 0, .int .i64 0, .int .i64 0, .int .i64 0]) := Lib.hid ((hg.block _ Z4.out.lt (by have := HBB.out; simp; omega)).trans Z4.out)
          have L4' : Hid (Below r w v4) := Lib.hid (L4.out.grown hg (Nat.le_of_lt Z4.out.lt) (fun q hq => by have := HBB.out; injection hq with hq; omega))
          have c4 : v4.cell? ⟨b + 1, 4, none⟩ = some (.int .i64 0) := M4'.out.cell 4
          have f4 : v4.frozen? ⟨b + 1, 4, none⟩ = false := M4'.out.frz 4
          obtain ⟨w5, hw5⟩ : ∃ w5, w5 = v4.setCell ⟨b + 1, 4, none⟩ (.int .i64 (rdV (rdAt (openB l) 4).1 (rdAt (openB l) 4).2)) := ⟨_, rfl⟩
          have R5 : Hid (Rd w5 90 b g (rdAt (openB l) 5).1 (rdAt (openB l) 5).2) := Lib.hid (by
            rw [hw5]
            exact Rd.grown (row := some (b + 1)) hrd (grown_set v4 (b + 1) 4 _) (by simp) (by have := HBB.out; simp; omega))
          have M5 : Hid (Bk w5 (b + 1) 23 #[.int .i64 (rdN (openB l) 0), .int .i64 (rdN (openB l) 1), .int .i64 (rdN (openB l) 2), .int .i64 (rdN (openB l) 3), .int .i64 (rdN (openB l) 4)]) := Lib.hid (by rw [hw5]; exact M4'.out.setc 4 _)
          have Z5 : Hid (Bk w5 r 23 #[.int .i64 0, .int .i64 0, .int .i64 0, .int .i64 0, .int .i64 0]) := Lib.hid (by rw [hw5]; exact ((grown_set v4 (b + 1) 4 _).block r Z4'.out.lt (by have := HBB.out; simp; omega)).trans Z4'.out)
          have L5 : Hid (Below r w w5) := Lib.hid (by rw [hw5]; exact L4'.out.setCell (by have := HBB.out; show r ≤ b + 1; omega) _)
          have HWW5 := Lib.hid hw5
          clear hrd hg CW4 hw5 R4 M4 Z4 L4 M4' Z4' L4'
          obtain ⟨x, hx⟩ : ∃ x, (rdAt (openB l) 5).2 = x := ⟨_, rfl⟩
          have HX : Hid (decE (openB l) = x) := Lib.hid hx
          have M5m : Hid (Bk (v4.setCell ⟨b + 1, 4, none⟩ (.int .i64 (rdV (rdAt (openB l) 4).1 (rdAt (openB l) 4).2))) (b + 1) 23 (msC m)) := Lib.hid (by rw [← HWW5.out, ← HM.out]; exact M5.out)
          have Z5m : Hid (Bk (v4.setCell ⟨b + 1, 4, none⟩ (.int .i64 (rdV (rdAt (openB l) 4).1 (rdAt (openB l) 4).2))) r 23 #[.int .i64 0, .int .i64 0, .int .i64 0, .int .i64 0, .int .i64 0]) := Lib.hid (by rw [← HWW5.out]; exact Z5.out)
          have ce : (v4.setCell ⟨b + 1, 4, none⟩ (.int .i64 (rdV (rdAt (openB l) 4).1 (rdAt (openB l) 4).2))).cell? ⟨b, 1, none⟩ = some (.int .i64 x) := by
            obtain ⟨_, _, _, _, _, q, _⟩ := R5.out.byt
            rw [← hx, ← HWW5.out]; exact q
          have cg : (v4.setCell ⟨b + 1, 4, none⟩ (.int .i64 (rdV (rdAt (openB l) 4).1 (rdAt (openB l) 4).2))).cell? ⟨b + 1, 0, none⟩ = some (.int .i64 m.gen) := M5m.out.cell 0
          clear hx R5 M5 Z5
          obtain rfl : x = 0 := by rw [← HX.out]; exact h2
          obtain ⟨gn, hgn⟩ := Int.eq_ofNat_of_zero_le HMG.out
          have h3' : ¬ m.gen < 1 := by omega
          have hdn : ((m.gen % 2) != z) = true := by simpa using h4
          rw [hgn] at cg h3' hdn
          clear h2 h3 h4
          go_wp2_with (refine wpList_store_row rfl 23 _ _ rfl r #[.int .i64 0, .int .i64 0, .int .i64 0, .int .i64 0, .int .i64 0] rfl rfl 23 _ Z5m.out ms_info rfl (ms_one _ _ _ _ _) ?_; simp only [Act.put])
          (try simp only [Exit.inBlock, Exit.then])
          refine bodyPost_ret (v := .agg #[.int .i64 0, .int .i64 0, .int .i64 0, .int .i64 0, .int .i64 0]) (results_cell_row (p := 4) (ty := 23) rfl _ _ r 23 _ (0, 0) _ rfl (Z5m.out.row _) Try.underlying23 rfl ms_info) rfl ?_
          rw [E.out]
          refine ⟨rfl, ?_⟩
          rw [HR.out]
          rw [← HWW5.out]
          exact below_setRow L5.out (Nat.le_refl r) _
    · have E : Hid (recM z l = ms0) := Lib.hid (recM_no (fun q => h2 q.2.1))
      obtain ⟨m, hm⟩ : ∃ m, decR (openB l) = m := ⟨_, rfl⟩
      have HM := Lib.hid hm
      have HMG : Hid (0 ≤ m.gen) := Lib.hid (by rw [← hm]; exact (rdN_rng HRG.out 0).1)
      rw [h1] at CO
      clear hm h1
      go_enter Try.func35, Try.ntmps35
      go_wp2_with fail
      rw [← HW0.out, HR.out]
      refine CO.out.mono ?_
      rintro e W1 ⟨A1, n1, c1, rfl, hb, hbel⟩
      have HBY := Lib.hid hb
      have Z1 : Hid (Bk W1 r 23 #[.int .i64 0, .int .i64 0, .int .i64 0, .int .i64 0, .int .i64 0]) := Lib.hid (HZ0.out.later hbel)
      have L1 : Hid (Below r w W1) := Lib.hid (by rw [← HR.out]; exact HB0.out.trans (hbel.mono HB0.out.size))
      clear hb hbel CO HW0 HZ0 HB0
      obtain ⟨b, hb⟩ : ∃ b, W1.heap.size = b := ⟨_, rfl⟩
      obtain ⟨g, hg, hrd⟩ := Rd.new 90 HBY.out (Nat.lt_of_le_of_lt (Nat.zero_le _) Z1.out.lt)
      obtain ⟨w0, hw0⟩ : ∃ w0, w0 = (W1.alloc (.cells #[.slice A1 n1 c1, .int .i64 0] 90)).alloc (.cells #[.int .i64 0, .int .i64 0, .int .i64 0, .int .i64 0, .int .i64 0] 23) := ⟨_, rfl⟩
      have HBB : Hid (r < b ∧ g < b) := Lib.hid ⟨by rw [← hb]; exact Z1.out.lt, by rw [← hb]; exact hg⟩
      have R0 : Hid (Rd w0 90 b g (rdAt (openB l) 0).1 (rdAt (openB l) 0).2) := Lib.hid (by rw [hw0, ← hb]; exact hrd.alloc _)
      have M0 : Hid (Bk w0 (b + 1) 23 #[.int .i64 0, .int .i64 0, .int .i64 0, .int .i64 0, .int .i64 0]) := Lib.hid (by
        have := Bk.new (W1.alloc (.cells #[.slice A1 n1 c1, .int .i64 0] 90)) 23 #[.int .i64 0, .int .i64 0, .int .i64 0, .int .i64 0, .int .i64 0]
        rw [World.size_alloc, hb] at this
        rw [hw0]
        exact this)
      have Z0 : Hid (Bk w0 r 23 #[.int .i64 0, .int .i64 0, .int .i64 0, .int .i64 0, .int .i64 0]) := Lib.hid (by rw [hw0]; exact (Z1.out.later ((Below.refl _ _).alloc (Nat.le_refl _) _)).later ((Below.refl _ _).alloc (Nat.le_refl _) _))
      have L0 : Hid (Below r w w0) := Lib.hid (by rw [hw0]; exact (L1.out.alloc (Nat.le_of_lt Z1.out.lt) _).alloc (by simp only [World.size_alloc]; have := Z1.out.lt; omega) _)
      have HW := Lib.hid hw0
      have HBE := Lib.hid hb
      clear hw0 hb hg hrd HBY Z1 L1
      go_wp2_with fail
      rw [← HW.out, HBE.out]
      clear HW HBE
      have CW0 := Lib.hid (mdNum_any b g (rdAt (openB l) 0).1 (rdAt (openB l) 0).2 w0 R0.out)
      refine CW0.out.mono ?_
      rintro e v0 ⟨rfl, hrd, hg⟩
      have M0' : Hid (Bk v0 (b + 1) 23 #[.int .i64 0, .int .i64 0, .int .i64 0, .int .i64 0, .int .i64 0]) := Lib.hid ((hg.block _ M0.out.lt (by simp)).trans M0.out)
      have Z0' : Hid (Bk v0 r 23 #[.int .i64 0, .int .i64 0, .int .i64 0, .int .i64 0, .int .i64 0]) := Lib.hid ((hg.block _ Z0.out.lt (by have := HBB.out; simp; omega)).trans Z0.out)
      have L0' : Hid (Below r w v0) := Lib.hid (L0.out.grown hg (Nat.le_of_lt Z0.out.lt) (fun q hq => by have := HBB.out; injection hq with hq; omega))
      have c0 : v0.cell? ⟨b + 1, 0, none⟩ = some (.int .i64 0) := M0'.out.cell 0
      have f0 : v0.frozen? ⟨b + 1, 0, none⟩ = false := M0'.out.frz 0
      obtain ⟨w1, hw1⟩ : ∃ w1, w1 = v0.setCell ⟨b + 1, 0, none⟩ (.int .i64 (rdV (rdAt (openB l) 0).1 (rdAt (openB l) 0).2)) := ⟨_, rfl⟩
      have R1 : Hid (Rd w1 90 b g (rdAt (openB l) 1).1 (rdAt (openB l) 1).2) := Lib.hid (by
        rw [hw1]
        exact Rd.grown (row := some (b + 1)) hrd (grown_set v0 (b + 1) 0 _) (by simp) (by have := HBB.out; simp; omega))
      have M1 : Hid (Bk w1 (b + 1) 23 #[.int .i64 (rdN (openB l) 0), .int .i64 0, .int .i64 0, .int .i64 0, .int .i64 0]) := Lib.hid (by rw [hw1]; exact M0'.out.setc 0 _)
      have Z1 : Hid (Bk w1 r 23 #[.int .i64 0, .int .i64 0, .int .i64 0, .int .i64 0, .int .i64 0]) := Lib.hid (by rw [hw1]; exact ((grown_set v0 (b + 1) 0 _).block r Z0'.out.lt (by have := HBB.out; simp; omega)).trans Z0'.out)
      have L1 : Hid (Below r w w1) := Lib.hid (by rw [hw1]; exact L0'.out.setCell (by have := HBB.out; show r ≤ b + 1; omega) _)
      have HWW1 := Lib.hid hw1
      clear hrd hg CW0 hw1 R0 M0 Z0 L0 M0' Z0' L0'
      go_wp2_with fail
      rw [← HWW1.out]
      clear HWW1 c0 f0
      have CW1 := Lib.hid (mdNum_any b g (rdAt (openB l) 1).1 (rdAt (openB l) 1).2 w1 R1.out)
      refine CW1.out.mono ?_
      rintro e v1 ⟨rfl, hrd, hg⟩
      have M1' : Hid (Bk v1 (b + 1) 23 #[.int .i64 (rdN (openB l) 0), .int .i64 0, .int .i64 0, .int .i64 0, .int .i64 0]) := Lib.hid ((hg.block _ M1.out.lt (by simp)).trans M1.out)
      have Z1' : Hid (Bk v1 r 23 #[.int .i64 0, .int .i64 0, .int .i64 0, .int .i64 0, .int .i64 0]) := Lib.hid ((hg.block _ Z1.out.lt (by have := HBB.out; simp; omega)).trans Z1.out)
      have L1' : Hid (Below r w v1) := Lib.hid (L1.out.grown hg (Nat.le_of_lt Z1.out.lt) (fun q hq => by have := HBB.out; injection hq with hq; omega))
      have c1 : v1.cell? ⟨b + 1, 1, none⟩ = some (.int .i64 0) := M1'.out.cell 1
      have f1 : v1.frozen? ⟨b + 1, 1, none⟩ = false := M1'.out.frz 1
      obtain ⟨w2, hw2⟩ : ∃ w2, w2 = v1.setCell ⟨b + 1, 1, none⟩ (.int .i64 (rdV (rdAt (openB l) 1).1 (rdAt (openB l) 1).2)) := ⟨_, rfl⟩
      have R2 : Hid (Rd w2 90 b g (rdAt (openB l) 2).1 (rdAt (openB l) 2).2) := Lib.hid (by
        rw [hw2]
        exact Rd.grown (row := some (b + 1)) hrd (grown_set v1 (b + 1) 1 _) (by simp) (by have := HBB.out; simp; omega))
      have M2 : Hid (Bk w2 (b + 1) 23 #[.int .i64 (rdN (openB l) 0), .int .i64 (rdN (openB l) 1), .int .i64 0, .int .i64 0, .int .i64 0]) := Lib.hid (by rw [hw2]; exact M1'.out.setc 1 _)
      have Z2 : Hid (Bk w2 r 23 #[.int .i64 0, .int .i64 0, .int .i64 0, .int .i64 0, .int .i64 0]) := Lib.hid (by rw [hw2]; exact ((grown_set v1 (b + 1) 1 _).block r Z1'.out.lt (by have := HBB.out; simp; omega)).trans Z1'.out)
      have L2 : Hid (Below r w w2) := Lib.hid (by rw [hw2]; exact L1'.out.setCell (by have := HBB.out; show r ≤ b + 1; omega) _)
      have HWW2 := Lib.hid hw2
      clear hrd hg CW1 hw2 R1 M1 Z1 L1 M1' Z1' L1'
      go_wp2_with fail
      rw [← HWW2.out]
      clear HWW2 c1 f1
      have CW2 := Lib.hid (mdNum_any b g (rdAt (openB l) 2).1 (rdAt (openB l) 2).2 w2 R2.out)
      refine CW2.out.mono ?_
      rintro e v2 ⟨rfl, hrd, hg⟩
      have M2' : Hid (Bk v2 (b + 1) 23 #[.int .i64 (rdN (openB l) 0), .int .i64 (rdN (openB l) 1), .int .i64 0, .int .i64 0, .int .i64 0]) := Lib.hid ((hg.block _ M2.out.lt (by simp)).trans M2.out)
      have Z2' : Hid (Bk v2 r 23 #[.int .i64 0, .int .i64 0, .int .i64 0, .int .i64 0, .int .i64 0]) := Lib.hid ((hg.block _ Z2.out.lt (by have := HBB.out; simp; omega)).trans Z2.out)
      have L2' : Hid (Below r w v2) := Lib.hid (L2.out.grown hg (Nat.le_of_lt Z2.out.lt) (fun q hq => by have := HBB.out; injection hq with hq; omega))
      have c2 : v2.cell? ⟨b + 1, 2, none⟩ = some (.int .i64 0) := M2'.out.cell 2
      have f2 : v2.frozen? ⟨b + 1, 2, none⟩ = false := M2'.out.frz 2
      obtain ⟨w3, hw3⟩ : ∃ w3, w3 = v2.setCell ⟨b + 1, 2, none⟩ (.int .i64 (rdV (rdAt (openB l) 2).1 (rdAt (openB l) 2).2)) := ⟨_, rfl⟩
      have R3 : Hid (Rd w3 90 b g (rdAt (openB l) 3).1 (rdAt (openB l) 3).2) := Lib.hid (by
        rw [hw3]
        exact Rd.grown (row := some (b + 1)) hrd (grown_set v2 (b + 1) 2 _) (by simp) (by have := HBB.out; simp; omega))
      have M3 : Hid (Bk w3 (b + 1) 23 #[.int .i64 (rdN (openB l) 0), .int .i64 (rdN (openB l) 1), .int .i64 (rdN (openB l) 2), .int .i64 0, .int .i64 0]) := Lib.hid (by rw [hw3]; exact M2'.out.setc 2 _)
      have Z3 : Hid (Bk w3 r 23 #[.int .i64 0, .int .i64 0, .int .i64 0, .int .i64 0, .int .i64 0]) := Lib.hid (by rw [hw3]; exact ((grown_set v2 (b + 1) 2 _).block r Z2'.out.lt (by have := HBB.out; simp; omega)).trans Z2'.out)
      have L3 : Hid (Below r w w3) := Lib.hid (by rw [hw3]; exact L2'.out.setCell (by have := HBB.out; show r ≤ b + 1; omega) _)
      have HWW3 := Lib.hid hw3
      clear hrd hg CW2 hw3 R2 M2 Z2 L2 M2' Z2' L2'
      go_wp2_with fail
      rw [← HWW3.out]
      clear HWW3 c2 f2
      have CW3 := Lib.hid (mdNum_any b g (rdAt (openB l) 3).1 (rdAt (openB l) 3).2 w3 R3.out)
      refine CW3.out.mono ?_
      rintro e v3 ⟨rfl, hrd, hg⟩
      have M3' : Hid (Bk v3 (b + 1) 23 #[.int .i64 (rdN (openB l) 0), .int .i64 (rdN (openB l) 1), .int .i64 (rdN (openB l) 2), .int .i64 0, .int .i64 0]) := Lib.hid ((hg.block _ M3.out.lt (by simp)).trans M3.out)
      have Z3' : Hid (Bk v3 r 23 #[.int .i64 0, .int .i64 0, .int .i64 0, .int .i64 0, .int .i64 0]) := Lib.hid ((hg.block _ Z3.out.lt (by have := HBB.out; simp; omega)).trans Z3.out)
      have L3' : Hid (Below r w v3) := Lib.hid (L3.out.grown hg (Nat.le_of_lt Z3.out.lt) (fun q hq => by have := HBB.out; injection hq with hq; omega))
      have c3 : v3.cell? ⟨b + 1, 3, none⟩ = some (.int .i64 0) := M3'.out.cell 3
      have f3 : v3.frozen? ⟨b + 1, 3, none⟩ = false := M3'.out.frz 3
      obtain ⟨w4, hw4⟩ : ∃ w4, w4 = v3.setCell ⟨b + 1, 3, none⟩ (.int .i64 (rdV (rdAt (openB l) 3).1 (rdAt (openB l) 3).2)) := ⟨_, rfl⟩
      have R4 : Hid (Rd w4 90 b g (rdAt (openB l) 4).1 (rdAt (openB l) 4).2) := Lib.hid (by
        rw [hw4]
        exact Rd.grown (row := some (b + 1)) hrd (grown_set v3 (b + 1) 3 _) (by simp) (by have := HBB.out; simp; omega))
      have M4 : Hid (Bk w4 (b + 1) 23 #[.int .i64 (rdN (openB l) 0), .int .i64 (rdN (openB l) 1), .int .i64 (rdN (openB l) 2), .int .i64 (rdN (openB l) 3), .int .i64 0]) := Lib.hid (by rw [hw4]; exact M3'.out.setc 3 _)
      have Z4 : Hid (Bk w4 r 23 #[.int .i64 0, .int .i64 0, .int .i64 0, .int .i64 0, .int .i64 0]) := Lib.hid (by rw [hw4]; exact ((grown_set v3 (b + 1) 3 _).block r Z3'.out.lt (by have := HBB.out; simp; omega)).trans Z3'.out)
      have L4 : Hid (Below r w w4) := Lib.hid (by rw [hw4]; exact L3'.out.setCell (by have := HBB.out; show r ≤ b + 1; omega) _)
      have HWW4 := Lib.hid hw4
      clear hrd hg CW3 hw4 R3 M3 Z3 L3 M3' Z3' L3'
      go_wp2_with fail
      rw [← HWW4.out]
      clear HWW4 c3 f3
      have CW4 := Lib.hid (mdNum_any b g (rdAt (openB l) 4).1 (rdAt (openB l) 4).2 w4 R4.out)
      refine CW4.out.mono ?_
      rintro e v4 ⟨rfl, hrd, hg⟩
      have M4' : Hid (Bk v4 (b + 1) 23 #[.int .i64 (rdN (openB l) 0), .int .i64 (rdN (openB l) 1), .int .i64 (rdN (openB l) 2), .int .i64 (rdN (openB l) 3), .int .i64 0]) := Lib.hid ((hg.block _ M4.out.lt (by simp)).trans M4.out)
      have Z4' : Hid (Bk v4 r 23 #[.int .i64 0, .int .i64 0, .int .i64 0, .int .i64 0, .int .i64 0]) := Lib.hid ((hg.block _ Z4.out.lt (by have := HBB.out; simp; omega)).trans Z4.out)
      have L4' : Hid (Below r w v4) := Lib.hid (L4.out.grown hg (Nat.le_of_lt Z4.out.lt) (fun q hq => by have := HBB.out; injection hq with hq; omega))
      have c4 : v4.cell? ⟨b + 1, 4, none⟩ = some (.int .i64 0) := M4'.out.cell 4
      have f4 : v4.frozen? ⟨b + 1, 4, none⟩ = false := M4'.out.frz 4
      obtain ⟨w5, hw5⟩ : ∃ w5, w5 = v4.setCell ⟨b + 1, 4, none⟩ (.int .i64 (rdV (rdAt (openB l) 4).1 (rdAt (openB l) 4).2)) := ⟨_, rfl⟩
      have R5 : Hid (Rd w5 90 b g (rdAt (openB l) 5).1 (rdAt (openB l) 5).2) := Lib.hid (by
        rw [hw5]
        exact Rd.grown (row := some (b + 1)) hrd (grown_set v4 (b + 1) 4 _) (by simp) (by have := HBB.out; simp; omega))
      have M5 : Hid (Bk w5 (b + 1) 23 #[.int .i64 (rdN (openB l) 0), .int .i64 (rdN (openB l) 1), .int .i64 (rdN (openB l) 2), .int .i64 (rdN (openB l) 3), .int .i64 (rdN (openB l) 4)]) := Lib.hid (by rw [hw5]; exact M4'.out.setc 4 _)
      have Z5 : Hid (Bk w5 r 23 #[.int .i64 0, .int .i64 0, .int .i64 0, .int .i64 0, .int .i64 0]) := Lib.hid (by rw [hw5]; exact ((grown_set v4 (b + 1) 4 _).block r Z4'.out.lt (by have := HBB.out; simp; omega)).trans Z4'.out)
      have L5 : Hid (Below r w w5) := Lib.hid (by rw [hw5]; exact L4'.out.setCell (by have := HBB.out; show r ≤ b + 1; omega) _)
      have HWW5 := Lib.hid hw5
      clear hrd hg CW4 hw5 R4 M4 Z4 L4 M4' Z4' L4'
      obtain ⟨x, hx⟩ : ∃ x, (rdAt (openB l) 5).2 = x := ⟨_, rfl⟩
      have HX : Hid (decE (openB l) = x) := Lib.hid hx
      have M5m : Hid (Bk (v4.setCell ⟨b + 1, 4, none⟩ (.int .i64 (rdV (rdAt (openB l) 4).1 (rdAt (openB l) 4).2))) (b + 1) 23 (msC m)) := Lib.hid (by rw [← HWW5.out, ← HM.out]; exact M5.out)
      have Z5m : Hid (Bk (v4.setCell ⟨b + 1, 4, none⟩ (.int .i64 (rdV (rdAt (openB l) 4).1 (rdAt (openB l) 4).2))) r 23 #[.int .i64 0, .int .i64 0, .int .i64 0, .int .i64 0, .int .i64 0]) := Lib.hid (by rw [← HWW5.out]; exact Z5.out)
      have ce : (v4.setCell ⟨b + 1, 4, none⟩ (.int .i64 (rdV (rdAt (openB l) 4).1 (rdAt (openB l) 4).2))).cell? ⟨b, 1, none⟩ = some (.int .i64 x) := by
        obtain ⟨_, _, _, _, _, q, _⟩ := R5.out.byt
        rw [← hx, ← HWW5.out]; exact q
      have cg : (v4.setCell ⟨b + 1, 4, none⟩ (.int .i64 (rdV (rdAt (openB l) 4).1 (rdAt (openB l) 4).2))).cell? ⟨b + 1, 0, none⟩ = some (.int .i64 m.gen) := M5m.out.cell 0
      clear hx R5 M5 Z5
      have hd : ((x : Int) != 0) = true := by have := HX.out; simp; omega
      clear h2
      go_wp2_with (refine wpList_store_row rfl 23 _ _ rfl r #[.int .i64 0, .int .i64 0, .int .i64 0, .int .i64 0, .int .i64 0] rfl rfl 23 _ Z5m.out ms_info rfl (ms_one _ _ _ _ _) ?_; simp only [Act.put])
      (try simp only [Exit.inBlock, Exit.then])
      refine bodyPost_ret (v := .agg #[.int .i64 0, .int .i64 0, .int .i64 0, .int .i64 0, .int .i64 0]) (results_cell_row (p := 4) (ty := 23) rfl _ _ r 23 _ (0, 0) _ rfl (Z5m.out.row _) Try.underlying23 rfl ms_info) rfl ?_
      rw [E.out]
      refine ⟨rfl, ?_⟩
      rw [HR.out]
      rw [← HWW5.out]
      exact below_setRow L5.out (Nat.le_refl r) _
  · have E : Hid (recM z l = ms0) := Lib.hid (recM_no (fun q => h1 q.1))
    obtain ⟨oe, hoe⟩ : ∃ oe, openE l = oe := ⟨_, rfl⟩
    rw [hoe] at CO h1
    have hd : (oe != 0) = true := by simpa using h1
    clear hoe h1
    go_enter Try.func35, Try.ntmps35
    go_wp2_with fail
    rw [← HW0.out, HR.out]
    refine CO.out.mono ?_
    rintro e W1 ⟨A1, n1, c1, rfl, hb, hbel⟩
    have HBY := Lib.hid hb
    have Z1 : Hid (Bk W1 r 23 #[.int .i64 0, .int .i64 0, .int .i64 0, .int .i64 0, .int .i64 0]) := Lib.hid (HZ0.out.later hbel)
    have L1 : Hid (Below r w W1) := Lib.hid (by rw [← HR.out]; exact HB0.out.trans (hbel.mono HB0.out.size))
    clear hb hbel CO HW0 HZ0 HB0
    go_wp2_with (refine wpList_store_row rfl 23 _ _ rfl r #[.int .i64 0, .int .i64 0, .int .i64 0, .int .i64 0, .int .i64 0] rfl rfl 23 _ Z1.out ms_info rfl (ms_one _ _ _ _ _) ?_; simp only [Act.put])
    (try simp only [Exit.inBlock, Exit.then])
    refine bodyPost_ret (v := .agg #[.int .i64 0, .int .i64 0, .int .i64 0, .int .i64 0, .int .i64 0]) (results_cell_row (p := 4) (ty := 23) rfl _ _ r 23 _ (0, 0) _ rfl (Z1.out.row _) Try.underlying23 rfl ms_info) rfl ?_
    rw [E.out]
    refine ⟨rfl, ?_⟩
    rw [HR.out]
    exact below_setRow L1.out (Nat.le_refl r) _
end Go.Proofs.Ytjieledaiipheaa

/- the document's Load (trothref06) answers the record that counts. -/
namespace Go.Proofs.Ytjieledaiipheaa
open Go.RowKit

set_option maxRecDepth 100000 in
set_option maxHeartbeats 8000000 in
theorem rload_any (A : Option Addr) (n c : Nat) (l : List Int) (A' : Option Addr) (n' c' : Nat) (l' : List Int) (w : World) (h : Byt w A n c l) (h' : Byt w A' n' c' l') :
    Calls Try.prog 18 #[.slice A n c, .slice A' n' c'] w (Ret (.tuple #[msV (loadM l l'), .int .i64 (lostE (loadM l l'))]) w) := by
  obtain ⟨W0, hW0⟩ : ∃ W0, W0 = w.alloc (.cells #[.int .i64 0, .int .i64 0, .int .i64 0, .int .i64 0, .int .i64 0] 23) := ⟨_, rfl⟩
  have HZ0 : Hid (Bk W0 w.heap.size 23 #[.int .i64 0, .int .i64 0, .int .i64 0, .int .i64 0, .int .i64 0]) := Lib.hid (by rw [hW0]; exact Bk.new w _ _)
  have HB0 : Hid (Below w.heap.size w W0) := Lib.hid (by rw [hW0]; exact (Below.refl _ _).alloc (Nat.le_refl _) _)
  have CA := rone_any 0 A n c l W0 (h.below HB0.out)
  have HY := Lib.hid (h'.below HB0.out)
  have HG : Hid (0 ≤ (recM 0 l).gen) := Lib.hid (recM_gen 0 l)
  obtain ⟨a, ha⟩ : ∃ a, recM 0 l = a := ⟨_, rfl⟩
  obtain ⟨b, hb⟩ : ∃ b, recM 1 l' = b := ⟨_, rfl⟩
  have HAZ : Hid (a.gen = 0 → a = ms0) := Lib.hid (fun h => by rw [← ha] at h ⊢; exact recM_zero h)
  have HLD : Hid (loadM l l' = if a.gen < b.gen then b else a) := Lib.hid (by unfold loadM; rw [ha, hb])
  rw [ha] at CA HG
  rw [show msV a = .agg #[.int .i64 a.gen, .int .i64 a.inc, .int .i64 a.first, .int .i64 a.lsn, .int .i64 a.chk] from rfl] at CA
  have CA := Lib.hid CA
  have HBB := Lib.hid hb
  have HW0 := Lib.hid hW0
  obtain ⟨r, hr⟩ : ∃ r, w.heap.size = r := ⟨_, rfl⟩
  rw [hr] at HZ0
  have HR := Lib.hid hr
  clear h h' hW0 hr ha hb
  by_cases hlt : a.gen < b.gen
  · have E : Hid (loadM l l' = b ∧ lostE (loadM l l') = 0) := Lib.hid ⟨by rw [HLD.out, if_pos hlt], by rw [HLD.out, if_pos hlt]; unfold lostE; rw [if_neg (by have := HG.out; omega)]⟩
    have hbg : ((b.gen : Int) == 0) = false := by rw [beq_eq_false_iff_ne]; have := HG.out; omega
    have hb0 : ¬ b.gen = 0 := by have := HG.out; omega
    go_enter Try.func18, Try.ntmps18
    go_wp2_with fail
    rw [← HW0.out, HR.out]
    refine CA.out.mono ?_
    rintro e W1 ⟨rfl, b1⟩
    have Z1 : Hid (Bk W1 r 23 #[.int .i64 0, .int .i64 0, .int .i64 0, .int .i64 0, .int .i64 0]) := Lib.hid (HZ0.out.later b1)
    have L1 : Hid (Below r w W1) := Lib.hid (by rw [← HR.out]; exact HB0.out.trans (b1.mono HB0.out.size))
    have CB := rone_any 1 A' n' c' l' W1 (HY.out.below b1)
    rw [HBB.out, show msV b = .agg #[.int .i64 b.gen, .int .i64 b.inc, .int .i64 b.first, .int .i64 b.lsn, .int .i64 b.chk] from rfl] at CB
    have CB := Lib.hid CB
    clear b1 CA HW0 HZ0 HB0 HY HBB
    go_wp2_with fail
    refine CB.out.mono ?_
    rintro e W2 ⟨rfl, b2⟩
    obtain ⟨q, hq⟩ : ∃ q, W2.heap.size = q := ⟨_, rfl⟩
    have HRQ : Hid (r < q) := Lib.hid (by rw [← hq]; exact Nat.lt_of_lt_of_le Z1.out.lt b2.size)
    obtain ⟨W3, hW3⟩ : ∃ W3, W3 = (W2.alloc (.cells #[.int .i64 a.gen, .int .i64 a.inc, .int .i64 a.first, .int .i64 a.lsn, .int .i64 a.chk] 23)).alloc (.cells #[.int .i64 b.gen, .int .i64 b.inc, .int .i64 b.first, .int .i64 b.lsn, .int .i64 b.chk] 23) := ⟨_, rfl⟩
    have bb2 : Below W2.heap.size W2 W3 := by rw [hW3]; exact ((Below.refl _ _).alloc (Nat.le_refl _) _).alloc (by simp) _
    have Z3 : Hid (Bk W3 r 23 #[.int .i64 0, .int .i64 0, .int .i64 0, .int .i64 0, .int .i64 0]) := Lib.hid ((Z1.out.later b2).later bb2)
    have L3 : Hid (Below r w W3) := Lib.hid (L1.out.trans ((b2.trans (bb2.mono b2.size)).mono (Nat.le_of_lt Z1.out.lt)))
    have KA : Hid (Bk W3 q 23 #[.int .i64 a.gen, .int .i64 a.inc, .int .i64 a.first, .int .i64 a.lsn, .int .i64 a.chk]) := Lib.hid (by rw [hW3, ← hq]; exact (Bk.new _ _ _).later ((Below.refl _ _).alloc (Nat.le_refl _) _))
    have KB : Hid (Bk W3 (q + 1) 23 #[.int .i64 b.gen, .int .i64 b.inc, .int .i64 b.first, .int .i64 b.lsn, .int .i64 b.chk]) := Lib.hid (by
      have := Bk.new (W2.alloc (.cells #[.int .i64 a.gen, .int .i64 a.inc, .int .i64 a.first, .int .i64 a.lsn, .int .i64 a.chk] 23)) 23 #[.int .i64 b.gen, .int .i64 b.inc, .int .i64 b.first, .int .i64 b.lsn, .int .i64 b.chk]
      rw [World.size_alloc, hq] at this
      rw [hW3]
      exact this)
    have HW3 := Lib.hid hW3
    have HQ := Lib.hid hq
    have KAL : Hid (Bk ((W2.alloc (.cells #[.int .i64 a.gen, .int .i64 a.inc, .int .i64 a.first, .int .i64 a.lsn, .int .i64 a.chk] 23)).alloc (.cells #[.int .i64 b.gen, .int .i64 b.inc, .int .i64 b.first, .int .i64 b.lsn, .int .i64 b.chk] 23)) W2.heap.size 23 #[.int .i64 a.gen, .int .i64 a.inc, .int .i64 a.first, .int .i64 a.lsn, .int .i64 a.chk]) := Lib.hid (by rw [← hW3, hq]; exact KA.out)
    have KBL : Hid (Bk ((W2.alloc (.cells #[.int .i64 a.gen, .int .i64 a.inc, .int .i64 a.first, .int .i64 a.lsn, .int .i64 a.chk] 23)).alloc (.cells #[.int .i64 b.gen, .int .i64 b.inc, .int .i64 b.first, .int .i64 b.lsn, .int .i64 b.chk] 23)) (W2.heap.size + 1) 23 #[.int .i64 b.gen, .int .i64 b.inc, .int .i64 b.first, .int .i64 b.lsn, .int .i64 b.chk]) := Lib.hid (by rw [← hW3, hq]; exact KB.out)
    have ZL : Hid (Bk ((W2.alloc (.cells #[.int .i64 a.gen, .int .i64 a.inc, .int .i64 a.first, .int .i64 a.lsn, .int .i64 a.chk] 23)).alloc (.cells #[.int .i64 b.gen, .int .i64 b.inc, .int .i64 b.first, .int .i64 b.lsn, .int .i64 b.chk] 23)) r 23 #[.int .i64 0, .int .i64 0, .int .i64 0, .int .i64 0, .int .i64 0]) := Lib.hid (by rw [← hW3]; exact Z3.out)
    clear b2 hq hW3 bb2 CB Z1 L1
    have ZR : Hid (Bk (((W2.alloc (.cells #[.int .i64 a.gen, .int .i64 a.inc, .int .i64 a.first, .int .i64 a.lsn, .int .i64 a.chk] 23)).alloc (.cells #[.int .i64 b.gen, .int .i64 b.inc, .int .i64 b.first, .int .i64 b.lsn, .int .i64 b.chk] 23)).setRow W2.heap.size #[.int .i64 b.gen, .int .i64 b.inc, .int .i64 b.first, .int .i64 b.lsn, .int .i64 b.chk]) r 23 #[.int .i64 0, .int .i64 0, .int .i64 0, .int .i64 0, .int .i64 0]) := Lib.hid ((setRow_other _ _ _ _ (by have := HRQ.out; have := HQ.out; omega)).trans ZL.out)
    have KR : Hid (Bk (((W2.alloc (.cells #[.int .i64 a.gen, .int .i64 a.inc, .int .i64 a.first, .int .i64 a.lsn, .int .i64 a.chk] 23)).alloc (.cells #[.int .i64 b.gen, .int .i64 b.inc, .int .i64 b.first, .int .i64 b.lsn, .int .i64 b.chk] 23)).setRow W2.heap.size #[.int .i64 b.gen, .int .i64 b.inc, .int .i64 b.first, .int .i64 b.lsn, .int .i64 b.chk]) W2.heap.size 23 #[.int .i64 b.gen, .int .i64 b.inc, .int .i64 b.first, .int .i64 b.lsn, .int .i64 b.chk]) := Lib.hid (KAL.out.row _)
    have LR : Hid (Below r w (((W2.alloc (.cells #[.int .i64 a.gen, .int .i64 a.inc, .int .i64 a.first, .int .i64 a.lsn, .int .i64 a.chk] 23)).alloc (.cells #[.int .i64 b.gen, .int .i64 b.inc, .int .i64 b.first, .int .i64 b.lsn, .int .i64 b.chk] 23)).setRow W2.heap.size #[.int .i64 b.gen, .int .i64 b.inc, .int .i64 b.first, .int .i64 b.lsn, .int .i64 b.chk])) := Lib.hid (below_setRow (by rw [← HW3.out]; exact L3.out) (by have := HRQ.out; have := HQ.out; omega) _)
    have cg : (((W2.alloc (.cells #[.int .i64 a.gen, .int .i64 a.inc, .int .i64 a.first, .int .i64 a.lsn, .int .i64 a.chk] 23)).alloc (.cells #[.int .i64 b.gen, .int .i64 b.inc, .int .i64 b.first, .int .i64 b.lsn, .int .i64 b.chk] 23)).setRow W2.heap.size #[.int .i64 b.gen, .int .i64 b.inc, .int .i64 b.first, .int .i64 b.lsn, .int .i64 b.chk]).cell? ⟨W2.heap.size, 0, none⟩ = some (.int .i64 b.gen) := KR.out.cell 0
    have HLTT := Lib.hid hlt
    go_wp2_with (first | (refine wpList_load_row rfl 23 _ rfl (W2.heap.size + 1) rfl 23 #[.int .i64 b.gen, .int .i64 b.inc, .int .i64 b.first, .int .i64 b.lsn, .int .i64 b.chk] (0, 0) _ KBL.out Try.underlying23 rfl ms_info ?_) | (refine wpList_store_row rfl 23 _ _ rfl (W2.heap.size) #[.int .i64 b.gen, .int .i64 b.inc, .int .i64 b.first, .int .i64 b.lsn, .int .i64 b.chk] rfl rfl 23 _ KAL.out ms_info rfl (ms_one _ _ _ _ _) ?_; simp only [Act.put]) | (refine wpList_load_row rfl 23 _ rfl (W2.heap.size) rfl 23 #[.int .i64 b.gen, .int .i64 b.inc, .int .i64 b.first, .int .i64 b.lsn, .int .i64 b.chk] (0, 0) _ KR.out Try.underlying23 rfl ms_info ?_) | (refine wpList_store_row rfl 23 _ _ rfl (r) #[.int .i64 b.gen, .int .i64 b.inc, .int .i64 b.first, .int .i64 b.lsn, .int .i64 b.chk] rfl rfl 23 _ ZR.out ms_info rfl (ms_one _ _ _ _ _) ?_; simp only [Act.put]))
    (try simp only [Exit.inBlock, Exit.then])
    refine bodyPost_ret (results_cellT rfl _ _ r 23 #[.int .i64 b.gen, .int .i64 b.inc, .int .i64 b.first, .int .i64 b.lsn, .int .i64 b.chk] _ rfl (ZR.out.row _) Try.underlying23 rfl ms_info) rfl ?_
    rw [E.out.2, E.out.1]
    refine ⟨rfl, ?_⟩
    rw [HR.out]
    exact below_setRow LR.out (Nat.le_refl r) _
  · by_cases hz : a.gen = 0
    · have E : Hid (loadM l l' = a ∧ lostE (loadM l l') = 60) := Lib.hid ⟨by rw [HLD.out, if_neg hlt], by rw [HLD.out, if_neg hlt]; unfold lostE; rw [if_pos hz]⟩
      have haz := HAZ.out hz
      have hl0 : ¬ (0 : Int) < b.gen := by rw [← hz]; exact hlt
      subst haz
      have CA : Hid (Calls Try.prog 35 #[.slice A n c, .int .i64 0] W0 (Ret (.agg #[.int .i64 0, .int .i64 0, .int .i64 0, .int .i64 0, .int .i64 0]) W0)) := CA
      clear hlt hz HLD HAZ HG
      go_enter Try.func18, Try.ntmps18
      go_wp2_with fail
      rw [← HW0.out, HR.out]
      refine CA.out.mono ?_
      rintro e W1 ⟨rfl, b1⟩
      have Z1 : Hid (Bk W1 r 23 #[.int .i64 0, .int .i64 0, .int .i64 0, .int .i64 0, .int .i64 0]) := Lib.hid (HZ0.out.later b1)
      have L1 : Hid (Below r w W1) := Lib.hid (by rw [← HR.out]; exact HB0.out.trans (b1.mono HB0.out.size))
      have CB := rone_any 1 A' n' c' l' W1 (HY.out.below b1)
      rw [HBB.out, show msV b = .agg #[.int .i64 b.gen, .int .i64 b.inc, .int .i64 b.first, .int .i64 b.lsn, .int .i64 b.chk] from rfl] at CB
      have CB := Lib.hid CB
      clear b1 CA HW0 HZ0 HB0 HY HBB
      go_wp2_with fail
      refine CB.out.mono ?_
      rintro e W2 ⟨rfl, b2⟩
      obtain ⟨q, hq⟩ : ∃ q, W2.heap.size = q := ⟨_, rfl⟩
      have HRQ : Hid (r < q) := Lib.hid (by rw [← hq]; exact Nat.lt_of_lt_of_le Z1.out.lt b2.size)
      obtain ⟨W3, hW3⟩ : ∃ W3, W3 = (W2.alloc (.cells #[.int .i64 0, .int .i64 0, .int .i64 0, .int .i64 0, .int .i64 0] 23)).alloc (.cells #[.int .i64 b.gen, .int .i64 b.inc, .int .i64 b.first, .int .i64 b.lsn, .int .i64 b.chk] 23) := ⟨_, rfl⟩
      have bb2 : Below W2.heap.size W2 W3 := by rw [hW3]; exact ((Below.refl _ _).alloc (Nat.le_refl _) _).alloc (by simp) _
      have Z3 : Hid (Bk W3 r 23 #[.int .i64 0, .int .i64 0, .int .i64 0, .int .i64 0, .int .i64 0]) := Lib.hid ((Z1.out.later b2).later bb2)
      have L3 : Hid (Below r w W3) := Lib.hid (L1.out.trans ((b2.trans (bb2.mono b2.size)).mono (Nat.le_of_lt Z1.out.lt)))
      have KA : Hid (Bk W3 q 23 #[.int .i64 0, .int .i64 0, .int .i64 0, .int .i64 0, .int .i64 0]) := Lib.hid (by rw [hW3, ← hq]; exact (Bk.new _ _ _).later ((Below.refl _ _).alloc (Nat.le_refl _) _))
      have KB : Hid (Bk W3 (q + 1) 23 #[.int .i64 b.gen, .int .i64 b.inc, .int .i64 b.first, .int .i64 b.lsn, .int .i64 b.chk]) := Lib.hid (by
        have := Bk.new (W2.alloc (.cells #[.int .i64 0, .int .i64 0, .int .i64 0, .int .i64 0, .int .i64 0] 23)) 23 #[.int .i64 b.gen, .int .i64 b.inc, .int .i64 b.first, .int .i64 b.lsn, .int .i64 b.chk]
        rw [World.size_alloc, hq] at this
        rw [hW3]
        exact this)
      have HW3 := Lib.hid hW3
      have HQ := Lib.hid hq
      have KAL : Hid (Bk ((W2.alloc (.cells #[.int .i64 0, .int .i64 0, .int .i64 0, .int .i64 0, .int .i64 0] 23)).alloc (.cells #[.int .i64 b.gen, .int .i64 b.inc, .int .i64 b.first, .int .i64 b.lsn, .int .i64 b.chk] 23)) W2.heap.size 23 #[.int .i64 0, .int .i64 0, .int .i64 0, .int .i64 0, .int .i64 0]) := Lib.hid (by rw [← hW3, hq]; exact KA.out)
      have KBL : Hid (Bk ((W2.alloc (.cells #[.int .i64 0, .int .i64 0, .int .i64 0, .int .i64 0, .int .i64 0] 23)).alloc (.cells #[.int .i64 b.gen, .int .i64 b.inc, .int .i64 b.first, .int .i64 b.lsn, .int .i64 b.chk] 23)) (W2.heap.size + 1) 23 #[.int .i64 b.gen, .int .i64 b.inc, .int .i64 b.first, .int .i64 b.lsn, .int .i64 b.chk]) := Lib.hid (by rw [← hW3, hq]; exact KB.out)
      have ZL : Hid (Bk ((W2.alloc (.cells #[.int .i64 0, .int .i64 0, .int .i64 0, .int .i64 0, .int .i64 0] 23)).alloc (.cells #[.int .i64 b.gen, .int .i64 b.inc, .int .i64 b.first, .int .i64 b.lsn, .int .i64 b.chk] 23)) r 23 #[.int .i64 0, .int .i64 0, .int .i64 0, .int .i64 0, .int .i64 0]) := Lib.hid (by rw [← hW3]; exact Z3.out)
      clear b2 hq hW3 bb2 CB Z1 L1
      go_wp2_with (first | (refine wpList_load_row rfl 23 _ rfl (W2.heap.size) rfl 23 #[.int .i64 0, .int .i64 0, .int .i64 0, .int .i64 0, .int .i64 0] (0, 0) _ KAL.out Try.underlying23 rfl ms_info ?_) | (refine wpList_store_row rfl 23 _ _ rfl (r) #[.int .i64 0, .int .i64 0, .int .i64 0, .int .i64 0, .int .i64 0] rfl rfl 23 _ ZL.out ms_info rfl (ms_one _ _ _ _ _) ?_; simp only [Act.put]))
      (try simp only [Exit.inBlock, Exit.then])
      refine bodyPost_ret (results_cellT rfl _ _ r 23 #[.int .i64 0, .int .i64 0, .int .i64 0, .int .i64 0, .int .i64 0] _ rfl (ZL.out.row _) Try.underlying23 rfl ms_info) rfl ?_
      rw [E.out.2, E.out.1]
      refine ⟨rfl, ?_⟩
      rw [HR.out]
      rw [← HW3.out]
      exact below_setRow L3.out (Nat.le_refl r) _
    · have E : Hid (loadM l l' = a ∧ lostE (loadM l l') = 0) := Lib.hid ⟨by rw [HLD.out, if_neg hlt], by rw [HLD.out, if_neg hlt]; unfold lostE; rw [if_neg hz]⟩
      have HLTT := Lib.hid hlt
      go_enter Try.func18, Try.ntmps18
      go_wp2_with fail
      rw [← HW0.out, HR.out]
      refine CA.out.mono ?_
      rintro e W1 ⟨rfl, b1⟩
      have Z1 : Hid (Bk W1 r 23 #[.int .i64 0, .int .i64 0, .int .i64 0, .int .i64 0, .int .i64 0]) := Lib.hid (HZ0.out.later b1)
      have L1 : Hid (Below r w W1) := Lib.hid (by rw [← HR.out]; exact HB0.out.trans (b1.mono HB0.out.size))
      have CB := rone_any 1 A' n' c' l' W1 (HY.out.below b1)
      rw [HBB.out, show msV b = .agg #[.int .i64 b.gen, .int .i64 b.inc, .int .i64 b.first, .int .i64 b.lsn, .int .i64 b.chk] from rfl] at CB
      have CB := Lib.hid CB
      clear b1 CA HW0 HZ0 HB0 HY HBB
      go_wp2_with fail
      refine CB.out.mono ?_
      rintro e W2 ⟨rfl, b2⟩
      obtain ⟨q, hq⟩ : ∃ q, W2.heap.size = q := ⟨_, rfl⟩
      have HRQ : Hid (r < q) := Lib.hid (by rw [← hq]; exact Nat.lt_of_lt_of_le Z1.out.lt b2.size)
      obtain ⟨W3, hW3⟩ : ∃ W3, W3 = (W2.alloc (.cells #[.int .i64 a.gen, .int .i64 a.inc, .int .i64 a.first, .int .i64 a.lsn, .int .i64 a.chk] 23)).alloc (.cells #[.int .i64 b.gen, .int .i64 b.inc, .int .i64 b.first, .int .i64 b.lsn, .int .i64 b.chk] 23) := ⟨_, rfl⟩
      have bb2 : Below W2.heap.size W2 W3 := by rw [hW3]; exact ((Below.refl _ _).alloc (Nat.le_refl _) _).alloc (by simp) _
      have Z3 : Hid (Bk W3 r 23 #[.int .i64 0, .int .i64 0, .int .i64 0, .int .i64 0, .int .i64 0]) := Lib.hid ((Z1.out.later b2).later bb2)
      have L3 : Hid (Below r w W3) := Lib.hid (L1.out.trans ((b2.trans (bb2.mono b2.size)).mono (Nat.le_of_lt Z1.out.lt)))
      have KA : Hid (Bk W3 q 23 #[.int .i64 a.gen, .int .i64 a.inc, .int .i64 a.first, .int .i64 a.lsn, .int .i64 a.chk]) := Lib.hid (by rw [hW3, ← hq]; exact (Bk.new _ _ _).later ((Below.refl _ _).alloc (Nat.le_refl _) _))
      have KB : Hid (Bk W3 (q + 1) 23 #[.int .i64 b.gen, .int .i64 b.inc, .int .i64 b.first, .int .i64 b.lsn, .int .i64 b.chk]) := Lib.hid (by
        have := Bk.new (W2.alloc (.cells #[.int .i64 a.gen, .int .i64 a.inc, .int .i64 a.first, .int .i64 a.lsn, .int .i64 a.chk] 23)) 23 #[.int .i64 b.gen, .int .i64 b.inc, .int .i64 b.first, .int .i64 b.lsn, .int .i64 b.chk]
        rw [World.size_alloc, hq] at this
        rw [hW3]
        exact this)
      have HW3 := Lib.hid hW3
      have HQ := Lib.hid hq
      have KAL : Hid (Bk ((W2.alloc (.cells #[.int .i64 a.gen, .int .i64 a.inc, .int .i64 a.first, .int .i64 a.lsn, .int .i64 a.chk] 23)).alloc (.cells #[.int .i64 b.gen, .int .i64 b.inc, .int .i64 b.first, .int .i64 b.lsn, .int .i64 b.chk] 23)) W2.heap.size 23 #[.int .i64 a.gen, .int .i64 a.inc, .int .i64 a.first, .int .i64 a.lsn, .int .i64 a.chk]) := Lib.hid (by rw [← hW3, hq]; exact KA.out)
      have KBL : Hid (Bk ((W2.alloc (.cells #[.int .i64 a.gen, .int .i64 a.inc, .int .i64 a.first, .int .i64 a.lsn, .int .i64 a.chk] 23)).alloc (.cells #[.int .i64 b.gen, .int .i64 b.inc, .int .i64 b.first, .int .i64 b.lsn, .int .i64 b.chk] 23)) (W2.heap.size + 1) 23 #[.int .i64 b.gen, .int .i64 b.inc, .int .i64 b.first, .int .i64 b.lsn, .int .i64 b.chk]) := Lib.hid (by rw [← hW3, hq]; exact KB.out)
      have ZL : Hid (Bk ((W2.alloc (.cells #[.int .i64 a.gen, .int .i64 a.inc, .int .i64 a.first, .int .i64 a.lsn, .int .i64 a.chk] 23)).alloc (.cells #[.int .i64 b.gen, .int .i64 b.inc, .int .i64 b.first, .int .i64 b.lsn, .int .i64 b.chk] 23)) r 23 #[.int .i64 0, .int .i64 0, .int .i64 0, .int .i64 0, .int .i64 0]) := Lib.hid (by rw [← hW3]; exact Z3.out)
      clear b2 hq hW3 bb2 CB Z1 L1
      go_wp2_with (first | (refine wpList_load_row rfl 23 _ rfl (W2.heap.size) rfl 23 #[.int .i64 a.gen, .int .i64 a.inc, .int .i64 a.first, .int .i64 a.lsn, .int .i64 a.chk] (0, 0) _ KAL.out Try.underlying23 rfl ms_info ?_) | (refine wpList_store_row rfl 23 _ _ rfl (r) #[.int .i64 a.gen, .int .i64 a.inc, .int .i64 a.first, .int .i64 a.lsn, .int .i64 a.chk] rfl rfl 23 _ ZL.out ms_info rfl (ms_one _ _ _ _ _) ?_; simp only [Act.put]))
      (try simp only [Exit.inBlock, Exit.then])
      refine bodyPost_ret (results_cellT rfl _ _ r 23 #[.int .i64 a.gen, .int .i64 a.inc, .int .i64 a.first, .int .i64 a.lsn, .int .i64 a.chk] _ rfl (ZL.out.row _) Try.underlying23 rfl ms_info) rfl ?_
      rw [E.out.2, E.out.1]
      refine ⟨rfl, ?_⟩
      rw [HR.out]
      rw [← HW3.out]
      exact below_setRow L3.out (Nat.le_refl r) _
end Go.Proofs.Ytjieledaiipheaa

/- what a row's step wants of arguments that are numbers or slices of bytes: how they read, and how long they are. No condition. -/
namespace Go.Proofs.Ytjieledaiipheaa
open Go.ChangeShapes Go.WideShapes Go.ChangeAt Go.RowKit

theorem own_knob : ownKnob Try.prog.godebug = none := by kernel_rfl
theorem laidOut : laidOutB Try.prog = true := by kernel_rfl

theorem u64_nat {x : Int} (h : (Lit.int .u64 x).wf = true) : ∃ m : Nat, x = m ∧ m < 18446744073709551616 := by
  simp [Lit.wf, IntKind.min, IntKind.max, IntKind.signed, IntKind.bits] at h
  exact ⟨x.toNat, by omega, by omega⟩

theorem u32_nat {x : Int} (h : (Lit.int .u32 x).wf = true) : ∃ m : Nat, x = m ∧ m < 4294967296 := by
  simp [Lit.wf, IntKind.min, IntKind.max, IntKind.signed, IntKind.bits] at h
  exact ⟨x.toNat, by omega, by omega⟩

theorem i64_bd {x : Int} (h : (Lit.int .i64 x).wf = true) : -9223372036854775808 ≤ x ∧ x ≤ 9223372036854775807 := by
  simp [Lit.wf, IntKind.min, IntKind.max, IntKind.signed, IntKind.bits] at h
  exact ⟨by omega, by omega⟩

theorem u8_bd {x : Int} (h : (Lit.int .u8 x).wf = true) : 0 ≤ x ∧ x < 256 := by
  simp [Lit.wf, IntKind.min, IntKind.max, IntKind.signed, IntKind.bits] at h
  exact ⟨by omega, by omega⟩

theorem bytes8 : Try.prog.bytesOf 5 = 1 := by kernel_rfl
theorem cells8 : Try.prog.cellsOf 5 = 1 := by kernel_rfl

section
variable {H : Type} {enc : TypeId × Value → H} {W : World}

theorem open_bytes {a : Option Addr} {n c : Nat} {d : DataW H} {p : List MemPlace} (h : DataW.Trod enc Try.prog W 0 (fun _ => true) true 34 (.slice a n c) d p) :
    ∃ l, Byt W a n c l ∧ (n = 0 ∨ ∃ el sp, d = .slice el sp ∧ el.length = n) := by
  obtain ⟨fuel, hf⟩ := h
  rcases open_ints Try.underlying34 Try.underlying5 cells8 hf with ⟨hcs, _⟩ | ⟨x, len, cap, zs, hcs, _, hl, hm, hz, hx, hcell, hwz⟩
  · simp [Value.cells] at hcs
    obtain ⟨rfl, rfl, rfl⟩ := hcs
    exact ⟨[], Byt.nil W, .inl rfl⟩
  · simp [Value.cells] at hcs
    obtain ⟨rfl, rfl, rfl⟩ := hcs
    simp only [Prod.mk.injEq] at hx
    have hzl : zs.length = c := by simpa using hz
    refine ⟨zs.take n, ⟨by simp; omega, hl, hm, fun y hy => u8_bd (hwz y (List.mem_of_mem_take hy)), (fun h => nomatch h), fun hn => ?_⟩, .inr ⟨_, _, hx.1, by simp [lits]; omega⟩⟩
    obtain ⟨g, off, spot⟩ := x
    have hspot : spot = none := by simpa [Addr.add] using World.cell?_spot (hcell 0 (by omega))
    subst hspot
    refine ⟨g, off, rfl, fun i hi => ?_⟩
    have h1 := hcell i (by omega)
    have hadd : (⟨g, off, none⟩ : Addr).add i = ⟨g, off + i, none⟩ := by unfold Addr.add; split <;> simp_all
    rw [hadd] at h1
    rw [h1]
    congr 2
    simp [List.getD, hi]

theorem bytes_reach {ts : List TypeId} {ds : List (DataW H)} (h : (DataW.weightsEach Try.prog ts ds).all (· ≤ reachBytes) = true) {j : Nat} {d : DataW H} {n : Nat} (ht : ts[j]? = some 34) (hd : ds[j]? = some d)
    (e : n = 0 ∨ ∃ el sp, d = .slice el sp ∧ el.length = n) : n ≤ 140737488351232 := by
  rcases e with rfl | ⟨el, sp, rfl, hn⟩
  · omega
  · have := sized_slice h ht hd Try.underlying34
    rw [bytes8] at this
    simp only [reachBytes] at this
    omega
end
end Go.Proofs.Ytjieledaiipheaa
