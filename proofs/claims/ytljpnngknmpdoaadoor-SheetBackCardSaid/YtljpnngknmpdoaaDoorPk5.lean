/- What it says: contracts and plain mathematics that the laws' walks use, 5 of 7: each part's own remark says what; no condition. -/
import Derived.Test.YtljpnngknmpdoaaDoorPk3
import Derived.Test.YtljpnngknmpdoaaDoorPk4

set_option linter.unusedSimpArgs false
set_option linter.unusedVariables false
set_option linter.deprecated false
set_option linter.unusedSectionVars false
set_option linter.all false

/- the statements' ended tells how many bodies end in the first sheets. -/
namespace Go.Proofs.YtljpnngknmpdoaaDoor
open Go.RowKit

theorem sealL_size (b : List Int) (h : b.length ≤ 1500) : (sealL b).length = b.length + 5 + if 127 < b.length then 1 else 0 := by
  have e : (shortL b.length).length = 1 + if 127 < b.length then 1 else 0 := by
    unfold shortL
    by_cases q : 127 < b.length
    · rw [if_pos q]
      obtain ⟨k, hk⟩ : ∃ k, b.length / 128 = k + 1 := ⟨b.length / 128 - 1, by omega⟩
      have h0 : (k + 1) / 128 = 0 := by omega
      rw [hk, hiD]
      simp [hiD, h0]
    · rw [if_neg q]
      have h0 : b.length / 128 = 0 := by omega
      rw [h0, hiD]
      simp
  rw [sealL_len]
  unfold textL
  rw [List.length_append, e]
  split <;> omega

set_option maxRecDepth 100000 in
set_option maxHeartbeats 4000000 in
theorem ended_any (A : Option Addr) (n c : Nat) (ls : List (List Int)) (vs : List (Option Addr × Nat × Nat)) (w : World) (h : Bods w A n c ls vs) (hn : n ≤ 1000) (hl : ∀ b ∈ ls, b.length ≤ 1500) (k : Nat) (hk : k ≤ 1000000) :
    Calls Tryd.prog 23 #[.slice A n c, .int .i64 k] w (fun e w' => ∃ j : Nat, e = .returned (.int .i64 j) ∧ endsIn ls k j ∧ w = w') := by
  have hcap := h.flt.cap
  have hmax := h.flt.max
  unfold maxLen at hmax
  have HB := Lib.hid h
  have HL := Lib.hid hl
  have hlen := h.len
  clear h hl
  go_enter Tryd.func23, Tryd.ntmps23
  go_wp2_with fail
  go_loopw [5, 6] (fun y q wr => ∃ (i : Nat), i ≤ n ∧ y = .int .i64 ((bgn ls i : Nat) : Int) ∧ q = .int .i64 i ∧ bgn ls i ≤ 242 * k ∧ wr = w) (fun _ q _ => n - (intOf q).toNat)
  case atStart => exact ⟨0, Nat.zero_le _, by rw [bgn_zero]; rfl, rfl, by rw [bgn_zero]; omega, rfl⟩
  case round =>
    obtain ⟨i, hin, rfl, rfl, hle, rfl⟩ := hrel
    by_cases hlt : i < n
    · obtain ⟨g, off, hA, hc⟩ := HB.out.at_ (by omega)
      subst hA
      obtain ⟨hx, hby⟩ := hc i hlt
      obtain ⟨B, m, d, hv⟩ : ∃ B m d, vs.getD i sl0 = (B, m, d) := ⟨_, _, _, rfl⟩
      rw [hv] at hx hby
      have hbm := hby.len
      simp only at hbm hx
      have hil : i < ls.length := by rw [hlen]; exact hlt
      have hbmem : ls.getD i [] ∈ ls := by
        have e : ls.getD i [] = ls[i] := by simp [List.getD, List.getElem?_eq_getElem hil]
        rw [e]
        exact List.getElem_mem hil
      have hbl := HL.out _ hbmem
      have hnx := bgn_next hil
      rw [sealL_size _ hbl, hbm] at hnx
      obtain ⟨a, ha⟩ : ∃ a, bgn ls i = a := ⟨_, rfl⟩
      obtain ⟨a2, ha2⟩ : ∃ a, bgn ls (i + 1) = a := ⟨_, rfl⟩
      rw [ha, ha2] at hnx
      rw [ha] at hle ⊢
      have HE := Lib.hid ha
      have HE2 := Lib.hid ha2
      rw [hbm] at hbl
      clear hby hv hbm hbmem ha ha2 hc
      by_cases hm : 127 < m
      · rw [if_pos hm] at hnx
        have hm' : (127 : Int) < (m : Int) := by omega
        clear hm
        by_cases hgo : a2 ≤ 242 * k
        · have hgo' : ¬ (242 * (k : Int) < (a : Int) + ((m : Int) + 5) + 1) := by omega
          go_wp2_with fail
          go_roundw
          case rel => exact ⟨i + 1, by omega, by rw [HE2.out, hnx]; go_num, by go_num, by rw [HE2.out]; exact hgo, trivial⟩
          case measure => simp [intOf]; omega
        · have hgo' : 242 * (k : Int) < (a : Int) + ((m : Int) + 5) + 1 := by omega
          have EI : Hid (endsIn ls k i) := Lib.hid ⟨by omega, by rw [HE.out]; exact hle, fun _ => by rw [HE2.out]; omega⟩
          clear hgo hnx
          go_wp2_with fail
          go_ret
          exact ⟨i, rfl, EI.out, rfl⟩
      · rw [if_neg hm] at hnx
        have hm' : ¬ (127 : Int) < (m : Int) := by omega
        clear hm
        by_cases hgo : a2 ≤ 242 * k
        · have hgo' : ¬ (242 * (k : Int) < (a : Int) + ((m : Int) + 5)) := by omega
          go_wp2_with fail
          go_roundw
          case rel => exact ⟨i + 1, by omega, by rw [HE2.out, hnx]; go_num, by go_num, by rw [HE2.out]; exact hgo, trivial⟩
          case measure => simp [intOf]; omega
        · have hgo' : 242 * (k : Int) < (a : Int) + ((m : Int) + 5) := by omega
          have EI : Hid (endsIn ls k i) := Lib.hid ⟨by omega, by rw [HE.out]; exact hle, fun _ => by rw [HE2.out]; omega⟩
          clear hgo hnx
          go_wp2_with fail
          go_ret
          exact ⟨i, rfl, EI.out, rfl⟩
    · have EI : Hid (endsIn ls k i) := Lib.hid ⟨by omega, hle, fun q => absurd q (by omega)⟩
      go_wp2_with fail
      go_ret
      exact ⟨i, rfl, EI.out, rfl⟩
end Go.Proofs.YtljpnngknmpdoaaDoor

/- trothlaw08.awake answers true. -/
namespace Go.Proofs.YtljpnngknmpdoaaDoor
open Go.RowKit

/-- So many noughts, as a body. -/
def zb (n : Nat) : List Int := List.replicate n 0
theorem zb_len (n : Nat) : (zb n).length = n := by simp [zb]
theorem zb_isB (n : Nat) : isB (zb n) := fun x hx => by
  have := (List.mem_replicate.1 hx).2
  omega
theorem noughts_byt (n : Nat) (W : World) (t : TypeId) (hn : n ≤ 1000000) : Byt (W.alloc (.cells (noughts n) t)) (some ⟨W.heap.size, 0, none⟩) n n (zb n) :=
  Byt.of_bk (Bk.new W t _) 0 n n (zb n) (zb_len n) (Nat.le_refl _) (by unfold maxLen; omega) (zb_isB n) (fun i hi => by
    rw [Nat.zero_add]
    unfold noughts madeCells
    simp [zb, hi, Nat.mod_one])
/-- One body of noughts, in a slice of its own. -/
theorem zbods (n : Nat) (W : World) (hn : n ≤ 1000000) : Bods ((W.alloc (.cells (noughts n) 5)).alloc (.cells #[.slice (some ⟨W.heap.size, 0, none⟩) n n] 24)) (some ⟨W.heap.size + 1, 0, none⟩) 1 1 [zb n] [(some ⟨W.heap.size, 0, none⟩, n, n)] := by
  refine ⟨⟨rfl, Nat.le_refl _, by unfold maxLen; omega, (fun e => nomatch e), fun _ => ⟨W.heap.size + 1, 0, rfl, fun j v hv => ?_⟩⟩, rfl, rfl, fun i hi => ?_⟩
  · have h := Bk.new (W.alloc (.cells (noughts n) 5)) 24 #[.slice (some ⟨W.heap.size, 0, none⟩) n n]
    rw [World.size_alloc] at h
    rw [h.cell, Nat.zero_add]
    simpa [slV] using hv
  · obtain rfl : i = 0 := by omega
    exact (noughts_byt n W _ hn).alloc _
theorem zbods_below (n : Nat) (W : World) : Below W.heap.size W ((W.alloc (.cells (noughts n) 5)).alloc (.cells #[.slice (some ⟨W.heap.size, 0, none⟩) n n] 24)) :=
  ((Below.refl _ _).alloc (Nat.le_refl _) _).alloc (by simp) _

theorem zb_all : (allL [zb 300]).length = 306 := by
  have : allL [zb 300] = sealL (zb 300) := by simp [allL]
  rw [this, sealL_size _ (by rw [zb_len]; omega), zb_len]
  rfl
theorem zb_err : layErr 1 7 [zb 300] = 0 := by
  unfold layErr
  rw [zb_all, if_neg (by rintro (h | h) <;> cases h), if_neg (by rintro ⟨b, hb, h⟩; simp at hb; subst hb; rw [zb_len] at h; omega), if_neg (by unfold shN; omega)]
theorem zb_two : shN (allL [zb 300]).length = 2 := by rw [zb_all]; rfl
theorem zb_f0 : fstIn (bgns [zb 300]) 0 = 0 := by rw [fst_is (bs := [zb 300]) (j := 0) (by simp) (by rw [bgn_zero]) (fun m hm => absurd hm (by omega)), bgn_zero]; rfl
theorem zb_f1 : fstIn (bgns [zb 300]) 1 = 255 := fst_none (fun k hk => by
  have : k = 0 := by simpa using hk
  subst this
  rw [bgn_zero]
  omega)

set_option maxRecDepth 100000 in
set_option maxHeartbeats 4000000 in
theorem awake8 (w : World) (hT : Tab w) : Calls Tryd.prog 8 #[] w (Ret (.bool true) w) := by
  have hmk : (Instr.makeSlice 24 (.int .i64 300) (.int .i64 300)).run Tryd.prog w = .ok (.slice (some ⟨w.heap.size, 0, none⟩) 300 300) (w.alloc (.cells (noughts 300) 5)) := make_bytes 300 (by omega) w
  have C1 := lay_any 1 7 _ 1 1 [zb 300] _ _ (zbods 300 w (by omega)) (by omega) ⟨by omega, by omega⟩ ⟨by omega, by omega⟩ (hT.ret (zbods_below 300 w))
  rw [zb_err] at C1
  have C1 := Lib.hid C1
  have B0 := Lib.hid (zbods_below 300 w)
  have HT := Lib.hid hT
  clear hT
  go_enter Tryd.func8, Tryd.ntmps8
  go_wp2_with fail
  refine C1.out.mono ?_
  rintro e w1 ⟨A1, n1, c1, rfl, hS, b1⟩
  have hres : layRes 1 7 [zb 300] = layShs 1 7 [zb 300] := by unfold layRes; rw [zb_err]; rfl
  rw [hres] at hS
  have hn1 : n1 = 2 := by rw [← hS.len, layShs_len, zb_two]
  subst hn1
  have B1 := Lib.hid (B0.out.trans (b1.mono B0.out.size))
  have C2 := Lib.hid (find_any A1 2 c1 _ w1 hS (by omega) (fun x hx => by
    unfold layShs at hx
    obtain ⟨j, hj, rfl⟩ := List.mem_map.1 hx
    simp only
    rw [str_size]
    exact partL_len _ _) (HT.out.ret B1.out))
  have HS := Lib.hid hS
  have hcap := hS.flt.cap
  have hmax := hS.flt.max
  unfold maxLen at hmax
  clear hS b1 C1 hres hmk
  go_wp2_with fail
  refine C2.out.mono ?_
  rintro e w2 ⟨A2, n2, c2, rfl, hF, hl2, ok2, b2⟩
  rw [layShs_fd 1 7 (fun b hb => by simp at hb; subst hb; exact zb_isB 300)] at hF hl2 ok2
  have hall := found_all (bs := [zb 300]) (fun b hb => by simp at hb; subst hb; exact ⟨zb_isB 300, by rw [zb_len]; omega⟩)
  obtain ⟨y, hy⟩ : ∃ y, found (laidL [zb 300]) = [y] := by
    cases hq : found (laidL [zb 300]) with
    | nil => rw [hq] at hall; simp at hall
    | cons a r =>
      rw [hq] at hall
      simp at hall
      exact ⟨a, by rw [hall.2]⟩
  rw [hy] at hF hl2 hall
  have hn2 : n2 = 1 := by simpa using hl2.symm
  subst hn2
  have hy1 : y.1 = zb 300 := by simpa using hall
  obtain ⟨g2, off2, rfl, hc2⟩ := hF.at_get fd0 fndC fndC_len rfl (by omega)
  have d0 : w2.cell? ⟨g2, off2, none⟩ = some (.string (strOfNums (zb 300))) := by
    have := hc2 0 (by omega) 0 _ rfl
    simpa [hy1] using this
  obtain ⟨zs, hzs⟩ : ∃ s, strOfNums (zb 300) = s := ⟨_, rfl⟩
  have hzl : zs.size = 300 := by rw [← hzs, str_size, zb_len]
  rw [hzs] at d0
  have S2 := HS.out.below b2
  obtain ⟨g1, off1, rfl, hc1⟩ := S2.flt.at_get sh0 Sh.cells Sh.cells_len S2.len (by omega)
  have e0 : (layShs 1 7 [zb 300]).getD 0 sh0 = shAt 1 7 [zb 300] 1 0 := shAt_all 1 7 _ 1 0 (by simp) (by rw [zb_two]; omega)
  have e1 : (layShs 1 7 [zb 300]).getD 1 sh0 = shAt 1 7 [zb 300] 1 1 := shAt_all 1 7 _ 1 1 (by simp) (by rw [zb_two]; omega)
  have htk : (bgns [zb 300]).take 1 = bgns [zb 300] := List.take_of_length_le (by rw [bgns_len]; simp)
  have a0 : w2.cell? ⟨g1, off1 + 2, none⟩ = some (.int .i64 0) := by
    have := hc1 0 (by omega) 2 _ rfl
    rw [e0] at this
    unfold shAt at this
    rw [htk] at this
    simp only [Nat.zero_mul, Nat.add_zero] at this
    rw [zb_f0] at this
    exact this
  have a1 : w2.cell? ⟨g1, off1 + 4 + 2, none⟩ = some (.int .i64 255) := by
    have := hc1 1 (by omega) 2 _ rfl
    rw [e1] at this
    unfold shAt at this
    rw [htk] at this
    simp only [Nat.one_mul] at this
    rw [zb_f1] at this
    exact this
  have a2 : w2.cell? ⟨g1, off1 + 4 + 1, none⟩ = some (.int .i64 8) := by
    have := hc1 1 (by omega) 1 (.int .i64 8) (by rw [e1]; rfl)
    simpa using this
  have hcap2 := hF.cap
  have hmax2 := hF.max
  unfold maxLen at hmax2
  have B2 := Lib.hid (B1.out.trans (b2.mono B1.out.size))
  clear hF hl2 ok2 b2 hall hy hy1 hc2 hzs S2 hc1 e0 e1 htk HS B1 C2
  go_wp2_with fail
  go_ret
  refine ⟨?_, B2.out⟩
  simp [hzl]
end Go.Proofs.YtljpnngknmpdoaaDoor

/- slices of sheets, of what was found, and of bodies: appended onto a row of one's own, and cut. -/
namespace Go.Proofs.YtljpnngknmpdoaaDoor
open Go.RowKit

theorem wpList_append_flt {P : Program} {w : World} {ops : Array Oper} {rest : List Oper} {o : Oper} {a : Act} {Q : Exit → Act → World → Prop} (hgd : o.guard = none) (s x : Operand) (t : TypeId)
    (ho : o.op = .call { callee := .builtin .append, args := #[s, x], argTypes := #[t, t] }) (base : Nat) (e : TypeId) (i : TypeInfo) (z : Value) (size bytes : Nat) (ht : P.underlying t = some (.slice e)) (hi : P.info? e = some i) (hz : i.zero = some z)
    (hsize : i.size = size) (hby : i.bytes = bytes) (hzs : z.cells.size = size) (hpos : 0 < size) {v : Value} {n : Nat} {xs : List Value} (hs : a.eval s = v) (hown : w.ownsRow base e size v n xs)
    {A : Option Addr} {m c : Nat} {vs : List Value} (hx : a.eval x = .slice A m c) (hl : Flt w A m c size vs) (h1 : ∀ u ∈ vs, u.oneCell' = true) (hn : n + m ≤ 1000000) (hbb : bytes ≤ 1000) (hbase : base ≤ w.heap.size)
    (h : ∀ A' c' w', w'.ownsRow base e size (.slice A' (n + m) c') (n + m) (xs ++ vs) → w.grownBy w' v.ownBlock → wpList P ops Q rest (a.put o.dst (.slice A' (n + m) c')) w') : wpList P ops Q (o :: rest) a w := by
  refine wpList_plain hgd fun K hK => ?_
  cases A with
  | none =>
    obtain ⟨rfl, rfl⟩ := hl.nil_ rfl
    have hv0 : vs = [] := List.eq_nil_of_length_eq_zero (by rw [hl.len]; simp)
    subst hv0
    obtain ⟨A', c', rfl⟩ := own_form hown
    have hrun := run_append_owned_none (P := P) (w := w) base t o.type e i size ht hi (.slice A' n c') n _ hown
    have h' := h A' c' w (by simpa using hown) (World.grownBy.refl w _)
    simp only [Nat.add_zero] at h'
    unfold Oper.wp
    simp only [execOp, ho, resolve, invoke, builtin, List.map_toArray, List.map_cons, List.map_nil, hs, hx, Sem.run_bind, Sem.run_pure, Result.andThen_ok, hrun]
    exact hK _ _ h'
  | some ad =>
    have hbt : (n + m) * bytes ≤ 140737488355328 := Nat.le_trans (Nat.mul_le_mul hn hbb) (by omega)
    refine wp_append_own w s x t ho base e i z size bytes ht hi hz hsize hby hzs hpos v n xs hs hown ad m c vs hx (by rw [hl.len]) (hl.news ad rfl) h1 (by unfold maxLen; omega) hbt hbase ?_
    intro v' w' k1 k2 _
    obtain ⟨A', c', rfl⟩ := own_form k1
    exact hK _ _ (h A' c' w' k1 k2)

theorem sh_ones (l : List Sh) : ∀ u ∈ l.flatMap Sh.cells, u.oneCell' = true := by
  intro u hu
  obtain ⟨x, _, hx⟩ := List.mem_flatMap.1 hu
  simp [Sh.cells] at hx
  rcases hx with rfl | rfl | rfl | rfl <;> rfl

theorem addr0 (A : Option Addr) (s : Nat) : A.map (·.add (0 * s)) = A := by
  cases A with
  | none => rfl
  | some a => simp [Addr.add]

/-- 's[:k]' of whatever elements. -/
theorem cutF_h {w : World} {A : Option Addr} {n c size : Nat} {vs : List Value} {t e : TypeId} {i : TypeInfo} (ht : Tryd.prog.underlying t = some (.slice e)) (hi : Tryd.prog.info? e = some i) (h : Flt w A n c size vs) (k : Nat) (hk : k ≤ n) (zk : Int) (ek : zk = k) :
    (∀ v, (Instr.slice t (.slice A n c) none (some (.int .i64 zk)) none).run Tryd.prog v = .ok (.slice A k c) v) ∧ Flt w A k c size (vs.take (k * size)) := by
  have hcap := h.cap
  subst ek
  have hel : Tryd.prog.elem t = e := by simp [Program.elem, ht]
  refine ⟨fun v => ?_, h.take k hk⟩
  rw [run_slice_h (P := Tryd.prog) (w := v) t A n c (by rw [hel]; exact ht) .i64 k (by omega) (by omega), hel]
  have : (sizeOf e).run Tryd.prog v = .ok i.size v := by simp [sizeOf, typeInfo, hi]
  rw [this]
  simp only [Result.andThen, sliced, Int.toNat_natCast, Nat.sub_zero, addr0, ite_self]

/-- 's[k:]' of whatever elements. -/
theorem cutF_l {w : World} {A : Option Addr} {n c size : Nat} {vs : List Value} {t e : TypeId} {i : TypeInfo} (ht : Tryd.prog.underlying t = some (.slice e)) (hi : Tryd.prog.info? e = some i) (hsz : i.size = size) (h : Flt w A n c size vs) (k : Nat) (hk : k ≤ n) (zk : Int) (ek : zk = k) :
    ∃ B d, (∀ v, (Instr.slice t (.slice A n c) (some (.int .i64 zk)) none none).run Tryd.prog v = .ok (.slice B (n - k) d) v) ∧ Flt w B (n - k) d size (vs.drop (k * size)) := by
  have hcap := h.cap
  have hmax := h.max
  subst ek
  have hel : Tryd.prog.elem t = e := by simp [Program.elem, ht]
  refine ⟨if c = k then A else A.map (·.add (k * size)), c - k, fun v => ?_, ⟨?_, by omega, by omega, fun eq => ?_, fun hn => ?_⟩⟩
  · rw [run_slice_l (P := Tryd.prog) (w := v) t A n c (by rw [hel]; exact ht) .i64 k (by omega) (by omega), hel]
    have : (sizeOf e).run Tryd.prog v = .ok i.size v := by simp [sizeOf, typeInfo, hi]
    rw [this, hsz]
    simp only [Result.andThen, sliced, Int.toNat_natCast]
  · rw [List.length_drop, h.len, Nat.sub_mul]
  · by_cases q : c = k
    · omega
    · rw [if_neg q] at eq
      cases A with
      | none => have := h.nil_ rfl; omega
      | some a => simp at eq
  · obtain ⟨g, off, rfl, hc⟩ := h.at_ (by omega)
    refine ⟨g, off + k * size, ?_, fun j v hv => ?_⟩
    · rw [if_neg (by omega)]
      simp [Addr.add]
    · rw [List.getElem?_drop] at hv
      rw [Nat.add_assoc]
      exact hc _ v hv
end Go.Proofs.YtljpnngknmpdoaaDoor
