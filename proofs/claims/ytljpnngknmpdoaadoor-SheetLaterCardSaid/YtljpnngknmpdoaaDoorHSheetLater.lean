/- What it says: 'Rows.SheetLaterCardSaid': for every input trothlaw08.SheetLater answers true, and what came in reads behind the call as before. No condition but that the listed variables read as the program's text lays them, which the card ties. -/
import Derived.Test.YtljpnngknmpdoaaDoorPk3
import Derived.Test.YtljpnngknmpdoaaDoorPk4
import Derived.Test.YtljpnngknmpdoaaDoorPk6
import Derived.Test.YtljpnngknmpdoaaDoorPk7
import Derived.Deep.RegionHeld3
import Derived.Test.YtljpnngknmpdoaaDoorCards
import Derived.Test.YtljpnngknmpdoaaDoorTie
import Derived.SevenTiedAt
import Derived.LaidMore
import Derived.Stop.Joined

set_option linter.unusedSimpArgs false
set_option linter.unusedVariables false
set_option linter.deprecated false
set_option linter.unusedSectionVars false
set_option linter.all false

/- the Go text of trothlaw08.SheetLater answers true, and writes nothing that was there. -/
namespace Go.Proofs.YtljpnngknmpdoaaDoor
open Go.RowKit

section
variable {P : Program} {ops : Array Oper} {Q : Exit → Act → World → Prop} {S : World → Prop} {n : Nat}
/-- The same as Upto.take, behind a guard that says go. -/
theorem Upto.takeG {i : Nat} {oi : Oper} {v : Value} {fuel : Nat} {listed : Array Bool} {a : Act} {w : World} {l rest : List Oper} (hi : l.drop i = oi :: rest) (hc : (tailB l.toArray n && decide (i < n) && headB l.toArray n listed && Region.free .any l.toArray listed i && (Region.ready .any l.toArray listed).contains i) = true)
    (hQ : ∀ c a w, Q (.panic c) (a.put oi.dst v) w → Q (.panic c) a w) (hg : Region.wanted oi (yielded l.toArray a.tmps) = true) (hy : ∀ w, S w → (execOp a.eval oi).run P w = .ok (.value v) w) (hS : S w)
    (h : Upto P l.toArray Q S n fuel (listed.setIfInBounds i true) (a.put oi.dst v) w) : Upto P l.toArray Q S n (fuel + 1) listed a w := by
  have hi := drop_at hi
  simp only [Bool.and_eq_true, decide_eq_true_eq] at hc
  obtain ⟨⟨⟨⟨h1, h2⟩, h3⟩, h4⟩, h5⟩ := hc
  exact upto_first h1 h2 hi hQ fuel listed a w (headB_spec h3) (Region.free_spec hi h4) (by simpa using h5) (.inl ⟨hg, hy⟩) hS h
/-- The same as Upto.law, behind a guard that says go. -/
theorem Upto.lawG {i : Nat} {oi : Oper} {fuel : Nat} {listed : Array Bool} {a : Act} {w : World} {l rest : List Oper} (hi : l.drop i = oi :: rest) (hc : Region.ready .any l.toArray listed = [i]) (hg : Region.wanted oi (yielded l.toArray a.tmps) = true)
    (h : ∀ K : Act → World → Prop, (∀ a' w', S w' → Upto P l.toArray Q S n fuel (listed.setIfInBounds i true) a' w' → K a' w') → oi.wp P a w K Q) : Upto P l.toArray Q S n (fuel + 1) listed a w := by
  have hi := drop_at hi
  refine ⟨fun h0 => (by rw [h0] at hc; cases hc), fun j hj => ?_⟩
  rw [hc] at hj
  have hji : j = i := by simpa using hj
  subst hji
  unfold wpOp
  simp only [hi, hg, if_true]
  exact .inl (h _ fun a' w' hS hU => ⟨fun _ => hS, hU⟩)
end
theorem flatL_drop {α : Type} (f : α → List Value) (k : Nat) (hf : ∀ x, (f x).length = k) (l : List α) (m : Nat) : (l.flatMap f).drop (m * k) = (l.drop m).flatMap f := by
  induction l generalizing m with
  | nil => simp
  | cons x r ih =>
    cases m with
    | zero => simp
    | succ m =>
      rw [List.flatMap_cons, List.drop_succ_cons, List.drop_append, List.drop_of_length_le (by rw [hf, Nat.add_mul]; omega), hf, List.nil_append]
      rw [show (m + 1) * k - k = m * k by rw [Nat.add_mul]; omega, ih]

set_option maxHeartbeats 1000000 in
theorem sheetLater_awake (A : Option Addr) (n c : Nat) (ls : List (List Int)) (A' : Option Addr) (n' c' : Nat) (ms : List (List Int)) (cut : Int) (w : World) (h : BodsE w A n c ls) (h' : BodsE w A' n' c' ms) (hT : Tab w)
    (hg : greatB ls = true ∨ (greatB ls = false ∧ (greatB ms = true ∨ (greatB ms = false ∧ cut < 0)))) :
    Calls Tryd.prog 7 #[.slice A n c, .slice A' n' c', .int .i64 cut] w (Ret (.bool true) w) := by
  obtain ⟨vs, hv⟩ := h.ex
  obtain ⟨us, hu⟩ := h'.ex
  have C := great8_any A n c ls vs w hv
  have C' := great8_any A' n' c' ms us w hu
  have HT := Lib.hid hT
  clear h h' hv hu hT
  rcases hg with hg | ⟨hg, hg2 | ⟨hg2, q1⟩⟩
  · rw [hg] at C
    have C := Lib.hid C
    clear hg C'
    go_enter Tryd.func7, Tryd.ntmps7
    go_wp2_with fail
    refine C.out.mono ?_
    rintro e w0 ⟨rfl, rfl⟩
    go_wp2_with fail
    refine (awake8 w HT.out).mono ?_
    rintro e w1 ⟨rfl, b1⟩
    have B1 := Lib.hid b1
    clear b1
    go_wp2_with fail
    go_ret
    exact ⟨rfl, B1.out⟩
  all_goals
    rw [hg] at C
    rw [hg2] at C'
    have C := Lib.hid C
    have C' := Lib.hid C'
    clear hg hg2
    go_enter Tryd.func7, Tryd.ntmps7
    go_wp2_with fail
    refine C.out.mono ?_
    rintro e w0 ⟨rfl, rfl⟩
    go_wp2_with fail
    refine C'.out.mono ?_
    rintro e w0 ⟨rfl, rfl⟩
    go_wp2_with fail
    refine (awake8 w HT.out).mono ?_
    rintro e w1 ⟨rfl, b1⟩
    have B1 := Lib.hid b1
    clear b1
    go_wp2_with fail
    go_ret
    exact ⟨rfl, B1.out⟩

set_option maxRecDepth 100000 in
set_option maxHeartbeats 8000000 in
theorem sheetLater_main (A : Option Addr) (n c : Nat) (ls : List (List Int)) (A' : Option Addr) (n' c' : Nat) (ms : List (List Int)) (cut : Int) (w : World) (h : BodsE w A n c ls) (h' : BodsE w A' n' c' ms) (hT : Tab w) (hg : greatB ls = false) (hg' : greatB ms = false) (hc : 0 ≤ cut ∧ cut ≤ 9223372036854775807) :
    Calls Tryd.prog 7 #[.slice A n c, .slice A' n' c', .int .i64 cut] w (Ret (.bool true) w) := by
  obtain ⟨vs, hv⟩ := h.ex
  obtain ⟨us, hu⟩ := h'.ex
  obtain ⟨hn40, hb1500⟩ := greatB_no hg
  obtain ⟨hm40, hc1500⟩ := greatB_no hg'
  have hnn : n ≤ 40 := by rw [← hv.len]; exact hn40
  have hnm : n' ≤ 40 := by rw [← hu.len]; exact hm40
  have hisB := hv.isB
  have hisC := hu.isB
  have hok : ∀ b ∈ ls, isB b ∧ b.length ≤ 4096 := fun b hb => ⟨hisB b hb, by have := hb1500 b hb; omega⟩
  have hok' : ∀ b ∈ ms, isB b ∧ b.length ≤ 4096 := fun b hb => ⟨hisC b hb, by have := hc1500 b hb; omega⟩
  obtain ⟨he, hr⟩ := played_err (inc := 1) (pos := 0) hg ⟨by omega, by omega⟩ ⟨by omega, by omega⟩
  have hal := played_len hg
  have hal' := played_len hg'
  have C := great8_any A n c ls vs w hv
  have C' := great8_any A' n' c' ms us w hu
  rw [hg] at C
  rw [hg'] at C'
  have C := Lib.hid C
  have C' := Lib.hid C'
  have HT := Lib.hid hT
  have HV := Lib.hid hv
  have HU := Lib.hid hu
  have CO := Lib.hid (own8_any A n c ls vs w hv (by omega) (fun b hb => by have := hb1500 b hb; omega))
  have HOK := Lib.hid hok
  have HOK' := Lib.hid hok'
  have H1500 := Lib.hid hb1500
  have H1500' := Lib.hid hc1500
  have HB := Lib.hid hisB
  have HC := Lib.hid hisC
  have HE := Lib.hid he
  have HR := Lib.hid hr
  have HG' := Lib.hid hg'
  obtain ⟨q5, q6⟩ := hc
  have t5 : ¬ cut < 0 := by omega
  have hcap := hv.flt.cap
  have hmax := hv.flt.max
  have hcap' := hu.flt.cap
  have hmax' := hu.flt.max
  unfold maxLen at hmax hmax'
  obtain ⟨s0, hs0, hw0, hw1, hw2⟩ := info_parts info_shL
  obtain ⟨j0, hj0, hy0, hy1, hy2⟩ := info_parts info_slJ
  obtain ⟨f0, hf0, hx0, hx1, hx2⟩ := info_parts info_fnd
  clear h h' hv hu hT hg hg' hb1500 hc1500 hn40 hm40 hok hok' he hr hisB hisC
  go_enter Tryd.func7, Tryd.ntmps7
  go_wp2_with fail
  refine C.out.mono ?_
  rintro e w0 ⟨rfl, rfl⟩
  go_wp2_with fail
  refine C'.out.mono ?_
  rintro e w0 ⟨rfl, rfl⟩
  go_wp2_with fail
  refine CO.out.mono ?_
  rintro e w1 ⟨A1, n1, c1, vs1, rfl, hB1, b1⟩
  have hn1 : n1 = n := by rw [← hB1.len, ← HV.out.len]
  subst hn1
  have C1 := lay_any 1 0 A1 n1 c1 ls vs1 w1 hB1 (by omega) ⟨by omega, by omega⟩ ⟨by omega, by omega⟩ (HT.out.ret b1)
  rw [HE.out, HR.out] at C1
  have C1 := Lib.hid C1
  have B1 := Lib.hid b1
  clear hB1 b1 C CO C'
  go_wp2_with fail
  refine C1.out.mono ?_
  rintro e w2 ⟨A2, N, c2, rfl, hS2, b2⟩
  have hN : N = shN (allL ls).length := by rw [← hS2.len, layShs_len]
  have hNb : N ≤ 250 := by rw [hN]; unfold shN; omega
  have B2 := Lib.hid (B1.out.trans (b2.mono B1.out.size))
  have S2 := Lib.hid hS2
  have hcap2 := hS2.flt.cap
  have hmax2 := hS2.flt.max
  unfold maxLen at hmax2
  have HN := Lib.hid hN
  have CO := Lib.hid (own8_any A' n' c' ms us w2 (HU.out.below B2.out) (by omega) (fun b hb => by have := H1500'.out b hb; omega))
  clear hS2 b2 C1 B1 hN
  go_wp2_with fail
  refine CO.out.mono ?_
  rintro e w3 ⟨A3, n3, c3, vs3, rfl, hB3, b3⟩
  have hn3 : n3 = n' := by rw [← hB3.len, ← HU.out.len]
  subst hn3
  have B3 := Lib.hid (B2.out.trans (b3.mono B2.out.size))
  have S3 := Lib.hid (S2.out.below b3)
  obtain ⟨he2, hr2⟩ := played_err (inc := 2) (pos := (N : Int)) HG'.out ⟨by omega, by omega⟩ ⟨by omega, by omega⟩
  have C3 := lay_any 2 (N : Int) A3 n3 c3 ms vs3 w3 hB3 (by omega) ⟨by omega, by omega⟩ ⟨by omega, by omega⟩ (HT.out.ret B3.out)
  rw [he2, hr2] at C3
  have C3 := Lib.hid C3
  clear hB3 b3 CO B2 S2 he2 hr2
  go_wp2_with fail
  refine C3.out.mono ?_
  rintro e w4 ⟨A4, M, c4, rfl, hS4, b4⟩
  have hM : M = shN (allL ms).length := by rw [← hS4.len, layShs_len]
  have hMb : M ≤ 250 := by rw [hM]; unfold shN; omega
  have B4 := Lib.hid (B3.out.trans (b4.mono B3.out.size))
  have S4 := Lib.hid (S3.out.below b4)
  have T4 := Lib.hid hS4
  have hcap4 := hS4.flt.cap
  have hmax4 := hS4.flt.max
  unfold maxLen at hmax4
  clear hS4 b4 C3 B3 S3 hM
  obtain ⟨q, hq⟩ := Int.eq_ofNat_of_zero_le (Int.emod_nonneg cut (show ((N : Int) + 1) ≠ 0 by omega))
  have hqlt : cut % ((N : Int) + 1) < (N : Int) + 1 := Int.emod_lt_of_pos _ (by omega)
  have hq' : cut.tmod ((N : Int) + 1) = (q : Int) := by rw [Int.tmod_eq_emod_of_nonneg q5]; exact hq
  have hqN : q ≤ N := by omega
  clear hqlt
  obtain ⟨hsl, hft⟩ := cutF_h (t := 39) Tryd.underlying39 hs0 S4.out.flt q hqN (q : Int) rfl
  rw [flatL_take Sh.cells 4 Sh.cells_len] at hft
  have HFT := Lib.hid hft
  have hqn : q ≤ shN (allL ls).length := by rw [← HN.out]; exact hqN
  clear hft
  by_cases hqe : q = N
  · have hb : ¬ (q : Int) < (N : Int) := by omega
    have EI : Hid (endsIn ls q n1) := Lib.hid (by rw [hqe, HN.out, ← HV.out.len]; exact endsIn_all ls)
    have hown0 := World.ownsRow_made (base := w4.heap.size) (e := 23) (size := 4) w4 #[] 0 (Nat.le_refl _) (Nat.zero_le _) rfl
    have HF := HFT.out.below ((Below.refl w4.heap.size w4).alloc (Nat.le_refl _) (.cells #[] 23))
    have HL4 := Lib.hid (show Below w.heap.size w w4 from B4.out)
    have T5 := T4
    have hjn : n1 ≤ n1 := Nat.le_refl _
    clear hqe S4 B4 T4 HFT
    have HSI : Hid (∀ x ∈ layShs 1 0 ls, x.In) := Lib.hid (layShs_in ⟨by omega, by omega⟩ (by omega) (by rw [← HN.out]; omega))
    go_wp2_with (at_builtin; refine wpList_append_flt rfl _ _ 39 rfl w4.heap.size 23 s0 _ 4 40 Tryd.underlying39 hs0 hw0 hw1 hw2 (by rfl) (by omega) rfl (by exact hown0) rfl HF (sh_ones _) (by omega) (by omega) (by simp) ?_)
    intro A7 c7 w7 k1 k2
    have bel7 : Below w4.heap.size w4 w7 := ((Below.refl _ _).alloc (Nat.le_refl _) _).grown k2 (by simp) (fun q hq => by simp [Value.ownBlock] at hq; omega)
    have HO7 : Hid (w7.ownsRow w4.heap.size 23 4 (.slice A7 q c7) q (((layShs 1 0 ls).take q).flatMap Sh.cells)) := Lib.hid (by simpa using k1)
    have HF7 := (T5.out.below bel7).flt
    have hbs := bel7.size
    have L7 := Lib.hid bel7
    clear k1 k2 bel7 HF hown0
    (try simp only [Nat.zero_add])
    go_wp2_with (at_builtin; refine wpList_append_flt rfl _ _ 39 rfl w4.heap.size 23 s0 _ 4 40 Tryd.underlying39 hs0 hw0 hw1 hw2 (by rfl) (by omega) rfl (by exact HO7.out) rfl HF7 (sh_ones _) (by omega) (by omega) hbs ?_)
    intro A8 c8 w8 k1 k2
    have bel8 : Below w4.heap.size w4 w8 := L7.out.grown k2 hbs (fun k hk => (HO7.out.lt k hk).1)
    have S8 : Shs w8 A8 (q + M) c8 ((layShs 1 0 ls).take q ++ layShs 2 (N : Int) ms) := ⟨by
      have := Flt.of_own k1
      rw [List.flatMap_append]
      simpa using this, by rw [List.length_append, List.length_take, layShs_len, layShs_len, ← HN.out, Nat.min_eq_left hqN, ← layShs_len 2 (N : Int) ms, T5.out.len], fun x hx => by
      rcases List.mem_append.1 hx with a | a
      · have := HSI.out
        exact this x (List.mem_of_mem_take a)
      · exact T5.out.inn x a⟩
    have B8 := Lib.hid (HL4.out.trans (bel8.mono HL4.out.size))
    have C8 := find_any A8 (q + M) c8 _ w8 S8 (by omega) (fun x hx => by
      rcases List.mem_append.1 hx with a | a
      · exact layShs_242 _ _ _ x (List.mem_of_mem_take a)
      · exact layShs_242 _ _ _ x a) (HT.out.ret B8.out)
    rw [List.map_append, List.map_take, layShs_fd 1 0 HB.out, layShs_fd 2 (N : Int) HC.out] at C8
    have C8 := Lib.hid C8
    have hfl : (found ((laidL ls).take q ++ laidL ms)).map Prod.fst = ls.take n1 ++ ms := found_later HOK.out HOK'.out q n1 hqn EI.out
    obtain ⟨fnd, hfnd⟩ : ∃ f, found ((laidL ls).take q ++ laidL ms) = f := ⟨_, rfl⟩
    rw [hfnd] at hfl C8
    have HFL := Lib.hid hfl
    clear k1 k2 bel8 S8 HO7 HF7 hbs L7 T5 HL4 hfnd hfl
    (try rw [Nat.zero_add])
    go_wp2_with fail
    refine C8.out.mono ?_
    rintro e w9 ⟨A9, n9, c9, rfl, hF9, hl9, _, b9⟩
    have B9 := Lib.hid (B8.out.trans (b9.mono B8.out.size))
    have hlt : (ls.take n1).length = n1 := by rw [List.length_take, HV.out.len]; omega
    have hn9 : n9 = n1 + n3 := by
      rw [← hl9, ← List.length_map (f := Prod.fst), HFL.out, List.length_append, hlt, HU.out.len]
    have hJ9 : n1 ≤ n9 := by omega
    have hJ9i : (n1 : Int) ≤ (n9 : Int) := by omega
    have hJni : (n1 : Int) ≤ (n1 : Int) := by omega
    have hJ0 : (0 : Int) ≤ (n1 : Int) := by omega
    have F9 : Fnds w9 A9 n9 c9 fnd := ⟨hF9, hl9⟩
    obtain ⟨hs1, _⟩ := cutF_h (t := 48) Tryd.underlying48 hf0 hF9 n1 (by omega) (n1 : Int) rfl
    obtain ⟨B10, d10, hs2, hF10⟩ := cutF_l (t := 48) Tryd.underlying48 hf0 hx1 hF9 n1 (by omega) (n1 : Int) rfl
    rw [flatL_drop fndC 2 fndC_len] at hF10
    have F10 : Fnds w9 B10 (n9 - n1) d10 (fnd.drop n1) := ⟨hF10, by rw [List.length_drop, hl9]⟩
    have V9 := HV.out.below B9.out
    obtain ⟨hs3, _⟩ := cutF_h (t := 37) Tryd.underlying37 hj0 V9.flt n1 hjn (n1 : Int) rfl
    have m1 : (fnd.take n1).map Prod.fst = ls.take n1 := by rw [List.map_take, HFL.out, List.take_append_of_le_length (by omega), List.take_of_length_le (by omega)]
    have m2 : (fnd.drop n1).map Prod.fst = ms := by rw [List.map_drop, HFL.out, List.drop_append, List.drop_of_length_le (by omega), hlt, Nat.sub_self, List.drop_zero, List.nil_append]
    have C10 := Lib.hid (fun W (hb : Below w9.heap.size w9 W) => bodies_yes A9 n1 c9 A n1 c _ _ _ W ((F9.take n1 (by omega)).below hb) ((V9.take n1 hjn).below hb) m1)
    have C11 := Lib.hid (fun W (hb : Below w9.heap.size w9 W) => bodies_yes B10 (n9 - n1) d10 A' n3 c' _ _ _ W (F10.below hb) ((HU.out.below B9.out).below hb) m2)
    have C12 := Lib.hid (fun W (hb : Below w9.heap.size w9 W) => awake8 W (HT.out.ret (B9.out.trans (hb.mono B9.out.size))))
    have R9 := Lib.hid (Below.refl w9.heap.size w9)
    have hsum : (n1 : Int) + (n3 : Int) = (n9 : Int) := by omega
    have hn9b : n9 ≤ 100 := by omega
    have hwr : IntKind.i64.wrap (n9 : Int) = (n9 : Int) := by rw [IntKind.wrap_i64]; omega
    have hcap9 := hF9.cap
    have hmax9 := hF9.max
    unfold maxLen at hmax9
    clear hF9 hl9 b9 C8 B8 F9 hF10 F10 V9 m1 m2 hlt EI hn9
    go_wp2_with fail
    refine wp_region_noPanic ?_
    refine upto_start (fun _ => True) 26 (by kernel_rfl) ?_
    change Upto _ _ _ _ _ 27 _ _ _
    refine Upto.take (i := 0) (v := ?_) rfl (by kernel_rfl) (fun _ _ _ h => h) rfl (fun w' hS => ?_) trivial ?_
    rotate_left
    · go_simp; (try with_reducible rfl)
    simp only [Act.put, List.setIfInBounds_toArray, List.set_cons_zero, List.set_cons_succ]
    refine Upto.take (i := 1) (v := ?_) rfl (by kernel_rfl) (fun _ _ _ h => h) rfl (fun w' hS => ?_) trivial ?_
    rotate_left
    · go_simp; (try with_reducible rfl)
    simp only [Act.put, List.setIfInBounds_toArray, List.set_cons_zero, List.set_cons_succ]
    refine Upto.take (i := 2) (v := ?_) rfl (by kernel_rfl) (fun _ _ _ h => h) rfl (fun w' hS => ?_) trivial ?_
    rotate_left
    · go_simp; (try with_reducible rfl)
    simp only [Act.put, List.setIfInBounds_toArray, List.set_cons_zero, List.set_cons_succ]
    refine Upto.take (i := 3) (v := ?_) rfl (by kernel_rfl) (fun _ _ _ h => h) rfl (fun w' hS => ?_) trivial ?_
    rotate_left
    · go_simp; (try with_reducible rfl)
    simp only [Act.put, List.setIfInBounds_toArray, List.set_cons_zero, List.set_cons_succ]
    refine Upto.take (i := 4) (v := ?_) rfl (by kernel_rfl) (fun _ _ _ h => h) rfl (fun w' hS => ?_) trivial ?_
    rotate_left
    · go_simp; (try with_reducible rfl)
    simp only [Act.put, List.setIfInBounds_toArray, List.set_cons_zero, List.set_cons_succ]
    refine Upto.take (i := 5) (v := ?_) rfl (by kernel_rfl) (fun _ _ _ h => h) rfl (fun w' hS => ?_) trivial ?_
    rotate_left
    · go_simp; (try with_reducible rfl)
    simp only [Act.put, List.setIfInBounds_toArray, List.set_cons_zero, List.set_cons_succ]
    refine Upto.take (i := 6) (v := .bool true) rfl (by kernel_rfl) (fun _ _ _ h => h) rfl (fun w' hS => ?_) trivial ?_
    · go_simp; (try simp)
    simp only [Act.put, List.setIfInBounds_toArray, List.set_cons_zero, List.set_cons_succ]
    refine Upto.take (i := 7) (v := ?_) rfl (by kernel_rfl) (fun _ _ _ h => h) rfl (fun w' hS => ?_) trivial ?_
    rotate_left
    · go_simp; (try with_reducible rfl)
    simp only [Act.put, List.setIfInBounds_toArray, List.set_cons_zero, List.set_cons_succ]
    refine Upto.takeG (i := 8) (v := ?_) rfl (by kernel_rfl) (fun _ _ _ h => h) (by rfl) (fun w' hS => ?_) trivial ?_
    rotate_left
    · go_simp; (try with_reducible rfl)
    simp only [Act.put, List.setIfInBounds_toArray, List.set_cons_zero, List.set_cons_succ]
    refine Upto.takeG (i := 9) (v := ?_) rfl (by kernel_rfl) (fun _ _ _ h => h) (by rfl) (fun w' hS => ?_) trivial ?_
    rotate_left
    · go_simp; (try with_reducible rfl)
    simp only [Act.put, List.setIfInBounds_toArray, List.set_cons_zero, List.set_cons_succ]
    refine Upto.takeG (i := 10) (v := ?_) rfl (by kernel_rfl) (fun _ _ _ h => h) (by rfl) (fun w' hS => ?_) trivial ?_
    rotate_left
    · go_simp; (try with_reducible rfl)
    simp only [Act.put, List.setIfInBounds_toArray, List.set_cons_zero, List.set_cons_succ]
    refine Upto.takeG (i := 11) (v := ?_) rfl (by kernel_rfl) (fun _ _ _ h => h) (by rfl) (fun w' hS => ?_) trivial ?_
    rotate_left
    · go_simp; (try with_reducible rfl)
    simp only [Act.put, List.setIfInBounds_toArray, List.set_cons_zero, List.set_cons_succ]
    refine Upto.takeG (i := 12) (v := ?_) rfl (by kernel_rfl) (fun _ _ _ h => h) (by rfl) (fun w' hS => ?_) trivial ?_
    rotate_left
    · go_simp; (try with_reducible rfl)
    simp only [Act.put, List.setIfInBounds_toArray, List.set_cons_zero, List.set_cons_succ]
    refine Upto.takeG (i := 13) (v := ?_) rfl (by kernel_rfl) (fun _ _ _ h => h) (by rfl) (fun w' hS => ?_) trivial ?_
    rotate_left
    · go_simp; (try with_reducible rfl)
    simp only [Act.put, List.setIfInBounds_toArray, List.set_cons_zero, List.set_cons_succ]
    refine Upto.lawG (i := 14) rfl (by kernel_rfl) (by rfl) (fun K hK => ?_)
    refine wp_enter (f := 22) (args := #[.slice A9 n1 c9, .slice A n1 c]) (by go_simp) (C10.out _ (below_drewN R9.out 1)) ?_
    rintro e w10 ⟨rfl, k10, rfl⟩
    refine ⟨_, rfl, hK _ _ trivial ?_⟩
    clear hK
    simp only [Act.put, List.setIfInBounds_toArray, List.set_cons_zero, List.set_cons_succ]
    refine Upto.take (i := 15) (v := ?_) rfl (by kernel_rfl) (fun _ _ _ h => h) rfl (fun w' hS => ?_) trivial ?_
    rotate_left
    · go_simp; (try with_reducible rfl)
    simp only [Act.put, List.setIfInBounds_toArray, List.set_cons_zero, List.set_cons_succ]
    refine Upto.take (i := 16) (v := ?_) rfl (by kernel_rfl) (fun _ _ _ h => h) rfl (fun w' hS => ?_) trivial ?_
    rotate_left
    · go_simp; (try with_reducible rfl)
    simp only [Act.put, List.setIfInBounds_toArray, List.set_cons_zero, List.set_cons_succ]
    refine Upto.takeG (i := 17) (v := ?_) rfl (by kernel_rfl) (fun _ _ _ h => h) (by rfl) (fun w' hS => ?_) trivial ?_
    rotate_left
    · go_simp; (try with_reducible rfl)
    simp only [Act.put, List.setIfInBounds_toArray, List.set_cons_zero, List.set_cons_succ]
    refine Upto.takeG (i := 18) (v := ?_) rfl (by kernel_rfl) (fun _ _ _ h => h) (by rfl) (fun w' hS => ?_) trivial ?_
    rotate_left
    · go_simp; (try with_reducible rfl)
    simp only [Act.put, List.setIfInBounds_toArray, List.set_cons_zero, List.set_cons_succ]
    refine Upto.takeG (i := 19) (v := ?_) rfl (by kernel_rfl) (fun _ _ _ h => h) (by rfl) (fun w' hS => ?_) trivial ?_
    rotate_left
    · go_simp; (try with_reducible rfl)
    simp only [Act.put, List.setIfInBounds_toArray, List.set_cons_zero, List.set_cons_succ]
    refine Upto.takeG (i := 20) (v := ?_) rfl (by kernel_rfl) (fun _ _ _ h => h) (by rfl) (fun w' hS => ?_) trivial ?_
    rotate_left
    · go_simp; (try with_reducible rfl)
    simp only [Act.put, List.setIfInBounds_toArray, List.set_cons_zero, List.set_cons_succ]
    refine Upto.lawG (i := 21) rfl (by kernel_rfl) (by rfl) (fun K hK => ?_)
    refine wp_enter (f := 22) (args := #[.slice B10 (n9 - n1) d10, .slice A' n3 c']) (by go_simp) (C11.out _ (below_drewN (below_drewN R9.out 1) k10)) ?_
    rintro e w11 ⟨rfl, k11, rfl⟩
    refine ⟨_, rfl, hK _ _ trivial ?_⟩
    clear hK
    simp only [Act.put, List.setIfInBounds_toArray, List.set_cons_zero, List.set_cons_succ]
    refine Upto.take (i := 22) (v := ?_) rfl (by kernel_rfl) (fun _ _ _ h => h) rfl (fun w' hS => ?_) trivial ?_
    rotate_left
    · go_simp; (try with_reducible rfl)
    simp only [Act.put, List.setIfInBounds_toArray, List.set_cons_zero, List.set_cons_succ]
    refine Upto.take (i := 23) (v := ?_) rfl (by kernel_rfl) (fun _ _ _ h => h) rfl (fun w' hS => ?_) trivial ?_
    rotate_left
    · go_simp; (try with_reducible rfl)
    simp only [Act.put, List.setIfInBounds_toArray, List.set_cons_zero, List.set_cons_succ]
    refine Upto.lawG (i := 24) rfl (by kernel_rfl) (by rfl) (fun K hK => ?_)
    refine wp_enter (f := 8) (args := #[]) (by go_simp) (C12.out _ (below_drewN (below_drewN (below_drewN R9.out 1) k10) k11)) ?_
    rintro e w12 ⟨rfl, b12⟩
    have HL12 := Lib.hid ((below_drewN (below_drewN (below_drewN B9.out 1) k10) k11).trans (b12.mono (below_drewN (below_drewN (below_drewN B9.out 1) k10) k11).size))
    clear b12
    refine ⟨_, rfl, hK _ _ trivial ?_⟩
    clear hK
    simp only [Act.put, List.setIfInBounds_toArray, List.set_cons_zero, List.set_cons_succ]
    refine Upto.take (i := 25) (v := ?_) rfl (by kernel_rfl) (fun _ _ _ h => h) rfl (fun w' hS => ?_) trivial ?_
    rotate_left
    · go_simp; (try with_reducible rfl)
    simp only [Act.put, List.setIfInBounds_toArray, List.set_cons_zero, List.set_cons_succ]
    refine Upto.tail rfl (by kernel_rfl) ?_
    simp only [List.drop_succ_cons, List.drop_zero]
    go_wp2_with fail
    refine NoPanic.normal ?_
    go_wp2_with fail
    go_ret
    exact ⟨rfl, HL12.out⟩
  · have hb : (q : Int) < (N : Int) := by omega
    have C6 := Lib.hid (ended_any A n1 c ls vs w4 (HV.out.below B4.out) (by omega) H1500.out q (by omega))
    clear hqe
    go_wp2_with fail
    refine C6.out.mono ?_
    rintro e w6 ⟨j, rfl, hEI, hw6⟩
    subst hw6
    have hjn : j ≤ n1 := by have := hEI.1; rw [HV.out.len] at this; exact this
    have EI := Lib.hid hEI
    have hown0 := World.ownsRow_made (base := w4.heap.size) (e := 23) (size := 4) w4 #[] 0 (Nat.le_refl _) (Nat.zero_le _) rfl
    have HF := HFT.out.below ((Below.refl w4.heap.size w4).alloc (Nat.le_refl _) (.cells #[] 23))
    have HL4 := Lib.hid (show Below w.heap.size w w4 from B4.out)
    have T5 := T4
    clear hEI C6 S4 B4 T4 HFT
    have HSI : Hid (∀ x ∈ layShs 1 0 ls, x.In) := Lib.hid (layShs_in ⟨by omega, by omega⟩ (by omega) (by rw [← HN.out]; omega))
    go_wp2_with (at_builtin; refine wpList_append_flt rfl _ _ 39 rfl w4.heap.size 23 s0 _ 4 40 Tryd.underlying39 hs0 hw0 hw1 hw2 (by rfl) (by omega) rfl (by exact hown0) rfl HF (sh_ones _) (by omega) (by omega) (by simp) ?_)
    intro A7 c7 w7 k1 k2
    have bel7 : Below w4.heap.size w4 w7 := ((Below.refl _ _).alloc (Nat.le_refl _) _).grown k2 (by simp) (fun q hq => by simp [Value.ownBlock] at hq; omega)
    have HO7 : Hid (w7.ownsRow w4.heap.size 23 4 (.slice A7 q c7) q (((layShs 1 0 ls).take q).flatMap Sh.cells)) := Lib.hid (by simpa using k1)
    have HF7 := (T5.out.below bel7).flt
    have hbs := bel7.size
    have L7 := Lib.hid bel7
    clear k1 k2 bel7 HF hown0
    (try simp only [Nat.zero_add])
    go_wp2_with (at_builtin; refine wpList_append_flt rfl _ _ 39 rfl w4.heap.size 23 s0 _ 4 40 Tryd.underlying39 hs0 hw0 hw1 hw2 (by rfl) (by omega) rfl (by exact HO7.out) rfl HF7 (sh_ones _) (by omega) (by omega) hbs ?_)
    intro A8 c8 w8 k1 k2
    have bel8 : Below w4.heap.size w4 w8 := L7.out.grown k2 hbs (fun k hk => (HO7.out.lt k hk).1)
    have S8 : Shs w8 A8 (q + M) c8 ((layShs 1 0 ls).take q ++ layShs 2 (N : Int) ms) := ⟨by
      have := Flt.of_own k1
      rw [List.flatMap_append]
      simpa using this, by rw [List.length_append, List.length_take, layShs_len, layShs_len, ← HN.out, Nat.min_eq_left hqN, ← layShs_len 2 (N : Int) ms, T5.out.len], fun x hx => by
      rcases List.mem_append.1 hx with a | a
      · have := HSI.out
        exact this x (List.mem_of_mem_take a)
      · exact T5.out.inn x a⟩
    have B8 := Lib.hid (HL4.out.trans (bel8.mono HL4.out.size))
    have C8 := find_any A8 (q + M) c8 _ w8 S8 (by omega) (fun x hx => by
      rcases List.mem_append.1 hx with a | a
      · exact layShs_242 _ _ _ x (List.mem_of_mem_take a)
      · exact layShs_242 _ _ _ x a) (HT.out.ret B8.out)
    rw [List.map_append, List.map_take, layShs_fd 1 0 HB.out, layShs_fd 2 (N : Int) HC.out] at C8
    have C8 := Lib.hid C8
    have hfl : (found ((laidL ls).take q ++ laidL ms)).map Prod.fst = ls.take j ++ ms := found_later HOK.out HOK'.out q j hqn EI.out
    obtain ⟨fnd, hfnd⟩ : ∃ f, found ((laidL ls).take q ++ laidL ms) = f := ⟨_, rfl⟩
    rw [hfnd] at hfl C8
    have HFL := Lib.hid hfl
    clear k1 k2 bel8 S8 HO7 HF7 hbs L7 T5 HL4 hfnd hfl
    (try rw [Nat.zero_add])
    go_wp2_with fail
    refine C8.out.mono ?_
    rintro e w9 ⟨A9, n9, c9, rfl, hF9, hl9, _, b9⟩
    have B9 := Lib.hid (B8.out.trans (b9.mono B8.out.size))
    have hlt : (ls.take j).length = j := by rw [List.length_take, HV.out.len]; omega
    have hn9 : n9 = j + n3 := by
      rw [← hl9, ← List.length_map (f := Prod.fst), HFL.out, List.length_append, hlt, HU.out.len]
    have hJ9 : j ≤ n9 := by omega
    have hJ9i : (j : Int) ≤ (n9 : Int) := by omega
    have hJni : (j : Int) ≤ (n1 : Int) := by omega
    have hJ0 : (0 : Int) ≤ (j : Int) := by omega
    have F9 : Fnds w9 A9 n9 c9 fnd := ⟨hF9, hl9⟩
    obtain ⟨hs1, _⟩ := cutF_h (t := 48) Tryd.underlying48 hf0 hF9 j (by omega) (j : Int) rfl
    obtain ⟨B10, d10, hs2, hF10⟩ := cutF_l (t := 48) Tryd.underlying48 hf0 hx1 hF9 j (by omega) (j : Int) rfl
    rw [flatL_drop fndC 2 fndC_len] at hF10
    have F10 : Fnds w9 B10 (n9 - j) d10 (fnd.drop j) := ⟨hF10, by rw [List.length_drop, hl9]⟩
    have V9 := HV.out.below B9.out
    obtain ⟨hs3, _⟩ := cutF_h (t := 37) Tryd.underlying37 hj0 V9.flt j hjn (j : Int) rfl
    have m1 : (fnd.take j).map Prod.fst = ls.take j := by rw [List.map_take, HFL.out, List.take_append_of_le_length (by omega), List.take_of_length_le (by omega)]
    have m2 : (fnd.drop j).map Prod.fst = ms := by rw [List.map_drop, HFL.out, List.drop_append, List.drop_of_length_le (by omega), hlt, Nat.sub_self, List.drop_zero, List.nil_append]
    have C10 := Lib.hid (fun W (hb : Below w9.heap.size w9 W) => bodies_yes A9 j c9 A j c _ _ _ W ((F9.take j (by omega)).below hb) ((V9.take j hjn).below hb) m1)
    have C11 := Lib.hid (fun W (hb : Below w9.heap.size w9 W) => bodies_yes B10 (n9 - j) d10 A' n3 c' _ _ _ W (F10.below hb) ((HU.out.below B9.out).below hb) m2)
    have C12 := Lib.hid (fun W (hb : Below w9.heap.size w9 W) => awake8 W (HT.out.ret (B9.out.trans (hb.mono B9.out.size))))
    have R9 := Lib.hid (Below.refl w9.heap.size w9)
    have hsum : (j : Int) + (n3 : Int) = (n9 : Int) := by omega
    have hn9b : n9 ≤ 100 := by omega
    have hwr : IntKind.i64.wrap (n9 : Int) = (n9 : Int) := by rw [IntKind.wrap_i64]; omega
    have hcap9 := hF9.cap
    have hmax9 := hF9.max
    unfold maxLen at hmax9
    clear hF9 hl9 b9 C8 B8 F9 hF10 F10 V9 m1 m2 hlt EI hn9
    go_wp2_with fail
    refine wp_region_noPanic ?_
    refine upto_start (fun _ => True) 26 (by kernel_rfl) ?_
    change Upto _ _ _ _ _ 27 _ _ _
    refine Upto.take (i := 0) (v := ?_) rfl (by kernel_rfl) (fun _ _ _ h => h) rfl (fun w' hS => ?_) trivial ?_
    rotate_left
    · go_simp; (try with_reducible rfl)
    simp only [Act.put, List.setIfInBounds_toArray, List.set_cons_zero, List.set_cons_succ]
    refine Upto.take (i := 1) (v := ?_) rfl (by kernel_rfl) (fun _ _ _ h => h) rfl (fun w' hS => ?_) trivial ?_
    rotate_left
    · go_simp; (try with_reducible rfl)
    simp only [Act.put, List.setIfInBounds_toArray, List.set_cons_zero, List.set_cons_succ]
    refine Upto.take (i := 2) (v := ?_) rfl (by kernel_rfl) (fun _ _ _ h => h) rfl (fun w' hS => ?_) trivial ?_
    rotate_left
    · go_simp; (try with_reducible rfl)
    simp only [Act.put, List.setIfInBounds_toArray, List.set_cons_zero, List.set_cons_succ]
    refine Upto.take (i := 3) (v := ?_) rfl (by kernel_rfl) (fun _ _ _ h => h) rfl (fun w' hS => ?_) trivial ?_
    rotate_left
    · go_simp; (try with_reducible rfl)
    simp only [Act.put, List.setIfInBounds_toArray, List.set_cons_zero, List.set_cons_succ]
    refine Upto.take (i := 4) (v := ?_) rfl (by kernel_rfl) (fun _ _ _ h => h) rfl (fun w' hS => ?_) trivial ?_
    rotate_left
    · go_simp; (try with_reducible rfl)
    simp only [Act.put, List.setIfInBounds_toArray, List.set_cons_zero, List.set_cons_succ]
    refine Upto.take (i := 5) (v := ?_) rfl (by kernel_rfl) (fun _ _ _ h => h) rfl (fun w' hS => ?_) trivial ?_
    rotate_left
    · go_simp; (try with_reducible rfl)
    simp only [Act.put, List.setIfInBounds_toArray, List.set_cons_zero, List.set_cons_succ]
    refine Upto.take (i := 6) (v := .bool true) rfl (by kernel_rfl) (fun _ _ _ h => h) rfl (fun w' hS => ?_) trivial ?_
    · go_simp; (try simp)
    simp only [Act.put, List.setIfInBounds_toArray, List.set_cons_zero, List.set_cons_succ]
    refine Upto.take (i := 7) (v := ?_) rfl (by kernel_rfl) (fun _ _ _ h => h) rfl (fun w' hS => ?_) trivial ?_
    rotate_left
    · go_simp; (try with_reducible rfl)
    simp only [Act.put, List.setIfInBounds_toArray, List.set_cons_zero, List.set_cons_succ]
    refine Upto.takeG (i := 8) (v := ?_) rfl (by kernel_rfl) (fun _ _ _ h => h) (by rfl) (fun w' hS => ?_) trivial ?_
    rotate_left
    · go_simp; (try with_reducible rfl)
    simp only [Act.put, List.setIfInBounds_toArray, List.set_cons_zero, List.set_cons_succ]
    refine Upto.takeG (i := 9) (v := ?_) rfl (by kernel_rfl) (fun _ _ _ h => h) (by rfl) (fun w' hS => ?_) trivial ?_
    rotate_left
    · go_simp; (try with_reducible rfl)
    simp only [Act.put, List.setIfInBounds_toArray, List.set_cons_zero, List.set_cons_succ]
    refine Upto.takeG (i := 10) (v := ?_) rfl (by kernel_rfl) (fun _ _ _ h => h) (by rfl) (fun w' hS => ?_) trivial ?_
    rotate_left
    · go_simp; (try with_reducible rfl)
    simp only [Act.put, List.setIfInBounds_toArray, List.set_cons_zero, List.set_cons_succ]
    refine Upto.takeG (i := 11) (v := ?_) rfl (by kernel_rfl) (fun _ _ _ h => h) (by rfl) (fun w' hS => ?_) trivial ?_
    rotate_left
    · go_simp; (try with_reducible rfl)
    simp only [Act.put, List.setIfInBounds_toArray, List.set_cons_zero, List.set_cons_succ]
    refine Upto.takeG (i := 12) (v := ?_) rfl (by kernel_rfl) (fun _ _ _ h => h) (by rfl) (fun w' hS => ?_) trivial ?_
    rotate_left
    · go_simp; (try with_reducible rfl)
    simp only [Act.put, List.setIfInBounds_toArray, List.set_cons_zero, List.set_cons_succ]
    refine Upto.takeG (i := 13) (v := ?_) rfl (by kernel_rfl) (fun _ _ _ h => h) (by rfl) (fun w' hS => ?_) trivial ?_
    rotate_left
    · go_simp; (try with_reducible rfl)
    simp only [Act.put, List.setIfInBounds_toArray, List.set_cons_zero, List.set_cons_succ]
    refine Upto.lawG (i := 14) rfl (by kernel_rfl) (by rfl) (fun K hK => ?_)
    refine wp_enter (f := 22) (args := #[.slice A9 j c9, .slice A j c]) (by go_simp) (C10.out _ (below_drewN R9.out 1)) ?_
    rintro e w10 ⟨rfl, k10, rfl⟩
    refine ⟨_, rfl, hK _ _ trivial ?_⟩
    clear hK
    simp only [Act.put, List.setIfInBounds_toArray, List.set_cons_zero, List.set_cons_succ]
    refine Upto.take (i := 15) (v := ?_) rfl (by kernel_rfl) (fun _ _ _ h => h) rfl (fun w' hS => ?_) trivial ?_
    rotate_left
    · go_simp; (try with_reducible rfl)
    simp only [Act.put, List.setIfInBounds_toArray, List.set_cons_zero, List.set_cons_succ]
    refine Upto.take (i := 16) (v := ?_) rfl (by kernel_rfl) (fun _ _ _ h => h) rfl (fun w' hS => ?_) trivial ?_
    rotate_left
    · go_simp; (try with_reducible rfl)
    simp only [Act.put, List.setIfInBounds_toArray, List.set_cons_zero, List.set_cons_succ]
    refine Upto.takeG (i := 17) (v := ?_) rfl (by kernel_rfl) (fun _ _ _ h => h) (by rfl) (fun w' hS => ?_) trivial ?_
    rotate_left
    · go_simp; (try with_reducible rfl)
    simp only [Act.put, List.setIfInBounds_toArray, List.set_cons_zero, List.set_cons_succ]
    refine Upto.takeG (i := 18) (v := ?_) rfl (by kernel_rfl) (fun _ _ _ h => h) (by rfl) (fun w' hS => ?_) trivial ?_
    rotate_left
    · go_simp; (try with_reducible rfl)
    simp only [Act.put, List.setIfInBounds_toArray, List.set_cons_zero, List.set_cons_succ]
    refine Upto.takeG (i := 19) (v := ?_) rfl (by kernel_rfl) (fun _ _ _ h => h) (by rfl) (fun w' hS => ?_) trivial ?_
    rotate_left
    · go_simp; (try with_reducible rfl)
    simp only [Act.put, List.setIfInBounds_toArray, List.set_cons_zero, List.set_cons_succ]
    refine Upto.takeG (i := 20) (v := ?_) rfl (by kernel_rfl) (fun _ _ _ h => h) (by rfl) (fun w' hS => ?_) trivial ?_
    rotate_left
    · go_simp; (try with_reducible rfl)
    simp only [Act.put, List.setIfInBounds_toArray, List.set_cons_zero, List.set_cons_succ]
    refine Upto.lawG (i := 21) rfl (by kernel_rfl) (by rfl) (fun K hK => ?_)
    refine wp_enter (f := 22) (args := #[.slice B10 (n9 - j) d10, .slice A' n3 c']) (by go_simp) (C11.out _ (below_drewN (below_drewN R9.out 1) k10)) ?_
    rintro e w11 ⟨rfl, k11, rfl⟩
    refine ⟨_, rfl, hK _ _ trivial ?_⟩
    clear hK
    simp only [Act.put, List.setIfInBounds_toArray, List.set_cons_zero, List.set_cons_succ]
    refine Upto.take (i := 22) (v := ?_) rfl (by kernel_rfl) (fun _ _ _ h => h) rfl (fun w' hS => ?_) trivial ?_
    rotate_left
    · go_simp; (try with_reducible rfl)
    simp only [Act.put, List.setIfInBounds_toArray, List.set_cons_zero, List.set_cons_succ]
    refine Upto.take (i := 23) (v := ?_) rfl (by kernel_rfl) (fun _ _ _ h => h) rfl (fun w' hS => ?_) trivial ?_
    rotate_left
    · go_simp; (try with_reducible rfl)
    simp only [Act.put, List.setIfInBounds_toArray, List.set_cons_zero, List.set_cons_succ]
    refine Upto.lawG (i := 24) rfl (by kernel_rfl) (by rfl) (fun K hK => ?_)
    refine wp_enter (f := 8) (args := #[]) (by go_simp) (C12.out _ (below_drewN (below_drewN (below_drewN R9.out 1) k10) k11)) ?_
    rintro e w12 ⟨rfl, b12⟩
    have HL12 := Lib.hid ((below_drewN (below_drewN (below_drewN B9.out 1) k10) k11).trans (b12.mono (below_drewN (below_drewN (below_drewN B9.out 1) k10) k11).size))
    clear b12
    refine ⟨_, rfl, hK _ _ trivial ?_⟩
    clear hK
    simp only [Act.put, List.setIfInBounds_toArray, List.set_cons_zero, List.set_cons_succ]
    refine Upto.take (i := 25) (v := ?_) rfl (by kernel_rfl) (fun _ _ _ h => h) rfl (fun w' hS => ?_) trivial ?_
    rotate_left
    · go_simp; (try with_reducible rfl)
    simp only [Act.put, List.setIfInBounds_toArray, List.set_cons_zero, List.set_cons_succ]
    refine Upto.tail rfl (by kernel_rfl) ?_
    simp only [List.drop_succ_cons, List.drop_zero]
    go_wp2_with fail
    refine NoPanic.normal ?_
    go_wp2_with fail
    go_ret
    exact ⟨rfl, HL12.out⟩

theorem sheetLater_walk (A : Option Addr) (n c : Nat) (ls : List (List Int)) (A' : Option Addr) (n' c' : Nat) (ms : List (List Int)) (cut : Int) (w : World) (h : BodsE w A n c ls) (h' : BodsE w A' n' c' ms)
    (hcut : -9223372036854775808 ≤ cut ∧ cut ≤ 9223372036854775807) (hT : Tab w) :
    Calls Tryd.prog 7 #[.slice A n c, .slice A' n' c', .int .i64 cut] w (Ret (.bool true) w) := by
  cases hg : greatB ls with
  | true => exact sheetLater_awake A n c ls A' n' c' ms cut w h h' hT (.inl hg)
  | false =>
    cases hg' : greatB ms with
    | true => exact sheetLater_awake A n c ls A' n' c' ms cut w h h' hT (.inr ⟨hg, .inl hg'⟩)
    | false =>
      by_cases hm : 0 ≤ cut
      · exact sheetLater_main A n c ls A' n' c' ms cut w h h' hT hg hg' ⟨hm, hcut.2⟩
      · exact sheetLater_awake A n c ls A' n' c' ms cut w h h' hT (.inr ⟨hg, .inr ⟨hg', by omega⟩⟩)
end Go.Proofs.YtljpnngknmpdoaaDoor

/- 'Rows.SheetLaterCardSaid': for every input trothlaw08.SheetLater answers true, and what came in reads behind the call as before. No condition but that the listed variables read as the program's text lays them, which the card ties. -/
namespace Go.Proofs.YtljpnngknmpdoaaDoor
open Go.ChangeShapes Go.WideShapes Go.ChangeAt Go.RowKit

theorem sheetLater_door (os : Os) (args : Array Value) : laidMetH Tryd.prog Rows.sheetLaterRow.laid ((World.doorLaid Tryd.prog 14 os).forCall (fun _ _ => 0) ⟨#[], args, []⟩).memory :=
  laidMetH_of_parts3 (fuel := 8) (laidMet_of_run' 8 (by kernel_rfl) (by kernel_rfl)) (by kernel_rfl) (by kernel_rfl)

set_option maxRecDepth 100000 in
theorem sheetLater_lifted (os : Os) (started : os.Started) (H : Type) (enc : TypeId × Value → H) :
    ReturnsInHanded {} Tryd.checked os 7 .any (fun w args => (Rows.sheetLaterSpec.pre enc Tryd.prog Tryd.f7 Rows.sheetLaterRow.domain false w args ∧ laidMetH Tryd.prog Rows.sheetLaterRow.laid w) ∧ sizedMet enc Tryd.prog Tryd.f7 (OpenSpec.ofChange Rows.sheetLaterSpec) false w args)
      (Rows.sheetLaterSpec.post enc Tryd.prog Tryd.f7 false true false false) := by
  refine returnsInHanded_of_change_and (C := Tryd.checked) (X := fun w _ => laidMetH Tryd.prog Rows.sheetLaterRow.laid w) (fun _ _ _ hh h => h.of_heap hh) own_knob started (by kernel_rfl) Tryd.func7
    (ChangeSpec.witness_shaped (enc := enc) (C := Tryd.checked) (os := os) (X := fun w _ => laidMetH Tryd.prog Rows.sheetLaterRow.laid w) false (World.doorLaid Tryd.prog 14 os) #[.slice none 0 0, .slice none 0 0, .int .i64 0] 8 rfl (World.shaped_of_RefB (by kernel_rfl) (by kernel_rfl)) (by kernel_rfl) (by kernel_rfl) (by kernel_rfl) (sheetLater_door os _)) ?_
  intro W base args ds gs before hval0 hW _ hsz0 hL _
  have hval : ∀ (j : Nat) t v, Tryd.f7.params[j]? = some t → args[j]? = some v → Value.okWide Tryd.prog W .any base t v := hval0
  have hW' := hW
  obtain ⟨p, q, hA0, hV, rfl, hfz, hnd⟩ := hW
  have hA : DataW.TrodAll enc Tryd.prog W 0 (fun _ => true) true Tryd.f7.params.toList args.toList ds p := hA0
  rw [Tryd.params7] at hA hval
  obtain ⟨v0, vs0, d0, ds0, p0, q0, hargs, rfl, rfl, h0, r0⟩ := trodAll_cons hA
  obtain ⟨v1, vs1, d1, ds1, p1, q1, rfl, rfl, rfl, h1, r1⟩ := trodAll_cons r0
  obtain ⟨v2, vs2, d2, ds2, p2, q2, rfl, rfl, rfl, h2, r2⟩ := trodAll_cons r1
  obtain ⟨rfl, rfl, rfl⟩ := trodAll_nil r2
  obtain rfl : args = #[v0, v1, v2] := by cases args; simp_all
  obtain ⟨rfl, rfl⟩ := trodVars_none hV
  obtain ⟨a0, n0, c0, rfl⟩ := okWide_slice Tryd.underlying37 (hval 0 37 v0 rfl rfl)
  have k0 := h0
  have lt0 : ∀ x ∈ p0, x.block < W.heap.size := by obtain ⟨m, hm⟩ := k0; exact DataW.trod_lt m _ _ _ hm
  obtain ⟨l0, b0⟩ := open_bods h0
  obtain ⟨a1, n1, c1, rfl⟩ := okWide_slice Tryd.underlying37 (hval 1 37 v1 rfl rfl)
  have k1 := h1
  have lt1 : ∀ x ∈ p1, x.block < W.heap.size := by obtain ⟨m, hm⟩ := k1; exact DataW.trod_lt m _ _ _ hm
  obtain ⟨l1, b1⟩ := open_bods h1
  obtain ⟨a2, rfl, rfl, rfl, w2⟩ := open_int Tryd.underlying3 (hval 2 3 v2 rfl rfl) h2
  have g2 := i64_bd w2
  clear hA0 hval0 hsz0
  refine (sheetLater_walk a0 n0 c0 l0 a1 n1 c1 l1 a2 W b0 b1 g2 (tab_of_laid hL)).mono fun e W' ⟨he, bel⟩ => ?_
  subst he
  exact ⟨_, rfl, _, _, _, [], _, [], hW', trodAll_mk1 (shut_bool Tryd.underlying4 _), (trodAll_cons_mk (Below.trod laidOut (by kernel_rfl) (of_decide_eq_true (by kernel_rfl)) k0 bel lt0) (trodAll_cons_mk (Below.trod laidOut (by kernel_rfl) (of_decide_eq_true (by kernel_rfl)) k1 bel lt1) (trodAll_cons_mk (shut_int Tryd.underlying3 w2) trodAll_mk0))), rfl, bel.frame _, fun h => by cases h⟩

/-- The row. -/
theorem sheetLater_holds : Rows.SheetLaterSaid :=
  OpenClaim.holds_of_wide 7 Tryd.f7 rfl rfl rfl rfl rfl rfl rfl ⟨rfl, rfl, rfl, rfl, rfl⟩ rfl rfl rfl rfl rfl (by kernel_rfl) Tryd.func7 (by kernel_rfl)
    (of_decide_eq_true (by kernel_rfl)) (by unfold Func.isWrapper; first | (rw [if_pos (by decide +kernel)]; kernel_rfl) | (rw [if_neg (by decide +kernel)]; exact ⟨rfl, rfl⟩))
    (fun os started H enc _ => sheetLater_lifted os started H enc)

/-- The statement: the tied card. -/
theorem sheetLater_card : Rows.SheetLaterCardSaid :=
  Claim7.holds_tied_plain_at .later [] Rows.sheetLaterCard.laidKinds true Rows.sheetLaterCard.stood.harness false
    sheetLater_holds (fun _ h => by cases h) (by kernel_rfl) (fun _ h => by cases h) sheetLater_row_tie rfl ⟨rfl, rfl⟩ (by kernel_rfl) rfl
    (fun f fn hf hfn => by
      obtain rfl : f = 7 := Option.some.inj ((show Tryd.prog.funcNamed "troth/trothlaw08.SheetLater" = some 7 by kernel_rfl).symm.trans hf) |>.symm
      obtain rfl : fn = Tryd.f7 := (Option.some.inj (Tryd.func7.symm.trans hfn)).symm
      exact ⟨by kernel_rfl, fun j t ht => by
        rw [Tryd.params7] at ht
        have hm : t ∈ [37, 37, 3] := by simpa using Array.mem_of_getElem? ht
        have hall : ([37, 37, 3].all fun u => !Tryd.prog.wantsStandIn u) = true := by kernel_rfl
        exact (show Tryd.prog.wantsStandIn t = false by simpa using List.all_eq_true.1 hall t hm)⟩)
    (by kernel_rfl)
#print axioms sheetLater_card
end Go.Proofs.YtljpnngknmpdoaaDoor
