/- What it says: crc.Join answers the first sum behind as many shifts as the second text has bits, combined with the second sum; crc.Patch the four bytes that make a sum. -/
import Derived.Test.YteogchmhmgngnaaDoorCrcMat
import Derived.Test.YteogchmhmgngnaaDoorCrcSum
namespace Go.Proofs.YteogchmhmgngnaaDoor
open Go.RowKit

theorem join_odd {n8 m K q h a z acc : Nat} (e : n8 = m * K + q) (hm : m % 2 = 1) (hh : m / 2 = h) (ea : acc = steps q a) (ez : steps K acc = z) : n8 = h * (K + K) + (q + K) ∧ z = steps (q + K) a := by
  constructor
  · have : m = 2 * h + 1 := by omega
    rw [e, this, Nat.add_mul, Nat.one_mul, Nat.mul_add, Nat.mul_comm 2 h, Nat.mul_assoc, Nat.two_mul, Nat.mul_add]
    omega
  · rw [steps_add, ← ea, ez]

theorem join_even {n8 m K q h : Nat} (e : n8 = m * K + q) (hm : ¬ m % 2 = 1) (hh : m / 2 = h) : n8 = h * (K + K) + q := by
  have : m = 2 * h := by omega
  rw [e, this, Nat.mul_comm 2 h, Nat.mul_assoc, Nat.two_mul]

theorem join_end {n8 m K q : Nat} (e : n8 = m * K + q) (hm : m = 0) : q = n8 := by rw [e, hm, Nat.zero_mul, Nat.zero_add]

theorem i64_bit (m : Nat) : bits .and .i64 (m : Int) 1 = ((m % 2 : Nat) : Int) := by
  have h1 : (BitVec.ofInt 64 1).toNat = 2 ^ 1 - 1 := by decide
  have key : (BitVec.ofInt 64 (m : Int) &&& BitVec.ofInt 64 1).toNat = ((m : Int) % ((2 ^ 64 : Nat) : Int)).toNat % 2 ^ 1 := by
    rw [BitVec.toNat_and, BitVec.toNat_ofInt, h1, Nat.and_two_pow_sub_one_eq_mod]
  show IntKind.i64.wrap ((BitVec.ofInt 64 (m : Int) &&& BitVec.ofInt 64 1).toNat : Nat) = _
  rw [key, IntKind.wrap_i64]
  omega

set_option maxHeartbeats 1000000 in
theorem join_any (a b n : Nat) (ha : a < 4294967296) (hb : b < 4294967296) (hn : n < 9223372036854775808) (w : World) (hT : Tab w) :
    Calls Tryd.prog 12 #[.int .u32 a, .int .u32 b, .int .i64 n] w (Ret (.int .u32 (steps (8 * n) a ^^^ b : Nat)) w) := by
  have HBS := Lib.hid (byteShift_any w hT)
  clear hT
  go_enter Tryd.func12, Tryd.ntmps12
  go_wp2_with fail
  refine HBS.out.mono ?_
  rintro e w1 ⟨rfl, b1⟩
  have HB1 := Lib.hid b1
  clear b1 HBS
  have R0 : Hid (Bk ((w1.alloc (.cells (matC fun _ => 0) 38)).setRow w1.heap.size (shiftC 8)) w1.heap.size 38 (shiftC 8) ∧ Below w.heap.size w ((w1.alloc (.cells (matC fun _ => 0) 38)).setRow w1.heap.size (shiftC 8)) ∧ w.heap.size ≤ w1.heap.size) := by
    refine Lib.hid ?_
    rw [World.setRow_alloc_new]
    exact ⟨Bk.new _ _ _, HB1.out.alloc HB1.out.size _, HB1.out.size⟩
  rw [← zeros_mat] at R0
  go_wp2_with (refine wpList_store_row rfl 38 _ _ rfl w1.heap.size (shiftC 8) rfl rfl 38 _ (heap_alloc_new _ _) (by rw [shiftC_size]; exact matInfo) (by rw [shiftC_size]; rfl) (shiftC_one _) ?_; simp only [Act.put])
  go_loopw [0, 2] (fun s t wr => ∃ m K q acc : Nat, m < 9223372036854775808 ∧ acc < 4294967296 ∧ s = .int .u32 acc ∧ t = .int .i64 m ∧ 8 * n = m * K + q ∧ acc = steps q a ∧ Bk wr w1.heap.size 38 (shiftC K) ∧ Below w.heap.size w wr) (fun _ t _ => (intOf t).toNat)
  case atStart => exact ⟨n, 8, 0, a, hn, ha, rfl, rfl, Nat.mul_comm _ _, rfl, R0.out.1, R0.out.2.1⟩
  case round =>
    obtain ⟨m, K, q, acc, hm, hacc, rfl, rfl, eq, ea, hbk, hbel⟩ := hrel
    have EQ := Lib.hid eq
    have EA := Lib.hid ea
    have HK := Lib.hid hbk
    have HW := Lib.hid hbel
    have H1 := Lib.hid R0.out.2.2
    have HT := Lib.hid (fun w => times_shift K acc hacc w)
    have HQ := Lib.hid (fun w => squared_any K w)
    have HS := Lib.hid (shiftC_size K)
    obtain ⟨C, hC⟩ : ∃ C, C = shiftC K := ⟨_, rfl⟩
    rw [← hC] at HK HT HQ HS
    have HD : Hid ((shiftC (K + K)).size = 32 ∧ (shiftC (K + K)).all (·.oneCell') = true) := Lib.hid ⟨shiftC_size _, shiftC_one _⟩
    obtain ⟨D, hD⟩ : ∃ D, D = shiftC (K + K) := ⟨_, rfl⟩
    rw [← hD] at HQ HD
    have ED := Lib.hid hD
    clear eq ea hbk hbel R0 hC hD
    by_cases h0 : 0 < m
    · have hb := i64_bit m
      obtain ⟨h, hh⟩ : ∃ h, m / 2 = h := ⟨_, rfl⟩
      have hhi : (m : Int) / 2 = (h : Int) := by omega
      have HH := Lib.hid hh
      by_cases h1 : m % 2 = 1
      · have H2 := Lib.hid h1
        rw [h1] at hb
        obtain ⟨z, ez⟩ : ∃ z, steps K acc = z := ⟨_, rfl⟩
        have hz : z < 4294967296 := by rw [← ez]; exact steps_lt K hacc
        rw [ez] at HT
        have FIN := Lib.hid (join_odd EQ.out h1 hh EA.out ez)
        clear h1 hh ez
        go_wp2_with (refine wpList_load_row rfl 38 _ rfl w1.heap.size rfl 38 C (0, 0) _ HK.out Tryd.underlying38 rfl (by rw [HS.out]; exact matInfo) ?_)
        refine (HT.out _).mono ?_
        rintro e w2 ⟨rfl, b2⟩
        have HK2 := Lib.hid (HK.out.below b2)
        have HW2 := Lib.hid (Below.then HW.out b2)
        clear b2
        go_wp2_with (refine wpList_load_row rfl 38 _ rfl w1.heap.size rfl 38 C (0, 0) _ HK2.out Tryd.underlying38 rfl (by rw [HS.out]; exact matInfo) ?_)
        refine (HQ.out _).mono ?_
        rintro e w3 ⟨rfl, b3⟩
        have HK3 := Lib.hid (HK2.out.below b3)
        have HW3 := Lib.hid (Below.then HW2.out b3)
        clear b3
        go_wp2_with (refine wpList_store_row rfl 38 _ _ rfl w1.heap.size D rfl rfl 38 _ HK3.out (by rw [HD.out.1]; exact matInfo) (by rw [HS.out, HD.out.1]) HD.out.2 ?_; simp only [Act.put])
        have FB : Hid (Bk (w3.setRow w1.heap.size D) w1.heap.size 38 D ∧ Below w.heap.size w (w3.setRow w1.heap.size D)) := Lib.hid ⟨setRow_heap w3 _ C D _ _ HK3.out, HW3.out.trans ⟨rfl, rfl, rfl, by simp, fun k hk => setRow_other _ _ _ _ (by have := H1.out; omega)⟩⟩
        go_wp2_with fail
        go_roundw
        case rel => exact ⟨h, K + K, q + K, z, by omega, hz, rfl, rfl, FIN.out.1, FIN.out.2, by rw [← ED.out]; exact FB.out.1, FB.out.2⟩
        case measure => have := HH.out; simp [intOf]; omega
      · have H2 := Lib.hid h1
        rw [show m % 2 = 0 from by omega] at hb
        have FIN := Lib.hid (join_even EQ.out h1 hh)
        clear h1 hh HT
        go_wp2_with (refine wpList_load_row rfl 38 _ rfl w1.heap.size rfl 38 C (0, 0) _ HK.out Tryd.underlying38 rfl (by rw [HS.out]; exact matInfo) ?_)
        refine (HQ.out _).mono ?_
        rintro e w3 ⟨rfl, b3⟩
        have HK3 := Lib.hid (HK.out.below b3)
        have HW3 := Lib.hid (Below.then HW.out b3)
        clear b3
        go_wp2_with (refine wpList_store_row rfl 38 _ _ rfl w1.heap.size D rfl rfl 38 _ HK3.out (by rw [HD.out.1]; exact matInfo) (by rw [HS.out, HD.out.1]) HD.out.2 ?_; simp only [Act.put])
        have FB : Hid (Bk (w3.setRow w1.heap.size D) w1.heap.size 38 D ∧ Below w.heap.size w (w3.setRow w1.heap.size D)) := Lib.hid ⟨setRow_heap w3 _ C D _ _ HK3.out, HW3.out.trans ⟨rfl, rfl, rfl, by simp, fun k hk => setRow_other _ _ _ _ (by have := H1.out; omega)⟩⟩
        go_wp2_with fail
        go_roundw
        case rel => exact ⟨h, K + K, q, acc, by omega, hacc, rfl, rfl, FIN.out, EA.out, by rw [← ED.out]; exact FB.out.1, FB.out.2⟩
        case measure => have := HH.out; simp [intOf]; omega
    · have hq := join_end EQ.out (show m = 0 by omega)
      have hxor := xor32 acc b hacc hb
      have ea := EA.out
      rw [hq] at ea
      have E := Lib.hid ea
      have hle : (m : Int) ≤ 0 := by omega
      clear hq ea
      go_wp2_with fail
      go_ret
      exact ⟨ret32 (by rw [E.out]), HW.out⟩

set_option maxHeartbeats 1000000 in
theorem join_none (a b : Nat) (x : Int) (ha : a < 4294967296) (hb : b < 4294967296) (hx : x ≤ 0) (w : World) (hT : Tab w) :
    Calls Tryd.prog 12 #[.int .u32 a, .int .u32 b, .int .i64 x] w (Ret (.int .u32 (a ^^^ b : Nat)) w) := by
  have HBS := Lib.hid (byteShift_any w hT)
  have hxor := xor32 a b ha hb
  clear hT
  go_enter Tryd.func12, Tryd.ntmps12
  go_wp2_with fail
  refine HBS.out.mono ?_
  rintro e w1 ⟨rfl, b1⟩
  have HB1 := Lib.hid b1
  clear b1 HBS
  have R0 : Hid (Below w.heap.size w ((w1.alloc (.cells (matC fun _ => 0) 38)).setRow w1.heap.size (shiftC 8))) := by
    refine Lib.hid ?_
    rw [World.setRow_alloc_new]
    exact HB1.out.alloc HB1.out.size _
  rw [← zeros_mat] at R0
  go_wp2_with (refine wpList_store_row rfl 38 _ _ rfl w1.heap.size (shiftC 8) rfl rfl 38 _ (heap_alloc_new _ _) (by rw [shiftC_size]; exact matInfo) (by rw [shiftC_size]; rfl) (shiftC_one _) ?_; simp only [Act.put])
  refine wp_loop_rounds 1 ?_
  rw [rounds_succ]
  go_wp2_with fail
  go_ret
  exact ⟨rfl, R0.out⟩

/-- The word that is handed back as bytes. -/
def patchN (l : List Int) (want : Nat) : Nat := (crcL l ^^^ ones) ^^^ unsteps 32 (want ^^^ ones)

theorem patchN_lt (l : List Int) (hl : ∀ x ∈ l, 0 ≤ x ∧ x < 256) (want : Nat) (hw : want < 4294967296) : patchN l want < 4294967296 :=
  Nat.xor_lt_two_pow (n := 32) (Nat.xor_lt_two_pow (n := 32) (crcL_lt l hl) (by decide)) (unsteps_lt 32 _ (Nat.xor_lt_two_pow (n := 32) hw (by decide)))

theorem le4_cells (p : Nat) (hp : p < 4294967296) : ((le4 p).map (Value.int .u8)).toArray = #[.int .u8 ((p : Int) % 256), .int .u8 ((p : Int) / 256 % 256), .int .u8 ((p : Int) / 65536 % 256), .int .u8 ((p : Int) / 16777216)] := by
  have : (p : Int) / 16777216 % 256 = (p : Int) / 16777216 := by omega
  simp [le4, this]

set_option maxHeartbeats 1000000 in
theorem patch_any (A : Option Addr) (n c : Nat) (l : List Int) (want : Nat) (hw : want < 4294967296) (w : World) (h : Byt w A n c l) (hT : Tab w) :
    Calls Tryd.prog 13 #[.slice A n c, .int .u32 want] w (RetByt (le4 (patchN l want)) w) := by
  have HS := Lib.hid (crcSum_any A n c l w h hT)
  have hcl := crcL_lt l h.rng
  have hp := patchN_lt l h.rng want hw
  have hx1 : want ^^^ ones < 4294967296 := Nat.xor_lt_two_pow (n := 32) hw (by decide)
  have hx2 : crcL l ^^^ ones < 4294967296 := Nat.xor_lt_two_pow (n := 32) hcl (by decide)
  have HU := Lib.hid (fun w => unshift_any (want ^^^ ones) hx1 w)
  have n1 := not_u32 want hw
  have n2 := not_u32 (crcL l) hcl
  have n3 := xor32 (crcL l ^^^ ones) (unsteps 32 (want ^^^ ones)) hx2 (unsteps_lt 32 _ hx1)
  have FIN : Hid (∀ w, RetByt (le4 (patchN l want)) w (.returned (.slice (some ⟨w.heap.size, 0, none⟩) 4 4)) (w.alloc (.cells ((le4 (patchN l want)).map (Value.int .u8)).toArray 5))) :=
    Lib.hid fun w => ⟨_, _, _, rfl, Byt.lit w 5 _ 4 rfl (by unfold maxLen; omega) (le4_rng _), (Below.refl _ _).alloc (Nat.le_refl _) _⟩
  rw [show (crcL l ^^^ ones) ^^^ unsteps 32 (want ^^^ ones) = patchN l want from rfl] at n3
  rw [le4_cells _ hp] at FIN
  obtain ⟨s, es⟩ : ∃ s, crcL l = s := ⟨_, rfl⟩
  rw [es] at HS n2 n3
  obtain ⟨d, ed⟩ : ∃ d, s ^^^ ones = d := ⟨_, rfl⟩
  rw [ed] at n2
  rw [es, ed] at hx2
  rw [ed] at n3
  obtain ⟨v, ev⟩ : ∃ v, want ^^^ ones = v := ⟨_, rfl⟩
  rw [ev] at HU n1 n3 hx1
  obtain ⟨u, eu⟩ : ∃ u, unsteps 32 v = u := ⟨_, rfl⟩
  rw [eu] at HU n3
  obtain ⟨p, ep⟩ : ∃ p, patchN l want = p := ⟨_, rfl⟩
  rw [ep] at n3 hp FIN
  have GOAL := Lib.hid ep
  clear es ed ev eu ep h hT hcl
  go_enter Tryd.func13, Tryd.ntmps13
  go_wp2_with fail
  refine HS.out.mono ?_
  rintro e w1 ⟨rfl, rfl⟩
  go_wp2_with fail
  refine (HU.out _).mono ?_
  rintro e w1 ⟨rfl, rfl⟩
  go_wp2_with fail
  go_ret
  have F := FIN.out w
  rw [← GOAL.out] at F ⊢
  exact F
end Go.Proofs.YteogchmhmgngnaaDoor
