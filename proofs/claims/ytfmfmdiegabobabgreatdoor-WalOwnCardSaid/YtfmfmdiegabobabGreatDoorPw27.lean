/- What it says: contracts and plain mathematics that the laws' walks use, 27 of 33: each part's own remark says what; no condition. -/
import Derived.Test.YtfmfmdiegabobabGreatDoorPw26

set_option linter.unusedSimpArgs false
set_option linter.unusedVariables false
set_option linter.deprecated false
set_option linter.unusedSectionVars false
set_option linter.all false
set_option maxRecDepth 100000
set_option maxHeartbeats 16000000
namespace Go.Proofs.YtfmfmdiegabobabGreatDoor
theorem q1Pw27 {α : Type} (l : List α) (i : Nat) (x : α) : l.toArray.setIfInBounds i x = (l.set i x).toArray := by simp
theorem q2Pw27 {α : Type} (a : α) (l : List α) (x : α) : (a :: l).set 0 x = x :: l := rfl
theorem q3Pw27 {α : Type} (a : α) (l : List α) (i : Nat) (x : α) : (a :: l).set (i + 1) x = a :: l.set i x := rfl

/- a log's Append: what it answers, and what becomes of the log. -/
section
open Go.RowKit
noncomputable def Lg.apE (L : Lg) (r : Rc) (spare : Int) : Int := if L.down = true then 40 else if encE r ≠ 0 then (encE r : Int) else if L.count - max spare 0 < L.written + shI (L.size + ((sealL (rcL r)).length : Int)) then 90 else 0
def Lg.apL (L : Lg) (r : Rc) : Lg := { L with recs := L.recs ++ [(r, L.next + L.size / 242)], wait := L.wait ++ [rcL r], size := L.size + ((sealL (rcL r)).length : Int) }
noncomputable def Lg.app (L : Lg) (r : Rc) (spare : Int) : Lg := if L.apE r spare = 0 then L.apL r else L
noncomputable def Lg.apN (L : Lg) (r : Rc) (spare : Int) : Int := if L.apE r spare = 0 then L.last + 1 else 0
theorem Lg.ap_no {L : Lg} {r : Rc} {spare e : Int} (h : L.apE r spare = e) (he : e ≠ 0) : L.app r spare = L ∧ L.apN r spare = 0 := ⟨if_neg (by omega), if_neg (by omega)⟩
section
variable {w w0 w1 w2 : World} {F G : Nat → Prop} {b d n c p q : Nat} {L : Lg} {A Q : Option Addr} {xs : List (Xr × Int)} {vs : List (Option Addr × Nat × Nat)}
theorem cells_bk {w : World} {g i : Nat} {t : TypeId} {cs : Array Value} {u : Value} (h : Bk w g t cs) {cs' : Array Value} (e : cs.setIfInBounds i u = cs') : Bk (w.setCell ⟨g, i, none⟩ u) g t cs' := e ▸ h.setc i u
theorem LgAt.addRec (h : LgAt w0 F b d L A n c xs Q p q vs G) (hb : Below w0.heap.size w0 w1) {x : Xr} {pos : Int} (hp : -9223372036854775808 ≤ pos ∧ pos ≤ 9223372036854775807) (hx : XrIn w1.heap.size w1 x) (hn : ∀ k, x.owns k → w0.heap.size ≤ k ∧ k < w1.heap.size)
  {A' : Option Addr} {c' : Nat} (ho : w2.ownsRow 0 72 17 (.slice A' (n + 1) c') (n + 1) (xs.flatMap rcC ++ rcC (x, pos))) (hg : w1.grownBy w2 (Value.slice A n c).ownBlock) (hq : ∀ k, (Value.slice A' (n + 1) c').ownBlock = some k → (Value.slice A n c).ownBlock = some k ∨ w1.heap.size ≤ k) :
  LgAt (w2.setCell ⟨b, 7, none⟩ (.slice A' (n + 1) c')) (grow F w0 w2) b d { L with recs := L.recs ++ [(x.read, pos)] } A' (n + 1) c' (xs ++ [(x, pos)]) Q p q vs (fun k => G k ∨ x.owns k) ∧ Fr F w0 (w2.setCell ⟨b, 7, none⟩ (.slice A' (n + 1) c')) := by
 have h1 : LgAt w1 F b d L A n c xs Q p q vs G := h.keep hb.size (fun k f => hb.block k (h.lt k f))
 have hs : w0.heap.size ≤ w2.heap.size := Nat.le_trans hb.size hg.size
 have hlt : ∀ k, F k → k < w0.heap.size := h.lt
 have hk2 : ∀ k, k < w1.heap.size → (Value.slice A n c).ownBlock ≠ some k → w2.heap[k]? = w1.heap[k]? := fun k hk hne => hg.block k hk (fun e => hne e.symm)
 have hb2 : Bk w2 b 67 (lgC d L (.slice A n c) (.slice Q p q)) := h1.bk.eq (hk2 b (h1.lt b h1.fb) (fun e => h1.rb b e rfl))
 have hk3 : ∀ k, k < w1.heap.size → (Value.slice A n c).ownBlock ≠ some k → k ≠ b → (w2.setCell ⟨b, 7, none⟩ (.slice A' (n + 1) c')).heap[k]? = w1.heap[k]? := fun k h1 h2 h3 => (Below.heap_setCell _ _ _ _ h3).trans (hk2 k h1 h2)
 have hsz : (w2.setCell ⟨b, 7, none⟩ (.slice A' (n + 1) c')).heap.size = w2.heap.size := by simp [World.setCell]
 have hob : ∀ k, (Value.slice A' (n + 1) c').ownBlock = some k → k ≠ b := fun k e q' => by
  obtain ⟨cur, hc⟩ := own_ty ho e
  have hb := hb2
  unfold Bk at hb
  rw [q', hb] at hc
  injection hc with hc
  injection hc with _ hc
  cases hc
 have hFr : Fr F w0 w2 := by
  refine ⟨hg.os.trans hb.os, hg.tape.trans hb.tape, hg.output.trans hb.output, hs, fun k hk hnf => ?_⟩
  exact (hk2 k (Nat.lt_of_lt_of_le hk hb.size) (fun e => hnf (h.fr k e))).trans (hb.block k hk)
 refine ⟨⟨cells_bk hb2 rfl, owns_keep (by rw [List.flatMap_append]; simpa using ho) (fun k e => Below.heap_setCell _ _ _ _ (hob k e)), by rw [List.map_append, h.read]; rfl, by simp [h.len], ?_, ?_, h.wlen, h.llen, ?_, ?_, .inl h.fb, ?_, fun k e => .inl (h.fw k e), ?_, ?_, ?_, ?_⟩, hFr.setCell (a := ⟨b, 7, none⟩) h.fb _⟩
 ·intro y hy
  rcases List.mem_append.1 hy with hy | hy
  ·obtain ⟨k1, k2, k3⟩ := h1.each y hy
   exact ⟨k1.same (by rw [hsz]; exact hg.size) (fun k q => hk3 k (k1.lt q) (fun e => h.gr k e (k2 k q)) (fun e => h.gb (e ▸ k2 k q))), fun k q => .inl (k2 k q), k3⟩
  ·simp at hy
   subst hy
   refine ⟨hx.same (by rw [hsz]; exact hg.size) (fun k q => hk3 k (hx.lt q) (fun e => ?_) (fun e => ?_)), fun k q => .inr q, hp⟩
   ·have := hlt k (h.fr k e); have := hn k q; omega
   ·have := hlt b h.fb; have := hn k q; omega
 ·exact owns_keep h1.wait (fun k e => hk3 k (h1.lt k (h1.fw k e)) (fun e' => h1.rw_ k e' e) (h1.wb k e))
 ·intro i hi
  obtain ⟨k1, k2⟩ := h1.weach i hi
  exact ⟨k1.stay (fun a ha => hk3 _ (k1.ty.lt a ha) (fun e => h.gr _ e (k2 a ha)) (fun e => h.gb (e ▸ k2 a ha))), fun a ha => .inl (k2 a ha)⟩
 ·intro k g
  rcases g with g | g
  ·exact .inl (h.sub k g)
  ·exact .inr ⟨(hn k g).1, Nat.lt_of_lt_of_le (hn k g).2 hg.size⟩
 ·intro k e
  rcases hq k e with e' | e'
  ·exact .inl (h.fr k e')
  ·exact .inr ⟨Nat.le_trans hb.size e', (by obtain ⟨cur, hc⟩ := own_ty ho e; exact (Array.getElem?_eq_some_iff.1 hc).1)⟩
 ·rintro (g | g)
  ·exact h.gb g
  ·have := hlt b h.fb; have := hn b g; omega
 ·rintro k e (g | g)
  ·rcases hq k e with e' | e'
   ·exact h.gr k e' g
   ·have := hlt k (h.sub k g); have := hb.size; omega
  ·rcases hq k e with e' | e'
   ·have := hlt k (h.fr k e'); have := hn k g; omega
   ·have := hn k g; omega
 ·rintro k e (g | g)
  ·exact h.gw k e g
  ·have := hlt k (h.fw k e); have := hn k g; omega
 ·intro k f
  rw [hsz]
  rcases f with f | f
  ·exact Nat.lt_of_lt_of_le (hlt k f) hs
  ·exact f.2
theorem LgAt.addBody (h : LgAt w1 F b d L A n c xs Q p q vs G) {a : Option Addr} {m k0 : Nat} {l : List Int} (hl : Bty w1 a m k0 l) (hF : ∀ y, a = some y → F y.block)
  {Q' : Option Addr} {q' : Nat} (ho : w2.ownsRow 0 59 1 (.slice Q' (p + 1) q') (p + 1) (vs.flatMap slV ++ slV (a, m, k0))) (hg : w1.grownBy w2 (Value.slice Q p q).ownBlock) (hq : ∀ k, (Value.slice Q' (p + 1) q').ownBlock = some k → (Value.slice Q p q).ownBlock = some k ∨ w1.heap.size ≤ k) :
  LgAt (w2.setCell ⟨b, 9, none⟩ (.slice Q' (p + 1) q')) (grow F w1 w2) b d { L with wait := L.wait ++ [l] } A n c xs Q' (p + 1) q' (vs ++ [(a, m, k0)]) (fun k => G k ∨ ∃ y, a = some y ∧ k = y.block) ∧ Fr F w1 (w2.setCell ⟨b, 9, none⟩ (.slice Q' (p + 1) q')) := by
 have hk2 : ∀ k, k < w1.heap.size → (Value.slice Q p q).ownBlock ≠ some k → w2.heap[k]? = w1.heap[k]? := fun k hk hne => hg.block k hk (fun e => hne e.symm)
 have hb2 : Bk w2 b 67 (lgC d L (.slice A n c) (.slice Q p q)) := h.bk.eq (hk2 b (h.lt b h.fb) (fun e => h.wb b e rfl))
 have hk3 : ∀ k, k < w1.heap.size → (Value.slice Q p q).ownBlock ≠ some k → k ≠ b → (w2.setCell ⟨b, 9, none⟩ (.slice Q' (p + 1) q')).heap[k]? = w1.heap[k]? := fun k h1 h2 h3 => (Below.heap_setCell _ _ _ _ h3).trans (hk2 k h1 h2)
 have hsz : (w2.setCell ⟨b, 9, none⟩ (.slice Q' (p + 1) q')).heap.size = w2.heap.size := by simp [World.setCell]
 have hob : ∀ k, (Value.slice Q' (p + 1) q').ownBlock = some k → k ≠ b := fun k e q' => by
  obtain ⟨cur, hc⟩ := own_ty ho e
  have hb := hb2
  unfold Bk at hb
  rw [q', hb] at hc
  injection hc with hc
  injection hc with _ hc
  cases hc
 have hbt : ∀ y, a = some y → y.block ≠ b ∧ (Value.slice A n c).ownBlock ≠ some y.block ∧ (Value.slice Q p q).ownBlock ≠ some y.block := fun y hy => by
  obtain ⟨cs, fr, hc⟩ := hl.ty y hy
  refine ⟨fun e => ?_, fun e => ?_, fun e => ?_⟩
  ·have hb := h.bk
   unfold Bk at hb
   rw [e, hb] at hc
   injection hc with hc
   injection hc with _ hc
   cases hc
  ·obtain ⟨cur, hc'⟩ := own_ty h.recs e
   rw [hc] at hc'
   injection hc' with hc'
   injection hc' with _ hc'
   cases hc'
  ·obtain ⟨cur, hc'⟩ := own_ty h.wait e
   rw [hc] at hc'
   injection hc' with hc'
   injection hc' with _ hc'
   cases hc'
 have hFr : Fr F w1 w2 := ⟨hg.os, hg.tape, hg.output, hg.size, fun k hk hnf => hk2 k hk (fun e => hnf (h.fw k e))⟩
 refine ⟨⟨cells_bk hb2 rfl, owns_keep h.recs (fun k e => hk3 k (h.lt k (h.fr k e)) (h.rw_ k e) (h.rb k e)), h.read, h.len, ?_, owns_keep (by rw [List.flatMap_append]; simpa using ho) (fun k e => Below.heap_setCell _ _ _ _ (hob k e)), by simp [h.wlen], by simp [h.llen], ?_, ?_, .inl h.fb, fun k e => .inl (h.fr k e), ?_, ?_, ?_, ?_, ?_⟩, hFr.setCell (a := ⟨b, 9, none⟩) h.fb _⟩
 ·intro y hy
  obtain ⟨k1, k2, k3⟩ := h.each y hy
  exact ⟨k1.same (by rw [hsz]; exact hg.size) (fun k q => hk3 k (k1.lt q) (fun e => h.gw k e (k2 k q)) (fun e => h.gb (e ▸ k2 k q))), fun k q => .inl (k2 k q), k3⟩
 ·intro i hi
  by_cases e : i < p
  ·obtain ⟨k1, k2⟩ := h.weach i e
   have e1 : (vs ++ [(a, m, k0)]).getD i sl0 = vs.getD i sl0 := by simp [List.getD, List.getElem?_append_left (show i < vs.length by rw [h.wlen]; exact e)]
   have e2 : (L.wait ++ [l]).getD i [] = L.wait.getD i [] := by simp [List.getD, List.getElem?_append_left (show i < L.wait.length by rw [h.llen]; exact e)]
   rw [e1, e2]
   exact ⟨k1.stay (fun a ha => hk3 _ (k1.ty.lt a ha) (fun e => h.gw _ e (k2 a ha)) (fun e => h.gb (e ▸ k2 a ha))), fun a ha => .inl (k2 a ha)⟩
  ·obtain rfl : i = p := by omega
   have e1 : (vs ++ [(a, m, k0)]).getD i sl0 = (a, m, k0) := by simp [List.getD, ← h.wlen]
   have e2 : (L.wait ++ [l]).getD i [] = l := by simp [List.getD, ← h.llen]
   rw [e1, e2]
   exact ⟨hl.stay (fun y hy => hk3 _ (hl.ty.lt y hy) (hbt y hy).2.2 (hbt y hy).1), fun y hy => .inr ⟨y, hy, rfl⟩⟩
 ·rintro k (g | ⟨y, hy, rfl⟩)
  ·exact .inl (h.sub k g)
  ·exact .inl (hF y hy)
 ·intro k e
  rcases hq k e with e' | e'
  ·exact .inl (h.fw k e')
  ·exact .inr ⟨e', (by obtain ⟨cur, hc⟩ := own_ty ho e; exact (Array.getElem?_eq_some_iff.1 hc).1)⟩
 ·rintro (g | ⟨y, hy, e⟩)
  ·exact h.gb g
  ·exact (hbt y hy).1 e.symm
 ·rintro k e (g | ⟨y, hy, rfl⟩)
  ·exact h.gr k e g
  ·exact (hbt y hy).2.1 e
 ·rintro k e (g | ⟨y, hy, rfl⟩)
  ·rcases hq k e with e' | e'
   ·exact h.gw k e' g
   ·have := h.lt k (h.sub k g); omega
  ·rcases hq _ e with e' | e'
   ·exact (hbt y hy).2.2 e'
   ·have := hl.ty.lt y hy; omega
 ·intro k f
  rw [hsz]
  rcases f with f | f
  ·exact Nat.lt_of_lt_of_le (h.lt k f) hg.size
  ·exact f.2
end
end

/- a log's Append: what it answers, and what becomes of the log. -/
section
open Go.RowKit
theorem quiet_ret {v : Value} {w : World} {e : Ending} {w' : World} (h : Quiet v w e w') : Ret v w e w' := by
 obtain ⟨he, k, rfl⟩ := h
 exact ⟨he, bel_dn (Below.refl _ _) k⟩
theorem info_rcd : (Tryz.prog.info? 72).map (fun i => (i.zero, i.size, i.bytes)) = some (some (.agg #[.int .i64 0, .int .i64 0, .int .i64 0, .int .i64 0, .string ByteArray.empty, .bool false, .string ByteArray.empty, .bool false, .string ByteArray.empty, .int .i64 0, .slice none 0 0, .slice none 0 0, .slice none 0 0, .slice none 0 0, .slice none 0 0, .slice none 0 0, .int .i64 0]), 17, 256) := by kernel_rfl
theorem info_bod : (Tryz.prog.info? 59).map (fun i => (i.zero, i.size, i.bytes)) = some (some (.slice none 0 0), 1, 24) := by kernel_rfl
theorem built_rcd (x : Xr) (p : Int) : Tryz.prog.built 72 [(0, .agg x.cells), (1, .int .i64 p)] = some (rcC (x, p)).toArray := by
 unfold rcC Xr.cells
 kernel_rfl
theorem bslice_rcd (x : Xr) (p : Int) (w : World) : (Instr.buildSlice 64 1 #[(0, .agg (rcC (x, p)).toArray)]).run Tryz.prog w =
  .ok (.slice (some ⟨w.heap.size, 0, none⟩) 1 1) (w.alloc (.cells (rcC (x, p)).toArray 72)) := by
 obtain ⟨i0, hi, hz0, hz1, hz2⟩ := info_parts info_rcd
 refine Go.run_buildSlice w 64 72 1 _ _ i0 _ Tryz.underlying64 hi hz0 (by rw [hz1]; omega) (by rw [hz1]; omega) ?_
 rw [hz1]
 unfold rcC Xr.cells
 kernel_rfl
theorem rcd_one (x : Xr) (p : Int) : ∀ u ∈ (rcC (x, p)).toArray.toList, u.oneCell' = true := by
 intro u hu
 simp [rcC, Xr.cells] at hu
 rcases hu with rfl | rfl | rfl | rfl | rfl | rfl | rfl | rfl | rfl | rfl | rfl | rfl | rfl | rfl | rfl | rfl | rfl <;> rfl
section
variable {B : Nat} {R : Res} {w : World} {b d : Nat} {L : Lg}
theorem wgAppend_any (h : Has B ((lgR b d L).star R) w) (hB : B ≤ w.heap.size) (hf : L.Fit) (hT : Tab w) (x : Xr) (hf2 : encE x.read = 0 → (L.apL x.read).Fit) (hx : XrIn w.heap.size w x) (spare : Int) (hsp : -9223372036854775808 ≤ spare ∧ spare ≤ 9223372036854775807) :
  Calls Tryz.prog 8 #[.pointer (some ⟨b, 0, none⟩), x.val, .int .i64 spare] w (RetHas (.tuple #[.int .i64 (L.apN x.read spare), .int .i64 (L.apE x.read spare)]) B ((lgR b d (L.app x.read spare)).star R) w) := by
 obtain ⟨q0, hq0⟩ : ∃ q0, w.heap.size = q0 := ⟨_, rfl⟩
 obtain ⟨C, hC⟩ : ∃ C, C = x.cells := ⟨_, rfl⟩
 obtain ⟨W1, hW1⟩ : ∃ W1, W1 = w.alloc (.cells C 30) := ⟨_, rfl⟩
 have hb1 : Below w.heap.size w W1 := by rw [hW1]; exact (Below.refl _ _).alloc (Nat.le_refl _) _
 have V1 : Hid (Bk W1 q0 30 C ∧ C.size = 16) := Lib.hid ⟨by rw [hW1, ← hq0]; exact Bk.new w _ _, by rw [hC]; rfl⟩
 obtain ⟨F, A, n, c, xs, Q, p, q, vs, G, ha, ht⟩ := lgR_open (h.below hb1) (Nat.le_trans hB hb1.size)
 have HA := Lib.hid ha
 have HTT := Lib.hid ht
 have HB1 := Lib.hid hb1
 have HBB := Lib.hid hB
 have HF := Lib.hid hf
 have HF2 := Lib.hid hf2
 have T1 := Lib.hid (hT.ret hb1)
 have X1 := Lib.hid ((hx.calm (Calm.of_below hb1)).up hb1.size)
 have CS := Lib.hid (wgState_any ha.bk)
 have HW := Lib.hid hW1
 have HLEN : Hid (xs.length = n ∧ L.recs.length = n ∧ L.wait.length = p) := Lib.hid ⟨ha.len, by rw [← ha.read, List.length_map]; exact ha.len, ha.llen⟩
 rw [Xr.val_eq, ← hC]
 have NO : Hid (∀ (e : Int) w', e ≠ 0 → L.apE x.read spare = e → Below W1.heap.size W1 w' → RetHas (.tuple #[.int .i64 (L.apN x.read spare), .int .i64 (L.apE x.read spare)]) B ((lgR b d (L.app x.read spare)).star R) w (.returned (.tuple #[.int .i64 0, .int .i64 e])) w') := Lib.hid (fun e w' h0 he hb => by
  obtain ⟨e1, e2⟩ := Lg.ap_no he h0
  rw [e1, e2, he]
  exact ⟨rfl, (h.below hb1).below hb, (hb1.mono hB).trans (hb.mono (Nat.le_trans hB hb1.size))⟩)
 by_cases hd : L.down = true
 ·have R9 := Lib.hid (fun w' hb => NO.out 40 w' (by decide) (if_pos hd) hb)
  rw [Lg.st_down hd] at CS
  clear h hW1 hb1 ha ht hB hf hf2 hT hx hC hd
  go_enter Tryz.func8, Tryz.ntmps8
  go_upto_region 1 with fail
  (try rw [hq0])
  rw [← HW.out]
  clear HW
  go_wp2_with fail
  refine CS.out.mono ?_
  intro e w2 hq2
  obtain ⟨rfl, b2⟩ := quiet_ret hq2
  have RR := Lib.hid (R9.out w2 b2)
  clear hq2 b2 R9
  go_wp2_with fail
  go_ret2
  exact RR.out
 ·have hap : L.apE x.read spare = if encE x.read ≠ 0 then (encE x.read : Int) else if L.count - max spare 0 < L.written + shI (L.size + ((sealL (rcL x.read)).length : Int)) then 90 else 0 := if_neg hd
  rw [Lg.st_up hd] at CS
  have HAP := Lib.hid hap
  have CE := Lib.hid (fun w2 (hb : Below W1.heap.size W1 w2) => recEncode_any isSame_all x w2 ((X1.out.calm (Calm.of_below hb)).up hb.size))
  rw [Xr.val_eq, ← hC] at CE
  clear h hW1 hb1 ha ht hB hf hf2 hT hx hC hd hap
  go_enter Tryz.func8, Tryz.ntmps8
  go_upto_region 1 with fail
  (try rw [hq0])
  rw [← HW.out]
  clear HW
  go_wp2_with fail
  refine CS.out.mono ?_
  intro e w2 hq2
  obtain ⟨rfl, b2⟩ := quiet_ret hq2
  have B2 := Lib.hid b2
  have V2 := Lib.hid (V1.out.1.later b2)
  clear hq2 b2 CS
  go_wp2_with (refine wpList_load_row rfl 30 _ rfl q0 rfl 30 _ (0, 0) _ V2.out Tryz.underlying30 rfl (by rw [V1.out.2]; exact inf_rec) ?_; simp only [Act.put])
  refine (CE.out w2 B2.out).mono ?_
  rintro e w3 ⟨Ab, nb, cb, rfl, ho, hr, b3⟩
  by_cases he : encE x.read = 0
  rotate_left
  ·have R9 := Lib.hid (NO.out (encE x.read) w3 (by omega) (by rw [HAP.out, if_pos he]) (B2.out.trans (b3.mono B2.out.size)))
   obtain ⟨z, hz⟩ : ∃ z, encE x.read = z := ⟨_, rfl⟩
   rw [hz] at he R9
   have he' : (((z : Nat) : Int) != 0) = true := by simpa using he
   rw [hz]
   clear ho hr b3 he hz CE
   go_wp2_with fail
   go_ret2
   exact R9.out
  ·obtain ⟨hok, hlen⟩ := encE_zero he
   have eb : encB x.read = rcL x.read := if_pos he
   rw [eb] at ho hr
   rw [if_neg (by omega)] at HAP
   have B3 : Hid (Below W1.heap.size W1 w3) := Lib.hid (B2.out.trans (b3.mono B2.out.size))
   have Y3 : Hid (Bty w3 Ab nb cb (rcL x.read) ∧ (∀ a, Ab = some a → W1.heap.size ≤ a.block ∧ a.block < w3.heap.size)) := Lib.hid ⟨Bty.of_own ho hr, fun a ha => by
    have := ho.lt a.block (by rw [ha]; rfl)
    have := B2.out.size
    omega⟩
   have HDC : Hid (decF (rcL x.read) = (x.read, 0)) := Lib.hid (by rw [← eb]; exact decF_enc he)
   have CSE := Lib.hid (fun w' (hb : Below w3.heap.size w3 w') => wgSealed_any Ab nb cb (rcL x.read) w' (Y3.out.1.below hb) hlen ((T1.out.ret B3.out).ret hb))
   rw [he]
   have F2 := Lib.hid (HF2.out he)
   have HSL := Lib.hid (sealed_le (rcL x.read) hlen)
   obtain ⟨l, hl⟩ : ∃ l, rcL x.read = l := ⟨_, rfl⟩
   rw [hl] at Y3 HDC CSE HAP HSL
   obtain ⟨N, hN⟩ : ∃ N, (sealL l).length = N := ⟨_, rfl⟩
   rw [hN] at CSE HAP HSL
   have HL : Hid (rcL x.read = l ∧ (sealL l).length = N) := Lib.hid ⟨hl, hN⟩
   have A3 := Lib.hid (HA.out.keep B3.out.size (fun k f => B3.out.block k (HA.out.lt k f)))
   have hsz := HF.out.size
   have hsz2 := HF.out.siz
   unfold sml at hsz
   have hNN := HSL.out
   have hS0 : Below w3.heap.size w3 w3.drew ∧ w3.drew.cell? ⟨b, 10, none⟩ = some (.int .i64 L.size) := ⟨(Below.refl _ _).drew, A3.out.bk.cell 10⟩
   clear ho hr b3 he CE eb hl hN hok hlen
   go_upto_region 7 with fail
   refine wp_region_noPanic ?_
   refine upto_start (fun w' => Below w3.heap.size w3 w' ∧ w'.cell? ⟨b, 10, none⟩ = some (.int .i64 L.size)) 6 (by kernel_rfl) ?_
   change Upto _ _ _ _ _ 8 _ _ _
   refine Upto.tk 0 ?_ rfl (fun w' hS => ?_) hS0 ?_
   rotate_left
   ·(try dsimp only at hS); go_split_ands; go_simp; (try with_reducible rfl)
   simp only [Act.put, q1Pw27, q2Pw27, q3Pw27]
   refine Upto.tk 1 ?_ rfl (fun w' hS => ?_) hS0 ?_
   rotate_left
   ·(try dsimp only at hS); go_split_ands; go_simp; (try with_reducible rfl)
   simp only [Act.put, q1Pw27, q2Pw27, q3Pw27]
   refine Upto.tk 2 ?_ rfl (fun w' hS => ?_) hS0 ?_
   rotate_left
   ·(try dsimp only at hS); go_split_ands; go_simp; (try with_reducible rfl)
   simp only [Act.put, q1Pw27, q2Pw27, q3Pw27]
   refine Upto.tk 3 ?_ rfl (fun w' hS => ?_) hS0 ?_
   rotate_left
   ·(try dsimp only at hS); go_split_ands; go_simp; (try with_reducible rfl)
   simp only [Act.put, q1Pw27, q2Pw27, q3Pw27]
   refine Upto.tk 4 ?_ rfl (fun w' hS => ?_) hS0 ?_
   rotate_left
   ·(try dsimp only at hS); go_split_ands; go_simp; (try with_reducible rfl)
   simp only [Act.put, q1Pw27, q2Pw27, q3Pw27]
   refine Upto.law (i := 5) rfl (by kernel_rfl) rfl (fun K hK => ?_)
   refine wp_enter (f := 22) (args := #[.slice Ab nb cb]) (by go_simp; (try with_reducible rfl)) (CSE.out _ (Below.refl _ _).drew) ?_
   rintro e w4 ⟨rfl, b4⟩
   have B4 : Hid (Below w3.heap.size w3 w4) := Lib.hid ((Below.refl _ _).drew.trans b4)
   refine ⟨_, rfl, hK _ _ ⟨B4.out, ?_⟩ ?_⟩
   ·exact (A3.out.keep B4.out.size (fun k f => B4.out.block k (A3.out.lt k f))).bk.cell 10
   clear hK b4 hS0
   simp only [Act.put, q1Pw27, q2Pw27, q3Pw27]
   refine Upto.tail rfl (by kernel_rfl) ?_
   simp only [List.drop_succ_cons, List.drop_zero]
   go_wp2_with fail
   refine NoPanic.normal ?_
   have A4 := Lib.hid (A3.out.keep B4.out.size (fun k f => B4.out.block k (A3.out.lt k f)))
   have hcn := HF.out.count
   have hnx := HF.out.next
   have hfi := HF.out.first
   unfold sml at hcn hnx hfi
   have CW := Lib.hid (fun w' (hk : Bk w' b 67 (lgC d L (.slice A n c) (.slice Q p q))) => wgWritten_any hk HF.out)
   have CF := Lib.hid (fun w' => wgSheetsFor_any (L.size + (N : Int)) w' (by unfold sml; omega))
   have h1 : -2000000000000000 ≤ L.written ∧ L.written ≤ 2000000000000000 := by unfold Lg.written; omega
   have h2 : 0 ≤ shI (L.size + (N : Int)) ∧ shI (L.size + (N : Int)) ≤ 2000000000000000 := by unfold shI; omega
   obtain ⟨wt, hwt⟩ : ∃ z, L.written = z := ⟨_, rfl⟩
   obtain ⟨sf, hsf⟩ : ∃ z, shI (L.size + (N : Int)) = z := ⟨_, rfl⟩
   rw [hwt] at CW h1 HAP
   rw [hsf] at CF h2 HAP
   clear hwt hsf
   have hS0 : Below w4.heap.size w4 w4.drew ∧ Bk w4.drew b 67 (lgC d L (.slice A n c) (.slice Q p q)) ∧ w4.drew.cell? ⟨b, 1, none⟩ = some (.int .i64 L.count) := ⟨(Below.refl _ _).drew, A4.out.bk, A4.out.bk.cell 1⟩
   go_upto_region 8 with fail
   refine wp_region_noPanic ?_
   refine upto_start (fun w' => Below w4.heap.size w4 w' ∧ Bk w' b 67 (lgC d L (.slice A n c) (.slice Q p q)) ∧ w'.cell? ⟨b, 1, none⟩ = some (.int .i64 L.count)) 12 (by kernel_rfl) ?_
   change Upto _ _ _ _ _ 13 _ _ _
   refine Upto.tk 0 ?_ rfl (fun w' hS => ?_) hS0 ?_
   rotate_left
   ·(try dsimp only at hS); go_split_ands; go_simp; (try with_reducible rfl)
   simp only [Act.put, q1Pw27, q2Pw27, q3Pw27]
   refine Upto.tk 2 ?_ rfl (fun w' hS => ?_) hS0 ?_
   rotate_left
   ·(try dsimp only at hS); go_split_ands; go_simp; (try with_reducible rfl)
   simp only [Act.put, q1Pw27, q2Pw27, q3Pw27]
   refine Upto.tk 5 ?_ rfl (fun w' hS => ?_) hS0 ?_
   rotate_left
   ·(try dsimp only at hS); go_split_ands; go_simp; (try with_reducible rfl)
   simp only [Act.put, q1Pw27, q2Pw27, q3Pw27]
   refine Upto.tk 6 ?_ rfl (fun w' hS => ?_) hS0 ?_
   rotate_left
   ·(try dsimp only at hS); go_split_ands; go_simp; (try with_reducible rfl)
   simp only [Act.put, q1Pw27, q2Pw27, q3Pw27]
   refine Upto.tk 7 ?_ rfl (fun w' hS => ?_) hS0 ?_
   rotate_left
   ·(try dsimp only at hS); go_split_ands; go_simp; (try with_reducible rfl)
   simp only [Act.put, q1Pw27, q2Pw27, q3Pw27]
   refine Upto.tk 8 ?_ rfl (fun w' hS => ?_) hS0 ?_
   rotate_left
   ·(try dsimp only at hS); go_split_ands; go_simp; (try with_reducible rfl)
   simp only [Act.put, q1Pw27, q2Pw27, q3Pw27]
   refine Upto.tk 9 ?_ rfl (fun w' hS => ?_) hS0 ?_
   rotate_left
   ·(try dsimp only at hS); go_split_ands; go_simp; (try with_reducible rfl)
   simp only [Act.put, q1Pw27, q2Pw27, q3Pw27]
   refine Upto.tk 10 ?_ rfl (fun w' hS => ?_) hS0 ?_
   rotate_left
   ·(try dsimp only at hS); go_split_ands; go_simp; (try with_reducible rfl)
   simp only [Act.put, q1Pw27, q2Pw27, q3Pw27]
   refine Upto.tk 11 ?_ rfl (fun w' hS => ?_) hS0 ?_
   rotate_left
   ·(try dsimp only at hS); go_split_ands; go_simp; (try with_reducible rfl)
   simp only [Act.put, q1Pw27, q2Pw27, q3Pw27]
   refine Upto.law (i := 1) rfl (by kernel_rfl) rfl (fun K hK => ?_)
   refine wp_enter (f := 23) (args := #[.pointer (some ⟨b, 0, none⟩)]) (by go_simp; (try with_reducible rfl)) (CW.out _ hS0.2.1) ?_
   intro e w5 hq5
   obtain ⟨rfl, b5⟩ := quiet_ret hq5
   have B5 : Hid (Below w4.heap.size w4 w5) := Lib.hid ((Below.refl _ _).drew.trans b5)
   have A5 := Lib.hid (A4.out.keep B5.out.size (fun k f => B5.out.block k (A4.out.lt k f)))
   have hS1 : Below w4.heap.size w4 w5 ∧ Bk w5 b 67 (lgC d L (.slice A n c) (.slice Q p q)) ∧ w5.cell? ⟨b, 1, none⟩ = some (.int .i64 L.count) := ⟨B5.out, A5.out.bk, A5.out.bk.cell 1⟩
   refine ⟨_, rfl, hK _ _ hS1 ?_⟩
   clear hK b5 hq5 hS0 CW
   simp only [Act.put, q1Pw27, q2Pw27, q3Pw27]
   refine Upto.law (i := 3) rfl (by kernel_rfl) rfl (fun K hK => ?_)
   refine wp_enter (f := 24) (args := #[.int .i64 (L.size + (N : Int))]) (by go_simp; (try with_reducible rfl)) (CF.out _) ?_
   intro e w6 hq6
   obtain ⟨rfl, b6⟩ := quiet_ret hq6
   have B6 : Hid (Below w4.heap.size w4 w6) := Lib.hid (B5.out.trans (b6.mono B5.out.size))
   have A6 := Lib.hid (A4.out.keep B6.out.size (fun k f => B6.out.block k (A4.out.lt k f)))
   have hS0 : Below w4.heap.size w4 w6 ∧ Bk w6 b 67 (lgC d L (.slice A n c) (.slice Q p q)) ∧ w6.cell? ⟨b, 1, none⟩ = some (.int .i64 L.count) := ⟨B6.out, A6.out.bk, A6.out.bk.cell 1⟩
   refine ⟨_, rfl, hK _ _ hS0 ?_⟩
   clear hK b6 hq6 hS1 CF A5 B5
   simp only [Act.put, q1Pw27, q2Pw27, q3Pw27]
   refine Upto.tk 4 ?_ rfl (fun w' hS => ?_) hS0 ?_
   rotate_left
   ·(try dsimp only at hS); go_split_ands; go_simp; (try with_reducible rfl)
   simp only [Act.put, q1Pw27, q2Pw27, q3Pw27]
   refine Upto.tail rfl (by kernel_rfl) ?_
   simp only [List.drop_succ_cons, List.drop_zero]
   have e1 : IntKind.i64.wrap (wt + sf) = wt + sf := IntWalk.i64_in _ (by omega)
   have e2 : IntKind.i64.wrap (L.count - max spare 0) = L.count - max spare 0 := IntWalk.i64_in _ (by omega)
   simp only [e1, e2]
   go_wp2_with fail
   refine NoPanic.normal ?_
   clear e1 e2
   by_cases hfull : L.count - max spare 0 < wt + sf
   ·have R9 := Lib.hid (NO.out 90 w6 (by decide) (by rw [HAP.out, if_pos hfull]) (B3.out.trans ((B4.out.trans (B6.out.mono B4.out.size)).mono B3.out.size)))
    clear A6 hS0
    go_wp2_with fail
    go_ret2
    exact R9.out
   ·have HAP0 : Hid (L.apE x.read spare = 0) := Lib.hid (by rw [HAP.out, if_neg hfull])
    have B16 : Hid (Below W1.heap.size W1 w6) := Lib.hid (B3.out.trans ((B4.out.trans (B6.out.mono B4.out.size)).mono B3.out.size))
    have y7 : w6.cell? ⟨b, 7, none⟩ = some (.slice A n c) := A6.out.bk.cell 7
    have y8 : w6.cell? ⟨b, 8, none⟩ = some (.int .i64 L.next) := A6.out.bk.cell 8
    have y10 : w6.cell? ⟨b, 10, none⟩ = some (.int .i64 L.size) := A6.out.bk.cell 10
    have Y6 := Lib.hid (Y3.out.1.below (B4.out.trans (B6.out.mono B4.out.size)))
    have CR := Lib.hid (wgRecordOf_any Ab nb cb l w6.drew (Y6.out.below (Below.refl _ _).drew).byt)
    rw [HDC.out] at CR
    have hdv : (L.size).tdiv 242 = L.size / 242 := Int.tdiv_eq_ediv_of_nonneg hsz.1
    have hdv2 : 0 ≤ L.size / 242 ∧ L.size / 242 ≤ 2000000000000000 := by omega
    clear hS0
    have hS0 : w6.drew.cell? ⟨b, 7, none⟩ = some (.slice A n c) ∧ w6.drew.cell? ⟨b, 8, none⟩ = some (.int .i64 L.next) ∧ w6.drew.cell? ⟨b, 10, none⟩ = some (.int .i64 L.size) := ⟨y7, y8, y10⟩
    clear y7 y8 y10 HAP
    go_upto_region 10 with fail
    refine wp_region_noPanic ?_
    refine upto_start (fun w' => w'.cell? ⟨b, 7, none⟩ = some (.slice A n c) ∧ w'.cell? ⟨b, 8, none⟩ = some (.int .i64 L.next) ∧ w'.cell? ⟨b, 10, none⟩ = some (.int .i64 L.size)) 20 (by kernel_rfl) ?_
    change Upto _ _ _ _ _ 23 _ _ _
    refine Upto.tk 0 ?_ rfl (fun w' hS => ?_) hS0 ?_
    rotate_left
    ·(try dsimp only at hS); go_split_ands; go_simp; (try with_reducible rfl)
    simp only [Act.put, q1Pw27, q2Pw27, q3Pw27]
    refine Upto.tk 1 ?_ rfl (fun w' hS => ?_) hS0 ?_
    rotate_left
    ·(try dsimp only at hS); go_split_ands; go_simp; (try with_reducible rfl)
    simp only [Act.put, q1Pw27, q2Pw27, q3Pw27]
    refine Upto.tk 2 ?_ rfl (fun w' hS => ?_) hS0 ?_
    rotate_left
    ·(try dsimp only at hS); go_split_ands; go_simp; (try with_reducible rfl)
    simp only [Act.put, q1Pw27, q2Pw27, q3Pw27]
    refine Upto.tk 3 ?_ rfl (fun w' hS => ?_) hS0 ?_
    rotate_left
    ·(try dsimp only at hS); go_split_ands; go_simp; (try with_reducible rfl)
    simp only [Act.put, q1Pw27, q2Pw27, q3Pw27]
    refine Upto.tk 4 ?_ rfl (fun w' hS => ?_) hS0 ?_
    rotate_left
    ·(try dsimp only at hS); go_split_ands; go_simp; (try with_reducible rfl)
    simp only [Act.put, q1Pw27, q2Pw27, q3Pw27]
    refine Upto.tk 5 ?_ rfl (fun w' hS => ?_) hS0 ?_
    rotate_left
    ·(try dsimp only at hS); go_split_ands; go_simp; (try with_reducible rfl)
    simp only [Act.put, q1Pw27, q2Pw27, q3Pw27]
    refine Upto.tk 7 ?_ rfl (fun w' hS => ?_) hS0 ?_
    rotate_left
    ·(try dsimp only at hS); go_split_ands; go_simp; (try with_reducible rfl)
    simp only [Act.put, q1Pw27, q2Pw27, q3Pw27]
    refine Upto.tk 8 ?_ rfl (fun w' hS => ?_) hS0 ?_
    rotate_left
    ·(try dsimp only at hS); go_split_ands; go_simp; (try with_reducible rfl)
    simp only [Act.put, q1Pw27, q2Pw27, q3Pw27]
    refine Upto.tk 9 ?_ rfl (fun w' hS => ?_) hS0 ?_
    rotate_left
    ·(try dsimp only at hS); go_split_ands; go_simp; (try with_reducible rfl)
    simp only [Act.put, q1Pw27, q2Pw27, q3Pw27]
    refine Upto.tk 10 ?_ rfl (fun w' hS => ?_) hS0 ?_
    rotate_left
    ·(try dsimp only at hS); go_split_ands; go_simp; (try with_reducible rfl)
    simp only [Act.put, q1Pw27, q2Pw27, q3Pw27]
    refine Upto.tk 11 ?_ rfl (fun w' hS => ?_) hS0 ?_
    rotate_left
    ·(try dsimp only at hS); go_split_ands; go_simp; (try with_reducible rfl)
    simp only [Act.put, q1Pw27, q2Pw27, q3Pw27]
    refine Upto.tk 12 ?_ rfl (fun w' hS => ?_) hS0 ?_
    rotate_left
    ·(try dsimp only at hS); go_split_ands; go_simp; (try with_reducible rfl)
    simp only [Act.put, q1Pw27, q2Pw27, q3Pw27]
    refine Upto.tk 13 ?_ rfl (fun w' hS => ?_) hS0 ?_
    rotate_left
    ·(try dsimp only at hS); go_split_ands; go_simp; (try with_reducible rfl)
    simp only [Act.put, q1Pw27, q2Pw27, q3Pw27]
    refine Upto.tk 14 ?_ rfl (fun w' hS => ?_) hS0 ?_
    rotate_left
    ·(try dsimp only at hS); go_split_ands; go_simp; (try with_reducible rfl)
    simp only [Act.put, q1Pw27, q2Pw27, q3Pw27]
    refine Upto.take (i := 15) (v := .int .i64 (L.size / 242)) rfl (by kernel_rfl) (fun _ _ _ h => h) rfl (fun w' hS => by go_simp; exact IntWalk.i64_in _ (by omega)) hS0 ?_
    simp only [Act.put, q1Pw27, q2Pw27, q3Pw27]
    refine Upto.take (i := 16) (v := .int .i64 (L.next + L.size / 242)) rfl (by kernel_rfl) (fun _ _ _ h => h) rfl (fun w' hS => by go_simp; exact IntWalk.i64_in _ (by omega)) hS0 ?_
    simp only [Act.put, q1Pw27, q2Pw27, q3Pw27]
    refine Upto.law (i := 6) rfl (by kernel_rfl) rfl (fun K hK => ?_)
    refine wp_enter (f := 25) (args := #[.slice Ab nb cb]) (by go_simp; (try with_reducible rfl)) (CR.out) ?_
    rintro e w7 ⟨x2, rfl, hx2, hn2, hr2, b7, _⟩
    have B7 : Hid (Below w6.heap.size w6 w7) := Lib.hid ((Below.refl _ _).drew.trans b7)
    have A7 := Lib.hid (A6.out.keep B7.out.size (fun k f => B7.out.block k (A6.out.lt k f)))
    have hS1 : w7.cell? ⟨b, 7, none⟩ = some (.slice A n c) ∧ w7.cell? ⟨b, 8, none⟩ = some (.int .i64 L.next) ∧ w7.cell? ⟨b, 10, none⟩ = some (.int .i64 L.size) := ⟨A7.out.bk.cell 7, A7.out.bk.cell 8, A7.out.bk.cell 10⟩
    refine ⟨_, rfl, hK _ _ hS1 ?_⟩
    have X2 : Hid (XrIn w7.heap.size w7 x2 ∧ (∀ k, x2.owns k → w6.heap.size ≤ k ∧ k < w7.heap.size) ∧ x2.read = x.read) := Lib.hid ⟨hx2, hn2, hr2⟩
    rw [Xr.val_eq]
    clear hK hS0 b7 hx2 hn2 hr2 CR
    obtain ⟨P, hP⟩ : ∃ P, P = L.next + L.size / 242 := ⟨_, rfl⟩
    (try rw [hdv])
    rw [← hP]
    (try simp only [Act.put, q1Pw27, q2Pw27, q3Pw27])
    refine Upto.take (i := 17) rfl (by kernel_rfl) (fun _ _ _ h => h) rfl (fun w' hS => exec_build rfl [(0, .agg x2.cells), (1, .int .i64 P)] (by rfl) (built_rcd x2 P)) hS1 ?_
    simp only [Act.put, q1Pw27, q2Pw27, q3Pw27]
    obtain ⟨W8, hW8⟩ : ∃ W8, W8 = w7.alloc (.cells (rcC (x2, P)).toArray 72) := ⟨_, rfl⟩
    have b8 : Below w7.heap.size w7 W8 := by rw [hW8]; exact (Below.refl _ _).alloc (Nat.le_refl _) _
    have B8 : Hid (Below w6.heap.size w6 W8) := Lib.hid (B7.out.trans (b8.mono B7.out.size))
    have A8 := Lib.hid (A6.out.keep B8.out.size (fun k f => B8.out.block k (A6.out.lt k f)))
    have V8 : Hid (Bk W8 w7.heap.size 72 (rcC (x2, P)).toArray) := Lib.hid (by rw [hW8]; exact Bk.new w7 _ _)
    have X2r : Hid (x2.read = x.read) := Lib.hid X2.out.2.2
    have X8 : Hid (XrIn W8.heap.size W8 x2 ∧ (∀ k, x2.owns k → w6.heap.size ≤ k ∧ k < W8.heap.size)) := Lib.hid ⟨(X2.out.1.calm (Calm.of_below b8)).up b8.size, fun k q => ⟨(X2.out.2.1 k q).1, Nat.lt_of_lt_of_le (X2.out.2.1 k q).2 b8.size⟩⟩
    have hS2 : W8.cell? ⟨b, 7, none⟩ = some (.slice A n c) ∧ W8.cell? ⟨b, 8, none⟩ = some (.int .i64 L.next) ∧ W8.cell? ⟨b, 10, none⟩ = some (.int .i64 L.size) := ⟨A8.out.bk.cell 7, A8.out.bk.cell 8, A8.out.bk.cell 10⟩
    refine Upto.only (i := 18) rfl (by kernel_rfl) rfl (w' := W8) (exec_buildSlice rfl [(0, .agg (rcC (x2, P)).toArray)] (by rfl) (by rw [hW8]; exact bslice_rcd _ _ _)) hS2 ?_
    simp only [Act.put, q1Pw27, q2Pw27, q3Pw27]
    obtain ⟨g8, hg8⟩ : ∃ g, w7.heap.size = g := ⟨_, rfl⟩
    rw [hg8] at V8 ⊢
    obtain ⟨i0, hi, hz0, hz1, hz2⟩ := info_parts info_rcd
    have hn1 := HLEN.out.2.1
    have hn2 := HF.out.recs
    have hn : n ≤ 1000000 := by omega
    clear hS1 hW8 b8 hg8 X2 hn1 hn2
    refine Upto.law (i := 19) rfl (by kernel_rfl) rfl (fun K hK => ?_)
    refine wp_append_1 _ _ 64 (by rfl) 0 72 i0 _ 17 256 Tryz.underlying64 hi hz0 hz1 hz2 (by rfl) (by omega) (by rfl) A8.out.recs (g := g8) (cs := (rcC (x2, P)).toArray) (by rfl) V8.out (by simp [rcC_len]) (rcd_one _ _) hn (by omega) (Nat.zero_le _) ?_
    intro A' c' w9 k1 k2 k3
    have hbk9 : w9.cell? ⟨b, 7, none⟩ = some (.slice A n c) ∧ w9.cell? ⟨b, 8, none⟩ = some (.int .i64 L.next) ∧ w9.cell? ⟨b, 10, none⟩ = some (.int .i64 L.size) := by
     have e : Bk w9 b 67 (lgC d L (.slice A n c) (.slice Q p q)) := A8.out.bk.eq (k2.block b (A8.out.lt b A8.out.fb) (fun e => A8.out.rb b e.symm rfl))
     exact ⟨e.cell 7, e.cell 8, e.cell 10⟩
    have hf9 : w9.frozen? ⟨b, 7, none⟩ = false := by
     have e : Bk w9 b 67 (lgC d L (.slice A n c) (.slice Q p q)) := A8.out.bk.eq (k2.block b (A8.out.lt b A8.out.fb) (fun e => A8.out.rb b e.symm rfl))
     exact e.frz 7
    have B18 : Below W1.heap.size W1 W8 := B16.out.trans (B8.out.mono B16.out.size)
    have R9 := Lib.hid (HA.out.addRec B18 (show -9223372036854775808 ≤ P ∧ P ≤ 9223372036854775807 by omega) X8.out.1 (fun k q => ⟨Nat.le_trans B16.out.size (X8.out.2 k q).1, (X8.out.2 k q).2⟩) (by simpa using k1) k2 k3)
    have hbk9' : Bk w9 b 67 (lgC d L (.slice A n c) (.slice Q p q)) := A8.out.bk.eq (k2.block b (A8.out.lt b A8.out.fb) (fun e => A8.out.rb b e.symm rfl))
    have Y10 := Lib.hid ((((Y6.out.below B8.out).apart A8.out.recs (by decide) k2).set (i := 7) (u := .slice A' (n + 1) c') hbk9' (by decide)))
    have S9 : Hid (w3.heap.size ≤ w9.heap.size) := Lib.hid (by have := B4.out.size; have := B6.out.size; have := B8.out.size; have := k2.size; omega)
    refine hK _ _ hbk9 ?_
    have y7 := hbk9.1
    clear hK k1 k2 k3 hbk9 hbk9' B18 V8 X8 hi hz0 hz1 hz2 hS2
    simp only [Act.put, q1Pw27, q2Pw27, q3Pw27]
    refine Upto.tail rfl (by kernel_rfl) ?_
    simp only [List.drop_succ_cons, List.drop_zero]
    go_wp2_with fail
    refine NoPanic.normal ?_
    obtain ⟨w10, hw10⟩ : ∃ w10, w10 = w9.setCell ⟨b, 7, none⟩ (.slice A' (n + 1) c') := ⟨_, rfl⟩
    (try rw [← hw10])
    rw [← hw10] at Y10 R9
    have HW10 := Lib.hid hw10
    have HBF : Hid (∀ y, Ab = some y → grow F W1 w9 y.block) := Lib.hid (fun y hy => .inr ⟨(Y3.out.2 y hy).1, Nat.lt_of_lt_of_le (Y3.out.2 y hy).2 S9.out⟩)
    obtain ⟨F1, hF1⟩ : ∃ F1, F1 = grow F W1 w9 := ⟨_, rfl⟩
    rw [← hF1] at R9 HBF
    have HF1 : Hid (∀ k, F1 k → grow F W1 w10 k) := Lib.hid (fun k f => by
     rw [hF1] at f
     rcases f with f | f
     ·exact .inl f
     ·exact .inr ⟨f.1, by rw [HW10.out]; simpa [World.setCell] using f.2⟩)
    have y9 : w10.cell? ⟨b, 9, none⟩ = some (.slice Q p q) := R9.out.1.bk.cell 9
    obtain ⟨W11, hW11⟩ : ∃ W11, W11 = w10.alloc (.cells #[.slice Ab nb cb] 59) := ⟨_, rfl⟩
    have b11 : Below w10.heap.size w10 W11 := by rw [hW11]; exact (Below.refl _ _).alloc (Nat.le_refl _) _
    have A11 := Lib.hid (R9.out.1.keep b11.size (fun k f => b11.block k (R9.out.1.lt k f)))
    have FR2 : Hid (Fr F1 w10 W11) := Lib.hid (Fr.of_below b11)
    have Y11 := Lib.hid (Y10.out.below b11)
    have V11 : Hid (Bk W11 w10.heap.size 59 #[.slice Ab nb cb]) := Lib.hid (by rw [hW11]; exact Bk.new w10 _ _)
    have HW11 := Lib.hid hW11
    obtain ⟨i0, hi, hz0, hz1, hz2⟩ := info_parts info_bod
    have hp1 := HLEN.out.2.2
    have hp2 := HF.out.wait
    have hp : p ≤ 1000000 := by omega
    have h11 : w10.heap.size < W11.heap.size := by rw [hW11]; simp
    clear hw10 hF1 b11 hW11 hp1 hp2 y7 hf9
    go_upto_region 12 with (at_builtin; rw [← HW11.out]; refine wpList_append_1 rfl _ _ 65 rfl 0 59 i0 _ 1 24 Tryz.underlying65 hi hz0 hz1 hz2 (by rfl) (by omega) (by rfl) A11.out.wait (g := w10.heap.size) (cs := #[.slice Ab nb cb]) (by rfl) V11.out (by rfl) (by intro u hu; simp at hu; subst hu; rfl) hp (by omega) (Nat.zero_le _) ?_)
    intro Q' q' w12 k1 k2 k3
    have ab := A11.out.addBody (l := l) Y11.out HBF.out (by simpa [slV] using k1) k2 k3
    have hb12 : Bk w12 b 67 (lgC d { L with recs := L.recs ++ [(x2.read, P)] } (.slice A' (n + 1) c') (.slice Q p q)) := A11.out.bk.eq (k2.block b (A11.out.lt b A11.out.fb) (fun e => A11.out.wb b e.symm rfl))
    have y9 : w12.cell? ⟨b, 9, none⟩ = some (.slice Q p q) := hb12.cell 9
    have f9 : w12.frozen? ⟨b, 9, none⟩ = false := hb12.frz 9
    obtain ⟨w13, hw13⟩ : ∃ w13, w13 = w12.setCell ⟨b, 9, none⟩ (.slice Q' (p + 1) q') := ⟨_, rfl⟩
    rw [← hw13] at ab
    have A13 := Lib.hid ab.1
    have FR3 : Hid (Fr F1 W11 w13) := Lib.hid ab.2
    have HW13 := Lib.hid hw13
    have h12 := k2.size
    clear k1 k2 k3 ab hw13 hi hz0 hz1 hz2 hb12 V11
    go_upto_region 12 with fail
    rw [← HW13.out]
    clear y9 f9
    have y10 : w13.cell? ⟨b, 10, none⟩ = some (.int .i64 L.size) := A13.out.bk.cell 10
    have f10 : w13.frozen? ⟨b, 10, none⟩ = false := A13.out.bk.frz 10
    obtain ⟨w14, hw14⟩ : ∃ w14, w14 = w13.setCell ⟨b, 10, none⟩ (.int .i64 (L.size + (N : Int))) := ⟨_, rfl⟩
    have e2 : ({ recs := L.recs ++ [(x2.read, P)], wait := L.wait ++ [l], size := L.size + (N : Int), count := L.count, m := L.m, next := L.next, forces := L.forces, down := L.down } : Lg) = L.apL x.read := by
     unfold Lg.apL
     rw [X2r.out, hP, HL.out.1, HL.out.2]
    have A14 := A13.out.setc (i := 10) (u := .int .i64 (L.size + (N : Int))) (L' := { recs := L.recs ++ [(x2.read, P)], wait := L.wait ++ [l], size := L.size + (N : Int), count := L.count, m := L.m, next := L.next, forces := L.forces, down := L.down }) (fun r q => by rfl) rfl rfl
    rw [← hw14, e2] at A14
    have FR5 : Hid (Fr F W1 w14) := Lib.hid (by
     have t2 : Fr F1 w10 w14 := by
      rw [hw14]
      exact (FR2.out.then FR3.out).setCell (a := ⟨b, 10, none⟩) R9.out.1.fb _
     exact R9.out.2.trans (t2.mono HF1.out))
    have TN : Turn (lgR b d (L.apL x.read)) F W1 w14 := (A14.mono (F' := grow F W1 w14) (fun k f => by
     have s1 := FR5.out.size
     have s13 : w13.heap.size = w12.heap.size := by rw [HW13.out]; simp [World.setCell]
     have s14 : w14.heap.size = w13.heap.size := by rw [hw14]; simp [World.setCell]
     have s10 : w10.heap.size ≤ W11.heap.size := Nat.le_of_lt h11
     rcases f with f | f
     ·rcases HF1.out k f with g | g
      ·exact .inl g
      ·exact .inr ⟨g.1, by have := g.2; omega⟩
     ·refine .inr ⟨?_, by omega⟩
      have := R9.out.2.size
      omega) (fun k f => by
     rcases f with f | f
     ·exact Nat.lt_of_lt_of_le (HA.out.lt k f) FR5.out.size
     ·exact f.2)).turn FR5.out
    have RH := Lib.hid (HTT.out _ _ TN)
    have CLA := Lib.hid (wgLast_any A14.bk F2.out (by show (L.recs ++ [_]).length = n + 1; rw [List.length_append, HLEN.out.2.1]; rfl))
    have hlast : (L.apL x.read).last = L.last + 1 := by unfold Lg.last Lg.apL; simp; omega
    have EA : Hid (L.app x.read spare = L.apL x.read ∧ L.apN x.read spare = L.last + 1) := Lib.hid ⟨if_pos HAP0.out, if_pos HAP0.out⟩
    rw [hlast] at CLA
    have HW14 := Lib.hid hw14
    clear A14 TN hw14 e2 hlast
    go_wp2_with fail
    rw [← HW14.out]
    refine CLA.out.mono ?_
    rintro e w15 ⟨rfl, kk, rfl⟩
    have R99 : Hid (RetHas (.tuple #[.int .i64 (L.apN x.read spare), .int .i64 (L.apE x.read spare)]) B ((lgR b d (L.app x.read spare)).star R) w (.returned (.tuple #[.int .i64 (L.last + 1), .int .i64 0])) (w14.drewN kk)) := Lib.hid (by
     rw [EA.out.1, EA.out.2, HAP0.out]
     have bb : Below B w w14 := (HB1.out.mono HBB.out).trans RH.out.2
     exact ⟨rfl, RH.out.1.below (bel_dn (Below.refl _ _) kk), bel_dn bb kk⟩)
    go_wp2_with fail
    go_ret2
    exact R99.out
end
end
end Go.Proofs.YtfmfmdiegabobabGreatDoor
