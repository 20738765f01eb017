/- What it says: contracts and plain mathematics that the laws' walks use, 2 of 33: each part's own remark says what; no condition. -/
import Derived.Test.YtfmfmdiegabobabGreatDoorPw1
import Derived.Deep.QuietTactic
import Derived.BigQuiet
import Derived.Laws.Build
import Derived.Below
import Derived.Test.YtfmfmdiegabobabGreatDoorRows
import Derived.Laws.BitsAllLaws

set_option linter.unusedSimpArgs false
set_option linter.unusedVariables false
set_option linter.deprecated false
set_option linter.unusedSectionVars false
set_option linter.all false
set_option maxRecDepth 100000
set_option maxHeartbeats 16000000
namespace Go.Proofs.YtfmfmdiegabobabGreatDoor

/- seal.take at its four types: behind an error, or of a nil reader, it answers nothing; what its decoder refuses becomes the reader's error; else the reader goes on behind the value. -/
section
open Go.RowKit
def Dec (v : Value) (used er : Nat) (w : World) (e : Ending) (w' : World) : Prop := e = .returned (.tuple #[v, .int .i64 used, .int .i64 er]) ∧ ∃ m, w' = w.drewN m
theorem Bk.drewN {w : World} {g : Nat} {t : TypeId} {cs : Array Value} (h : Bk w g t cs) (m : Nat) : Bk (w.drewN m) g t cs := h
theorem takeInt_err (b : Nat) (q : Addr) (A : Option Addr) (n c e0 : Nat) (w : World) (h : Bk w b 169 #[.slice A n c, .int .i64 e0]) (he : e0 ≠ 0) :
  Calls Tryz.prog 132 #[.pointer (some ⟨b, 0, none⟩), .func (.func 133) #[] #[.pointer (some q)]] w (fun e w' => e = .returned (.int .i64 0) ∧ w = w') := by
 have h1 : w.cell? ⟨b, 1, none⟩ = some (.int .i64 e0) := h.cell 1
 have hne : ((e0 : Int) != 0) = true := by simp; omega
 clear h he
 go_enter Tryz.func132, Tryz.ntmps132
 go_wp2_with fail
 go_ret
 exact ⟨rfl, rfl⟩
theorem takeInt_fail (b : Nat) (q : Addr) (A : Option Addr) (n c : Nat) (v : Value) (used er : Nat) (w : World) (h : Bk w b 169 #[.slice A n c, .int .i64 0]) (he : er ≠ 0)
  (hd : Calls Tryz.prog 133 #[.slice A n c, .pointer (some q)] w (Dec v used er w)) :
  Calls Tryz.prog 132 #[.pointer (some ⟨b, 0, none⟩), .func (.func 133) #[] #[.pointer (some q)]] w (fun e w' => e = .returned (.int .i64 0) ∧ ∃ m, w' = (w.drewN m).setCell ⟨b, 1, none⟩ (.int .i64 er)) := by
 have h0 : w.cell? ⟨b, 0, none⟩ = some (.slice A n c) := h.cell 0
 have h1 : w.cell? ⟨b, 1, none⟩ = some (.int .i64 0) := h.cell 1
 have hf := h.frz 1
 have hne : ((er : Int) != 0) = true := by simp; omega
 have HD := Lib.hid hd
 clear h he hd
 go_enter Tryz.func132, Tryz.ntmps132
 go_wp2_with fail
 refine HD.out.mono ?_
 rintro e w1 ⟨rfl, m, rfl⟩
 go_wp2_with fail
 go_ret
 exact ⟨rfl, m, rfl⟩
theorem takeInt_ok (b : Nat) (q : Addr) (A : Option Addr) (n c : Nat) (v : Value) (used : Nat) (w : World) (h : Bk w b 169 #[.slice A n c, .int .i64 0]) (B : Option Addr) (k d : Nat)
  (hs : ∀ u, (Instr.slice 59 (.slice A n c) (some (.int .i64 used)) none none).run Tryz.prog u = .ok (.slice B k d) u)
  (hd : Calls Tryz.prog 133 #[.slice A n c, .pointer (some q)] w (Dec v used 0 w)) :
  Calls Tryz.prog 132 #[.pointer (some ⟨b, 0, none⟩), .func (.func 133) #[] #[.pointer (some q)]] w (fun e w' => e = .returned v ∧ ∃ m, w' = (w.drewN m).setCell ⟨b, 0, none⟩ (.slice B k d)) := by
 have h0 : w.cell? ⟨b, 0, none⟩ = some (.slice A n c) := h.cell 0
 have h1 : w.cell? ⟨b, 1, none⟩ = some (.int .i64 0) := h.cell 1
 have hf := h.frz 0
 have HD := Lib.hid hd
 clear h hd
 go_enter Tryz.func132, Tryz.ntmps132
 go_wp2_with fail
 refine HD.out.mono ?_
 rintro e w1 ⟨rfl, m, rfl⟩
 go_wp2_with fail
 go_ret
 exact ⟨rfl, m, rfl⟩
theorem takeBool_err (b : Nat) (A : Option Addr) (n c e0 : Nat) (w : World) (h : Bk w b 169 #[.slice A n c, .int .i64 e0]) (he : e0 ≠ 0) :
  Calls Tryz.prog 145 #[.pointer (some ⟨b, 0, none⟩), .func (.func 146) #[] #[]] w (fun e w' => e = .returned (.bool false) ∧ w = w') := by
 have h1 : w.cell? ⟨b, 1, none⟩ = some (.int .i64 e0) := h.cell 1
 have hne : ((e0 : Int) != 0) = true := by simp; omega
 clear h he
 go_enter Tryz.func145, Tryz.ntmps145
 go_wp2_with fail
 go_ret
 exact ⟨rfl, rfl⟩
theorem takeBool_fail (b : Nat) (A : Option Addr) (n c : Nat) (v : Value) (used er : Nat) (w : World) (h : Bk w b 169 #[.slice A n c, .int .i64 0]) (he : er ≠ 0)
  (hd : Calls Tryz.prog 146 #[.slice A n c] w (Dec v used er w)) :
  Calls Tryz.prog 145 #[.pointer (some ⟨b, 0, none⟩), .func (.func 146) #[] #[]] w (fun e w' => e = .returned (.bool false) ∧ ∃ m, w' = (w.drewN m).setCell ⟨b, 1, none⟩ (.int .i64 er)) := by
 have h0 : w.cell? ⟨b, 0, none⟩ = some (.slice A n c) := h.cell 0
 have h1 : w.cell? ⟨b, 1, none⟩ = some (.int .i64 0) := h.cell 1
 have hf := h.frz 1
 have hne : ((er : Int) != 0) = true := by simp; omega
 have HD := Lib.hid hd
 clear h he hd
 go_enter Tryz.func145, Tryz.ntmps145
 go_wp2_with fail
 refine HD.out.mono ?_
 rintro e w1 ⟨rfl, m, rfl⟩
 go_wp2_with fail
 go_ret
 exact ⟨rfl, m, rfl⟩
theorem takeBool_ok (b : Nat) (A : Option Addr) (n c : Nat) (v : Value) (used : Nat) (w : World) (h : Bk w b 169 #[.slice A n c, .int .i64 0]) (B : Option Addr) (k d : Nat)
  (hs : ∀ u, (Instr.slice 59 (.slice A n c) (some (.int .i64 used)) none none).run Tryz.prog u = .ok (.slice B k d) u)
  (hd : Calls Tryz.prog 146 #[.slice A n c] w (Dec v used 0 w)) :
  Calls Tryz.prog 145 #[.pointer (some ⟨b, 0, none⟩), .func (.func 146) #[] #[]] w (fun e w' => e = .returned v ∧ ∃ m, w' = (w.drewN m).setCell ⟨b, 0, none⟩ (.slice B k d)) := by
 have h0 : w.cell? ⟨b, 0, none⟩ = some (.slice A n c) := h.cell 0
 have h1 : w.cell? ⟨b, 1, none⟩ = some (.int .i64 0) := h.cell 1
 have hf := h.frz 0
 have HD := Lib.hid hd
 clear h hd
 go_enter Tryz.func145, Tryz.ntmps145
 go_wp2_with fail
 refine HD.out.mono ?_
 rintro e w1 ⟨rfl, m, rfl⟩
 go_wp2_with fail
 go_ret
 exact ⟨rfl, m, rfl⟩
theorem takeStr_err (b : Nat) (q : Addr) (A : Option Addr) (n c e0 : Nat) (w : World) (h : Bk w b 169 #[.slice A n c, .int .i64 e0]) (he : e0 ≠ 0) :
  Calls Tryz.prog 143 #[.pointer (some ⟨b, 0, none⟩), .func (.func 144) #[] #[.pointer (some q)]] w (fun e w' => e = .returned (.string ByteArray.empty) ∧ w = w') := by
 have h1 : w.cell? ⟨b, 1, none⟩ = some (.int .i64 e0) := h.cell 1
 have hne : ((e0 : Int) != 0) = true := by simp; omega
 clear h he
 go_enter Tryz.func143, Tryz.ntmps143
 go_wp2_with fail
 go_ret
 exact ⟨rfl, rfl⟩
theorem takeStr_fail (b : Nat) (q : Addr) (A : Option Addr) (n c : Nat) (v : Value) (used er : Nat) (w : World) (h : Bk w b 169 #[.slice A n c, .int .i64 0]) (he : er ≠ 0)
  (hd : Calls Tryz.prog 144 #[.slice A n c, .pointer (some q)] w (Dec v used er w)) :
  Calls Tryz.prog 143 #[.pointer (some ⟨b, 0, none⟩), .func (.func 144) #[] #[.pointer (some q)]] w (fun e w' => e = .returned (.string ByteArray.empty) ∧ ∃ m, w' = (w.drewN m).setCell ⟨b, 1, none⟩ (.int .i64 er)) := by
 have h0 : w.cell? ⟨b, 0, none⟩ = some (.slice A n c) := h.cell 0
 have h1 : w.cell? ⟨b, 1, none⟩ = some (.int .i64 0) := h.cell 1
 have hf := h.frz 1
 have hne : ((er : Int) != 0) = true := by simp; omega
 have HD := Lib.hid hd
 clear h he hd
 go_enter Tryz.func143, Tryz.ntmps143
 go_wp2_with fail
 refine HD.out.mono ?_
 rintro e w1 ⟨rfl, m, rfl⟩
 go_wp2_with fail
 go_ret
 exact ⟨rfl, m, rfl⟩
theorem takeStr_ok (b : Nat) (q : Addr) (A : Option Addr) (n c : Nat) (v : Value) (used : Nat) (w : World) (h : Bk w b 169 #[.slice A n c, .int .i64 0]) (B : Option Addr) (k d : Nat)
  (hs : ∀ u, (Instr.slice 59 (.slice A n c) (some (.int .i64 used)) none none).run Tryz.prog u = .ok (.slice B k d) u)
  (hd : Calls Tryz.prog 144 #[.slice A n c, .pointer (some q)] w (Dec v used 0 w)) :
  Calls Tryz.prog 143 #[.pointer (some ⟨b, 0, none⟩), .func (.func 144) #[] #[.pointer (some q)]] w (fun e w' => e = .returned v ∧ ∃ m, w' = (w.drewN m).setCell ⟨b, 0, none⟩ (.slice B k d)) := by
 have h0 : w.cell? ⟨b, 0, none⟩ = some (.slice A n c) := h.cell 0
 have h1 : w.cell? ⟨b, 1, none⟩ = some (.int .i64 0) := h.cell 1
 have hf := h.frz 0
 have HD := Lib.hid hd
 clear h hd
 go_enter Tryz.func143, Tryz.ntmps143
 go_wp2_with fail
 refine HD.out.mono ?_
 rintro e w1 ⟨rfl, m, rfl⟩
 go_wp2_with fail
 go_ret
 exact ⟨rfl, m, rfl⟩
end

/- a reader behind a pointer; seal.take at its four types as one step of it: the value, the rest, the error. -/
section
open Go.RowKit
structure Rd (w : World) (t : TypeId) (b g : Nat) (l : List Int) (e : Nat) : Prop where
 ne : g ≠ b
 ex : ∃ A n c, Bk w b t #[.slice A n c, .int .i64 e] ∧ Byt w A n c l ∧ (0 < n → ∀ a, A = some a → a.block = g)
theorem Byt.grown {w w' : World} {A : Option Addr} {n c : Nat} {l : List Int} {row : Option Nat} (h : Byt w A n c l) (hg : w.grownBy w' row) (hne : 0 < n → ∀ a, A = some a → some a.block ≠ row) : Byt w' A n c l :=
 ⟨h.len, h.cap, h.max, h.rng, h.nil_, fun hn => by
  obtain ⟨g, off, e, hc⟩ := h.at_ hn
  exact ⟨g, off, e, fun i hi => hg.cell (hc i hi) (show some g ≠ row from hne hn ⟨g, off, none⟩ e)⟩⟩
theorem Rd.grown {w w' : World} {t : TypeId} {b g : Nat} {l : List Int} {e : Nat} {row : Option Nat} (h : Rd w t b g l e) (hg : w.grownBy w' row) (hb : some b ≠ row) (hgr : some g ≠ row) : Rd w' t b g l e := by
 obtain ⟨A, n, c, h1, h2, h3⟩ := h.ex
 exact ⟨h.ne, A, n, c, (hg.block b h1.lt hb).trans h1, h2.grown hg (fun hn a ha => by rw [h3 hn a ha]; exact hgr), h3⟩
theorem grown_drewN (w : World) (m : Nat) (row : Option Nat) : w.grownBy (w.drewN m) row := ⟨rfl, rfl, rfl, Nat.le_refl _, fun _ _ _ => rfl⟩
theorem grown_set (w : World) (b k : Nat) (v : Value) : w.grownBy (w.setCell ⟨b, k, none⟩ v) (some b) :=
 ⟨rfl, rfl, rfl, by simp [World.setCell], fun i _ hi => Below.heap_setCell w _ _ i (fun e => hi (by simp [e]))⟩
theorem grown_trans {a b c : World} {row : Option Nat} (h : a.grownBy b row) (k : b.grownBy c row) : a.grownBy c row :=
 ⟨k.os.trans h.os, k.tape.trans h.tape, k.output.trans h.output, Nat.le_trans h.size k.size, fun i hi hr => (k.block i (Nat.lt_of_lt_of_le hi h.size) hr).trans (h.block i hi hr)⟩
theorem grown_below {w w' : World} {row : Option Nat} (h : Below w.heap.size w w') : w.grownBy w' row := ⟨h.os, h.tape, h.output, h.size, fun k hk _ => h.block k hk⟩
def RdPost (t : TypeId) (b g : Nat) (l : List Int) (e0 : Nat) (v : Value) (w : World) (e : Ending) (w' : World) : Prop := e = .returned v ∧ Rd w' t b g l e0 ∧ w.grownBy w' (some b)
theorem Rd.fail {w : World} {t : TypeId} {b g : Nat} {l : List Int} {e : Nat} (h : Rd w t b g l e) (m er : Nat) : Rd ((w.drewN m).setCell ⟨b, 1, none⟩ (.int .i64 er)) t b g l er ∧ w.grownBy ((w.drewN m).setCell ⟨b, 1, none⟩ (.int .i64 er)) (some b) := by
 have hg := grown_trans (grown_drewN w m (some b)) (grown_set (w.drewN m) b 1 (.int .i64 er))
 obtain ⟨A, n, c, h1, h2, h3⟩ := h.ex
 refine ⟨⟨h.ne, A, n, c, ?_, h2.grown hg (fun hn a ha => by rw [h3 hn a ha]; simpa using h.ne), h3⟩, hg⟩
 have := (h1.drewN m).setc 1 (.int .i64 er)
 simpa using this
theorem Rd.next {w : World} {t : TypeId} {b g : Nat} {l l' : List Int} {e : Nat} (h : Rd w t b g l e) (m : Nat) {B : Option Addr} {k d : Nat} (hb : Byt w B k d l') (hB : 0 < k → ∀ a, B = some a → a.block = g) :
  Rd ((w.drewN m).setCell ⟨b, 0, none⟩ (.slice B k d)) t b g l' e ∧ w.grownBy ((w.drewN m).setCell ⟨b, 0, none⟩ (.slice B k d)) (some b) := by
 have hg := grown_trans (grown_drewN w m (some b)) (grown_set (w.drewN m) b 0 (.slice B k d))
 obtain ⟨A, n, c, h1, h2, h3⟩ := h.ex
 refine ⟨⟨h.ne, B, k, d, ?_, hb.grown hg (fun hk a ha => by rw [hB hk a ha]; simpa using h.ne), hB⟩, hg⟩
 have := (h1.drewN m).setc 0 (.slice B k d)
 simpa using this
def stepV (z v : Value) (e er : Nat) : Value := if e ≠ 0 then z else if er ≠ 0 then z else v
def stepL (l : List Int) (used e er : Nat) : List Int := if e ≠ 0 then l else if er ≠ 0 then l else l.drop used
def stepE (e er : Nat) : Nat := if e ≠ 0 then e else er
theorem takeInt_step (b g : Nat) (q : Addr) (l : List Int) (e0 : Nat) (v : Value) (used er : Nat) (w : World) (h : Rd w 169 b g l e0) (hu : er = 0 → used ≤ l.length)
  (hd : e0 = 0 → ∀ A n c, Byt w A n c l → Calls Tryz.prog 133 #[.slice A n c, .pointer (some q)] w (Dec v used er w)) :
  Calls Tryz.prog 132 #[.pointer (some ⟨b, 0, none⟩), .func (.func 133) #[] #[.pointer (some q)]] w (RdPost 169 b g (stepL l used e0 er) (stepE e0 er) (stepV (.int .i64 0) v e0 er) w) := by
 obtain ⟨A, n, c, h1, h2, h3⟩ := h.ex
 by_cases he : e0 = 0
 ·subst he
  have hd := hd rfl A n c h2
  by_cases hr : er = 0
  ·subst hr
   obtain ⟨B, k, d, hs, hkn, hb, hB⟩ := cut_lb h2 used (by rw [← h2.len]; exact hu rfl) (used : Int) rfl
   refine (takeInt_ok b q A n c v used w h1 B k d hs hd).mono ?_
   rintro e w' ⟨rfl, m, rfl⟩
   have := h.next m hb (fun hk a ha => by obtain ⟨a', e1, e2⟩ := hB a ha; rw [e2]; exact h3 (by omega) a' e1)
   simp only [stepL, stepE, stepV]
   exact ⟨rfl, this⟩
  ·refine (takeInt_fail b q A n c v used er w h1 hr hd).mono ?_
   rintro e w' ⟨rfl, m, rfl⟩
   simp only [stepL, stepE, stepV, if_pos hr, if_neg (show ¬ (0 : Nat) ≠ 0 by simp)]
   exact ⟨rfl, h.fail m er⟩
 ·refine (takeInt_err b q A n c e0 w h1 he).mono ?_
  rintro e w' ⟨rfl, rfl⟩
  simp only [stepL, stepE, stepV, if_pos he]
  exact ⟨rfl, h, grown_drewN w 0 _⟩
theorem takeBool_step (b g : Nat) (l : List Int) (e0 : Nat) (v : Value) (used er : Nat) (w : World) (h : Rd w 169 b g l e0) (hu : er = 0 → used ≤ l.length)
  (hd : e0 = 0 → ∀ A n c, Byt w A n c l → Calls Tryz.prog 146 #[.slice A n c] w (Dec v used er w)) :
  Calls Tryz.prog 145 #[.pointer (some ⟨b, 0, none⟩), .func (.func 146) #[] #[]] w (RdPost 169 b g (stepL l used e0 er) (stepE e0 er) (stepV (.bool false) v e0 er) w) := by
 obtain ⟨A, n, c, h1, h2, h3⟩ := h.ex
 by_cases he : e0 = 0
 ·subst he
  have hd := hd rfl A n c h2
  by_cases hr : er = 0
  ·subst hr
   obtain ⟨B, k, d, hs, hkn, hb, hB⟩ := cut_lb h2 used (by rw [← h2.len]; exact hu rfl) (used : Int) rfl
   refine (takeBool_ok b A n c v used w h1 B k d hs hd).mono ?_
   rintro e w' ⟨rfl, m, rfl⟩
   have := h.next m hb (fun hk a ha => by obtain ⟨a', e1, e2⟩ := hB a ha; rw [e2]; exact h3 (by omega) a' e1)
   simp only [stepL, stepE, stepV]
   exact ⟨rfl, this⟩
  ·refine (takeBool_fail b A n c v used er w h1 hr hd).mono ?_
   rintro e w' ⟨rfl, m, rfl⟩
   simp only [stepL, stepE, stepV, if_pos hr, if_neg (show ¬ (0 : Nat) ≠ 0 by simp)]
   exact ⟨rfl, h.fail m er⟩
 ·refine (takeBool_err b A n c e0 w h1 he).mono ?_
  rintro e w' ⟨rfl, rfl⟩
  simp only [stepL, stepE, stepV, if_pos he]
  exact ⟨rfl, h, grown_drewN w 0 _⟩
theorem takeStr_step (b g : Nat) (q : Addr) (l : List Int) (e0 : Nat) (v : Value) (used er : Nat) (w : World) (h : Rd w 169 b g l e0) (hu : er = 0 → used ≤ l.length)
  (hd : e0 = 0 → ∀ A n c, Byt w A n c l → Calls Tryz.prog 144 #[.slice A n c, .pointer (some q)] w (Dec v used er w)) :
  Calls Tryz.prog 143 #[.pointer (some ⟨b, 0, none⟩), .func (.func 144) #[] #[.pointer (some q)]] w (RdPost 169 b g (stepL l used e0 er) (stepE e0 er) (stepV (.string ByteArray.empty) v e0 er) w) := by
 obtain ⟨A, n, c, h1, h2, h3⟩ := h.ex
 by_cases he : e0 = 0
 ·subst he
  have hd := hd rfl A n c h2
  by_cases hr : er = 0
  ·subst hr
   obtain ⟨B, k, d, hs, hkn, hb, hB⟩ := cut_lb h2 used (by rw [← h2.len]; exact hu rfl) (used : Int) rfl
   refine (takeStr_ok b q A n c v used w h1 B k d hs hd).mono ?_
   rintro e w' ⟨rfl, m, rfl⟩
   have := h.next m hb (fun hk a ha => by obtain ⟨a', e1, e2⟩ := hB a ha; rw [e2]; exact h3 (by omega) a' e1)
   simp only [stepL, stepE, stepV]
   exact ⟨rfl, this⟩
  ·refine (takeStr_fail b q A n c v used er w h1 hr hd).mono ?_
   rintro e w' ⟨rfl, m, rfl⟩
   simp only [stepL, stepE, stepV, if_pos hr, if_neg (show ¬ (0 : Nat) ≠ 0 by simp)]
   exact ⟨rfl, h.fail m er⟩
 ·refine (takeStr_err b q A n c e0 w h1 he).mono ?_
  rintro e w' ⟨rfl, rfl⟩
  simp only [stepL, stepE, stepV, if_pos he]
  exact ⟨rfl, h, grown_drewN w 0 _⟩
end

/- bytes.Clone hands back the same bytes in new memory. -/
section
open Go.RowKit
theorem clone_own (ad : Addr) (n c : Nat) (l : List Int) (w : World) (h : Byt w (some ad) n c l) (hn : n ≤ 140737488355328) :
  Calls Tryz.prog 103 #[.slice (some ad) n c] w (RetOwn l w) := by
 obtain ⟨i0, hi, hz0, hz1, hz2⟩ := info_parts info_u8
 have hown0 := World.ownsRow_made (base := w.heap.size) (e := 5) (size := 1) w #[] 0 (Nat.le_refl _) (Nat.zero_le _) rfl
 have q := fun w : World => Lib.run_eql_slice_nil (P := Tryz.prog) w 59 5 (some ad) n c 0 0 Tryz.underlying59
 go_enter Tryz.func103, Tryz.ntmps103
 go_wp2_with (at_builtin; refine wpList_append_byt rfl _ _ 59 rfl w.heap.size 5 i0 Tryz.underlying59 hi hz0 hz1 hz2 _ 0 [] rfl (by exact hown0) (some ad) n c l rfl (h.alloc _) (by omega) (by simp) ?_)
 intro A' c' w' h1 h2
 have R := Lib.hid (own_end h.rng h1 h2)
 clear h1 h2 h hown0 q
 go_wp2
 go_ret
 exact R.out
theorem bclone_any (ad : Addr) (n c : Nat) (l : List Int) (w : World) (h : Byt w (some ad) n c l) (hn : n ≤ 140737488355328) :
  Calls Tryz.prog 103 #[.slice (some ad) n c] w (RetByt l w) := (clone_own ad n c l w h hn).mono fun _ _ h => h.byt
end

/- num.Short hands back a number's digits to the base 128, in new memory. -/
section
open Go.RowKit
structure ArrRel (n : Nat) (w : World) (m at_ : Nat) (acc : List Int) (cs : Array Value) (wr : World) : Prop where
 blk : Bk wr w.heap.size 198 cs
 size : cs.size = 10
 len : acc.length + at_ = 10
 pos : 0 < acc.length
 cells : ∀ i, i < acc.length → cs[at_ + i]? = some (.int .u8 (acc.getD i 0))
 all : hiD (m / 128) ++ acc = shortL n
 bel : Below w.heap.size w wr
theorem ArrRel.more {n : Nat} {w : World} {m at_ : Nat} {acc : List Int} {cs : Array Value} {wr : World} (h : ArrRel n w m at_ acc cs wr) (hn : n < 18446744073709551616) (hm : m / 128 ≠ 0) : ∃ j, at_ = j + 1 := by
 have h1 := shortL_len n hn
 rw [← h.all, hiD_pos hm] at h1
 simp at h1
 have := h.len
 exact ⟨at_ - 1, by omega⟩
theorem ArrRel.step {n : Nat} {w : World} {m j : Nat} {acc : List Int} {cs : Array Value} {wr : World} (h : ArrRel n w m (j + 1) acc cs wr) (hm : m / 128 ≠ 0) :
  ArrRel n w (m / 128) j ((((m / 128 : Nat) : Int) % 128 + 128) :: acc) (cs.setIfInBounds j (.int .u8 (((m / 128 : Nat) : Int) % 128 + 128))) (wr.setCell ⟨w.heap.size, j, none⟩ (.int .u8 (((m / 128 : Nat) : Int) % 128 + 128))) := by
 have hl := h.len
 refine ⟨h.blk.setc j _, by simp [h.size], by simp; omega, by simp, fun i hi => ?_, by rw [← h.all, hiD_pos hm]; simp, h.bel.setCell (Nat.le_refl _) _⟩
 have hs := h.size
 cases i with
 | zero => simp [Array.getElem?_setIfInBounds, hs]; omega
 | succ i =>
  have := h.cells i (by simpa using hi)
  rw [Array.getElem?_setIfInBounds, if_neg (by omega)]
  rw [show j + (i + 1) = j + 1 + i from by omega, this]
  simp
theorem ArrRel.byt {n : Nat} {w : World} {m at_ : Nat} {acc : List Int} {cs : Array Value} {wr : World} (h : ArrRel n w m at_ acc cs wr) (hm : m / 128 = 0) : Byt wr (some ⟨w.heap.size, at_, none⟩) (10 - at_) (10 - at_) (shortL n) := by
 have e := h.all
 rw [hm, hiD_zero, List.nil_append] at e
 have hl := h.len
 rw [← e]
 exact Byt.of_bk h.blk at_ _ _ acc (by omega) (Nat.le_refl _) (by unfold maxLen; omega) (by rw [e]; exact shortL_rng n) (fun i hi => h.cells i (by omega))
theorem ArrRel.start (n : Nat) (w : World) : ArrRel n w n 9 [(n : Int) % 128] #[.int .u8 0, .int .u8 0, .int .u8 0, .int .u8 0, .int .u8 0, .int .u8 0, .int .u8 0, .int .u8 0, .int .u8 0, .int .u8 ((n : Int) % 128)]
  (w.alloc (.cells #[.int .u8 0, .int .u8 0, .int .u8 0, .int .u8 0, .int .u8 0, .int .u8 0, .int .u8 0, .int .u8 0, .int .u8 0, .int .u8 ((n : Int) % 128)] 198)) :=
 ⟨Bk.new _ _ _, rfl, rfl, by simp, fun i hi => by
  have : i = 0 := by simpa using hi
  subst this; rfl, rfl, (Below.refl _ _).alloc (Nat.le_refl _) _⟩
theorem arrayLen10 : Tryz.prog.arrayLen 198 = 10 := by kernel_rfl
theorem elem10 : Tryz.prog.elem 198 = 5 := by kernel_rfl
theorem under10 : Tryz.prog.underlying 198 = some (.array (Tryz.prog.arrayLen 198) (Tryz.prog.elem 198)) := by kernel_rfl
theorem size_u8 (W : World) : (sizeOf 5).run Tryz.prog W = .ok 1 W := by
 obtain ⟨i0, hi, hz0, hz1, hz2⟩ := info_parts info_u8
 simp [sizeOf, typeInfo, hi, hz1]
theorem slice10 (B at_ : Nat) (h : at_ ≤ 9) (W : World) :
  (Instr.sliceAt 198 (.pointer (some ⟨B, 0, none⟩)) (some (.int .i64 (at_ : Int))) none none).run Tryz.prog W = .ok (.slice (some ⟨B, at_, none⟩) (10 - at_) (10 - at_)) W := by
 rw [run_sliceAt_array_l (P := Tryz.prog) W _ _ under10 .i64 (at_ : Int) (by omega) (by rw [arrayLen10]; omega), elem10, size_u8, arrayLen10]
 simp [slicedAt, Result.andThen]
 rw [if_neg (by omega)]
 by_cases h0 : at_ = 0 <;> simp [Addr.add, h0]
theorem numShort_any (n : Nat) (hn : n < 18446744073709551616) (w : World) :
  Calls Tryz.prog 109 #[.int .u64 n] w (RetByt (shortL n) w) := by
 have R0 := Lib.hid (ArrRel.start n w)
 go_enter Tryz.func109, Tryz.ntmps109
 go_wp2_with fail
 go_step3
 go_wp2_with fail
 go_step3
 go_wp2_with fail
 go_loopw [0, 4] (fun s v wr => ∃ (m at_ : Nat) (acc : List Int) (cs : Array Value), m < 18446744073709551616 ∧ s = .int .u64 m ∧ v = .int .i64 at_ ∧ ArrRel n w m at_ acc cs wr) (fun s _ _ => (intOf s).toNat)
 case atStart => exact ⟨n, 9, _, _, hn, rfl, rfl, R0.out⟩
 case round =>
  obtain ⟨m, at_, acc, cs, hm, rfl, rfl, R⟩ := hrel
  have HR := Lib.hid R
  clear R
  by_cases h0 : m / 128 = 0
  ·have hat : at_ ≤ 9 := by have := HR.out.len; have := HR.out.pos; omega
   have H0 := Lib.hid h0
   have hz : ((m : Int) / 128 == 0) = true := by simp; omega
   have hs := slice10 w.heap.size at_ hat
   have HB := Lib.hid (HR.out.byt h0)
   clear h0
   go_wp2_with (go_at_call 103; refine (bclone_any _ _ _ _ _ HB.out (by omega)).mono ?_; rintro e w1 ⟨A, k, c, rfl, hb, hbel⟩)
   rw [Exit.noGoto_ret]
   go_ret
   exact ⟨A, k, c, rfl, hb, Below.then HR.out.bel hbel⟩
  ·obtain ⟨j, rfl⟩ := HR.out.more hn h0
   have hj : j ≤ 9 := by have := HR.out.len; omega
   have hge : (128 : Int) ≤ (m : Int) := by omega
   obtain ⟨u, hc⟩ : ∃ u, wr.cell? ⟨w.heap.size, j, none⟩ = some u := by
    rw [HR.out.blk.cell]; exact ⟨_, Array.getElem?_eq_getElem (by rw [HR.out.size]; omega)⟩
   have hf := HR.out.blk.frz j
   have R1 := Lib.hid (HR.out.step h0)
   go_wp2_with fail
   go_roundw
   case rel => exact ⟨m / 128, j, _, _, by omega, by go_num, rfl, R1.out⟩
   case measure => simp [intOf]; omega
end

/- a writer behind a pointer, and what its methods gather; nothing else that was there is turned. -/
section
open Go.RowKit
theorem apart_row {w : World} {b base n : Nat} {t : TypeId} {cs : Array Value} {v : Value} {xs : List Value} (ht : t ≠ 5) (h : Bk w b t cs) (ho : w.ownsRow base 5 1 v n xs) : v.ownBlock ≠ some b := by
 rcases ho.2 with ⟨rfl, _⟩ | ⟨g, cap, cur, rfl, _, hg, _⟩
 ·simp [Value.ownBlock]
 ·intro e
  simp [Value.ownBlock] at e
  subst e
  unfold Bk at h
  rw [h] at hg
  simp at hg
  exact ht hg.2
structure Wrt (w : World) (base b : Nat) (l : List Int) : Prop where
 low : base ≤ b
 rng : ∀ x ∈ l, 0 ≤ x ∧ x < 256
 ex : ∃ A n c, Bk w b 125 #[.slice A n c] ∧ w.ownsRow base 5 1 (.slice A n c) n (l.map (Value.int .u8))
theorem Wrt.lt {w : World} {base b : Nat} {l : List Int} (h : Wrt w base b l) : b < w.heap.size := by
 obtain ⟨A, n, c, hb, _⟩ := h.ex
 exact hb.lt
theorem Wrt.ret {w w' : World} {base b : Nat} {l : List Int} (h : Wrt w base b l) (hb : Below w.heap.size w w') : Wrt w' base b l := by
 obtain ⟨A, n, c, h1, h2⟩ := h.ex
 refine ⟨h.low, h.rng, A, n, c, h1.bel hb h1.lt, ?_⟩
 exact h2.kept (row := none) ⟨hb.os, hb.tape, hb.output, hb.size, fun k hk _ => hb.block k hk⟩ (by
  cases A with
  | none => exact .inl rfl
  | some a => exact .inr (by simp [Value.ownBlock]))
def RetW (base b : Nat) (l : List Int) (w : World) (e : Ending) (w' : World) : Prop := e = .returned (.tuple #[]) ∧ Wrt w' base b l ∧ Below base w w'
theorem put_end {base b : Nat} {l m : List Int} {w w1 : World} {A A' : Option Addr} {n c n' c' : Nat} (hlow : base ≤ b) (hb : Bk w b 125 #[.slice A n c]) (hbz : base ≤ w.heap.size)
  (ho : w.ownsRow base 5 1 (.slice A n c) n (l.map (Value.int .u8))) (hl : ∀ x ∈ l, 0 ≤ x ∧ x < 256) (hm : ∀ x ∈ m, 0 ≤ x ∧ x < 256)
  (h1 : w1.ownsRow base 5 1 (.slice A' n' c') n' (l.map (Value.int .u8) ++ m.map (Value.int .u8))) (h2 : w.grownBy w1 (Value.ownBlock (.slice A n c))) :
  RetW base b (l ++ m) w (.returned (.tuple #[])) (w1.setCell ⟨b, 0, none⟩ (.slice A' n' c')) := by
 rw [← List.map_append] at h1
 have hb1 : Bk w1 b 125 #[.slice A n c] := (h2.block b hb.lt (fun e => apart_row (by decide) hb ho e.symm)).trans hb
 refine ⟨rfl, ⟨hlow, fun x hx => ?_, A', n', c', ?_, ?_⟩, ?_⟩
 ·rcases List.mem_append.1 hx with h | h
  ·exact hl x h
  ·exact hm x h
 ·have := hb1.setc 0 (.slice A' n' c')
  simpa using this
 ·refine h1.kept (row := some b) ⟨rfl, rfl, rfl, by simp [World.setCell], fun k hk hk' => ?_⟩ (.inr (apart_row (by decide) hb1 h1))
  exact Below.heap_setCell w1 _ _ k (fun e => hk' (by simp [e]))
 ·exact (((Below.refl base w).grown h2 hbz (fun k hk => (ho.lt k hk).1)).setCell hlow _)
theorem put_cell {base b : Nat} {l : List Int} {w w1 : World} {A : Option Addr} {n c : Nat} (hb : Bk w b 125 #[.slice A n c])
  (ho : w.ownsRow base 5 1 (.slice A n c) n (l.map (Value.int .u8))) (h2 : w.grownBy w1 (Value.ownBlock (.slice A n c))) :
  w1.cell? ⟨b, 0, none⟩ = some (.slice A n c) ∧ w1.frozen? ⟨b, 0, none⟩ = false := by
 have hb1 : Bk w1 b 125 #[.slice A n c] := (h2.block b hb.lt (fun e => apart_row (by decide) hb ho e.symm)).trans hb
 exact ⟨hb1.cell 0, hb1.frz 0⟩
theorem put_any (base b : Nat) (l m : List Int) (A : Option Addr) (n c : Nat) (w : World) (h : Wrt w base b l) (hm : Byt w A n c m) (hn : l.length + n ≤ 140737488355328) :
  Calls Tryz.prog 105 #[.pointer (some ⟨b, 0, none⟩), .slice A n c] w (RetW base b (l ++ m) w) := by
 obtain ⟨i0, hi, hz0, hz1, hz2⟩ := info_parts info_u8
 obtain ⟨A0, n0, c0, hb, ho⟩ := h.ex
 have hl0 : l.length = n0 := by simpa using ho.1
 have hcell : w.cell? ⟨b, 0, none⟩ = some (.slice A0 n0 c0) := hb.cell 0
 have hbz : base ≤ w.heap.size := by have := hb.lt; have := h.low; omega
 have HE := fun A' n' c' w1 h1 h2 => @put_end base b l m w w1 A0 A' n0 c0 n' c' h.low hb hbz ho h.rng hm.rng h1 h2
 have HC := fun w1 h2 => @put_cell base b l w w1 A0 n0 c0 hb ho h2
 have HE := Lib.hid HE
 have HC := Lib.hid HC
 have HO := Lib.hid ho
 clear h hb ho
 go_enter Tryz.func105, Tryz.ntmps105
 go_wp2_with (at_builtin; refine wpList_append_byt rfl _ _ 59 rfl base 5 i0 Tryz.underlying59 hi hz0 hz1 hz2 _ n0 l rfl (by exact HO.out) A n c m rfl hm (by omega) hbz ?_)
 intro A' c' w1 h1 h2
 obtain ⟨hc1, hf1⟩ := HC.out w1 h2
 have R := Lib.hid (HE.out _ _ _ w1 h1 h2)
 clear h1 h2 hcell hm HC HE
 go_wp2
 go_end0
 exact R.out
theorem put_nil (A : Option Addr) (n c : Nat) (w : World) :
  Calls Tryz.prog 105 #[.pointer none, .slice A n c] w (Ret (.tuple #[]) w) := by
 go_enter Tryz.func105, Tryz.ntmps105
 go_wp2
 go_end0
 exact ⟨rfl, Below.refl _ _⟩
end

/- what a writer's methods gather: a number, a byte, a flag, a text; a nil one gathers nothing; Bytes hands it back in new memory. -/
section
open Go.RowKit
theorem RetW.snd {base b : Nat} {l : List Int} {w w1 : World} {e : Ending} {w2 : World} (h1 : Below base w w1) (h : RetW base b l w1 e w2) : RetW base b l w e w2 := ⟨h.1, h.2.1, h1.trans h.2.2⟩
theorem Wrt.base_le {w : World} {base b : Nat} {l : List Int} (h : Wrt w base b l) : base ≤ w.heap.size := by have := h.lt; have := h.low; omega
def numL (n : Int) : List Int := shortL (max n 0).toNat
theorem numL_rng (n : Int) : ∀ x ∈ numL n, 0 ≤ x ∧ x < 256 := shortL_rng _
theorem numL_len (n : Int) (hn : n ≤ 9223372036854775807) : (numL n).length ≤ 10 := shortL_len _ (by omega)
theorem numL_nat (z : Nat) : numL (z : Int) = shortL z := by unfold numL; congr 1; omega
theorem numL_neg {n : Int} (h : n < 0) : numL n = shortL 0 := by unfold numL; congr 1; omega
theorem wNum_any (base b : Nat) (l : List Int) (n : Int) (w : World) (h : Wrt w base b l) (hn : -9223372036854775808 ≤ n ∧ n ≤ 9223372036854775807) (hl : l.length ≤ 140737488350000) :
  Calls Tryz.prog 82 #[.pointer (some ⟨b, 0, none⟩), .int .i64 n] w (RetW base b (l ++ numL n) w) := by
 have go : ∀ z : Nat, z ≤ 9223372036854775807 → ∀ (A : Option Addr) (k c : Nat) (w1 : World), Byt w1 A k c (shortL z) → Below w.heap.size w w1 → Calls Tryz.prog 105 #[.pointer (some ⟨b, 0, none⟩), .slice A k c] w1 (RetW base b (l ++ shortL z) w) := by
  intro z hz A k c w1 hb hbel
  have hk : k ≤ 10 := by rw [← hb.len]; exact shortL_len z (by omega)
  exact (put_any base b l (shortL z) A k c w1 (h.ret hbel) hb (by omega)).mono fun e w2 hr => hr.snd (hbel.mono h.base_le)
 have GO := Lib.hid go
 clear go h
 by_cases h0 : n < 0
 ·rw [numL_neg h0]
  go_enter Tryz.func82, Tryz.ntmps82
  go_wp2_with fail
  refine (numShort_any 0 (by omega) w).mono ?_
  rintro e w1 ⟨A, k, c, rfl, hb, hbel⟩
  have C := Lib.hid (GO.out 0 (by omega) A k c w1 hb hbel)
  clear hb hbel
  go_wp2_with fail
  refine C.out.mono ?_
  rintro e w2 ⟨rfl, R⟩
  have R := Lib.hid R
  go_wp2_with fail
  go_end0
  exact ⟨rfl, R.out⟩
 ·obtain ⟨z, rfl⟩ := Int.eq_ofNat_of_zero_le (Int.not_lt.1 h0)
  rw [numL_nat]
  obtain ⟨_, hz⟩ := hn
  go_enter Tryz.func82, Tryz.ntmps82
  go_wp2_with fail
  refine (numShort_any z (by omega) w).mono ?_
  rintro e w1 ⟨A, k, c, rfl, hb, hbel⟩
  have C := Lib.hid (GO.out z (by omega) A k c w1 hb hbel)
  clear hb hbel
  go_wp2_with fail
  refine C.out.mono ?_
  rintro e w2 ⟨rfl, R⟩
  have R := Lib.hid R
  go_wp2_with fail
  go_end0
  exact ⟨rfl, R.out⟩
theorem wNum_nil (n : Int) (w : World) (hn : -9223372036854775808 ≤ n ∧ n ≤ 9223372036854775807) :
  Calls Tryz.prog 82 #[.pointer none, .int .i64 n] w (Ret (.tuple #[]) w) := by
 by_cases h0 : n < 0
 ·go_enter Tryz.func82, Tryz.ntmps82
  go_wp2_with fail
  refine (numShort_any 0 (by omega) w).mono ?_
  rintro e w1 ⟨A, k, c, rfl, hb, hbel⟩
  have L := Lib.hid hbel
  clear hb hbel
  go_wp2_with fail
  refine (put_nil _ _ _ _).mono ?_
  rintro e w2 ⟨rfl, b2⟩
  have R := Lib.hid (Below.then L.out b2)
  clear b2
  go_wp2_with fail
  go_end0
  exact ⟨rfl, R.out⟩
 ·obtain ⟨z, rfl⟩ := Int.eq_ofNat_of_zero_le (Int.not_lt.1 h0)
  obtain ⟨_, hz⟩ := hn
  go_enter Tryz.func82, Tryz.ntmps82
  go_wp2_with fail
  refine (numShort_any z (by omega) w).mono ?_
  rintro e w1 ⟨A, k, c, rfl, hb, hbel⟩
  have L := Lib.hid hbel
  clear hb hbel
  go_wp2_with fail
  refine (put_nil _ _ _ _).mono ?_
  rintro e w2 ⟨rfl, b2⟩
  have R := Lib.hid (Below.then L.out b2)
  clear b2
  go_wp2_with fail
  go_end0
  exact ⟨rfl, R.out⟩
theorem one_byt (W : World) (x : Int) (hx : 0 ≤ x ∧ x < 256) : Byt (W.alloc (.cells #[.int .u8 x] 5)) (some ⟨W.heap.size, 0, none⟩) 1 1 [x] :=
 Byt.of_own (own_one W W.heap.size 5 x (Nat.le_refl _)) (by intro y hy; simp at hy; subst hy; exact hx)
def flagL (is : Bool) : List Int := [if is then 1 else 0]
theorem one_nil (x : Int) (w : World) :
  Calls Tryz.prog 105 #[.pointer none, .slice (some ⟨w.heap.size, 0, none⟩) 1 1] (w.alloc (.cells #[.int .u8 x] 5)) (Ret (.tuple #[]) w) :=
 (put_nil _ _ _ _).mono fun _ _ ⟨he, hb⟩ => ⟨he, Below.then ((Below.refl _ _).alloc (Nat.le_refl _) _) hb⟩
theorem wFlag_nil (is : Bool) (w : World) :
  Calls Tryz.prog 139 #[.pointer none, .bool is] w (Ret (.tuple #[]) w) := by
 cases is <;>
 ·go_enter Tryz.func139, Tryz.ntmps139
  go_wp2_with fail
  refine (one_nil _ _).mono ?_
  rintro e w2 ⟨rfl, R⟩
  have R := Lib.hid R
  go_wp2_with fail
  go_end0
  exact ⟨rfl, R.out⟩
def textL (m : List Int) : List Int := shortL m.length ++ m
theorem textL_rng {m : List Int} (h : ∀ x ∈ m, 0 ≤ x ∧ x < 256) : ∀ x ∈ textL m, 0 ≤ x ∧ x < 256 := fun x hx => by
 rcases List.mem_append.1 hx with h1 | h1
 ·exact shortL_rng _ x h1
 ·exact h x h1
theorem textL_len (m : List Int) (h : m.length ≤ 9223372036854775807) : (textL m).length ≤ m.length + 10 := by
 have := shortL_len m.length (by omega)
 simp [textL]; omega
theorem wText_any (base b : Nat) (l : List Int) (s : ByteArray) (w : World) (h : Wrt w base b l) (hs : l.length + s.size ≤ 140737488350000) :
  Calls Tryz.prog 104 #[.pointer (some ⟨b, 0, none⟩), .string s] w (RetW base b (l ++ textL (nums s)) w) := by
 have go : ∀ w1, RetW base b (l ++ numL (s.size : Int)) w (.returned (.tuple #[])) w1 → Calls Tryz.prog 105 #[.pointer (some ⟨b, 0, none⟩), .slice (some ⟨w1.heap.size, 0, none⟩) s.size (grownCap w1 s.size 0 5)] (Lib.bytesWorld w1 5 s) (RetW base b (l ++ textL (nums s)) w) := by
  intro w1 hr
  have hlen : (numL (s.size : Int)).length ≤ 10 := numL_len _ (by omega)
  have hb := bytesWorld_below w1 5 s
  have := put_any base b (l ++ numL (s.size : Int)) (nums s) _ _ _ _ (hr.2.1.ret hb) (Byt.ofString w1 5 s (by unfold maxLen; omega)) (by simp; omega)
  refine this.mono fun e w2 h2 => ?_
  have h3 := RetW.snd (hr.2.2.trans (hb.mono hr.2.1.base_le)) h2
  rw [List.append_assoc, numL_nat] at h3
  unfold textL
  rw [nums_len]
  exact h3
 have GO := Lib.hid go
 have CN := Lib.hid (wNum_any base b l (s.size : Int) w h (by omega) (by omega))
 have kc := conv_str
 clear go h
 go_enter Tryz.func104, Tryz.ntmps104
 go_wp2_with fail
 refine CN.out.mono ?_
 rintro e w1 ⟨rfl, R⟩
 have C := Lib.hid (GO.out w1 ⟨rfl, R⟩)
 clear R
 go_wp2_with fail
 refine C.out.mono ?_
 rintro e w2 ⟨rfl, R⟩
 have R := Lib.hid R
 go_wp2_with fail
 go_end0
 exact ⟨rfl, R.out⟩
theorem wText_nil (s : ByteArray) (w : World) (hs : s.size ≤ 140737488355328) :
  Calls Tryz.prog 104 #[.pointer none, .string s] w (Ret (.tuple #[]) w) := by
 have CN := Lib.hid (wNum_nil (s.size : Int) w (by omega))
 have kc := conv_str
 go_enter Tryz.func104, Tryz.ntmps104
 go_wp2_with fail
 refine CN.out.mono ?_
 rintro e w1 ⟨rfl, R⟩
 have R1 := Lib.hid R
 clear R
 go_wp2_with fail
 refine (put_nil _ _ _ _).mono ?_
 rintro e w2 ⟨rfl, R⟩
 have R := Lib.hid (Below.then (Below.then R1.out (bytesWorld_below _ _ _)) R)
 go_wp2_with fail
 go_end0
 exact ⟨rfl, R.out⟩
end

/- a master record in plain mathematics: which may be, its bytes, what is read back out of a sector, which of two counts. -/
section
open Go.RowKit
structure Ms where
 gen : Int
 inc : Int
 first : Int
 lsn : Int
 chk : Int
def msV (m : Ms) : Value := .agg #[.int .i64 m.gen, .int .i64 m.inc, .int .i64 m.first, .int .i64 m.lsn, .int .i64 m.chk]
def Ms.at_ (m : Ms) : Nat → Int
 | 0 => m.gen
 | 1 => m.inc
 | 2 => m.first
 | 3 => m.lsn
 | _ => m.chk
def ms0 : Ms := ⟨0, 0, 0, 0, 0⟩
def Ms.fits (m : Ms) : Prop := ∀ k, -9223372036854775808 ≤ m.at_ k ∧ m.at_ k ≤ 9223372036854775807
structure Ms.ok (m : Ms) : Prop where
 gen : 1 ≤ m.gen ∧ m.gen ≤ 1099511627776
 inc : 0 ≤ m.inc ∧ m.inc ≤ 1099511627776
 first : 0 ≤ m.first ∧ m.first ≤ 1099511627776
 lsn : 0 ≤ m.lsn ∧ m.lsn ≤ 1099511627776
 chk : 0 ≤ m.chk ∧ m.chk ≤ 1099511627776
instance (m : Ms) : Decidable m.ok := decidable_of_iff ((1 ≤ m.gen ∧ m.gen ≤ 1099511627776) ∧ (0 ≤ m.inc ∧ m.inc ≤ 1099511627776) ∧ (0 ≤ m.first ∧ m.first ≤ 1099511627776) ∧ (0 ≤ m.lsn ∧ m.lsn ≤ 1099511627776) ∧ (0 ≤ m.chk ∧ m.chk ≤ 1099511627776)) ⟨fun ⟨a, b, c, d, e⟩ => ⟨a, b, c, d, e⟩, fun h => ⟨h.gen, h.inc, h.first, h.lsn, h.chk⟩⟩
theorem Ms.ok.at0 {m : Ms} (h : m.ok) (k : Nat) : 0 ≤ m.at_ k ∧ m.at_ k ≤ 1099511627776 := by
 match k with
 | 0 => exact ⟨by have := h.gen; show 0 ≤ m.gen; omega, h.gen.2⟩
 | 1 => exact h.inc
 | 2 => exact h.first
 | 3 => exact h.lsn
 | _ + 4 => exact h.chk
theorem Ms.ok.fits {m : Ms} (h : m.ok) : m.fits := fun k => by have := h.at0 k; omega
def bodyM (m : Ms) : List Int := numL m.gen ++ numL m.inc ++ numL m.first ++ numL m.lsn ++ numL m.chk
def bodyN (m : Ms) : Nat → List Int
 | 0 => []
 | k + 1 => bodyN m k ++ numL (m.at_ k)
theorem bodyN_all (m : Ms) : bodyN m 5 = bodyM m := by simp [bodyN, bodyM, Ms.at_]
theorem bodyM_rng (m : Ms) : ∀ x ∈ bodyM m, 0 ≤ x ∧ x < 256 := fun x hx => by
 simp only [bodyM, List.mem_append] at hx
 rcases hx with (((hx | hx) | hx) | hx) | hx <;> exact numL_rng _ x hx
theorem bodyN_len {m : Ms} (h : m.fits) : ∀ k, (bodyN m k).length ≤ 10 * k
 | 0 => by simp [bodyN]
 | k + 1 => by
  have h1 := bodyN_len h k
  have h2 := numL_len (m.at_ k) (h k).2
  simp only [bodyN, List.length_append]
  omega
theorem bodyM_len {m : Ms} (h : m.fits) : (bodyM m).length ≤ 50 := by have := bodyN_len h 5; rw [bodyN_all] at this; omega
def rdV (l : List Int) (e : Nat) : Int := if e ≠ 0 then 0 else if (numF l 1099511627776).2.2 ≠ 0 then 0 else ((numF l 1099511627776).1 : Int)
def rdL (l : List Int) (e : Nat) : List Int := stepL l (numF l 1099511627776).2.1 e (numF l 1099511627776).2.2
def rdE (l : List Int) (e : Nat) : Nat := stepE e (numF l 1099511627776).2.2
theorem rdV_step (l : List Int) (e : Nat) : stepV (.int .i64 0) (.int .i64 ((numF l 1099511627776).1 : Int)) e (numF l 1099511627776).2.2 = .int .i64 (rdV l e) := by
 unfold stepV rdV
 split
 ·rfl
 ·split <;> rfl
def rdAt (l : List Int) : Nat → List Int × Nat
 | 0 => (l, 0)
 | k + 1 => (rdL (rdAt l k).1 (rdAt l k).2, rdE (rdAt l k).1 (rdAt l k).2)
def rdN (l : List Int) (k : Nat) : Int := rdV (rdAt l k).1 (rdAt l k).2
def decR (l : List Int) : Ms := ⟨rdN l 0, rdN l 1, rdN l 2, rdN l 3, rdN l 4⟩
def decE (l : List Int) : Nat := (rdAt l 5).2
def decM (l : List Int) : Ms := if decE l ≠ 0 then ms0 else decR l
theorem numF_at (z : Int) (hz : 0 ≤ z ∧ z ≤ 1099511627776) (r : List Int) : numF (numL z ++ r) 1099511627776 = (z.toNat, (numL z).length, 0) := by
 obtain ⟨n, rfl⟩ := Int.eq_ofNat_of_zero_le hz.1
 rw [numL_nat]
 unfold numF
 rw [takeF_short n (by omega) r]
 simp only [ne_eq, not_true_eq_false, if_false]
 rw [if_neg (by omega)]
 rfl
theorem rd_at (z : Int) (hz : 0 ≤ z ∧ z ≤ 1099511627776) (r : List Int) : rdV (numL z ++ r) 0 = z ∧ rdL (numL z ++ r) 0 = r ∧ rdE (numL z ++ r) 0 = 0 := by
 unfold rdV rdL rdE stepL stepE
 rw [numF_at z hz r]
 refine ⟨?_, ?_, ?_⟩
 ·simp only [ne_eq, not_true_eq_false, if_false]
  omega
 ·simp
 ·simp
theorem rdAt_next {l : List Int} {k : Nat} {z : Int} {r : List Int} (h : rdAt l k = (numL z ++ r, 0)) (hz : 0 ≤ z ∧ z ≤ 1099511627776) : rdN l k = z ∧ rdAt l (k + 1) = (r, 0) := by
 obtain ⟨a, b, c⟩ := rd_at z hz r
 refine ⟨?_, ?_⟩
 ·unfold rdN; rw [h]; exact a
 ·have e : rdAt l (k + 1) = (rdL (rdAt l k).1 (rdAt l k).2, rdE (rdAt l k).1 (rdAt l k).2) := rfl
  rw [e, h]
  exact Prod.ext b c
theorem dec_body {m : Ms} (h : m.ok) (r : List Int) : decR (bodyM m ++ r) = m ∧ decE (bodyM m ++ r) = 0 := by
 have h0 : rdAt (bodyM m ++ r) 0 = (numL m.gen ++ (numL m.inc ++ (numL m.first ++ (numL m.lsn ++ (numL m.chk ++ r)))), 0) := by
  show (bodyM m ++ r, 0) = _
  simp [bodyM]
 obtain ⟨a0, h1⟩ := rdAt_next h0 (h.at0 0)
 obtain ⟨a1, h2⟩ := rdAt_next h1 (h.at0 1)
 obtain ⟨a2, h3⟩ := rdAt_next h2 (h.at0 2)
 obtain ⟨a3, h4⟩ := rdAt_next h3 (h.at0 3)
 obtain ⟨a4, h5⟩ := rdAt_next h4 (h.at0 4)
 have g : decE (bodyM m ++ r) = (rdAt (bodyM m ++ r) 5).2 := rfl
 rw [h5] at g
 refine ⟨?_, g⟩
 unfold decR
 rw [a0, a1, a2, a3, a4]
def recM (n : Int) (l : List Int) : Ms := if openE l = 0 ∧ decE (openB l) = 0 ∧ (decR (openB l)).ok ∧ (decR (openB l)).gen % 2 = n then decR (openB l) else ms0
theorem recM_no {n : Int} {l : List Int} (h : ¬ (openE l = 0 ∧ decE (openB l) = 0 ∧ (decR (openB l)).ok ∧ (decR (openB l)).gen % 2 = n)) : recM n l = ms0 := if_neg h
theorem recM_yes {n : Int} {l : List Int} (h : openE l = 0 ∧ decE (openB l) = 0 ∧ (decR (openB l)).ok ∧ (decR (openB l)).gen % 2 = n) : recM n l = decR (openB l) := if_pos h
theorem recM_two (n : Int) (l : List Int) : recM n l = ms0 ∨ (recM n l).ok := by
 by_cases h : openE l = 0 ∧ decE (openB l) = 0 ∧ (decR (openB l)).ok ∧ (decR (openB l)).gen % 2 = n
 ·rw [recM_yes h]; exact .inr h.2.2.1
 ·exact .inl (recM_no h)
theorem recM_gen (n : Int) (l : List Int) : 0 ≤ (recM n l).gen := by
 rcases recM_two n l with h | h
 ·rw [h]; exact Int.le_refl _
 ·have := h.gen; omega
theorem recM_zero {n : Int} {l : List Int} (h : (recM n l).gen = 0) : recM n l = ms0 := by
 rcases recM_two n l with q | q
 ·exact q
 ·have := q.gen; omega
theorem recM_wrap {m : Ms} (h : m.ok) {t : Int} (ht : 1 ≤ t ∧ t ≤ 3) : recM (m.gen % 2) (wrapL t (bodyM m)) = m := by
 have hl : (bodyM m).length ≤ 254 := by have := bodyM_len h.fits; omega
 have hs : (wrapL t (bodyM m)).length = 256 := by simp [wrapL, padL_len hl]
 have e := openE_right hs (right_wrap ht hl)
 have eb : openB (wrapL t (bodyM m)) = bodyM m ++ List.replicate (254 - (bodyM m).length) 0 := by rw [openB_right hs (right_wrap ht hl), bodyL_wrap hl]; rfl
 obtain ⟨d1, d2⟩ := dec_body h (List.replicate (254 - (bodyM m).length) 0)
 rw [recM_yes, eb, d1]
 rw [eb, d1, d2]
 exact ⟨e, rfl, h, rfl⟩
theorem recM_torn {n : Int} {l : List Int} (h : openE l = 50) : recM n l = ms0 := recM_no (fun q => by omega)
def loadM (a b : List Int) : Ms := if (recM 0 a).gen < (recM 1 b).gen then recM 1 b else recM 0 a
theorem loadM_zero {a b : List Int} (h : (loadM a b).gen = 0) : loadM a b = ms0 := by
 unfold loadM at h ⊢
 split
 ·rename_i q; rw [if_pos q] at h; exact recM_zero h
 ·rename_i q; rw [if_neg q] at h; exact recM_zero h
def lostE (m : Ms) : Int := if m.gen = 0 then 60 else 0
end

/- what a reader's methods answer, and where they leave it; of a nil one. -/
section
open Go.RowKit
def byteF : List Int → Int × Nat × Nat
 | [] => (0, 0, 10)
 | c :: _ => (c, 1, 0)
def flagF : List Int → Bool × Nat × Nat
 | [] => (false, 0, 10)
 | c :: _ => if 1 < c then (false, 0, 11) else (c == 1, 1, 0)
theorem numDec (A : Option Addr) (n c : Nat) (l : List Int) (most : Int) (q : Addr) (w : World) (h : Byt w A n c l) (hq : w.cell? q = some (.int .i64 most)) (hm : -9223372036854775808 ≤ most ∧ most ≤ 9223372036854775807) (x k e : Nat) (hF : numF l most = (x, k, e)) :
  Calls Tryz.prog 133 #[.slice A n c, .pointer (some q)] w (Dec (.int .i64 x) k e w) := by
 have C := Lib.hid (firstNum_any A n c l most w h hm x k e hF)
 clear h hm hF
 go_enter Tryz.func133, Tryz.ntmps133
 go_wp2_with fail
 refine C.out.mono ?_
 rintro e w1 ⟨rfl, m, rfl⟩
 go_wp2_with fail
 go_ret3
 exact ⟨rfl, m, rfl⟩
theorem flagDec (A : Option Addr) (n c : Nat) (l : List Int) (w : World) (h : Byt w A n c l) :
  Calls Tryz.prog 146 #[.slice A n c] w (Dec (.bool (flagF l).1) (flagF l).2.1 (flagF l).2.2 w) := by
 cases l with
 | nil =>
  have hn : n = 0 := by have := h.len; simpa using this.symm
  subst hn
  clear h
  go_enter Tryz.func146, Tryz.ntmps146
  go_wp2_with fail
  go_ret3
  exact ⟨rfl, 0, rfl⟩
 | cons x r =>
  have hn : r.length + 1 = n := h.len
  obtain ⟨g, off, rfl, hc⟩ := h.at_ (by omega)
  have hc0 : w.cell? ⟨g, off, none⟩ = some (.int .u8 x) := by
   have := hc 0 (by omega)
   simpa using this
  have hn0 : ((n : Int) == 0) = false := by simp; omega
  have hn1 : (0 : Int) < (n : Int) := by omega
  have hcap := h.cap
  have hmax := h.max
  unfold maxLen at hmax
  clear h hc hn
  by_cases h1 : 1 < x
  ·rw [show flagF (x :: r) = (false, 0, 11) from if_pos h1]
   go_enter Tryz.func146, Tryz.ntmps146
   go_wp2_with fail
   go_ret3
   exact ⟨rfl, 0, rfl⟩
  ·rw [show flagF (x :: r) = (x == 1, 1, 0) from if_neg h1]
   go_enter Tryz.func146, Tryz.ntmps146
   go_wp2_with fail
   go_ret3
   exact ⟨rfl, 0, rfl⟩
theorem textDec (A : Option Addr) (n c : Nat) (l : List Int) (most : Int) (q : Addr) (w : World) (h : Byt w A n c l) (hq : w.cell? q = some (.int .i64 most)) (hm : -9223372036854775808 ≤ most ∧ most ≤ 9223372036854775807) (b : List Int) (u e : Nat) (hF : textF l most = (b, u, e)) :
  Calls Tryz.prog 144 #[.slice A n c, .pointer (some q)] w (Dec (.string (strOfNums b)) u e w) := by
 have C := Lib.hid (firstText_quiet A n c l most w h hm b u e hF)
 clear h hm hF
 go_enter Tryz.func144, Tryz.ntmps144
 go_wp2_with fail
 refine C.out.mono ?_
 rintro e w1 ⟨A1, n1, c1, rfl, hb, m, rfl⟩
 have kc := conv_byt (hb.drewN m)
 clear hb
 go_wp2_with fail
 go_ret3
 exact ⟨rfl, m, rfl⟩
theorem numF_le {l : List Int} (hr : ∀ x ∈ l, 0 ≤ x ∧ x < 256) {most : Int} {x k e : Nat} (hF : numF l most = (x, k, e)) : e = 0 → k ≤ l.length := fun h => by
 have := (numF_ok hr (l := l) (most := most) (by rw [hF]; exact h)).2.1
 rw [hF] at this
 exact this
theorem textF_le {l : List Int} (hr : ∀ x ∈ l, 0 ≤ x ∧ x < 256) {most : Int} {b : List Int} {u e : Nat} (hF : textF l most = (b, u, e)) : e = 0 → u ≤ l.length := fun h => by
 have hF2 := hF
 unfold textF at hF
 split at hF
 ·rename_i h0
  injection hF with _ e2
  injection e2 with _ e3
  exact absurd (e3.trans h) h0
 ·rename_i h0
  split at hF
  ·injection hF with _ e2
   injection e2 with _ e3
   omega
  ·rename_i h1
   injection hF with _ e2
   injection e2 with e2 _
   have := (numF_ok hr (l := l) (most := most) (by omega)).2.1
   omega
theorem flagF_le (l : List Int) : (flagF l).2.2 = 0 → (flagF l).2.1 ≤ l.length := by
 cases l with
 | nil => simp [flagF]
 | cons x r =>
  by_cases h1 : 1 < x
  ·rw [show flagF (x :: r) = (false, 0, 11) from if_pos h1]; simp
  ·rw [show flagF (x :: r) = (x == 1, 1, 0) from if_neg h1]; simp
theorem Rd.byt {w : World} {t : TypeId} {b g : Nat} {l : List Int} {e : Nat} (h : Rd w t b g l e) : ∃ A n c, Byt w A n c l ∧ w.cell? ⟨b, 0, none⟩ = some (.slice A n c) ∧ w.cell? ⟨b, 1, none⟩ = some (.int .i64 e) ∧ n = l.length := by
 obtain ⟨A, n, c, h1, h2, _⟩ := h.ex
 exact ⟨A, n, c, h2, h1.cell 0, h1.cell 1, h2.len.symm⟩
theorem Rd.rng {w : World} {t : TypeId} {b g : Nat} {l : List Int} {e : Nat} (h : Rd w t b g l e) : ∀ x ∈ l, 0 ≤ x ∧ x < 256 := by
 obtain ⟨A, n, c, h2, _⟩ := h.byt
 exact h2.rng
theorem RdPost.later {t : TypeId} {b g : Nat} {l : List Int} {e0 : Nat} {v : Value} {w w1 : World} {e : Ending} {w' : World} (hg : w.grownBy w1 (some b)) (h : RdPost t b g l e0 v w1 e w') : RdPost t b g l e0 v w e w' :=
 ⟨h.1, h.2.1, grown_trans hg h.2.2⟩
theorem Rd.alloc {w : World} {t : TypeId} {b g : Nat} {l : List Int} {e : Nat} (h : Rd w t b g l e) (o : Obj) : Rd (w.alloc o) t b g l e :=
 h.grown (World.grownBy_alloc w o none) (by simp) (by simp)
theorem rNum_any (b g : Nat) (l : List Int) (e0 : Nat) (most : Int) (w : World) (h : Rd w 169 b g l e0) (hm : -9223372036854775808 ≤ most ∧ most ≤ 9223372036854775807) (x k er : Nat) (hF : numF l most = (x, k, er)) :
  Calls Tryz.prog 111 #[.pointer (some ⟨b, 0, none⟩), .int .i64 most] w (RdPost 169 b g (stepL l k e0 er) (stepE e0 er) (stepV (.int .i64 0) (.int .i64 x) e0 er) w) := by
 have hq : (w.alloc (.cells #[.int .i64 most] 3)).cell? ⟨w.heap.size, 0, none⟩ = some (.int .i64 most) := (Bk.new w _ _).cell 0
 have C := takeInt_step b g ⟨w.heap.size, 0, none⟩ l e0 (.int .i64 x) k er _ (h.alloc (.cells #[.int .i64 most] 3)) (numF_le h.rng hF) (fun _ A n c hb => numDec A n c l most _ _ hb hq hm x k er hF)
 have C := Lib.hid (C.mono fun e w' hp => hp.later (World.grownBy_alloc w _ (some b)))
 clear h hm hF hq
 go_enter Tryz.func111, Tryz.ntmps111
 go_wp2_with fail
 refine C.out.mono ?_
 rintro e w1 ⟨rfl, R⟩
 have R := Lib.hid R
 go_wp2_with fail
 go_ret
 exact ⟨rfl, R.out⟩
theorem rText_any (b g : Nat) (l : List Int) (e0 : Nat) (most : Int) (w : World) (h : Rd w 169 b g l e0) (hm : -9223372036854775808 ≤ most ∧ most ≤ 9223372036854775807) (s : List Int) (k er : Nat) (hF : textF l most = (s, k, er)) :
  Calls Tryz.prog 137 #[.pointer (some ⟨b, 0, none⟩), .int .i64 most] w (RdPost 169 b g (stepL l k e0 er) (stepE e0 er) (stepV (.string ByteArray.empty) (.string (strOfNums s)) e0 er) w) := by
 have hq : (w.alloc (.cells #[.int .i64 most] 3)).cell? ⟨w.heap.size, 0, none⟩ = some (.int .i64 most) := (Bk.new w _ _).cell 0
 have C := takeStr_step b g ⟨w.heap.size, 0, none⟩ l e0 (.string (strOfNums s)) k er _ (h.alloc (.cells #[.int .i64 most] 3)) (textF_le h.rng hF) (fun _ A n c hb => textDec A n c l most _ _ hb hq hm s k er hF)
 have C := Lib.hid (C.mono fun e w' hp => hp.later (World.grownBy_alloc w _ (some b)))
 clear h hm hF hq
 go_enter Tryz.func137, Tryz.ntmps137
 go_wp2_with fail
 refine C.out.mono ?_
 rintro e w1 ⟨rfl, R⟩
 have R := Lib.hid R
 go_wp2_with fail
 go_ret
 exact ⟨rfl, R.out⟩
theorem rFlag_any (b g : Nat) (l : List Int) (e0 : Nat) (w : World) (h : Rd w 169 b g l e0) :
  Calls Tryz.prog 138 #[.pointer (some ⟨b, 0, none⟩)] w (RdPost 169 b g (stepL l (flagF l).2.1 e0 (flagF l).2.2) (stepE e0 (flagF l).2.2) (stepV (.bool false) (.bool (flagF l).1) e0 (flagF l).2.2) w) := by
 have C := Lib.hid (takeBool_step b g l e0 _ _ _ w h (flagF_le l) (fun _ A n c hb => flagDec A n c l w hb))
 clear h
 go_enter Tryz.func138, Tryz.ntmps138
 go_wp2_with fail
 refine C.out.mono ?_
 rintro e w1 ⟨rfl, R⟩
 have R := Lib.hid R
 go_wp2_with fail
 go_ret
 exact ⟨rfl, R.out⟩
end

/- plain mathematics of CRC-32: the register's step over one bit is linear and one to one; bytes put in one behind the other are one great number put in at the start. No program is named; no condition. -/
section
def poly : Nat := 3988292384
def stepBit (c : Nat) : Nat := if c % 2 = 1 then (c / 2) ^^^ poly else c / 2
def steps : Nat → Nat → Nat
 | 0, c => c
 | k + 1, c => steps k (stepBit c)
theorem steps_add (j k c : Nat) : steps (j + k) c = steps k (steps j c) := by
 induction j generalizing c with
 | zero => rw [Nat.zero_add]; rfl
 | succ j ih => rw [Nat.add_right_comm]; exact ih (stepBit c)
theorem xor_half (a b : Nat) : (a ^^^ b) / 2 = (a / 2) ^^^ (b / 2) := by
 apply Nat.eq_of_testBit_eq
 intro i
 simp [Nat.testBit_div_two]
theorem xor_low (a b : Nat) : (a ^^^ b) % 2 = (a % 2 + b % 2) % 2 := by
 have h := Nat.testBit_xor a b 0
 simp only [Nat.testBit_zero] at h
 rcases Nat.mod_two_eq_zero_or_one a with ha | ha <;> rcases Nat.mod_two_eq_zero_or_one b with hb | hb <;>
  rcases Nat.mod_two_eq_zero_or_one (a ^^^ b) with hc | hc <;> simp [ha, hb, hc] at h ⊢
theorem stepBit_xor (a b : Nat) : stepBit (a ^^^ b) = stepBit a ^^^ stepBit b := by
 unfold stepBit
 rw [xor_half, xor_low]
 rcases Nat.mod_two_eq_zero_or_one a with ha | ha <;> rcases Nat.mod_two_eq_zero_or_one b with hb | hb <;> simp [ha, hb]
 ·rw [Nat.xor_assoc]
 ·rw [Nat.xor_assoc, Nat.xor_assoc, Nat.xor_comm (b / 2)]
 ·rw [Nat.xor_assoc, Nat.xor_comm (b / 2) poly, ← Nat.xor_assoc poly, Nat.xor_self, Nat.zero_xor]
theorem steps_xor (k a b : Nat) : steps k (a ^^^ b) = steps k a ^^^ steps k b := by
 induction k generalizing a b with
 | zero => rfl
 | succ k ih => rw [steps, stepBit_xor, ih]; rfl
theorem stepBit_lt {c : Nat} (h : c < 4294967296) : stepBit c < 4294967296 := by
 unfold stepBit
 split
 ·exact Nat.xor_lt_two_pow (n := 32) (by omega) (by decide)
 ·omega
theorem steps_lt (k : Nat) {c : Nat} (h : c < 4294967296) : steps k c < 4294967296 := by
 induction k generalizing c with
 | zero => exact h
 | succ k ih => exact ih (stepBit_lt h)
theorem steps_shift (k c : Nat) : steps k (c * 2 ^ k) = c := by
 induction k with
 | zero => simp [steps]
 | succ k ih =>
  have e : c * 2 ^ (k + 1) = (c * 2 ^ k) * 2 := by rw [Nat.pow_succ, Nat.mul_assoc]
  rw [steps, stepBit, e, if_neg (by omega), Nat.mul_div_cancel _ (by decide), ih]
def stepByte (c : Nat) (x : Int) : Nat := steps 8 (c ^^^ x.toNat)
def crcFrom (c : Nat) (l : List Int) : Nat := l.foldl stepByte c
theorem crcFrom_snoc (c : Nat) (l : List Int) (x : Int) : crcFrom c (l ++ [x]) = stepByte (crcFrom c l) x := by simp [crcFrom]
def ones : Nat := 4294967295
def crcL (l : List Int) : Nat := crcFrom ones l ^^^ ones
theorem crcFrom_lt (l : List Int) (hr : ∀ x ∈ l, 0 ≤ x ∧ x < 256) (c : Nat) (hc : c < 4294967296) : crcFrom c l < 4294967296 := by
 induction l generalizing c with
 | nil => exact hc
 | cons x r ih =>
  have hx := hr x (by simp)
  exact ih (fun y hy => hr y (by simp [hy])) _ (steps_lt 8 (Nat.xor_lt_two_pow (n := 32) hc (by omega)))
theorem crcL_lt (l : List Int) (hr : ∀ x ∈ l, 0 ≤ x ∧ x < 256) : crcL l < 4294967296 :=
 Nat.xor_lt_two_pow (n := 32) (crcFrom_lt l hr _ (by decide)) (by decide)
theorem split_xor (k c : Nat) : (c % 2 ^ k) ^^^ (c / 2 ^ k * 2 ^ k) = c := by
 have e : c / 2 ^ k * 2 ^ k = (c >>> k) <<< k := by rw [Nat.shiftLeft_eq, Nat.shiftRight_eq_div_pow]
 rw [e]
 apply Nat.eq_of_testBit_eq
 intro i
 simp only [Nat.testBit_xor, Nat.testBit_mod_two_pow, Nat.testBit_shiftLeft, Nat.testBit_shiftRight]
 by_cases h : i < k
 ·have h2 : ¬ k ≤ i := by omega
  simp [h, h2]
 ·have h1 : k ≤ i := by omega
  have : k + (i - k) = i := by omega
  simp [h, h1, this]
def nib : Nat → Nat
 | 0 => 0x00000000 | 1 => 0x1DB71064 | 2 => 0x3B6E20C8 | 3 => 0x26D930AC
 | 4 => 0x76DC4190 | 5 => 0x6B6B51F4 | 6 => 0x4DB26158 | 7 => 0x5005713C
 | 8 => 0xEDB88320 | 9 => 0xF00F9344 | 10 => 0xD6D6A3E8 | 11 => 0xCB61B38C
 | 12 => 0x9B64C2B0 | 13 => 0x86D3D2D4 | 14 => 0xA00AE278 | 15 => 0xBDBDF21C
 | _ => 0
theorem nib_steps (c : Nat) (h : c < 16) : steps 4 c = nib c := by
 have : c = 0 ∨ c = 1 ∨ c = 2 ∨ c = 3 ∨ c = 4 ∨ c = 5 ∨ c = 6 ∨ c = 7 ∨ c = 8 ∨ c = 9 ∨ c = 10 ∨ c = 11 ∨ c = 12 ∨ c = 13 ∨ c = 14 ∨ c = 15 := by omega
 rcases this with h | h | h | h | h | h | h | h | h | h | h | h | h | h | h | h <;> subst h <;> decide +kernel
theorem steps4 (c : Nat) : steps 4 c = (c / 16) ^^^ nib (c % 16) := by
 have e := split_xor 4 c
 have h16 : (2 : Nat) ^ 4 = 16 := rfl
 rw [h16] at e
 have : steps 4 c = steps 4 ((c % 16) ^^^ (c / 16 * 16)) := by rw [e]
 rw [this, steps_xor, nib_steps _ (Nat.mod_lt _ (by decide)), Nat.xor_comm]
 congr 1
 exact steps_shift 4 _
def le4 (x : Nat) : List Int := [((x % 256 : Nat) : Int), ((x / 256 % 256 : Nat) : Int), ((x / 65536 % 256 : Nat) : Int), ((x / 16777216 % 256 : Nat) : Int)]
theorem le4_rng (x : Nat) : ∀ y ∈ le4 x, 0 ≤ y ∧ y < 256 := by
 intro y hy
 simp only [le4, List.mem_cons, List.not_mem_nil, or_false] at hy
 rcases hy with h | h | h | h <;> subst h <;> omega
theorem crcL_nil : crcL [] = 0 := by decide +kernel
end

/- crc.shiftByte and trothref02.Step shift a register by eight bits, crc.unshift back by 32; nothing is turned. The table reads as its text lays it. -/
section
open Go.RowKit
def Tab (w : World) : Prop := ∀ i : Nat, i < 16 → w.cell? ⟨0, i, none⟩ = some (.int .u32 (nib i))
theorem Tab.below {w w' : World} {B : Nat} (h : Tab w) (hb : Below B w w') (hB : 0 < B) : Tab w' := fun i hi => (hb.cell (p := ⟨0, i, none⟩) hB).trans (h i hi)
def Same32 (x : Int) (w : World) (e : Ending) (w' : World) : Prop := e = .returned (.int .u32 x) ∧ w = w'
theorem xor32 (a b : Nat) (ha : a < 4294967296) (hb : b < 4294967296) : bits .xor .u32 (a : Int) (b : Int) = ((a ^^^ b : Nat) : Int) := u32_xor_nat a b ha hb
theorem and15 (c : Nat) (hc : c < 4294967296) : bits .and .u32 (c : Int) 15 = ((c % 16 : Nat) : Int) := by
 have := u32_and_nat c 15 hc (by omega)
 rw [show ((15 : Nat) : Int) = 15 from rfl] at this
 rw [this]
 congr 1
 exact Nat.and_two_pow_sub_one_eq_mod c 4
theorem nib_lt (m : Nat) (h : m < 16) : nib m < 4294967296 := by
 rw [← nib_steps m h]
 exact steps_lt 4 (by omega)
theorem four (c : Nat) (hc : c < 4294967296) (w : World) (hT : Tab w) : ∃ m q t : Nat, bits .and .u32 (c : Int) 15 = (m : Int) ∧ m < 16 ∧ (c : Int) / 16 = (q : Int) ∧ w.cell? ⟨0, m, none⟩ = some (.int .u32 (t : Int)) ∧ bits .xor .u32 (q : Int) (t : Int) = ((steps 4 c : Nat) : Int) := by
 have hm : c % 16 < 16 := Nat.mod_lt _ (by decide)
 refine ⟨c % 16, c / 16, nib (c % 16), and15 c hc, hm, by simp, hT _ hm, ?_⟩
 rw [xor32 _ _ (by omega) (nib_lt _ hm), steps4]
theorem shiftByte_any (c : Nat) (hc : c < 4294967296) (w : World) (hT : Tab w) :
  Calls Tryz.prog 141 #[.int .u32 c] w (Same32 (steps 8 c : Nat) w) := by
 have h4 : steps 4 c < 4294967296 := steps_lt 4 hc
 obtain ⟨m, q, t, e1, hm, e2, e3, e4⟩ := four c hc w hT
 obtain ⟨m', q', t', f1, hm', f2, f3, f4⟩ := four (steps 4 c) h4 w hT
 have e8 : steps 4 (steps 4 c) = steps 8 c := by rw [show (8 : Nat) = 4 + 4 from rfl, steps_add]
 rw [e8] at f4
 obtain ⟨r, hr⟩ : ∃ r, steps 4 c = r := ⟨_, rfl⟩
 obtain ⟨z, hz⟩ : ∃ z, steps 8 c = z := ⟨_, rfl⟩
 rw [hz] at f4
 rw [hr] at e4 f1 f2 h4
 rw [hz]
 clear hT hr hz e8
 go_enter Tryz.func141, Tryz.ntmps141
 go_wp2_with fail
 go_ret
 exact ⟨rfl, rfl⟩
end
end Go.Proofs.YtfmfmdiegabobabGreatDoor
