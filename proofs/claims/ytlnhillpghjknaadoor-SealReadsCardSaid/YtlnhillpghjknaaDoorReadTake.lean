/- What it says: seal.take at its four types: behind an error, or of a nil reader, it answers nothing; what its decoder refuses becomes the reader's error; else the reader goes on behind the value. -/
import Derived.Test.YtlnhillpghjknaaDoorFirst
import Derived.Deep.QuietTactic
import Derived.BigQuiet
namespace Go.Proofs.YtlnhillpghjknaaDoor
open Go.RowKit

/-- What a decoder answers; it draws at most. -/
def Dec (v : Value) (used er : Nat) (w : World) (e : Ending) (w' : World) : Prop := e = .returned (.tuple #[v, .int .i64 used, .int .i64 er]) ∧ ∃ m, w' = w.drewN m

theorem Bk.drewN {w : World} {g : Nat} {t : TypeId} {cs : Array Value} (h : Bk w g t cs) (m : Nat) : Bk (w.drewN m) g t cs := h


theorem takeInt_nil (q : Addr) (w : World) :
    Calls Tryd.prog 42 #[.pointer none, .func (.func 43) #[] #[.pointer (some q)]] w (fun e w' => e = .returned (.int .i64 0) ∧ w = w') := by
  go_enter Tryd.func42, Tryd.ntmps42
  go_wp2_with fail
  go_ret
  exact ⟨rfl, rfl⟩


set_option maxHeartbeats 1000000 in
theorem takeInt_err (b : Nat) (q : Addr) (A : Option Addr) (n c e0 : Nat) (w : World) (h : Bk w b 72 #[.slice A n c, .int .i64 e0]) (he : e0 ≠ 0) :
    Calls Tryd.prog 42 #[.pointer (some ⟨b, 0, none⟩), .func (.func 43) #[] #[.pointer (some q)]] w (fun e w' => e = .returned (.int .i64 0) ∧ w = w') := by
  have h1 : w.cell? ⟨b, 1, none⟩ = some (.int .i64 e0) := h.cell 1
  have hne : ((e0 : Int) != 0) = true := by simp; omega
  clear h he
  go_enter Tryd.func42, Tryd.ntmps42
  go_wp2_with fail
  go_ret
  exact ⟨rfl, rfl⟩


set_option maxHeartbeats 1000000 in
theorem takeInt_fail (b : Nat) (q : Addr) (A : Option Addr) (n c : Nat) (v : Value) (used er : Nat) (w : World) (h : Bk w b 72 #[.slice A n c, .int .i64 0]) (he : er ≠ 0)
    (hd : Calls Tryd.prog 43 #[.slice A n c, .pointer (some q)] w (Dec v used er w)) :
    Calls Tryd.prog 42 #[.pointer (some ⟨b, 0, none⟩), .func (.func 43) #[] #[.pointer (some q)]] w (fun e w' => e = .returned (.int .i64 0) ∧ ∃ m, w' = (w.drewN m).setCell ⟨b, 1, none⟩ (.int .i64 er)) := by
  have h0 : w.cell? ⟨b, 0, none⟩ = some (.slice A n c) := h.cell 0
  have h1 : w.cell? ⟨b, 1, none⟩ = some (.int .i64 0) := h.cell 1
  have hf := h.frz 1
  have hne : ((er : Int) != 0) = true := by simp; omega
  have HD := Lib.hid hd
  clear h he hd
  go_enter Tryd.func42, Tryd.ntmps42
  go_wp2_with fail
  refine HD.out.mono ?_
  rintro e w1 ⟨rfl, m, rfl⟩
  go_wp2_with fail
  go_ret
  exact ⟨rfl, m, rfl⟩


set_option maxHeartbeats 1000000 in
theorem takeInt_ok (b : Nat) (q : Addr) (A : Option Addr) (n c : Nat) (v : Value) (used : Nat) (w : World) (h : Bk w b 72 #[.slice A n c, .int .i64 0]) (B : Option Addr) (k d : Nat)
    (hs : ∀ u, (Instr.slice 25 (.slice A n c) (some (.int .i64 used)) none none).run Tryd.prog u = .ok (.slice B k d) u)
    (hd : Calls Tryd.prog 43 #[.slice A n c, .pointer (some q)] w (Dec v used 0 w)) :
    Calls Tryd.prog 42 #[.pointer (some ⟨b, 0, none⟩), .func (.func 43) #[] #[.pointer (some q)]] w (fun e w' => e = .returned v ∧ ∃ m, w' = (w.drewN m).setCell ⟨b, 0, none⟩ (.slice B k d)) := by
  have h0 : w.cell? ⟨b, 0, none⟩ = some (.slice A n c) := h.cell 0
  have h1 : w.cell? ⟨b, 1, none⟩ = some (.int .i64 0) := h.cell 1
  have hf := h.frz 0
  have HD := Lib.hid hd
  clear h hd
  go_enter Tryd.func42, Tryd.ntmps42
  go_wp2_with fail
  refine HD.out.mono ?_
  rintro e w1 ⟨rfl, m, rfl⟩
  go_wp2_with fail
  go_ret
  exact ⟨rfl, m, rfl⟩


theorem takeByte_nil (w : World) :
    Calls Tryd.prog 46 #[.pointer none, .func (.func 47) #[] #[]] w (fun e w' => e = .returned (.int .u8 0) ∧ w = w') := by
  go_enter Tryd.func46, Tryd.ntmps46
  go_wp2_with fail
  go_ret
  exact ⟨rfl, rfl⟩


set_option maxHeartbeats 1000000 in
theorem takeByte_err (b : Nat) (A : Option Addr) (n c e0 : Nat) (w : World) (h : Bk w b 72 #[.slice A n c, .int .i64 e0]) (he : e0 ≠ 0) :
    Calls Tryd.prog 46 #[.pointer (some ⟨b, 0, none⟩), .func (.func 47) #[] #[]] w (fun e w' => e = .returned (.int .u8 0) ∧ w = w') := by
  have h1 : w.cell? ⟨b, 1, none⟩ = some (.int .i64 e0) := h.cell 1
  have hne : ((e0 : Int) != 0) = true := by simp; omega
  clear h he
  go_enter Tryd.func46, Tryd.ntmps46
  go_wp2_with fail
  go_ret
  exact ⟨rfl, rfl⟩


set_option maxHeartbeats 1000000 in
theorem takeByte_fail (b : Nat) (A : Option Addr) (n c : Nat) (v : Value) (used er : Nat) (w : World) (h : Bk w b 72 #[.slice A n c, .int .i64 0]) (he : er ≠ 0)
    (hd : Calls Tryd.prog 47 #[.slice A n c] w (Dec v used er w)) :
    Calls Tryd.prog 46 #[.pointer (some ⟨b, 0, none⟩), .func (.func 47) #[] #[]] w (fun e w' => e = .returned (.int .u8 0) ∧ ∃ m, w' = (w.drewN m).setCell ⟨b, 1, none⟩ (.int .i64 er)) := by
  have h0 : w.cell? ⟨b, 0, none⟩ = some (.slice A n c) := h.cell 0
  have h1 : w.cell? ⟨b, 1, none⟩ = some (.int .i64 0) := h.cell 1
  have hf := h.frz 1
  have hne : ((er : Int) != 0) = true := by simp; omega
  have HD := Lib.hid hd
  clear h he hd
  go_enter Tryd.func46, Tryd.ntmps46
  go_wp2_with fail
  refine HD.out.mono ?_
  rintro e w1 ⟨rfl, m, rfl⟩
  go_wp2_with fail
  go_ret
  exact ⟨rfl, m, rfl⟩


set_option maxHeartbeats 1000000 in
theorem takeByte_ok (b : Nat) (A : Option Addr) (n c : Nat) (v : Value) (used : Nat) (w : World) (h : Bk w b 72 #[.slice A n c, .int .i64 0]) (B : Option Addr) (k d : Nat)
    (hs : ∀ u, (Instr.slice 25 (.slice A n c) (some (.int .i64 used)) none none).run Tryd.prog u = .ok (.slice B k d) u)
    (hd : Calls Tryd.prog 47 #[.slice A n c] w (Dec v used 0 w)) :
    Calls Tryd.prog 46 #[.pointer (some ⟨b, 0, none⟩), .func (.func 47) #[] #[]] w (fun e w' => e = .returned v ∧ ∃ m, w' = (w.drewN m).setCell ⟨b, 0, none⟩ (.slice B k d)) := by
  have h0 : w.cell? ⟨b, 0, none⟩ = some (.slice A n c) := h.cell 0
  have h1 : w.cell? ⟨b, 1, none⟩ = some (.int .i64 0) := h.cell 1
  have hf := h.frz 0
  have HD := Lib.hid hd
  clear h hd
  go_enter Tryd.func46, Tryd.ntmps46
  go_wp2_with fail
  refine HD.out.mono ?_
  rintro e w1 ⟨rfl, m, rfl⟩
  go_wp2_with fail
  go_ret
  exact ⟨rfl, m, rfl⟩


theorem takeBool_nil (w : World) :
    Calls Tryd.prog 48 #[.pointer none, .func (.func 49) #[] #[]] w (fun e w' => e = .returned (.bool false) ∧ w = w') := by
  go_enter Tryd.func48, Tryd.ntmps48
  go_wp2_with fail
  go_ret
  exact ⟨rfl, rfl⟩


set_option maxHeartbeats 1000000 in
theorem takeBool_err (b : Nat) (A : Option Addr) (n c e0 : Nat) (w : World) (h : Bk w b 72 #[.slice A n c, .int .i64 e0]) (he : e0 ≠ 0) :
    Calls Tryd.prog 48 #[.pointer (some ⟨b, 0, none⟩), .func (.func 49) #[] #[]] w (fun e w' => e = .returned (.bool false) ∧ w = w') := by
  have h1 : w.cell? ⟨b, 1, none⟩ = some (.int .i64 e0) := h.cell 1
  have hne : ((e0 : Int) != 0) = true := by simp; omega
  clear h he
  go_enter Tryd.func48, Tryd.ntmps48
  go_wp2_with fail
  go_ret
  exact ⟨rfl, rfl⟩


set_option maxHeartbeats 1000000 in
theorem takeBool_fail (b : Nat) (A : Option Addr) (n c : Nat) (v : Value) (used er : Nat) (w : World) (h : Bk w b 72 #[.slice A n c, .int .i64 0]) (he : er ≠ 0)
    (hd : Calls Tryd.prog 49 #[.slice A n c] w (Dec v used er w)) :
    Calls Tryd.prog 48 #[.pointer (some ⟨b, 0, none⟩), .func (.func 49) #[] #[]] w (fun e w' => e = .returned (.bool false) ∧ ∃ m, w' = (w.drewN m).setCell ⟨b, 1, none⟩ (.int .i64 er)) := by
  have h0 : w.cell? ⟨b, 0, none⟩ = some (.slice A n c) := h.cell 0
  have h1 : w.cell? ⟨b, 1, none⟩ = some (.int .i64 0) := h.cell 1
  have hf := h.frz 1
  have hne : ((er : Int) != 0) = true := by simp; omega
  have HD := Lib.hid hd
  clear h he hd
  go_enter Tryd.func48, Tryd.ntmps48
  go_wp2_with fail
  refine HD.out.mono ?_
  rintro e w1 ⟨rfl, m, rfl⟩
  go_wp2_with fail
  go_ret
  exact ⟨rfl, m, rfl⟩


set_option maxHeartbeats 1000000 in
theorem takeBool_ok (b : Nat) (A : Option Addr) (n c : Nat) (v : Value) (used : Nat) (w : World) (h : Bk w b 72 #[.slice A n c, .int .i64 0]) (B : Option Addr) (k d : Nat)
    (hs : ∀ u, (Instr.slice 25 (.slice A n c) (some (.int .i64 used)) none none).run Tryd.prog u = .ok (.slice B k d) u)
    (hd : Calls Tryd.prog 49 #[.slice A n c] w (Dec v used 0 w)) :
    Calls Tryd.prog 48 #[.pointer (some ⟨b, 0, none⟩), .func (.func 49) #[] #[]] w (fun e w' => e = .returned v ∧ ∃ m, w' = (w.drewN m).setCell ⟨b, 0, none⟩ (.slice B k d)) := by
  have h0 : w.cell? ⟨b, 0, none⟩ = some (.slice A n c) := h.cell 0
  have h1 : w.cell? ⟨b, 1, none⟩ = some (.int .i64 0) := h.cell 1
  have hf := h.frz 0
  have HD := Lib.hid hd
  clear h hd
  go_enter Tryd.func48, Tryd.ntmps48
  go_wp2_with fail
  refine HD.out.mono ?_
  rintro e w1 ⟨rfl, m, rfl⟩
  go_wp2_with fail
  go_ret
  exact ⟨rfl, m, rfl⟩


theorem takeStr_nil (q : Addr) (w : World) :
    Calls Tryd.prog 50 #[.pointer none, .func (.func 51) #[] #[.pointer (some q)]] w (fun e w' => e = .returned (.string ByteArray.empty) ∧ w = w') := by
  go_enter Tryd.func50, Tryd.ntmps50
  go_wp2_with fail
  go_ret
  exact ⟨rfl, rfl⟩


set_option maxHeartbeats 1000000 in
theorem takeStr_err (b : Nat) (q : Addr) (A : Option Addr) (n c e0 : Nat) (w : World) (h : Bk w b 72 #[.slice A n c, .int .i64 e0]) (he : e0 ≠ 0) :
    Calls Tryd.prog 50 #[.pointer (some ⟨b, 0, none⟩), .func (.func 51) #[] #[.pointer (some q)]] w (fun e w' => e = .returned (.string ByteArray.empty) ∧ w = w') := by
  have h1 : w.cell? ⟨b, 1, none⟩ = some (.int .i64 e0) := h.cell 1
  have hne : ((e0 : Int) != 0) = true := by simp; omega
  clear h he
  go_enter Tryd.func50, Tryd.ntmps50
  go_wp2_with fail
  go_ret
  exact ⟨rfl, rfl⟩


set_option maxHeartbeats 1000000 in
theorem takeStr_fail (b : Nat) (q : Addr) (A : Option Addr) (n c : Nat) (v : Value) (used er : Nat) (w : World) (h : Bk w b 72 #[.slice A n c, .int .i64 0]) (he : er ≠ 0)
    (hd : Calls Tryd.prog 51 #[.slice A n c, .pointer (some q)] w (Dec v used er w)) :
    Calls Tryd.prog 50 #[.pointer (some ⟨b, 0, none⟩), .func (.func 51) #[] #[.pointer (some q)]] w (fun e w' => e = .returned (.string ByteArray.empty) ∧ ∃ m, w' = (w.drewN m).setCell ⟨b, 1, none⟩ (.int .i64 er)) := by
  have h0 : w.cell? ⟨b, 0, none⟩ = some (.slice A n c) := h.cell 0
  have h1 : w.cell? ⟨b, 1, none⟩ = some (.int .i64 0) := h.cell 1
  have hf := h.frz 1
  have hne : ((er : Int) != 0) = true := by simp; omega
  have HD := Lib.hid hd
  clear h he hd
  go_enter Tryd.func50, Tryd.ntmps50
  go_wp2_with fail
  refine HD.out.mono ?_
  rintro e w1 ⟨rfl, m, rfl⟩
  go_wp2_with fail
  go_ret
  exact ⟨rfl, m, rfl⟩


set_option maxHeartbeats 1000000 in
theorem takeStr_ok (b : Nat) (q : Addr) (A : Option Addr) (n c : Nat) (v : Value) (used : Nat) (w : World) (h : Bk w b 72 #[.slice A n c, .int .i64 0]) (B : Option Addr) (k d : Nat)
    (hs : ∀ u, (Instr.slice 25 (.slice A n c) (some (.int .i64 used)) none none).run Tryd.prog u = .ok (.slice B k d) u)
    (hd : Calls Tryd.prog 51 #[.slice A n c, .pointer (some q)] w (Dec v used 0 w)) :
    Calls Tryd.prog 50 #[.pointer (some ⟨b, 0, none⟩), .func (.func 51) #[] #[.pointer (some q)]] w (fun e w' => e = .returned v ∧ ∃ m, w' = (w.drewN m).setCell ⟨b, 0, none⟩ (.slice B k d)) := by
  have h0 : w.cell? ⟨b, 0, none⟩ = some (.slice A n c) := h.cell 0
  have h1 : w.cell? ⟨b, 1, none⟩ = some (.int .i64 0) := h.cell 1
  have hf := h.frz 0
  have HD := Lib.hid hd
  clear h hd
  go_enter Tryd.func50, Tryd.ntmps50
  go_wp2_with fail
  refine HD.out.mono ?_
  rintro e w1 ⟨rfl, m, rfl⟩
  go_wp2_with fail
  go_ret
  exact ⟨rfl, m, rfl⟩

end Go.Proofs.YtlnhillpghjknaaDoor
