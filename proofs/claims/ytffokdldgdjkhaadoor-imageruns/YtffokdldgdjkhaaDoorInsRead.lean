/- The registers' byte, read. -/
import Derived.Test.YtffokdldgdjkhaaDoorInsNumber
import Derived.Deep.QuietTactic
import Derived.BigQuiet
namespace Go.Proofs.YtffokdldgdjkhaaDoor
set_option maxRecDepth 100000
open Go.RowKit
set_option linter.unusedVariables false

theorem retIIB {k l : IntKind} {a b c d : Int} {x y : Bool} (h : a = c) (h' : b = d) (h2 : x = y) : Ending.returned (.tuple #[.int k a, .int l b, .bool x]) = .returned (.tuple #[.int k c, .int l d, .bool y]) := by rw [h, h', h2]

theorem bl_drewNI {B : Nat} {x y : World} (h : Below B x y) (m : Nat) : Below B x (y.drewN m) := ⟨h.os, h.tape, h.output, h.size, h.block⟩

set_option maxHeartbeats 8000000 in
theorem rregs_0 (m : Int) (t : Bool) (s : ByteArray) (w : World) :
    Calls Tryd.prog 67 #[formW 0 m t, .string s] w fun e w' => e = .returned (.tuple #[.int .i64 0, .int .i64 0, .bool true]) ∧ Below w.heap.size w w' := by
  have h0 : I.isr 0 = true := by decide
  go_enter Tryd.func67, Tryd.ntmps67
  go_wp2_with (go_at_call 79; refine (isregI_any _ _).mono ?_; rintro e w' ⟨rfl, rfl⟩)
  go_ret3
  exact ⟨retIIB rfl rfl h0, bl1 _ _⟩

set_option maxHeartbeats 8000000 in
theorem rregs_1 (m : Int) (t : Bool) (s : ByteArray) (hs : 0 < s.size) (w : World) :
    Calls Tryd.prog 67 #[formW 1 m t, .string s] w fun e w' => e = .returned (.tuple #[.int .i64 (s[0].toNat : Int), .int .i64 0, .bool (I.isr (s[0].toNat : Int))]) ∧ Below w.heap.size w w' := by
  have h0 : I.isr 0 = true := by decide
  have hb : (s[0].toNat : Int) ≤ 255 := by have := s[0].toNat_lt; omega
  cases hi : I.isr (s[0].toNat : Int)
  all_goals
    go_enter Tryd.func67, Tryd.ntmps67
    go_wp2_with (go_at_call 79; refine (isregI_any _ _).mono ?_; rintro e w' ⟨rfl, rfl⟩)
    go_ret3
    exact ⟨retIIB rfl rfl (by first | rfl | exact h0), bl1 _ _⟩

set_option maxHeartbeats 8000000 in
theorem rregs_2 (m : Int) (t : Bool) (s : ByteArray) (hs : 0 < s.size) (w : World) :
    Calls Tryd.prog 67 #[formW 2 m t, .string s] w fun e w' => e = .returned (.tuple #[.int .i64 ((s[0].toNat : Int) / 16), .int .i64 ((s[0].toNat : Int) % 16), .bool (I.isr ((s[0].toNat : Int) / 16) && I.isr ((s[0].toNat : Int) % 16))]) ∧ Below w.heap.size w w' := by
  have hb : (s[0].toNat : Int) ≤ 255 := by have := s[0].toNat_lt; omega
  cases hi : I.isr ((s[0].toNat : Int) / 16)
  all_goals
    go_enter Tryd.func67, Tryd.ntmps67
    go_wp2_with fail
    go_quiet (fail)
    go_wp2_with (go_at_call 79; refine (isregI_any _ _).mono ?_; rintro e w' ⟨rfl, rfl⟩)
    go_ret3
    exact ⟨retIIB rfl rfl (by first | rfl | (simp; done)), bl_drewNI (bl1 _ _) _⟩

end Go.Proofs.YtffokdldgdjkhaaDoor
