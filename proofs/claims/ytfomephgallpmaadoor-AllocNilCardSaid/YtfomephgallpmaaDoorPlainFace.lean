/-
  Which method stands behind the interface of cells, for plain ones.
  Conditions: none.
-/
import Derived.Test.YtfomephgallpmaaDoorProg
import Derived.WalkKit
import Derived.KernelRfl
namespace Go.Proofs.YtfomephgallpmaaDoor
open Go.RowKit

theorem met_Load (n : Nat) (a : Option Addr) (w : World) : (method (n + 1) 25 (.pointer a) "Load").run Tryd.prog w = .ok (16, .pointer a) w := by kernel_rfl
theorem nil_Load (n : Nat) (a : Addr) (w : World) : (nilAhead (n + 1) 25 (.pointer (some a)) "Load").run Tryd.prog w = .ok (some false) w := by kernel_rfl
theorem met_Store (n : Nat) (a : Option Addr) (w : World) : (method (n + 1) 25 (.pointer a) "Store").run Tryd.prog w = .ok (117, .pointer a) w := by kernel_rfl
theorem nil_Store (n : Nat) (a : Addr) (w : World) : (nilAhead (n + 1) 25 (.pointer (some a)) "Store").run Tryd.prog w = .ok (some false) w := by kernel_rfl
theorem met_Cas (n : Nat) (a : Option Addr) (w : World) : (method (n + 1) 25 (.pointer a) "Cas").run Tryd.prog w = .ok (116, .pointer a) w := by kernel_rfl
theorem nil_Cas (n : Nat) (a : Addr) (w : World) : (nilAhead (n + 1) 25 (.pointer (some a)) "Cas").run Tryd.prog w = .ok (some false) w := by kernel_rfl
theorem met_Byte (n : Nat) (a : Option Addr) (w : World) : (method (n + 1) 25 (.pointer a) "Byte").run Tryd.prog w = .ok (15, .pointer a) w := by kernel_rfl
theorem nil_Byte (n : Nat) (a : Addr) (w : World) : (nilAhead (n + 1) 25 (.pointer (some a)) "Byte").run Tryd.prog w = .ok (some false) w := by kernel_rfl
theorem met_SetByte (n : Nat) (a : Option Addr) (w : World) : (method (n + 1) 25 (.pointer a) "SetByte").run Tryd.prog w = .ok (10, .pointer a) w := by kernel_rfl
theorem nil_SetByte (n : Nat) (a : Addr) (w : World) : (nilAhead (n + 1) 25 (.pointer (some a)) "SetByte").run Tryd.prog w = .ok (some false) w := by kernel_rfl
theorem met_Words (n : Nat) (a : Option Addr) (w : World) : (method (n + 1) 25 (.pointer a) "Words").run Tryd.prog w = .ok (20, .pointer a) w := by kernel_rfl
theorem nil_Words (n : Nat) (a : Addr) (w : World) : (nilAhead (n + 1) 25 (.pointer (some a)) "Words").run Tryd.prog w = .ok (some false) w := by kernel_rfl
theorem met_Bytes (n : Nat) (a : Option Addr) (w : World) : (method (n + 1) 25 (.pointer a) "Bytes").run Tryd.prog w = .ok (115, .pointer a) w := by kernel_rfl
theorem nil_Bytes (n : Nat) (a : Addr) (w : World) : (nilAhead (n + 1) 25 (.pointer (some a)) "Bytes").run Tryd.prog w = .ok (some false) w := by kernel_rfl
end Go.Proofs.YtfomephgallpmaaDoor
