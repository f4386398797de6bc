/- WholeSums: any two integers are added, taken away, multiplied and compared as the document says. -/
import Derived.Test.YtjhjlecnjkjbbaaGreatDoorISums2
namespace Go.Proofs.YtjhjlecnjkjbbaaGreatDoor
open Go.RowKit

theorem run_rIAdd : RowKit.Hid (∀ (a : Array Value) (w : World), Sem.run Tryz.prog (callFunc 62 a) w = .ok (.enter 62 a) w) := fun a w => by go_simp
theorem run_rIMul : RowKit.Hid (∀ (a : Array Value) (w : World), Sem.run Tryz.prog (callFunc 63 a) w = .ok (.enter 63 a) w) := fun a w => by go_simp
theorem run_rINeg : RowKit.Hid (∀ (a : Array Value) (w : World), Sem.run Tryz.prog (callFunc 72 a) w = .ok (.enter 72 a) w) := fun a w => by go_simp
theorem run_rICmp : RowKit.Hid (∀ (a : Array Value) (w : World), Sem.run Tryz.prog (callFunc 68 a) w = .ok (.enter 68 a) w) := fun a w => by go_simp
theorem run_rISign : RowKit.Hid (∀ (a : Array Value) (w : World), Sem.run Tryz.prog (callFunc 70 a) w = .ok (.enter 70 a) w) := fun a w => by go_simp
end Go.Proofs.YtjhjlecnjkjbbaaGreatDoor
