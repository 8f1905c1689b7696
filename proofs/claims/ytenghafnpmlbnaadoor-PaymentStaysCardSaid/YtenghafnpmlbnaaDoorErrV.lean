/-
  An error by its number.
-/
import Derived.Test.YtenghafnpmlbnaaDoorProg
namespace Go.Proofs.YtenghafnpmlbnaaDoor
open Go

/-- An error that is an api.Errno. -/
abbrev eno (n : Int) : Value := .iface 36 (.int .i64 n)
/-- An error by its number; none, if that is 0. -/
def errV (n : Int) : Value := if n = 0 then .nilIface else eno n
end Go.Proofs.YtenghafnpmlbnaaDoor
