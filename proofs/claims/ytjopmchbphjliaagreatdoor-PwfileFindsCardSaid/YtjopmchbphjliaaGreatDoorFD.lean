/- Walk of the law PwfileFinds. -/
import Derived.Test.YtjopmchbphjliaaGreatDoorFW
import Derived.Test.YtjopmchbphjliaaGreatDoorFN
namespace Go.Proofs.YtjopmchbphjliaaGreatDoor
open Go.RowKit Go.Shelf

theorem finds_walk (p : Option Addr) (n cap : Nat) (us : List Usr) (s : ByteArray) (i : Int) (t : ByteArray) (_ : s.size ≤ 140737488351232) (ht : t.size ≤ 140737488351232) (w : World) (henv : Env w) (hin : InUsers w p n us) (hn : n ≤ cap) (hm : cap ≤ maxLen) :
    Calls Tryz.prog 5 #[.slice p n cap, .string s, .int .i64 i, .string t] w fun e w' => e = .returned (.bool true) ∧ Below w.heap.size w w' := by
  cases p with
  | none => exact finds_none n cap us s i t ht w henv hin
  | some a => exact finds_some a n cap us s i t ht w henv hin hn hm
end Go.Proofs.YtjopmchbphjliaaGreatDoor
