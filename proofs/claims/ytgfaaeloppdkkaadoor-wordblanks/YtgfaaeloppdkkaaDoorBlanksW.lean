/-
  What WordBlanks answers, of rows of bytes that came in.
-/
import Derived.Test.YtgfaaeloppdkkaaDoorBlanks
import Derived.Test.YtgfaaeloppdkkaaDoorBytesO
namespace Go.Proofs.YtgfaaeloppdkkaaDoor
open Go.RowKit Go.Shelf

theorem blanks4_w (a0 a1 : Option Addr) (cap0 cap1 : Nat) (xs ys : List Int) (w : World) (hV : Vars w) (hx : ByteS w.heap.size w (.slice a0 xs.length cap0) xs) (hy : ByteS w.heap.size w (.slice a1 ys.length cap1) ys) :
    Calls Tryd.prog 4 #[.slice a0 xs.length cap0, .slice a1 ys.length cap1] w fun e w' => e = .returned (.bool true) ∧ Below w.heap.size w w' :=
  blanks4_c a0 a1 cap0 cap1 xs ys w hx hy hV

end Go.Proofs.YtgfaaeloppdkkaaDoor
