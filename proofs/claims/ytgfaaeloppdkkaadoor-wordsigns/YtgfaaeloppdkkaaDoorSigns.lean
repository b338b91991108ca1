/-
  What WordSigns answers of every byte: true; in whatever world in which the package variables stand.
-/
import Derived.Test.YtgfaaeloppdkkaaDoorSignsA
import Derived.Test.YtgfaaeloppdkkaaDoorSignsB
import Derived.Test.YtgfaaeloppdkkaaDoorSignsC
import Derived.Test.YtgfaaeloppdkkaaDoorSignsD
namespace Go.Proofs.YtgfaaeloppdkkaaDoor
open Go.RowKit Go.Shelf

theorem signs7_c (n : Int) (lo : 0 ≤ n) (hi : n ≤ 255) (w : World) (hV : Vars w) :
    Calls Tryd.prog 7 #[.int .u8 n] w fun e w' => e = .returned (.bool true) ∧ Below w.heap.size w w' := by
  obtain ⟨b, hb⟩ : ∃ b : UInt8, (b.toNat : Int) = n := ⟨UInt8.ofNat n.toNat, by rw [UInt8.toNat_ofNat']; omega⟩
  by_cases hn : b.toNat = 33 ∨ b.toNat = 60
  · exact signs7_two n b hb hn w hV
  · cases hs : sgL.contains b.toNat
    · cases hp : plainQ b
      · exact signs7_none n b hb hn hs hp w hV
      · exact signs7_plain n b hb hn hs hp w hV
    · exact signs7_one n b hb hn hs w hV

end Go.Proofs.YtgfaaeloppdkkaaDoor
