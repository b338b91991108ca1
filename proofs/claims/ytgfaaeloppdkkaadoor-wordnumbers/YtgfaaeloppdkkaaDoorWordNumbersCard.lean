/-
  Proved: WordNumbers's tied card: for every arguments the call returns true, and they read behind it as they read before; the listed package variables are tied to the program's text.
-/
import Derived.Test.YtgfaaeloppdkkaaDoorWordNumbersLaw
import Derived.Test.YtgfaaeloppdkkaaDoorTie
import Derived.Test.YtgfaaeloppdkkaaDoorCards
import Derived.SevenTiedAt
namespace Go.Proofs.YtgfaaeloppdkkaaDoor
open Go

theorem wordNumbers_holds : Rows.WordNumbersCardSaid :=
  Claim7.holds_tied_plain_at .later [] [.data, .data, .data, .sentinel, .sentinel, .wider, .wider, .wider, .wider, .data] true (true, "99885c115dcec55c2da406a6a4df05ecfad40900e92affc228909d3d0b5f5485") true
    wordNumbers.over (fun _ h => by cases h) (by kernel_rfl) (fun _ h => by cases h) wordNumbers_row_tie rfl ⟨rfl, rfl⟩ (by kernel_rfl) rfl
    (fun f fn hf hfn => by
      obtain rfl : f = 5 := Option.some.inj ((show Tryd.prog.funcNamed "pastern/pasternlaw7.WordNumbers" = some 5 by kernel_rfl).symm.trans hf) |>.symm
      obtain rfl : fn = Tryd.f5 := (Option.some.inj (Tryd.func5.symm.trans hfn)).symm
      refine ⟨by kernel_rfl, fun j t ht => ?_⟩
      rw [Tryd.params5] at ht
      match j, ht with
      | 0, ht => obtain rfl : t = 2 := by simpa using ht.symm
                 exact (show Tryd.prog.wantsStandIn 2 = false by kernel_rfl)
      | 1, ht => obtain rfl : t = 5 := by simpa using ht.symm
                 exact (show Tryd.prog.wantsStandIn 5 = false by kernel_rfl)
      | 2, ht => obtain rfl : t = 4 := by simpa using ht.symm
                 exact (show Tryd.prog.wantsStandIn 4 = false by kernel_rfl)
      | j + 3, ht => simp at ht)
    (by kernel_rfl)

end Go.Proofs.YtgfaaeloppdkkaaDoor
