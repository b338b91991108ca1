/-
  Proved: ChainTells's tied card: for every arguments the call returns true, and they read behind it as they read before; the library's variable errors.errorType is tied to the program's text.
-/
import Derived.Test.YtcjpaldijngnpaaGreatDoorChainTellsLaw
import Derived.Test.YtcjpaldijngnpaaGreatDoorTie
import Derived.Test.YtcjpaldijngnpaaGreatDoorCards
import Derived.SevenTiedAt
namespace Go.Proofs.YtcjpaldijngnpaaGreatDoor
open Go

theorem chainTells_holds : Rows.ChainTellsCardSaid :=
  Claim7.holds_tied_plain_at .later [] [.handle] true (true, "bafee83e017d80a0e2810697e11eadd1230e4bd224d245b0676149674f6deea0") true
    chainTells.over (fun _ h => by cases h) (by kernel_rfl) (fun _ h => by cases h) chainTells_row_tie rfl ⟨rfl, rfl⟩ (by kernel_rfl) rfl
    (fun f fn hf hfn => by
      obtain rfl : f = 3 := Option.some.inj ((show Tryz.prog.funcNamed "pastern/pasternlaw5.ChainTells" = some 3 by kernel_rfl).symm.trans hf) |>.symm
      obtain rfl : fn = Tryz.f3 := (Option.some.inj (Tryz.func3.symm.trans hfn)).symm
      refine ⟨by kernel_rfl, fun j t ht => ?_⟩
      rw [Tryz.params3] at ht
      match j, ht with
      | 0, ht => obtain rfl : t = 24 := by simpa using ht.symm
                 exact (show Tryz.prog.wantsStandIn 24 = false by kernel_rfl)
      | 1, ht => obtain rfl : t = 25 := by simpa using ht.symm
                 exact (show Tryz.prog.wantsStandIn 25 = false by kernel_rfl)
      | 2, ht => obtain rfl : t = 28 := by simpa using ht.symm
                 exact (show Tryz.prog.wantsStandIn 28 = false by kernel_rfl)
      | 3, ht => obtain rfl : t = 3 := by simpa using ht.symm
                 exact (show Tryz.prog.wantsStandIn 3 = false by kernel_rfl)
      | 4, ht => obtain rfl : t = 3 := by simpa using ht.symm
                 exact (show Tryz.prog.wantsStandIn 3 = false by kernel_rfl)
      | 5, ht => obtain rfl : t = 9 := by simpa using ht.symm
                 exact (show Tryz.prog.wantsStandIn 9 = false by kernel_rfl)
      | 6, ht => obtain rfl : t = 9 := by simpa using ht.symm
                 exact (show Tryz.prog.wantsStandIn 9 = false by kernel_rfl)
      | j + 7, ht => simp at ht)
    (by kernel_rfl)

end Go.Proofs.YtcjpaldijngnpaaGreatDoor
