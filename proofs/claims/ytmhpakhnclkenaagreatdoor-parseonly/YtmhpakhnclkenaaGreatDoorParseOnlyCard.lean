/-
  Proved: ParseOnly's tied card: for every arguments the call returns true, and they read behind it as they read before; the listed package variables are tied to the program's text.
-/
import Derived.Test.YtmhpakhnclkenaaGreatDoorParseOnlyLaw
import Derived.Test.YtmhpakhnclkenaaGreatDoorTie
import Derived.Test.YtmhpakhnclkenaaGreatDoorCards
import Derived.SevenTiedAt
namespace Go.Proofs.YtmhpakhnclkenaaGreatDoor
open Go

theorem parseOnly_holds : Rows.ParseOnlyCardSaid :=
  Claim7.holds_tied_plain_at .later [] [.data, .data, .data, .data, .sentinel, .sentinel, .wider, .wider, .wider, .wider, .data, .data, .pinned] true (true, "c8ea91f8a42985bb7855b3aa8a8c2015d5fd9a157577e52eebc25a47d98ffeb7") true
    parseOnly.over (fun _ h => by cases h) (by kernel_rfl) (fun _ h => by cases h) parseOnly_row_tie rfl ⟨rfl, rfl⟩ (by kernel_rfl) rfl
    (fun f fn hf hfn => by
      obtain rfl : f = 4 := Option.some.inj ((show Tryz.prog.funcNamed "pastern/pasternlaw9.ParseOnly" = some 4 by kernel_rfl).symm.trans hf) |>.symm
      obtain rfl : fn = Tryz.f4 := (Option.some.inj (Tryz.func4.symm.trans hfn)).symm
      refine ⟨by kernel_rfl, fun j t ht => ?_⟩
      rw [Tryz.params4] at ht
      match j, ht with
      | 0, ht => obtain rfl : t = 9 := by simpa using ht.symm
                 exact (show Tryz.prog.wantsStandIn 9 = false by kernel_rfl)
      | j + 1, ht => simp at ht)
    (by kernel_rfl)

end Go.Proofs.YtmhpakhnclkenaaGreatDoor
