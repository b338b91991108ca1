/-
  Proved: ParseDeep's tied card: for every arguments the call returns true, and they read behind it as they read before; the listed package variables are tied to the program's text.
-/
import Derived.Test.YtmhpakhnclkenaaGreatDoorParseDeepLaw
import Derived.Test.YtmhpakhnclkenaaGreatDoorTie
import Derived.Test.YtmhpakhnclkenaaGreatDoorCards
import Derived.SevenTiedAt
namespace Go.Proofs.YtmhpakhnclkenaaGreatDoor
open Go

theorem parseDeep_holds : Rows.ParseDeepCardSaid :=
  Claim7.holds_tied_plain_at .later [] [.data, .data, .data, .data, .sentinel, .sentinel, .wider, .wider, .wider, .wider, .data, .data, .pinned] true (true, "c8ea91f8a42985bb7855b3aa8a8c2015d5fd9a157577e52eebc25a47d98ffeb7") true
    parseDeep.over (fun _ h => by cases h) (by kernel_rfl) (fun _ h => by cases h) parseDeep_row_tie rfl ⟨rfl, rfl⟩ (by kernel_rfl) rfl
    (fun f fn hf hfn => by
      obtain rfl : f = 5 := Option.some.inj ((show Tryz.prog.funcNamed "pastern/pasternlaw9.ParseDeep" = some 5 by kernel_rfl).symm.trans hf) |>.symm
      obtain rfl : fn = Tryz.f5 := (Option.some.inj (Tryz.func5.symm.trans hfn)).symm
      refine ⟨by kernel_rfl, fun j t ht => ?_⟩
      rw [Tryz.params5] at ht
      match j, ht with
      | 0, ht => obtain rfl : t = 5 := by simpa using ht.symm
                 exact (show Tryz.prog.wantsStandIn 5 = false by kernel_rfl)
      | 1, ht => obtain rfl : t = 4 := by simpa using ht.symm
                 exact (show Tryz.prog.wantsStandIn 4 = false by kernel_rfl)
      | j + 2, ht => simp at ht)
    (by kernel_rfl)

end Go.Proofs.YtmhpakhnclkenaaGreatDoor
