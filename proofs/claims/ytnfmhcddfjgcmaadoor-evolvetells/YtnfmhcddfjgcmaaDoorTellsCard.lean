/-
  Proved: EvolveTells' tied card: for every schema, change, event and text the call returns true, and they read behind it as they read before; the library's variable errors.errorType is tied to the program's text.
-/
import Derived.Test.YtnfmhcddfjgcmaaDoorTellsLaw
import Derived.Test.YtnfmhcddfjgcmaaDoorTie
import Derived.Test.YtnfmhcddfjgcmaaDoorCards
import Derived.SevenTiedAt
namespace Go.Proofs.YtnfmhcddfjgcmaaDoor
open Go

theorem evolveTells_holds : Rows.EvolveTellsCardSaid :=
  Claim7.holds_tied_plain_at .later [] [.handle] true (true, "57999f6e898d50c198b079be71dfdda63be2a1c7c61dfab8a7002045dda3aa62") true
    evolveTells.over (fun _ h => by cases h) (by kernel_rfl) (fun _ h => by cases h) evolveTells_row_tie rfl ⟨rfl, rfl⟩ (by kernel_rfl) rfl
    (fun f fn hf hfn => by
      obtain rfl : f = 3 := Option.some.inj ((show Tryd.prog.funcNamed "pastern/pasternlaw4.EvolveTells" = some 3 by kernel_rfl).symm.trans hf) |>.symm
      obtain rfl : fn = Tryd.f3 := (Option.some.inj (Tryd.func3.symm.trans hfn)).symm
      refine ⟨by kernel_rfl, fun j t ht => ?_⟩
      rw [Tryd.params3] at ht
      match j, ht with
      | 0, ht => obtain rfl : t = 24 := by simpa using ht.symm
                 exact (show Tryd.prog.wantsStandIn 24 = false by kernel_rfl)
      | 1, ht => obtain rfl : t = 28 := by simpa using ht.symm
                 exact (show Tryd.prog.wantsStandIn 28 = false by kernel_rfl)
      | 2, ht => obtain rfl : t = 31 := by simpa using ht.symm
                 exact (show Tryd.prog.wantsStandIn 31 = false by kernel_rfl)
      | 3, ht => obtain rfl : t = 9 := by simpa using ht.symm
                 exact (show Tryd.prog.wantsStandIn 9 = false by kernel_rfl)
      | j + 4, ht => simp at ht)
    (by kernel_rfl)

end Go.Proofs.YtnfmhcddfjgcmaaDoor
