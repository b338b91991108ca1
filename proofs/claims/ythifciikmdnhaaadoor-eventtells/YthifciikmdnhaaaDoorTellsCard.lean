/-
  Proved: EventTells' tied card: for every schema, two events and a text the call returns true, and they read behind it as they read before; the library's variable errors.errorType is tied to the program's text.
-/
import Derived.Test.YthifciikmdnhaaaDoorTellsLaw
import Derived.Test.YthifciikmdnhaaaDoorTie
import Derived.Test.YthifciikmdnhaaaDoorCards
import Derived.SevenTiedAt
namespace Go.Proofs.YthifciikmdnhaaaDoor
open Go

theorem eventTells_holds : Rows.EventTellsCardSaid :=
  Claim7.holds_tied_plain_at .later [] [.handle] true (true, "77d47b20b4edb052003eb7909c386ad9d3c540fe52e9492852a63d317441ca75") true
    eventTells.over (fun _ h => by cases h) (by kernel_rfl) (fun _ h => by cases h) eventTells_row_tie rfl ⟨rfl, rfl⟩ (by kernel_rfl) rfl
    (fun f fn hf hfn => by
      obtain rfl : f = 3 := Option.some.inj ((show Tryd.prog.funcNamed "pastern/pasternlaw3.EventTells" = some 3 by kernel_rfl).symm.trans hf) |>.symm
      obtain rfl : fn = Tryd.f3 := (Option.some.inj (Tryd.func3.symm.trans hfn)).symm
      refine ⟨by kernel_rfl, fun j t ht => ?_⟩
      rw [Tryd.params3] at ht
      match j, ht with
      | 0, ht => obtain rfl : t = 24 := by simpa using ht.symm
                 exact (show Tryd.prog.wantsStandIn 24 = false by kernel_rfl)
      | 1, ht => obtain rfl : t = 27 := by simpa using ht.symm
                 exact (show Tryd.prog.wantsStandIn 27 = false by kernel_rfl)
      | 2, ht => obtain rfl : t = 27 := by simpa using ht.symm
                 exact (show Tryd.prog.wantsStandIn 27 = false by kernel_rfl)
      | 3, ht => obtain rfl : t = 9 := by simpa using ht.symm
                 exact (show Tryd.prog.wantsStandIn 9 = false by kernel_rfl)
      | j + 4, ht => simp at ht)
    (by kernel_rfl)

end Go.Proofs.YthifciikmdnhaaaDoor
