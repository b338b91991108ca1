/-
  Proved: WordTells's tied card: for every arguments the call returns true, and they read behind it as they read before; the listed package variables are tied to the program's text.
-/
import Derived.Test.YtgfaaeloppdkkaaDoorWordTellsLaw
import Derived.Test.YtgfaaeloppdkkaaDoorTie
import Derived.Test.YtgfaaeloppdkkaaDoorCards
import Derived.SevenTiedAt
namespace Go.Proofs.YtgfaaeloppdkkaaDoor
open Go

theorem wordTells_holds : Rows.WordTellsCardSaid :=
  Claim7.holds_tied_plain_at .later [] [.data, .data, .data, .handle, .sentinel, .sentinel, .wider, .wider, .wider, .wider, .data] true (true, "99885c115dcec55c2da406a6a4df05ecfad40900e92affc228909d3d0b5f5485") true
    wordTells.over (fun _ h => by cases h) (by kernel_rfl) (fun _ h => by cases h) wordTells_row_tie rfl ⟨rfl, rfl⟩ (by kernel_rfl) rfl
    (fun f fn hf hfn => by
      obtain rfl : f = 3 := Option.some.inj ((show Tryd.prog.funcNamed "pastern/pasternlaw7.WordTells" = some 3 by kernel_rfl).symm.trans hf) |>.symm
      obtain rfl : fn = Tryd.f3 := (Option.some.inj (Tryd.func3.symm.trans hfn)).symm
      refine ⟨by kernel_rfl, fun j t ht => ?_⟩
      rw [Tryd.params3] at ht
      match j, ht with
      | 0, ht => obtain rfl : t = 9 := by simpa using ht.symm
                 exact (show Tryd.prog.wantsStandIn 9 = false by kernel_rfl)
      | j + 1, ht => simp at ht)
    (by kernel_rfl)

end Go.Proofs.YtgfaaeloppdkkaaDoor
