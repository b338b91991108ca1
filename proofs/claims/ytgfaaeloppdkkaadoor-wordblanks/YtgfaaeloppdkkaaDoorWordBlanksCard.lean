/-
  Proved: WordBlanks's tied card: for every arguments the call returns true, and they read behind it as they read before; the listed package variables are tied to the program's text.
-/
import Derived.Test.YtgfaaeloppdkkaaDoorWordBlanksLaw
import Derived.Test.YtgfaaeloppdkkaaDoorTie
import Derived.Test.YtgfaaeloppdkkaaDoorCards
import Derived.SevenTiedAt
namespace Go.Proofs.YtgfaaeloppdkkaaDoor
open Go

theorem wordBlanks_holds : Rows.WordBlanksCardSaid :=
  Claim7.holds_tied_plain_at .later [] [.data, .data, .data, .sentinel, .sentinel, .wider, .wider, .wider, .wider, .data] true (true, "99885c115dcec55c2da406a6a4df05ecfad40900e92affc228909d3d0b5f5485") true
    wordBlanks.over (fun _ h => by cases h) (by kernel_rfl) (fun _ h => by cases h) wordBlanks_row_tie rfl ⟨rfl, rfl⟩ (by kernel_rfl) rfl
    (fun f fn hf hfn => by
      obtain rfl : f = 4 := Option.some.inj ((show Tryd.prog.funcNamed "pastern/pasternlaw7.WordBlanks" = some 4 by kernel_rfl).symm.trans hf) |>.symm
      obtain rfl : fn = Tryd.f4 := (Option.some.inj (Tryd.func4.symm.trans hfn)).symm
      refine ⟨by kernel_rfl, fun j t ht => ?_⟩
      rw [Tryd.params4] at ht
      match j, ht with
      | 0, ht => obtain rfl : t = 34 := by simpa using ht.symm
                 exact (show Tryd.prog.wantsStandIn 34 = false by kernel_rfl)
      | 1, ht => obtain rfl : t = 34 := by simpa using ht.symm
                 exact (show Tryd.prog.wantsStandIn 34 = false by kernel_rfl)
      | j + 2, ht => simp at ht)
    (by kernel_rfl)

end Go.Proofs.YtgfaaeloppdkkaaDoor
