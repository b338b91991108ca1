/-
  Proved: ShowTells's tied card, second form: for every arguments that together hold at most 1048576 values and letters the call returns true, and they read behind it as they read before; the listed package variables are tied to the program's text.
-/
import Derived.Test.YtfofpenajkaalaaDoorShowTellsUptoLaw
import Derived.Test.YtfofpenajkaalaaDoorTie
import Derived.Test.YtfofpenajkaalaaDoorCards
import Derived.SevenTiedAt
namespace Go.Proofs.YtfofpenajkaalaaDoor
open Go

theorem showTellsUpto_holds : Rows.ShowTellsUptoCardSaid :=
  Claim7.holds_tied_plain_at .later [] [.data, .data, .data, .data] true (true, "450cb6d7aa033752b5e23d03a39a2fdcba2f75100a146d59139a2610844e4f43") false
    showTells.over (fun _ h => by cases h) (by kernel_rfl) (fun _ h => by cases h) showTellsUpto_row_tie rfl ⟨rfl, rfl⟩ (by kernel_rfl) rfl
    (fun f fn hf hfn => by
      obtain rfl : f = 3 := Option.some.inj ((show Tryd.prog.funcNamed "pastern/pasternlaw8.ShowTells" = some 3 by kernel_rfl).symm.trans hf) |>.symm
      obtain rfl : fn = Tryd.f3 := (Option.some.inj (Tryd.func3.symm.trans hfn)).symm
      refine ⟨by kernel_rfl, fun j t ht => ?_⟩
      rw [Tryd.params3] at ht
      match j, ht with
      | 0, ht => obtain rfl : t = 23 := by simpa using ht.symm
                 exact (show Tryd.prog.wantsStandIn 23 = false by kernel_rfl)
      | 1, ht => obtain rfl : t = 26 := by simpa using ht.symm
                 exact (show Tryd.prog.wantsStandIn 26 = false by kernel_rfl)
      | 2, ht => obtain rfl : t = 29 := by simpa using ht.symm
                 exact (show Tryd.prog.wantsStandIn 29 = false by kernel_rfl)
      | j + 1 + 1 + 1, ht => simp at ht)
    (by kernel_rfl)

end Go.Proofs.YtfofpenajkaalaaDoor
