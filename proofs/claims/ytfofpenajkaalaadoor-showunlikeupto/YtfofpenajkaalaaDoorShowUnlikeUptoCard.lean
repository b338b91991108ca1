/-
  Proved: ShowUnlike's tied card, second form: for every arguments that together hold at most 1048576 values and letters the call returns true, and they read behind it as they read before; the listed package variables are tied to the program's text.
-/
import Derived.Test.YtfofpenajkaalaaDoorShowUnlikeUptoLaw
import Derived.Test.YtfofpenajkaalaaDoorTie
import Derived.Test.YtfofpenajkaalaaDoorCards
import Derived.SevenTiedAt
namespace Go.Proofs.YtfofpenajkaalaaDoor
open Go

theorem showUnlikeUpto_holds : Rows.ShowUnlikeUptoCardSaid :=
  Claim7.holds_tied_plain_at .later [] [.data, .data, .data, .data] true (true, "450cb6d7aa033752b5e23d03a39a2fdcba2f75100a146d59139a2610844e4f43") false
    showUnlike.over (fun _ h => by cases h) (by kernel_rfl) (fun _ h => by cases h) showUnlikeUpto_row_tie rfl ⟨rfl, rfl⟩ (by kernel_rfl) rfl
    (fun f fn hf hfn => by
      obtain rfl : f = 4 := Option.some.inj ((show Tryd.prog.funcNamed "pastern/pasternlaw8.ShowUnlike" = some 4 by kernel_rfl).symm.trans hf) |>.symm
      obtain rfl : fn = Tryd.f4 := (Option.some.inj (Tryd.func4.symm.trans hfn)).symm
      refine ⟨by kernel_rfl, fun j t ht => ?_⟩
      rw [Tryd.params4] at ht
      match j, ht with
      | 0, ht => obtain rfl : t = 26 := by simpa using ht.symm
                 exact (show Tryd.prog.wantsStandIn 26 = false by kernel_rfl)
      | 1, ht => obtain rfl : t = 26 := by simpa using ht.symm
                 exact (show Tryd.prog.wantsStandIn 26 = false by kernel_rfl)
      | 2, ht => obtain rfl : t = 29 := by simpa using ht.symm
                 exact (show Tryd.prog.wantsStandIn 29 = false by kernel_rfl)
      | 3, ht => obtain rfl : t = 29 := by simpa using ht.symm
                 exact (show Tryd.prog.wantsStandIn 29 = false by kernel_rfl)
      | j + 4, ht => simp at ht)
    (by kernel_rfl)

end Go.Proofs.YtfofpenajkaalaaDoor
