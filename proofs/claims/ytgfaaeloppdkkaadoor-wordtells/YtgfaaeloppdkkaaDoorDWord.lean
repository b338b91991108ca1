/-
  What the document's word answers: the word that a text begins with from a place on, as a plain function.
-/
import Derived.Test.YtgfaaeloppdkkaaDoorDWordA
import Derived.Test.YtgfaaeloppdkkaaDoorDWordB
import Derived.Test.YtgfaaeloppdkkaaDoorDWordD
import Derived.Test.YtgfaaeloppdkkaaDoorDWordE
namespace Go.Proofs.YtgfaaeloppdkkaaDoor
open Go.RowKit Go.Shelf

theorem word17_c (s : ByteArray) (at_ : Nat) (hat : at_ < s.size) (w : World) (hs : s.size ≤ 281474976710656) :
    Calls Tryd.prog 17 #[.string s, .int .i64 at_] w fun e w' => e = .returned (encD (firstW (s.data.toList.drop at_))) ∧ Below w.heap.size w w' := by
  have hh := head_drop s at_ hat
  have hpos : ∀ lo hi, inB lo hi s[at_].toNat = true → 1 ≤ (leadL lo hi (s.data.toList.drop at_)).length := fun lo hi h => by
    cases hl : s.data.toList.drop at_ with
    | nil => rw [hl] at hh; cases hh
    | cons d r => rw [hl] at hh; cases hh; exact leadL_pos h
  cases h1 : inB 97 122 s[at_].toNat
  · cases h2 : inB 65 90 s[at_].toNat
    · cases h3 : isNumL (s.data.toList.drop at_)
      · by_cases h4 : s[at_].toNat = 34
        · rw [firstW_text _ _ hh h1 h2 h3 h4]
          exact word17_text s at_ hat h4 w hs
        · rw [firstW_sign _ _ hh h1 h2 h3 h4]
          rw [isNum_at s at_ hat] at h3
          by_cases ht : ∃ h : at_ + 1 < s.size, (s[at_] = 33 ∧ s[at_ + 1] = 61) ∨ (s[at_] = 60 ∧ s[at_ + 1] = 61)
          · obtain ⟨h, ht⟩ := ht
            exact word17_two s at_ hat h ht w hs
          · have hno : ∀ h : at_ + 1 < s.size, ¬ ((s[at_] = 33 ∧ s[at_ + 1] = 61) ∨ (s[at_] = 60 ∧ s[at_ + 1] = 61)) := fun h h' => ht ⟨h, h'⟩
            by_cases hc : s[at_].toNat = 45
            · rw [if_pos hc] at h3
              exact word17_minus s at_ hat hc (fun h => by rwa [dif_pos h] at h3) hno w hs
            · rw [if_neg hc] at h3
              exact word17_one s at_ hat h1 h2 hc h3 h4 hno w hs
      · rw [firstW_num _ _ hh h1 h2 h3]
        exact word17_num s at_ hat h3 w hs
    · rw [firstW_great _ _ hh h1 h2]
      exact word17_great s at_ _ _ hat (led_of s at_ (by omega) 65 90) (led_ext s at_ 65 90) (hpos _ _ h2) _ rfl w hs
  · rw [firstW_name _ _ hh h1]
    exact word17_name s at_ _ _ hat (led_of s at_ (by omega) 97 122) (led_ext s at_ 97 122) (hpos _ _ h1) _ rfl w hs

end Go.Proofs.YtgfaaeloppdkkaaDoor
