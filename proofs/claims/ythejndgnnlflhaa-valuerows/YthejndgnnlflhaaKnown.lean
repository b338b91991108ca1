/-
  known answers true, in whatever world; nothing that lay is turned.
-/
import Derived.Test.YthejndgnnlflhaaWithAll
namespace Go.Proofs.Ythejndgnnlflhaa
open Go.RowKit Go.Shelf

theorem rise16 (a : Option Addr) (len cap : Nat) (ss : List ByteArray) (hreach : ss.length * 16 ≤ 140737488351232) (w : World) (hI : Strs w.heap.size w (.slice a len cap) ss) :
    Calls Try.prog 16 #[.slice a len cap] w fun e W' => e = .returned (.bool (riseB ss)) ∧ Below w.heap.size w W' :=
  callsIn_wide.1 (rise_in 3 (Nat.le_refl _) a len cap ss hreach w hI)
theorem with18 (a : Option Addr) (len cap : Nat) (x : ByteArray) (ss : List ByteArray) (hreach : ss.length * 16 ≤ 140737488351232) (w : World) (hI : Strs w.heap.size w (.slice a len cap) ss) :
    Calls Try.prog 18 #[.slice a len cap, .string x] w fun e W' => ∃ v, e = .returned v ∧ W'.ownsRow w.heap.size 9 1 v (wAll x ss).length ((wAll x ss).map Value.string) ∧ Below w.heap.size w W' :=
  callsIn_wide.1 (with18_in 3 (Nat.le_refl _) a len cap x ss hreach w hI)

theorem k1 : isB 1 (-5) ⟨#[]⟩ = true := by kernel_rfl
theorem k2 : isB 0 0 ⟨#[]⟩ = false := by decide
theorem k3 : isB 3 2 ⟨#[]⟩ = false := by decide
theorem k4 : sameB (zeroK 2) 0 ⟨#[]⟩ 2 0 ⟨#[]⟩ = true := by kernel_rfl
theorem k5 : nameB ⟨#[97, 98, 99]⟩ = true := by decide
theorem k6 : nameB ⟨#[97, 66]⟩ = false := by decide
theorem k7 : riseB [⟨#[97]⟩, ⟨#[98]⟩] = true := by kernel_rfl
theorem k8 : riseB [⟨#[97]⟩, ⟨#[97]⟩] = false := by kernel_rfl
theorem k9 : (wAll ⟨#[98]⟩ [⟨#[97]⟩, ⟨#[99]⟩]).length = 3 := by kernel_rfl

theorem strs_two (x y : ByteArray) (w : World) : Strs (w.alloc (.cells #[.string x, .string y] 9)).heap.size (w.alloc (.cells #[.string x, .string y] 9)) (.slice (some ⟨w.heap.size, 0, none⟩) 2 2) [x, y] := by
  refine .inr ⟨w.heap.size, 0, 2, rfl, by simp, fun j hj => ?_⟩
  match j, hj with
  | 0, _ => simp
  | 1, _ => simp

set_option maxHeartbeats 2000000 in
theorem known8 (w : World) : Calls Try.prog 8 #[] w fun e w' => e = .returned (.bool true) ∧ Below w.heap.size w w' := by
  go_enter Try.func8, Try.ntmps8
  go_wp2_with fail
  refine (is9 1 (-5) ⟨#[]⟩ _ (by decide)).mono ?_
  rintro e w1 ⟨rfl, hb1⟩
  rw [k1]
  go_wp2_with fail
  refine (is9 0 0 ⟨#[]⟩ _ (by decide)).mono ?_
  rintro e w2 ⟨rfl, hb2⟩
  rw [k2]
  go_wp2_with fail
  refine (is9 3 2 ⟨#[]⟩ _ (by decide)).mono ?_
  rintro e w3 ⟨rfl, hb3⟩
  rw [k3]
  go_wp2_with fail
  refine (zero12 2 _).mono ?_
  rintro e w4 ⟨rfl, hb4⟩
  go_wp2_with fail
  refine (same11 (zeroK 2) 0 2 0 ⟨#[]⟩ ⟨#[]⟩ _).mono ?_
  rintro e w5 ⟨rfl, hb5⟩
  rw [k4]
  go_wp2_with fail
  refine (name14 ⟨#[97, 98, 99]⟩ _ (by decide)).mono ?_
  rintro e w6 ⟨rfl, hb6⟩
  rw [k5]
  go_wp2_with fail
  refine (name14 ⟨#[97, 66]⟩ _ (by decide)).mono ?_
  rintro e w7 ⟨rfl, hb7⟩
  rw [k6]
  go_wp2_with fail
  refine (rise16 _ 2 2 [⟨#[97]⟩, ⟨#[98]⟩] (by decide) _ (strs_two _ _ w7)).mono ?_
  rintro e w8 ⟨rfl, hb8⟩
  rw [k7]
  go_wp2_with fail
  refine (rise16 _ 2 2 [⟨#[97]⟩, ⟨#[97]⟩] (by decide) _ (strs_two _ _ w8)).mono ?_
  rintro e w9 ⟨rfl, hb9⟩
  rw [k8]
  go_wp2_with fail
  refine (with18 _ 2 2 ⟨#[98]⟩ [⟨#[97]⟩, ⟨#[99]⟩] (by decide) _ (strs_two _ _ w9)).mono ?_
  rintro e w10 ⟨v, rfl, ho, hb10⟩
  rw [k9] at ho
  obtain ⟨g, cap, rfl⟩ := ownsRow_succ ho
  go_wp2_with fail
  go_ret
  refine ⟨rfl, ?_⟩
  have b1 := hb1
  have b2 := b1.trans (hb2.mono b1.size)
  have b3 := b2.trans (hb3.mono b2.size)
  have b4 := b3.trans (hb4.mono b3.size)
  have b5 := b4.trans (hb5.mono b4.size)
  have b6 := b5.trans (hb6.mono b5.size)
  have b7 := b6.trans (hb7.mono b6.size)
  have b8 := (b7.alloc b7.size _).trans (hb8.mono (b7.alloc b7.size _).size)
  have b9 := (b8.alloc b8.size _).trans (hb9.mono (b8.alloc b8.size _).size)
  exact (b9.alloc b9.size _).trans (hb10.mono (b9.alloc b9.size _).size)

end Go.Proofs.Ythejndgnnlflhaa
