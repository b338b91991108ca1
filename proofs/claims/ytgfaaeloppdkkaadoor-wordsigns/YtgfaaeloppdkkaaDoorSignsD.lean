/-
  What WordSigns answers of every byte: true; in whatever world in which the package variables stand.
-/
import Derived.Test.YtgfaaeloppdkkaaDoorSignsP
namespace Go.Proofs.YtgfaaeloppdkkaaDoor
open Go.RowKit Go.Shelf

set_option maxRecDepth 100000 in
set_option maxHeartbeats 4000000 in
theorem signs7_none (n : Int) (b : UInt8) (hb : (b.toNat : Int) = n) (hn : ¬ (b.toNat = 33 ∨ b.toNat = 60)) (hs : sgL.contains b.toNat = false) (hp : plainQ b = false) (w : World) (hV : Vars w) :
    Calls Tryd.prog 7 #[.int .u8 n] w fun e w' => e = .returned (.bool true) ∧ Below w.heap.size w w' := by
  obtain ⟨S, hSe⟩ : ∃ S, S = strOfNums [n] := ⟨_, rfl⟩
  have hS : S.data.toList = [b] := by
    rw [hSe, strOfNums_data]
    simp only [List.map_cons, List.map_nil, List.cons.injEq, and_true]
    rw [← hb]; simp
  have hS1 : S.size = 1 := by rw [show S.size = S.data.toList.length from (Array.length_toList ..).symm, hS]; rfl
  have HSe := hide hSe
  have HT := hide (show sgText S = ⟨#[97, 32]⟩ ++ S ++ ⟨#[61, 32, 98]⟩ from rfl)
  have h33 : (n == 33) = false := by simp; omega
  have h60 : (n == 60) = false := by simp; omega
  have hcl : (n ≠ 32 ∧ n < 48) ∨ (58 ≤ n ∧ n < 65) ∨ (91 ≤ n ∧ n < 97) ∨ 123 ≤ n := by
    simp only [plainQ, inB, Bool.or_eq_false_iff, Bool.and_eq_false_iff, decide_eq_false_iff_not] at hp; omega
  have HCL := hide hcl
  have HC := hide (show ∀ w, Vars w → _ from fun w hV => cut_signD S b hS hn hs hp w hV)
  have hG : ∃ G, G = sgS := ⟨_, rfl⟩
  obtain ⟨G, hG⟩ := hG
  have hGs : G.size = 14 := by rw [hG]; rfl
  have HGa := hide (show ∀ k (h : k < 14), ((G[k]'(by rw [hGs]; exact h)).toNat : Int) = ((sgL[k]'h : Nat) : Int) from fun k h => by subst hG; exact congrArg Int.ofNat (sgS_at k h))
  have HG := hide hG
  have Hall := hide (show sgTo n 14 = false from by rw [← hb, sgTo_all]; exact hs)
  clear hSe hS hb hG hn hs hp hcl
  go_enter Tryd.func7, Tryd.ntmps7
  go_wp2_with fail
  refine (known9_c _ hV).mono ?_
  rintro e w1 ⟨rfl, hb1⟩
  have hcv := conv1 (W := w1.alloc (.cells #[.int .u8 n] 5)) (B := w1.heap.size) (n := n) (by simp)
  rw [← unhide HSe] at hcv
  have hVa := (hV.up hb1).alloc (.cells #[.int .u8 n] 5)
  go_wp2_with fail
  rw [← unhide HT]
  refine (unhide HC _ hVa).mono ?_
  rintro e w2 ⟨a4, c4, rfl, hb2⟩
  clear hcv
  have hbz : Below w.heap.size w w2 := hb1.trans (((Below.refl _ w1).alloc (Nat.le_refl _) (.cells #[.int .u8 n] 5)).trans (hb2.mono (by simp)) |>.mono hb1.size)
  go_wp2_with fail
  rw [show (ByteArray.mk #[40, 41, 91, 93, 58, 124, 44, 43, 33, 46, 45, 42, 61, 60]) = G from (unhide HG).symm]
  go_loopw [7, 8] (fun p i wr => ∃ k : Nat, k ≤ 14 ∧ i = .int .i64 k ∧ p = .bool (sgTo n k) ∧ wr = w2) (fun _ i _ => 14 - (intOf i).toNat)
  case atStart => exact ⟨0, Nat.zero_le _, rfl, rfl, rfl⟩
  case round =>
    obtain ⟨k, hk, rfl, rfl, rfl⟩ := hrel
    by_cases hlt : k < 14
    · have Hs := hide (sgTo_succ n k hlt)
      have hGk : k < G.size := by omega
      have Hg := hide (unhide HGa k hlt)
      cases hp : sgTo n k
      · cases hd : decide ((sgL[k] : Int) = n)
        · have hd' : ((G[k].toNat : Int) == n) = false := by rw [unhide Hg]; simpa using hd
          have Hn := hide (show sgTo n (k + 1) = false by rw [unhide Hs, hp, hd]; rfl)
          clear hp hd
          go_wp2
          go_roundw
          case rel => exact ⟨k + 1, by omega, by go_num, by rw [unhide Hn], trivial⟩
          case measure => simp [intOf]; omega
        · have hd' : ((G[k].toNat : Int) == n) = true := by rw [unhide Hg]; simpa using hd
          have Hn := hide (show sgTo n (k + 1) = true by rw [unhide Hs, hp, hd]; rfl)
          clear hp hd
          go_wp2
          go_roundw
          case rel => exact ⟨k + 1, by omega, by go_num, by rw [unhide Hn], trivial⟩
          case measure => simp [intOf]; omega
      · have Hn := hide (show sgTo n (k + 1) = true by rw [unhide Hs, hp]; rfl)
        clear hp
        go_wp2
        go_roundw
        case rel => exact ⟨k + 1, by omega, by go_num, by rw [unhide Hn], trivial⟩
        case measure => simp [intOf]; omega
    · obtain rfl : k = 14 := by omega
      rw [unhide Hall]
      have HI := hide (show ∀ w, Calls Tryd.prog 14 #[errV 21, errV 21] w fun e w' => e = .returned (.bool true) ∧ w' = w from fun w => errIs_c 21 21 w)
      have e32 : (n == 32) = false := by have := unhide HCL; simp; omega
      rcases unhide HCL with ⟨h1, h2⟩ | ⟨h1, h2⟩ | ⟨h1, h2⟩ | h1
      · have h3 : ¬ 48 ≤ n := by omega
        have h5 : ¬ 97 ≤ n := by omega
        have h6 : ¬ 65 ≤ n := by omega
        clear h1
        go_wp2_with fail
        refine (unhide HI _).mono ?_
        rintro e w5 ⟨rfl, rfl⟩
        go_wp2_with fail
        go_ret
        exact ⟨rfl, hbz⟩
      · have h3 : 48 ≤ n := by omega
        have h4 : ¬ n ≤ 57 := by omega
        have h5 : ¬ 97 ≤ n := by omega
        have h6 : ¬ 65 ≤ n := by omega
        go_wp2_with fail
        refine (unhide HI _).mono ?_
        rintro e w5 ⟨rfl, rfl⟩
        go_wp2_with fail
        go_ret
        exact ⟨rfl, hbz⟩
      · have h3 : 48 ≤ n := by omega
        have h4 : ¬ n ≤ 57 := by omega
        have h5 : ¬ 97 ≤ n := by omega
        have h6 : 65 ≤ n := by omega
        have h7 : ¬ n ≤ 90 := by omega
        go_wp2_with fail
        refine (unhide HI _).mono ?_
        rintro e w5 ⟨rfl, rfl⟩
        go_wp2_with fail
        go_ret
        exact ⟨rfl, hbz⟩
      · have h3 : 48 ≤ n := by omega
        have h4 : ¬ n ≤ 57 := by omega
        have h5 : 97 ≤ n := by omega
        have h6 : 65 ≤ n := by omega
        have h7 : ¬ n ≤ 90 := by omega
        have h8 : ¬ n ≤ 122 := by omega
        go_wp2_with fail
        refine (unhide HI _).mono ?_
        rintro e w5 ⟨rfl, rfl⟩
        go_wp2_with fail
        go_ret
        exact ⟨rfl, hbz⟩

end Go.Proofs.YtgfaaeloppdkkaaDoor
