/-
  What WordSigns answers of every byte: true; in whatever world in which the package variables stand.
-/
import Derived.Test.YtgfaaeloppdkkaaDoorSignsP
namespace Go.Proofs.YtgfaaeloppdkkaaDoor
open Go.RowKit Go.Shelf

set_option maxRecDepth 100000 in
set_option maxHeartbeats 4000000 in
theorem signs7_two (n : Int) (b : UInt8) (hb : (b.toNat : Int) = n) (hn : b.toNat = 33 ∨ b.toNat = 60) (w : World) (hV : Vars w) :
    Calls Tryd.prog 7 #[.int .u8 n] w fun e w' => e = .returned (.bool true) ∧ Below w.heap.size w w' := by
  obtain ⟨S, hSe⟩ : ∃ S, S = strOfNums [n] := ⟨_, rfl⟩
  have hS : S.data.toList = [b] := by
    rw [hSe, strOfNums_data]
    simp only [List.map_cons, List.map_nil, List.cons.injEq, and_true]
    rw [← hb]; simp
  have hS1 : S.size = 1 := by rw [show S.size = S.data.toList.length from (Array.length_toList ..).symm, hS]; rfl
  have HSe := hide hSe
  have HT := hide (show sgText S = ⟨#[97, 32]⟩ ++ S ++ ⟨#[61, 32, 98]⟩ from rfl)
  have hs : sgL.contains b.toNat = true := by rcases hn with h | h <;> rw [h] <;> rfl
  have h33 : n = 33 ∨ n = 60 := by omega
  replace h33 := hide h33
  have HC := hide (show ∀ w, Vars w → _ from fun w hV => cut_sign2 S b hS hn w hV)
  have hG : ∃ G, G = sgS := ⟨_, rfl⟩
  obtain ⟨G, hG⟩ := hG
  have hGs : G.size = 14 := by rw [hG]; rfl
  have HGa := hide (show ∀ k (h : k < 14), ((G[k]'(by rw [hGs]; exact h)).toNat : Int) = ((sgL[k]'h : Nat) : Int) from fun k h => by subst hG; exact congrArg Int.ofNat (sgS_at k h))
  have HG := hide hG
  have Hall := hide (show sgTo n 14 = true from by rw [← hb, sgTo_all]; exact hs)
  clear hSe hS hb hG hn hs
  go_enter Tryd.func7, Tryd.ntmps7
  go_wp2_with fail
  refine (known9_c _ hV).mono ?_
  rintro e w1 ⟨rfl, hb1⟩
  have hcv := conv1 (W := w1.alloc (.cells #[.int .u8 n] 5)) (B := w1.heap.size) (n := n) (by simp)
  rw [← unhide HSe] at hcv
  have hVa := (hV.up hb1).alloc (.cells #[.int .u8 n] 5)
  go_wp2_with fail
  rw [← unhide HT]
  refine (unhide HC _ hVa).mono ?_
  rintro e w2 ⟨g, cap, rfl, hc5, hb2⟩
  clear hcv
  have hbz : Below w.heap.size w w2 := hb1.trans (((Below.refl _ w1).alloc (Nat.le_refl _) (.cells #[.int .u8 n] 5)).trans (hb2.mono (by simp)) |>.mono hb1.size)
  go_wp2_with fail
  rw [show (ByteArray.mk #[40, 41, 91, 93, 58, 124, 44, 43, 33, 46, 45, 42, 61, 60]) = G from (unhide HG).symm]
  go_loopw [7, 8] (fun p i wr => ∃ k : Nat, k ≤ 14 ∧ i = .int .i64 k ∧ p = .bool (sgTo n k) ∧ wr = w2) (fun _ i _ => 14 - (intOf i).toNat)
  case atStart => exact ⟨0, Nat.zero_le _, rfl, rfl, rfl⟩
  case round =>
    obtain ⟨k, hk, rfl, rfl, rfl⟩ := hrel
    by_cases hlt : k < 14
    · have Hs := hide (sgTo_succ n k hlt)
      have hGk : k < G.size := by omega
      have Hg := hide (unhide HGa k hlt)
      cases hp : sgTo n k
      · cases hd : decide ((sgL[k] : Int) = n)
        · have hd' : ((G[k].toNat : Int) == n) = false := by rw [unhide Hg]; simpa using hd
          have Hn := hide (show sgTo n (k + 1) = false by rw [unhide Hs, hp, hd]; rfl)
          clear hp hd
          go_wp2
          go_roundw
          case rel => exact ⟨k + 1, by omega, by go_num, by rw [unhide Hn], trivial⟩
          case measure => simp [intOf]; omega
        · have hd' : ((G[k].toNat : Int) == n) = true := by rw [unhide Hg]; simpa using hd
          have Hn := hide (show sgTo n (k + 1) = true by rw [unhide Hs, hp, hd]; rfl)
          clear hp hd
          go_wp2
          go_roundw
          case rel => exact ⟨k + 1, by omega, by go_num, by rw [unhide Hn], trivial⟩
          case measure => simp [intOf]; omega
      · have Hn := hide (show sgTo n (k + 1) = true by rw [unhide Hs, hp]; rfl)
        clear hp
        go_wp2
        go_roundw
        case rel => exact ⟨k + 1, by omega, by go_num, by rw [unhide Hn], trivial⟩
        case measure => simp [intOf]; omega
    · obtain rfl : k = 14 := by omega
      rw [unhide Hall]
      have h3' := unhide h33
      rcases h3' with rfl | rfl
      all_goals go_wp2
      all_goals go_ret
      all_goals exact ⟨rfl, hbz⟩

end Go.Proofs.YtgfaaeloppdkkaaDoor
