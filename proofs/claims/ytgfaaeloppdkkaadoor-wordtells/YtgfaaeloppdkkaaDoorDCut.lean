/-
  What the document's Cut answers: for every text, in whatever world: the words, in memory of its own, or what is wrong; nothing that lay is turned.
-/
import Derived.Test.YtgfaaeloppdkkaaDoorWCut
import Derived.Test.YtgfaaeloppdkkaaDoorDWord
namespace Go.Proofs.YtgfaaeloppdkkaaDoor
open Go.RowKit Go.Shelf

theorem owns_below {A B : World} {base : Nat} {e : TypeId} {size : Nat} {v : Value} {n : Nat} {xs : List Value} (h : A.ownsRow base e size v n xs) (hb : Below A.heap.size A B) : B.ownsRow base e size v n xs :=
  owns_keep h fun g _ hg => hb.block g hg

theorem firstW_bad_ne {l : List UInt8} {e : Int} (h : firstW l = .bad e) : (e != 0) = true := by
  rcases firstW_bad h with rfl | rfl <;> rfl

set_option maxRecDepth 100000 in
set_option maxHeartbeats 4000000 in
theorem dcut11_c (s : ByteArray) (w : World) (hs : s.size ≤ 281474976710656) :
    Calls Tryd.prog 11 #[.string s] w fun e W' => ∃ v, e = .returned (.tuple #[v, .int .i64 (errL 0 (cutL s.data.toList))]) ∧ W'.ownsRow w.heap.size 32 4 v (wordsL s.data.toList).length (cellsW (wordsL s.data.toList)) ∧ Below w.heap.size w W' := by
  have hsl := hide (show s.data.toList.length = s.size from Array.length_toList ..)
  obtain ⟨i0, hi, hz0, hz1, hz2⟩ := info_parts infoWord
  go_enter Tryd.func11, Tryd.ntmps11
  go_wp2
  go_loopw [4, 5] (fun v i wr => ∃ (k : Nat) (pre : List Wd), k ≤ s.size ∧ i = .int .i64 k ∧ Hid (cutL s.data.toList = pre ++ restL k (s.data.toList.drop k)) ∧ Hid (∀ x ∈ pre, isWord x = true) ∧ pre.length ≤ 500 ∧ wr.ownsRow w.heap.size 32 4 v pre.length (cellsW pre) ∧ Below w.heap.size w wr) (fun _ i _ => s.size - (intOf i).toNat)
  case atStart => exact ⟨0, [], Nat.zero_le _, rfl, hide rfl, hide (fun _ h => by cases h), Nat.zero_le _, World.ownsRow_nil _ _ _ _, Below.refl _ _⟩
  case round =>
    obtain ⟨k, pre, hk, rfl, hcut, hp, hl, hrow, hb⟩ := hrel
    obtain ⟨av, cv, rfl⟩ := owns_form hrow
    by_cases hlt : k < s.size
    · have hlk : k < s.data.toList.length := by rw [unhide hsl]; exact hlt
      have hat := hide (at_data s k hlt)
      have hdr := hide (drop_cons _ _ hlk)
      by_cases h32 : s[k].toNat = 32
      · have h32' : ((s[k].toNat : Int) == 32) = true := by simp [h32]
        have H := hide (show cutL s.data.toList = pre ++ restL (k + 1) (s.data.toList.drop (k + 1)) by
          rw [unhide hcut, unhide hdr, restL_blank _ _ (by rw [unhide hat]; exact h32)])
        clear h32
        replace hrow := hide hrow
        go_wp2
        go_roundw
        case rel => exact ⟨k + 1, pre, by omega, by go_num, H, hp, hl, unhide hrow, hb⟩
        case measure => simp [intOf]; omega
      · have h32' : ((s[k].toNat : Int) == 32) = false := by simp; omega
        have hne : ¬ (s.data.toList[k]'hlk).toNat = 32 := by rw [unhide hat]; exact h32
        have hcall := word17_c s k hlt wr hs
        clear h32
        rcases hw : firstW (s.data.toList.drop k) with ⟨kk, tt, nn, len⟩ | e
        · have hlen := firstW_len hw
          have hr := restL_word k hne (by rw [← unhide hdr]; exact hw)
          rw [hw] at hcall
          clear hw
          have hc2 : cutL s.data.toList = (pre ++ [.word kk tt nn k]) ++ restL (k + len) (s.data.toList.drop (k + len)) := by
            rw [unhide hcut, unhide hdr, hr, ← unhide hdr, List.drop_drop]; simp
          have hln : k + len ≤ s.size := by have := hlen.2; rw [List.length_drop, unhide hsl] at this; omega
          have hl1 := hlen.1
          have H := hide hc2
          clear hr hlen
          replace hcall := hide hcall
          by_cases h500 : pre.length = 500
          · have HE := hide (show errL 0 (cutL s.data.toList) = 12 by
              rw [hc2, List.append_assoc, errL_append pre 0 _ (unhide hp) (by omega), h500]; rfl)
            have h500' : decide ((500 : Int) ≤ pre.length) = true := by simp; omega
            clear h500 hc2
            go_wp2_with fail
            refine (unhide hcall).mono ?_
            rintro e w2 ⟨rfl, hb2⟩
            simp only [encD]
            go_wp2_with fail
            refine bodyPost_ret (v := .tuple #[.slice none 0 0, .int .i64 12]) (by simp [results, Tryd.results11, go_sem]) rfl ?_
            have hw : wordsL s.data.toList = [] := by rw [wordsL, if_neg (by rw [unhide HE]; decide)]
            refine ⟨.slice none 0 0, by rw [unhide HE], by rw [hw]; exact World.ownsRow_nil _ _ _ _, ?_⟩
            exact ((hb.trans (hb2.mono hb.size)).alloc (Nat.le_trans hb.size hb2.size) _)
          · have h500' : decide ((500 : Int) ≤ pre.length) = false := by simp; omega
            have HP := hide (show ∀ x ∈ pre ++ [Wd.word kk tt nn k], isWord x = true from fun x hx => by
              rcases List.mem_append.1 hx with h | h
              · exact unhide hp x h
              · rw [List.mem_singleton.1 h]; rfl)
            have hl5 : pre.length + 1 ≤ 500 := by omega
            clear h500 hc2
            go_wp2_with fail
            refine (unhide hcall).mono ?_
            rintro e w2 ⟨rfl, hb2⟩
            simp only [encD]
            obtain ⟨w3, hw3⟩ : ∃ w3, w3 = w2.alloc (.cells #[.int .i64 kk, .string ⟨tt.toArray⟩, .int .i64 nn, .int .i64 k] 32) := ⟨_, rfl⟩
            have bx : Box w3 w2.heap.size 32 #[.int .i64 kk, .string ⟨tt.toArray⟩, .int .i64 nn, .int .i64 k] := by rw [hw3]; exact Box.new w2 32 _
            have b3 : Below w2.heap.size w2 w3 := by rw [hw3]; exact (Below.refl _ _).alloc (Nat.le_refl _) _
            have hrow3 := owns_below (owns_below hrow hb2) b3
            have hB3 : Below w.heap.size w w3 := (hb.trans (hb2.mono hb.size)).trans (b3.mono (Nat.le_trans hb.size hb2.size))
            obtain ⟨d0, d1, d2, d3, -⟩ := bx.four
            have hbx := bx.lt
            go_upto_region 12 with fail
            rw [← hw3]
            clear hw3 hrow
            replace hb := hide hb
            go_wp2_with (at_builtin; go_must (refine wpList_append_own _ rfl _ _ 23 rfl w.heap.size 32 i0 (.agg #[.int .i64 0, .string ⟨#[]⟩, .int .i64 0, .int .i64 0]) 4 40 Tryd.underlying23 hi hz0 hz1 hz2 rfl (by decide) _ _ _ rfl (hrow3.alloc _) ⟨w3.heap.size, 0, none⟩ 1 1 [.int .i64 kk, .string ⟨tt.toArray⟩, .int .i64 nn, .int .i64 k] rfl rfl (cell_four_new _ _ _ _ _ _) (by simp [Value.oneCell']) (by unfold maxLen; omega) (by omega) (by have := hB3.size; simp; omega) ?_); intro v' w5 hown hgrow _; obtain ⟨g', cap', rfl⟩ := ownsRow_succ hown)
            go_roundw
            case rel =>
              refine ⟨k + len, pre ++ [.word kk tt nn k], hln, by go_num, H, HP, by simpa using hl5, ?_, ?_⟩
              · have e2 : cellsW (pre ++ [.word kk tt nn k]) = cellsW pre ++ [.int .i64 kk, .string ⟨tt.toArray⟩, .int .i64 nn, .int .i64 k] := by rw [cellsW_append]; rfl
                rw [e2, List.length_append]
                exact hown
              · refine (hB3.alloc hB3.size _).grown hgrow (by have := hB3.size; simp; omega) fun j ej => ?_
                exact (owns_lt hrow3 ej).1
            case measure => simp [intOf]; omega
        · have hr := restL_bad k hne (by rw [← unhide hdr]; exact hw)
          have he0 := firstW_bad_ne hw
          rw [hw] at hcall
          clear hw
          have HE := hide (show errL 0 (cutL s.data.toList) = e by
            rw [unhide hcut, unhide hdr, hr, errL_append pre 0 _ (unhide hp) (by omega)]; rfl)
          replace hcall := hide hcall
          go_wp2_with fail
          refine (unhide hcall).mono ?_
          rintro e' w2 ⟨rfl, hb2⟩
          simp only [encD]
          go_wp2_with fail
          refine bodyPost_ret (v := .tuple #[.slice none 0 0, .int .i64 e]) (by simp [results, Tryd.results11, go_sem]) rfl ?_
          have hw : wordsL s.data.toList = [] := by rw [wordsL, if_neg (by rw [unhide HE]; simpa using he0)]
          refine ⟨.slice none 0 0, by rw [unhide HE], by rw [hw]; exact World.ownsRow_nil _ _ _ _, ?_⟩
          exact ((hb.trans (hb2.mono hb.size)).alloc (Nat.le_trans hb.size hb2.size) _)
    · have H := hide (show cutL s.data.toList = pre by
        rw [unhide hcut, List.drop_eq_nil_of_le (by rw [unhide hsl]; omega), restL_nil, List.append_nil])
      replace hrow := hide hrow
      go_wp2
      go_ret2
      have e0 : errL 0 (cutL s.data.toList) = 0 := by rw [unhide H]; exact errL_all _ (unhide hp) hl
      have hw : wordsL s.data.toList = pre := by rw [wordsL, if_pos e0, unhide H]
      refine ⟨.slice av pre.length cv, by rw [e0]; first | rfl | simp, by rw [hw]; exact unhide hrow, hb⟩

end Go.Proofs.YtgfaaeloppdkkaaDoor
