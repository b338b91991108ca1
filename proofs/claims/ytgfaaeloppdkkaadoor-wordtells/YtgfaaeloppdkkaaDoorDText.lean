/-
  What the document's digit and text tell: for every text and place, in whatever world; nothing that lay is turned.
-/
import Derived.Test.YtgfaaeloppdkkaaDoorSignsP
namespace Go.Proofs.YtgfaaeloppdkkaaDoor
open Go.RowKit Go.Shelf

set_option maxHeartbeats 400000 in
theorem digit24_c (x : Int) (w : World) :
    Calls Tryd.prog 24 #[.int .u8 x] w fun e w' => e = .returned (.bool (inB 48 57 x)) ∧ w' = w := by
  have hx : (¬ (48 : Int) ≤ x) ∨ ((48 : Int) ≤ x ∧ ¬ x ≤ 57) ∨ ((48 : Int) ≤ x ∧ x ≤ 57) := by omega
  rcases hx with h | ⟨h, h2⟩ | ⟨h, h2⟩
  · have H := hide (show inB 48 57 x = false by simp [inB, h])
    go_enter Tryd.func24, Tryd.ntmps24
    go_wp2
    go_ret
    exact ⟨by rw [unhide H]; rfl, rfl⟩
  · have H := hide (show inB 48 57 x = false by simp [inB, h2])
    have h3 : decide (x ≤ 57) = false := decide_eq_false h2
    go_enter Tryd.func24, Tryd.ntmps24
    go_wp2
    go_ret
    exact ⟨by rw [unhide H]; rfl, rfl⟩
  · have H := hide (show inB 48 57 x = true by simp [inB, h, h2])
    go_enter Tryd.func24, Tryd.ntmps24
    go_wp2
    go_ret
    exact ⟨by rw [unhide H]; rfl, rfl⟩

/-- A word as the document's functions hand it back: word, bytes, what is wrong. -/
def encD : Wd → Value
  | .word k t n len => .tuple #[.agg #[.int .i64 k, .string ⟨t.toArray⟩, .int .i64 n, .int .i64 0], .int .i64 len, .int .i64 0]
  | .bad e => .tuple #[.agg #[.int .i64 0, .string ⟨#[]⟩, .int .i64 0, .int .i64 0], .int .i64 0, .int .i64 e]

/-- What a text comes to, where it has been read up to i and o is what it says so far. -/
def textRes (l : List UInt8) (at_ i : Nat) (o : List UInt8) : Wd := match endL (l.drop i) with
  | none => .bad 21
  | some n => if (o ++ bareL ((l.drop i).take (n - 1))).length ≤ 16 then .word 3 (o ++ bareL ((l.drop i).take (n - 1))) 0 (i + n - at_) else .bad 12
theorem textRes_start (l : List UInt8) (at_ : Nat) : textRes l at_ (at_ + 1) [] = textW (l.drop at_) := by
  rw [textRes, textW, List.drop_drop]
  cases endL (l.drop (at_ + 1)) with
  | none => rfl
  | some n =>
    simp only [List.nil_append]
    rw [show at_ + 1 + n - at_ = n + 1 by omega]
theorem textRes_end (l : List UInt8) (at_ i : Nat) (o : List UInt8) (h : l.length ≤ i) : textRes l at_ i o = .bad 21 := by
  rw [textRes, List.drop_eq_nil_of_le h]; rfl
theorem textRes_quote (l : List UInt8) (at_ i : Nat) (o : List UInt8) (h : i < l.length) (hc : l[i].toNat = 34) : textRes l at_ i o = if o.length ≤ 16 then .word 3 o 0 (i + 1 - at_) else .bad 12 := by
  have e : endL (l.drop i) = some 1 := by rw [drop_cons l i h, endL.eq_def]; simp [hc]
  rw [textRes, e]
  simp [bareL]
theorem textRes_slash_end (l : List UInt8) (at_ i : Nat) (o : List UInt8) (h : i < l.length) (hc : l[i].toNat = 92) (h2 : l.length ≤ i + 1) : textRes l at_ i o = .bad 21 := by
  have e : endL (l.drop i) = none := by rw [drop_cons l i h, List.drop_eq_nil_of_le h2]; simp [endL, hc]
  rw [textRes, e]
theorem textRes_slash_bad (l : List UInt8) (at_ i : Nat) (o : List UInt8) (h : i < l.length) (hc : l[i].toNat = 92) (h2 : i + 1 < l.length) (hd : ¬ (l[i + 1].toNat = 34 ∨ l[i + 1].toNat = 92)) : textRes l at_ i o = .bad 21 := by
  have e : endL (l.drop i) = none := by rw [drop_cons l i h, drop_cons l (i + 1) h2]; simp [endL, hc, hd]
  rw [textRes, e]
theorem textRes_slash (l : List UInt8) (at_ i : Nat) (o : List UInt8) (h : i < l.length) (hc : l[i].toNat = 92) (h2 : i + 1 < l.length) (hd : l[i + 1].toNat = 34 ∨ l[i + 1].toNat = 92) :
    textRes l at_ i o = textRes l at_ (i + 2) (o ++ [l[i + 1]]) := by
  have e : endL (l.drop i) = (endL (l.drop (i + 2))).map (· + 2) := by rw [drop_cons l i h, drop_cons l (i + 1) h2]; simp only [endL, hc]; rw [if_pos hd]; rfl
  rw [textRes, textRes, e]
  cases hn : endL (l.drop (i + 2)) with
  | none => rfl
  | some n =>
    have hb := (endL_bounds _ _ hn).1
    simp only [Option.map_some]
    have e2 : bareL ((l.drop i).take (n + 2 - 1)) = l[i + 1] :: bareL ((l.drop (i + 2)).take (n - 1)) := by
      rw [drop_cons l i h, drop_cons l (i + 1) h2, show n + 2 - 1 = (n - 1) + 2 by omega]
      simp only [List.take_succ_cons, bareL, hc, if_true]
    rw [e2, show i + (n + 2) - at_ = i + 2 + n - at_ by omega]
    simp only [List.append_assoc, List.cons_append, List.nil_append]
theorem textRes_plain_bad (l : List UInt8) (at_ i : Nat) (o : List UInt8) (h : i < l.length) (h1 : ¬ l[i].toNat = 34) (h2 : ¬ l[i].toNat = 92) (hd : inB 32 126 l[i].toNat = false) : textRes l at_ i o = .bad 21 := by
  have e : endL (l.drop i) = none := by rw [drop_cons l i h, endL.eq_def]; simp [h1, h2, hd]
  rw [textRes, e]
theorem textRes_plain (l : List UInt8) (at_ i : Nat) (o : List UInt8) (h : i < l.length) (h1 : ¬ l[i].toNat = 34) (h2 : ¬ l[i].toNat = 92) (hd : inB 32 126 l[i].toNat = true) :
    textRes l at_ i o = textRes l at_ (i + 1) (o ++ [l[i]]) := by
  have e : endL (l.drop i) = (endL (l.drop (i + 1))).map (· + 1) := by rw [drop_cons l i h, endL.eq_def]; simp [h1, h2, hd]
  rw [textRes, textRes, e]
  cases hn : endL (l.drop (i + 1)) with
  | none => rfl
  | some n =>
    have hb := (endL_bounds _ _ hn).1
    simp only [Option.map_some]
    have e2 : bareL ((l.drop i).take (n + 1 - 1)) = l[i] :: bareL ((l.drop (i + 1)).take (n - 1)) := by
      rw [drop_cons l i h, show n + 1 - 1 = (n - 1) + 1 by omega, List.take_succ_cons, bareL.eq_def]
      simp only [h2, if_false]
    rw [e2, show i + (n + 1) - at_ = i + 1 + n - at_ by omega]
    simp only [List.append_assoc, List.cons_append, List.nil_append]

theorem oB_succ (s : ByteArray) (o : List UInt8) (k : Nat) (h : k < s.size) : (⟨o.toArray⟩ : ByteArray) ++ s.extract k (k + 1) = ⟨(o ++ [s[k]]).toArray⟩ := by
  have hx : (s.extract k (k + 1)).data.toList = [s[k]] := by
    have hl : (s.data.toList.take k).length = k := by
      rw [List.length_take, Array.length_toList]; exact Nat.min_eq_left (Nat.le_of_lt h)
    rw [ext_list, take_snoc s k h, List.drop_append_of_le_length (by omega), List.drop_eq_nil_of_le (by omega)]
    rfl
  exact eq_of_list (by rw [append_list, hx])

set_option maxRecDepth 100000 in
set_option maxHeartbeats 4000000 in
theorem text26_c (s : ByteArray) (at_ : Nat) (hat : at_ < s.size) (w : World) (hs : s.size ≤ 281474976710656) :
    Calls Tryd.prog 26 #[.string s, .int .i64 at_] w fun e w' => e = .returned (encD (textW (s.data.toList.drop at_))) ∧ Below w.heap.size w w' := by
  have hsl := hide (show s.data.toList.length = s.size from Array.length_toList ..)
  obtain ⟨W0, hW0⟩ : ∃ W0, W0 = w.alloc (.cells #[.int .i64 0, .string ⟨#[]⟩, .int .i64 0, .int .i64 0] 32) := ⟨_, rfl⟩
  have b0 : Box W0 w.heap.size 32 w0 := by rw [hW0]; exact Box.new w 32 w0
  have bb0 : Below w.heap.size w W0 := by rw [hW0]; exact (Below.refl _ _).alloc (Nat.le_refl _) _
  have HW := hide hW0
  have HBB := hide bb0
  have B0 := hide b0
  clear hW0 bb0 b0
  go_enter Tryd.func26, Tryd.ntmps26
  go_wp2
  rw [← unhide HW]
  go_loopw [7, 8] (fun t i wr => ∃ (k : Nat) (o : List UInt8), at_ < k ∧ k ≤ s.size + 1 ∧ o.length ≤ k ∧ i = .int .i64 k ∧ t = .string ⟨o.toArray⟩ ∧ Hid (textRes s.data.toList at_ k o = textW (s.data.toList.drop at_)) ∧ wr = W0) (fun _ i _ => s.size + 2 - (intOf i).toNat)
  case atStart => exact ⟨at_ + 1, [], by omega, by omega, by simp, by go_num, rfl, hide (textRes_start _ _), rfl⟩
  case round =>
    obtain ⟨k, o, hk1, hk, ho, rfl, rfl, hn, rfl⟩ := hrel
    obtain ⟨c0, c1, c2, c3, f0, f1, f2, f3⟩ := Box.four (unhide B0)
    have hot : (ByteArray.mk o.toArray).size = o.length := List.size_toArray ..
    by_cases hlt : k < s.size
    · have hl : k < s.data.toList.length := by rw [unhide hsl]; exact hlt
      have hgt := hide (at_data s k hlt)
      by_cases h34 : s[k].toNat = 34
      · have h34' : ((s[k].toNat : Int) != 34) = false := by simp [h34]
        have hge : decide ((s.size : Int) ≤ k) = false := decide_eq_false (by omega)
        have hR := textRes_quote s.data.toList at_ k o hl (by rw [unhide hgt]; exact h34)
        rw [unhide hn] at hR
        by_cases h16 : o.length ≤ 16
        · rw [if_pos h16] at hR
          have HR := hide hR
          have e1 : (k : Int) + 1 - at_ = ((k + 1 - at_ : Nat) : Int) := by omega
          clear h34 hR
          go_wp2
          obtain ⟨q0, q1, q2, q3, _, _, _, _⟩ := ((unhide B0).put4 (.int .i64 3) (.string ⟨o.toArray⟩) (.int .i64 0) (.int .i64 0)).four
          refine bodyPost_ret (v := encD (.word 3 o 0 (k + 1 - at_))) (by simp [results, Tryd.results26, go_sem, q0, q1, q2, q3, encD]) rfl ⟨by rw [unhide HR], ?_⟩
          exact below4 (unhide HBB) (Nat.le_refl _) _ _ _ _
        · rw [if_neg h16] at hR
          have HR := hide hR
          clear h34 hR
          go_wp2
          obtain ⟨q0, q1, q2, q3, _, _, _, _⟩ := ((unhide B0).put4 (.int .i64 0) (.string ⟨#[]⟩) (.int .i64 0) (.int .i64 0)).four
          refine bodyPost_ret (v := encD (.bad 12)) (by simp [results, Tryd.results26, go_sem, q0, q1, q2, q3, encD]) rfl ⟨by rw [unhide HR], ?_⟩
          exact below4 (unhide HBB) (Nat.le_refl _) _ _ _ _
      · have h34' : ((s[k].toNat : Int) != 34) = true := by simp; omega
        by_cases h92 : s[k].toNat = 92
        · have h92' : ((s[k].toNat : Int) == 92) = true := by simp [h92]
          by_cases h2 : k + 1 < s.size
          · have hl2 : k + 1 < s.data.toList.length := by rw [unhide hsl]; exact h2
            have hgt2 := hide (at_data s (k + 1) h2)
            have hge : decide ((s.size : Int) ≤ (k : Int) + 1) = false := decide_eq_false (by omega)
            by_cases hd : s[k + 1].toNat = 34 ∨ s[k + 1].toNat = 92
            · have hR := textRes_slash s.data.toList at_ k o hl (by rw [unhide hgt]; exact h92) hl2 (by rw [unhide hgt2]; exact hd)
              rw [unhide hn, unhide hgt2] at hR
              have HR := hide hR.symm
              have Ho := hide (oB_succ s o (k + 1) h2)
              have hx2 : (s.extract (k + 1) (k + 2)).size = 1 := by
                rw [show (s.extract (k + 1) (k + 2)).size = (s.extract (k + 1) (k + 2)).data.toList.length from (Array.length_toList ..).symm, ext_list, List.length_drop, List.length_take, unhide hsl]; omega
              have hcat : (ByteArray.mk o.toArray).size + 1 ≤ 281474976710656 := by omega
              have hcc : ((s[k + 1].toNat : Int) != 34) = false ∨ (((s[k + 1].toNat : Int) != 34) = true ∧ ((s[k + 1].toNat : Int) != 92) = false) := by
                rcases hd with h | h
                · left; simp [h]
                · right; simp [h]
              have h32 : decide ((s[k + 1].toNat : Int) < 32) = false := decide_eq_false (by omega)
              have h126 : decide ((126 : Int) < s[k + 1].toNat) = false := decide_eq_false (by omega)
              have h32' : ¬ ((s[k + 1].toNat : Int) < 32) := by omega
              have h126' : ¬ ((126 : Int) < s[k + 1].toNat) := by omega
              have hk11 : (k : Int) + 1 + 1 = ((k + 2 : Nat) : Int) := by omega
              clear hd h92 h34 hR
              rcases hcc with hc34 | ⟨hc34, hc92⟩
              all_goals
                go_wp2
                rw [unhide Ho]
                go_roundw
                case rel => exact ⟨k + 2, o ++ [s[k + 1]], by omega, by omega, by simp; omega, by go_num, rfl, HR, trivial⟩
                case measure => simp [intOf]; omega
            · have hR := textRes_slash_bad s.data.toList at_ k o hl (by rw [unhide hgt]; exact h92) hl2 (by rw [unhide hgt2]; exact hd)
              rw [unhide hn] at hR
              have HR := hide hR
              have hc34 : ((s[k + 1].toNat : Int) != 34) = true := by simp; omega
              have hc92 : ((s[k + 1].toNat : Int) != 92) = true := by simp; omega
              clear hd h92 h34 hR
              go_wp2
              obtain ⟨q0, q1, q2, q3, _, _, _, _⟩ := ((unhide B0).put4 (.int .i64 0) (.string ⟨#[]⟩) (.int .i64 0) (.int .i64 0)).four
              refine bodyPost_ret (v := encD (.bad 21)) (by simp [results, Tryd.results26, go_sem, q0, q1, q2, q3, encD]) rfl ⟨by rw [unhide HR], ?_⟩
              exact below4 (unhide HBB) (Nat.le_refl _) _ _ _ _
          · have hR := textRes_slash_end s.data.toList at_ k o hl (by rw [unhide hgt]; exact h92) (by rw [unhide hsl]; omega)
            rw [unhide hn] at hR
            have HR := hide hR
            have hge : (s.size : Int) ≤ (k : Int) + 1 := by omega
            clear h92 h34 hR
            go_wp2
            obtain ⟨q0, q1, q2, q3, _, _, _, _⟩ := ((unhide B0).put4 (.int .i64 0) (.string ⟨#[]⟩) (.int .i64 0) (.int .i64 0)).four
            refine bodyPost_ret (v := encD (.bad 21)) (by simp [results, Tryd.results26, go_sem, q0, q1, q2, q3, encD]) rfl ⟨by rw [unhide HR], ?_⟩
            exact below4 (unhide HBB) (Nat.le_refl _) _ _ _ _
        · have h92' : ((s[k].toNat : Int) == 92) = false := by simp; omega
          cases hin : inB 32 126 s[k].toNat
          · have hR := textRes_plain_bad s.data.toList at_ k o hl (by rw [unhide hgt]; exact h34) (by rw [unhide hgt]; exact h92) (by rw [unhide hgt]; exact hin)
            rw [unhide hn] at hR
            have HR := hide hR
            have hcc : (s[k].toNat : Int) < 32 ∨ ((¬ (s[k].toNat : Int) < 32) ∧ (126 : Int) < s[k].toNat) := by
              simp only [inB, Bool.and_eq_false_iff, decide_eq_false_iff_not] at hin; omega
            clear hin h92 h34 hR
            rcases hcc with h32 | ⟨h32, h126⟩
            all_goals go_wp2
            all_goals
              obtain ⟨q0, q1, q2, q3, _, _, _, _⟩ := ((unhide B0).put4 (.int .i64 0) (.string ⟨#[]⟩) (.int .i64 0) (.int .i64 0)).four
              refine bodyPost_ret (v := encD (.bad 21)) (by simp [results, Tryd.results26, go_sem, q0, q1, q2, q3, encD]) rfl ⟨by rw [unhide HR], ?_⟩
              exact below4 (unhide HBB) (Nat.le_refl _) _ _ _ _
          · have hR := textRes_plain s.data.toList at_ k o hl (by rw [unhide hgt]; exact h34) (by rw [unhide hgt]; exact h92) (by rw [unhide hgt]; exact hin)
            rw [unhide hn, unhide hgt] at hR
            have HR := hide hR.symm
            have Ho := hide (oB_succ s o k hlt)
            have hx2 : (s.extract k (k + 1)).size = 1 := by
              rw [show (s.extract k (k + 1)).size = (s.extract k (k + 1)).data.toList.length from (Array.length_toList ..).symm, ext_list, List.length_drop, List.length_take, unhide hsl]; omega
            have hcat : (ByteArray.mk o.toArray).size + 1 ≤ 281474976710656 := by omega
            have h32 : decide ((s[k].toNat : Int) < 32) = false := decide_eq_false (by simp only [inB, Bool.and_eq_true, decide_eq_true_eq] at hin; omega)
            have h126 : decide ((126 : Int) < s[k].toNat) = false := decide_eq_false (by simp only [inB, Bool.and_eq_true, decide_eq_true_eq] at hin; omega)
            have h32' : ¬ ((s[k].toNat : Int) < 32) := by simp only [inB, Bool.and_eq_true, decide_eq_true_eq] at hin; omega
            have h126' : ¬ ((126 : Int) < s[k].toNat) := by simp only [inB, Bool.and_eq_true, decide_eq_true_eq] at hin; omega
            clear hin h92 h34 hR
            go_wp2
            rw [unhide Ho]
            go_roundw
            case rel => exact ⟨k + 1, o ++ [s[k]], by omega, by omega, by simp; omega, by go_num, rfl, HR, trivial⟩
            case measure => simp [intOf]; omega
    · have hR := textRes_end s.data.toList at_ k o (by rw [unhide hsl]; omega)
      rw [unhide hn] at hR
      have HR := hide hR
      have hge : (s.size : Int) ≤ k := by omega
      clear hR
      go_wp2
      obtain ⟨q0, q1, q2, q3, _, _, _, _⟩ := ((unhide B0).put4 (.int .i64 0) (.string ⟨#[]⟩) (.int .i64 0) (.int .i64 0)).four
      refine bodyPost_ret (v := encD (.bad 21)) (by simp [results, Tryd.results26, go_sem, q0, q1, q2, q3, encD]) rfl ⟨by rw [unhide HR], ?_⟩
      exact below4 (unhide HBB) (Nat.le_refl _) _ _ _ _

end Go.Proofs.YtgfaaeloppdkkaaDoor
