/-
  What name, greatWord, isNumber, sign of package word tell: for every text, in whatever world in which the package variables stand; nothing that lay is turned.
-/
import Derived.Test.YtgfaaeloppdkkaaDoorLead
import Derived.Test.YtgfaaeloppdkkaaDoorShelf
import Derived.Test.YtgfaaeloppdkkaaDoorBox
namespace Go.Proofs.YtgfaaeloppdkkaaDoor
open Go.RowKit Go.Shelf

/-- A word as the functions of package word hand it back: word, bytes, error. -/
def encR : Wd → Value
  | .word k t n len => .tuple #[.agg #[.int .i64 k, .string ⟨t.toArray⟩, .int .i64 n, .int .i64 0], .int .i64 len, .nilIface]
  | .bad e => .tuple #[.agg #[.int .i64 0, .string ⟨#[]⟩, .int .i64 0, .int .i64 0], .int .i64 0, .iface 40 (.int .i64 e)]

theorem Box.four {W : World} {B : Nat} {t : TypeId} {u v x y : Value} (h : Box W B t #[u, v, x, y]) :
    W.cell? ⟨B, 0, none⟩ = some u ∧ W.cell? ⟨B, 1, none⟩ = some v ∧ W.cell? ⟨B, 2, none⟩ = some x ∧ W.cell? ⟨B, 3, none⟩ = some y ∧
    W.frozen? ⟨B, 0, none⟩ = false ∧ W.frozen? ⟨B, 1, none⟩ = false ∧ W.frozen? ⟨B, 2, none⟩ = false ∧ W.frozen? ⟨B, 3, none⟩ = false :=
  ⟨h.at 0 rfl, h.at 1 rfl, h.at 2 rfl, h.at 3 rfl, h.frz 0, h.frz 1, h.frz 2, h.frz 3⟩
theorem Box.put4 {W : World} {B : Nat} {t : TypeId} {u v x y : Value} (h : Box W B t #[u, v, x, y]) (a b c d : Value) :
    Box ((((W.setCell ⟨B, 0, none⟩ a).setCell ⟨B, 1, none⟩ b).setCell ⟨B, 2, none⟩ c).setCell ⟨B, 3, none⟩ d) B t #[a, b, c, d] := (((h.set 0 a).set 1 b).set 2 c).set 3 d
theorem below4 {n : Nat} {A W : World} (h : Below n A W) {B : Nat} (hB : n ≤ B) (a b c d : Value) :
    Below n A ((((W.setCell ⟨B, 0, none⟩ a).setCell ⟨B, 1, none⟩ b).setCell ⟨B, 2, none⟩ c).setCell ⟨B, 3, none⟩ d) :=
  (((h.setCell (p := ⟨B, 0, none⟩) hB a).setCell (p := ⟨B, 1, none⟩) hB b).setCell (p := ⟨B, 2, none⟩) hB c).setCell (p := ⟨B, 3, none⟩) hB d
/-- The box of a result that is a word, nothing in it. -/
def w0 : Array Value := #[.int .i64 0, .string ⟨#[]⟩, .int .i64 0, .int .i64 0]

set_option maxHeartbeats 400000 in
theorem clone42_c (s : ByteArray) (w : World) (hlim : s.size ≤ 281474976710656) :
    Calls Tryd.prog 42 #[.string s] w fun e w' => e = .returned (.string s) ∧ Below w.heap.size w w' := by
  go_enter Tryd.func42, Tryd.ntmps42
  go_wp2_with (go_at_call 51; refine (Tryd.stringslite_Clone s _ hlim).mono ?_; rintro e w2 ⟨rfl, hb2⟩)
  go_ret
  exact ⟨rfl, hb2⟩

theorem nameB_lead (l : List UInt8) (h1 : 1 ≤ (leadL 97 122 l).length) : nameB ⟨(leadL 97 122 l).toArray⟩ = decide ((leadL 97 122 l).length ≤ 8) := by
  have ha : allB 97 122 (leadL 97 122 l) = true := by
    simp only [allB, List.all_eq_true]
    intro c hc
    exact (List.all_eq_true.1 List.all_takeWhile) c hc
  have hs : (ByteArray.mk (leadL 97 122 l).toArray).size = (leadL 97 122 l).length := List.size_toArray ..
  simp only [nameB, hs, ha, Bool.and_true, h1, decide_true, Bool.true_and]

set_option maxHeartbeats 1000000 in
theorem name32_c (s : ByteArray) (w : World) (hV : Vars w) (hs : s.size ≤ 281474976710656) (h1 : 1 ≤ (leadL 97 122 s.data.toList).length) :
    Calls Tryd.prog 32 #[.string s] w fun e w' => e = .returned (encR (nameW s.data.toList)) ∧ Below w.heap.size w w' := by
  have hm : s.size ≤ maxLen := by unfold maxLen; omega
  have hz := hV.size
  have hz1 : 1 < w.heap.size := by omega
  have hs0 := hV.s0
  have hs1 := hV.s1
  have hll := leadL_len 97 122 s.data.toList
  have hsl : s.data.toList.length = s.size := Array.length_toList ..
  have hB := nameB_lead s.data.toList h1
  obtain ⟨t, ht⟩ : ∃ t, t = leadL 97 122 s.data.toList := ⟨_, rfl⟩
  have hts : (ByteArray.mk t.toArray).size = t.length := List.size_toArray ..
  have Ht := hide ht
  rw [← ht] at hB hll
  have b0 := Box.new w 32 w0
  have bb0 : Below w.heap.size w (w.alloc (.cells w0 32)) := (Below.refl _ _).alloc (Nat.le_refl _) _
  have sz0 : (w.alloc (.cells w0 32)).heap.size = w.heap.size + 1 := by simp
  have B0 := hide b0
  have BB0 := hide bb0
  clear b0 bb0
  by_cases hlen : t.length ≤ 8
  · have H := hide (show nameW s.data.toList = .word 1 t 0 t.length by rw [nameW, ← unhide Ht, if_pos hlen])
    rw [decide_eq_true hlen] at hB
    have HB := hide hB
    clear ht hB
    go_enter Tryd.func32, Tryd.ntmps32
    go_wp2_with (first
      | (go_at_call 40; refine (lead_c _ _ _ _ hm).mono ?_; rintro e w2 ⟨rfl, hb2⟩; rw [← unhide Ht])
      | (go_at_call 41; refine (name_c _ _ (by rw [hts]; unfold maxLen; omega)).mono ?_; rintro e w3 ⟨rfl, hb3⟩; rw [unhide HB])
      | (go_at_call 42; refine (clone42_c _ _ (by rw [hts]; omega)).mono ?_; rintro e w4 ⟨rfl, hb4⟩
         have B4 := (((unhide B0).on hb2 (by simp)).on hb3 (by have := hb2.size; simp at this; omega)).on hb4 (by have := hb2.size; have := hb3.size; simp at *; omega)
         obtain ⟨c0, c1, c2, c3, f0, f1, f2, f3⟩ := Box.four B4))
    obtain ⟨q0, q1, q2, q3, _, _, _, _⟩ := (B4.put4 (.int .i64 1) (.string ⟨t.toArray⟩) (.int .i64 0) (.int .i64 0)).four
    refine bodyPost_ret (v := encR (.word 1 t 0 t.length)) (by simp [results, Tryd.results32, go_sem, q0, q1, q2, q3, encR]) rfl ⟨by rw [unhide H], ?_⟩
    exact below4 ((((unhide BB0).trans (hb2.mono (by simp))).trans (hb3.mono (by have := hb2.size; simp at this; omega))).trans (hb4.mono (by have := hb2.size; have := hb3.size; simp at *; omega))) (Nat.le_refl _) _ _ _ _
  · have H := hide (show nameW s.data.toList = .bad 12 by rw [nameW, ← unhide Ht, if_neg hlen])
    rw [decide_eq_false hlen] at hB
    have HB := hide hB
    clear ht hB
    go_enter Tryd.func32, Tryd.ntmps32
    go_wp2_with (first
      | (go_at_call 40; refine (lead_c _ _ _ _ hm).mono ?_; rintro e w2 ⟨rfl, hb2⟩; rw [← unhide Ht])
      | (go_at_call 41; refine (name_c _ _ (by rw [hts]; unfold maxLen; omega)).mono ?_; rintro e w3 ⟨rfl, hb3⟩; rw [unhide HB]
         have B4 := ((unhide B0).on hb2 (by simp)).on hb3 (by have := hb2.size; simp at this; omega)
         obtain ⟨c0, c1, c2, c3, f0, f1, f2, f3⟩ := Box.four B4))
    obtain ⟨q0, q1, q2, q3, _, _, _, _⟩ := (B4.put4 (.int .i64 0) (.string ⟨#[]⟩) (.int .i64 0) (.int .i64 0)).four
    refine bodyPost_ret (v := encR (.bad 12)) (by simp [results, Tryd.results32, go_sem, q0, q1, q2, q3, encR]) rfl ⟨by rw [unhide H], ?_⟩
    exact below4 (((unhide BB0).trans (hb2.mono (by simp))).trans (hb3.mono (by have := hb2.size; simp at this; omega))) (Nat.le_refl _) _ _ _ _

set_option maxHeartbeats 1000000 in
theorem great33_c (s : ByteArray) (w : World) (hV : Vars w) (hs : s.size ≤ 281474976710656) :
    Calls Tryd.prog 33 #[.string s] w fun e w' => e = .returned (encR (greatW s.data.toList)) ∧ Below w.heap.size w w' := by
  have hm : s.size ≤ maxLen := by unfold maxLen; omega
  have hz := hV.size
  have hz1 : 2 < w.heap.size := by omega
  have hs0 := hV.g0
  have hs1 := hV.g1
  have hll := leadL_len 65 90 s.data.toList
  have hsl : s.data.toList.length = s.size := Array.length_toList ..
  obtain ⟨t, ht⟩ : ∃ t, t = leadL 65 90 s.data.toList := ⟨_, rfl⟩
  have hts : (ByteArray.mk t.toArray).size = t.length := List.size_toArray ..
  have Ht := hide ht
  rw [← ht] at hll
  have b0 := Box.new w 32 w0
  have bb0 : Below w.heap.size w (w.alloc (.cells w0 32)) := (Below.refl _ _).alloc (Nat.le_refl _) _
  have B0 := hide b0
  have BB0 := hide bb0
  clear b0 bb0
  by_cases hlen : t.length ≤ 8
  · have H := hide (show greatW s.data.toList = .word 4 t 0 t.length by rw [greatW, ← unhide Ht, if_pos hlen])
    clear ht
    go_enter Tryd.func33, Tryd.ntmps33
    go_wp2_with (first
      | (go_at_call 40; refine (lead_c _ _ _ _ hm).mono ?_; rintro e w2 ⟨rfl, hb2⟩; rw [← unhide Ht])
      | (go_at_call 42; refine (clone42_c _ _ (by rw [hts]; omega)).mono ?_; rintro e w4 ⟨rfl, hb4⟩
         have B4 := ((unhide B0).on hb2 (by simp)).on hb4 (by have := hb2.size; simp at this; omega)
         obtain ⟨c0, c1, c2, c3, f0, f1, f2, f3⟩ := Box.four B4))
    obtain ⟨q0, q1, q2, q3, _, _, _, _⟩ := (B4.put4 (.int .i64 4) (.string ⟨t.toArray⟩) (.int .i64 0) (.int .i64 0)).four
    refine bodyPost_ret (v := encR (.word 4 t 0 t.length)) (by simp [results, Tryd.results33, go_sem, q0, q1, q2, q3, encR]) rfl ⟨by rw [unhide H], ?_⟩
    exact below4 (((unhide BB0).trans (hb2.mono (by simp))).trans (hb4.mono (by have := hb2.size; simp at this; omega))) (Nat.le_refl _) _ _ _ _
  · have H := hide (show greatW s.data.toList = .bad 12 by rw [greatW, ← unhide Ht, if_neg hlen])
    clear ht
    go_enter Tryd.func33, Tryd.ntmps33
    go_wp2_with (go_at_call 40; refine (lead_c _ _ _ _ hm).mono ?_; rintro e w2 ⟨rfl, hb2⟩; rw [← unhide Ht]
                 have B4 := (unhide B0).on hb2 (by simp)
                 obtain ⟨c0, c1, c2, c3, f0, f1, f2, f3⟩ := Box.four B4)
    obtain ⟨q0, q1, q2, q3, _, _, _, _⟩ := (B4.put4 (.int .i64 0) (.string ⟨#[]⟩) (.int .i64 0) (.int .i64 0)).four
    refine bodyPost_ret (v := encR (.bad 12)) (by simp [results, Tryd.results33, go_sem, q0, q1, q2, q3, encR]) rfl ⟨by rw [unhide H], ?_⟩
    exact below4 ((unhide BB0).trans (hb2.mono (by simp))) (Nat.le_refl _) _ _ _ _

theorem trim_minus (l : List UInt8) : Lib.trimPrefix l [45] = if l.head? = some 45 then l.tail else l := by
  cases l with
  | nil => rfl
  | cons c r => by_cases h : c = 45 <;> simp [Lib.trimPrefix, Lib.hasPrefix, h, eq_comm (a := (45 : UInt8))]

set_option maxHeartbeats 1000000 in
theorem isNum34_c (s : ByteArray) (w : World) (hV : Vars w) :
    Calls Tryd.prog 34 #[.string s] w fun e w' => e = .returned (.bool (isNumL s.data.toList)) ∧ Below w.heap.size w w' := by
  have hz := hV.size
  have hz1 : 3 < w.heap.size := by omega
  have hs0 := hV.d0
  have hs1 := hV.d1
  obtain ⟨s2, ht⟩ : ∃ s2 : ByteArray, s2 = ⟨(Lib.trimPrefix s.data.toList [45]).toArray⟩ := ⟨_, rfl⟩
  have hd : s2.data.toList = Lib.trimPrefix s.data.toList [45] := by rw [ht]
  have Ht := hide ht
  have htl : s2.toList = s2.data.toList := by simp [ByteArray.toList_eq]
  cases hc : s2.data.toList with
  | nil =>
    have H := hide (show isNumL s.data.toList = false by rw [isNumL, ← trim_minus, ← hd, hc])
    have hE : s2.toList.isEmpty = true := by rw [htl, hc]; rfl
    clear ht hd hc htl
    go_enter Tryd.func34, Tryd.ntmps34
    go_wp2_with (go_at_call 43; refine (Tryd.strings_TrimPrefix _ _ _).mono ?_; rintro e w2 ⟨rfl, rfl⟩; rw [← unhide Ht])
    go_quiet (fail)
    all_goals go_wp2
    all_goals go_ret
    all_goals exact ⟨by rw [unhide H]; rfl, below_drewN (Below.refl _ _) _⟩
  | cons c r =>
    have H := hide (show isNumL s.data.toList = inB 48 57 c.toNat by rw [isNumL, ← trim_minus, ← hd, hc])
    have hE : s2.toList.isEmpty = false := by rw [htl, hc]; rfl
    have hsz : 0 < s2.size := by show 0 < s2.data.size; rw [← Array.length_toList, hc]; simp
    have hget := hide (show s2[0] = c by rw [ByteArray.getElem_eq_getElem_data, ← Array.getElem_toList]; simp [hc])
    clear ht hd hc htl
    go_enter Tryd.func34, Tryd.ntmps34
    go_wp2_with (go_at_call 43; refine (Tryd.strings_TrimPrefix _ _ _).mono ?_; rintro e w2 ⟨rfl, rfl⟩; rw [← unhide Ht])
    go_region_with (go_at_call 31; refine (has31_c _ _ _ _).mono ?_; rintro e w3 ⟨rfl, hb3⟩)
    all_goals go_wp2
    all_goals go_ret
    all_goals exact ⟨by rw [unhide H, ← unhide hget]; rfl, (Below.refl _ _).drew.trans hb3⟩

end Go.Proofs.YtgfaaeloppdkkaaDoor
