/-
  What name, greatWord, isNumber, sign of package word tell: for every text, in whatever world in which the package variables stand; nothing that lay is turned.
  What textLength of package word tells: for every text, in whatever world in which the package variables stand; nothing that lay is turned.
-/
import Derived.Test.YtmhpakhnclkenaaGreatDoorLead
import Derived.Test.YtmhpakhnclkenaaGreatDoorShelf
import Derived.Test.YtmhpakhnclkenaaGreatDoorBox
import Derived.Test.YtmhpakhnclkenaaGreatDoorReadsZ
namespace Go.Proofs.YtmhpakhnclkenaaGreatDoor
open Go.RowKit Go.Shelf

/-- A word as the functions of package word hand it back: word, bytes, error. -/
def encR : Wd → Value
  | .word k t n len => .tuple #[.agg #[.int .i64 k, .string ⟨t.toArray⟩, .int .i64 n, .int .i64 0], .int .i64 len, .nilIface]
  | .bad e => .tuple #[.agg #[.int .i64 0, .string ⟨#[]⟩, .int .i64 0, .int .i64 0], .int .i64 0, .iface 49 (.int .i64 e)]

theorem Box.four8 {W : World} {B : Nat} {t : TypeId} {u v x y : Value} (h : Box W B t #[u, v, x, y]) :
    W.cell? ⟨B, 0, none⟩ = some u ∧ W.cell? ⟨B, 1, none⟩ = some v ∧ W.cell? ⟨B, 2, none⟩ = some x ∧ W.cell? ⟨B, 3, none⟩ = some y ∧
    W.frozen? ⟨B, 0, none⟩ = false ∧ W.frozen? ⟨B, 1, none⟩ = false ∧ W.frozen? ⟨B, 2, none⟩ = false ∧ W.frozen? ⟨B, 3, none⟩ = false :=
  ⟨h.at 0 rfl, h.at 1 rfl, h.at 2 rfl, h.at 3 rfl, h.frz 0, h.frz 1, h.frz 2, h.frz 3⟩
theorem Box.put4 {W : World} {B : Nat} {t : TypeId} {u v x y : Value} (h : Box W B t #[u, v, x, y]) (a b c d : Value) :
    Box ((((W.setCell ⟨B, 0, none⟩ a).setCell ⟨B, 1, none⟩ b).setCell ⟨B, 2, none⟩ c).setCell ⟨B, 3, none⟩ d) B t #[a, b, c, d] := (((h.set 0 a).set 1 b).set 2 c).set 3 d
theorem below4 {n : Nat} {A W : World} (h : Below n A W) {B : Nat} (hB : n ≤ B) (a b c d : Value) :
    Below n A ((((W.setCell ⟨B, 0, none⟩ a).setCell ⟨B, 1, none⟩ b).setCell ⟨B, 2, none⟩ c).setCell ⟨B, 3, none⟩ d) :=
  (((h.setCell (p := ⟨B, 0, none⟩) hB a).setCell (p := ⟨B, 1, none⟩) hB b).setCell (p := ⟨B, 2, none⟩) hB c).setCell (p := ⟨B, 3, none⟩) hB d
/-- The box of a result that is a word, nothing in it. -/
def w0 : Array Value := #[.int .i64 0, .string ⟨#[]⟩, .int .i64 0, .int .i64 0]

set_option maxHeartbeats 400000 in
theorem clone42_c (s : ByteArray) (w : World) (hlim : s.size ≤ 281474976710656) :
    Calls Tryz.prog 141 #[.string s] w fun e w' => e = .returned (.string s) ∧ Below w.heap.size w w' := by
  go_enter Tryz.func141, Tryz.ntmps141
  go_wp2_with (go_at_call 160; refine (Tryz.stringslite_Clone s _ hlim).mono ?_; rintro e w2 ⟨rfl, hb2⟩)
  go_ret
  exact ⟨rfl, hb2⟩

theorem nameB_lead (l : List UInt8) (h1 : 1 ≤ (leadL 97 122 l).length) : nameB ⟨(leadL 97 122 l).toArray⟩ = decide ((leadL 97 122 l).length ≤ 8) := by
  have ha : allB 97 122 (leadL 97 122 l) = true := by
    simp only [allB, List.all_eq_true]
    intro c hc
    exact (List.all_eq_true.1 List.all_takeWhile) c hc
  have hs : (ByteArray.mk (leadL 97 122 l).toArray).size = (leadL 97 122 l).length := List.size_toArray ..
  simp only [nameB, hs, ha, Bool.and_true, h1, decide_true, Bool.true_and]

set_option maxHeartbeats 1000000 in
theorem name32_c (s : ByteArray) (w : World) (hV : Vars w) (hs : s.size ≤ 281474976710656) (h1 : 1 ≤ (leadL 97 122 s.data.toList).length) :
    Calls Tryz.prog 119 #[.string s] w fun e w' => e = .returned (encR (nameW s.data.toList)) ∧ Below w.heap.size w w' := by
  have hm : s.size ≤ maxLen := by unfold maxLen; omega
  have hz := hV.size
  have hz1 : 1 < w.heap.size := by omega
  have hs0 := hV.s0
  have hs1 := hV.s1
  have hll := leadL_len 97 122 s.data.toList
  have hsl : s.data.toList.length = s.size := Array.length_toList ..
  have hB := nameB_lead s.data.toList h1
  obtain ⟨t, ht⟩ : ∃ t, t = leadL 97 122 s.data.toList := ⟨_, rfl⟩
  have hts : (ByteArray.mk t.toArray).size = t.length := List.size_toArray ..
  have Ht := hide ht
  rw [← ht] at hB hll
  have b0 := Box.new w 74 w0
  have bb0 : Below w.heap.size w (w.alloc (.cells w0 74)) := (Below.refl _ _).alloc (Nat.le_refl _) _
  have sz0 : (w.alloc (.cells w0 74)).heap.size = w.heap.size + 1 := by simp
  have B0 := hide b0
  have BB0 := hide bb0
  clear b0 bb0
  by_cases hlen : t.length ≤ 8
  · have H := hide (show nameW s.data.toList = .word 1 t 0 t.length by rw [nameW, ← unhide Ht, if_pos hlen])
    rw [decide_eq_true hlen] at hB
    have HB := hide hB
    clear ht hB
    go_enter Tryz.func119, Tryz.ntmps119
    go_wp2_with (first
      | (go_at_call 140; refine (lead_c _ _ _ _ hm).mono ?_; rintro e w2 ⟨rfl, hb2⟩; rw [← unhide Ht])
      | (go_at_call 57; refine (name21 _ _ (by rw [hts]; unfold maxLen; omega)).mono ?_; rintro e w3 ⟨rfl, hb3⟩; rw [unhide HB])
      | (go_at_call 141; refine (clone42_c _ _ (by rw [hts]; omega)).mono ?_; rintro e w4 ⟨rfl, hb4⟩
         have B4 := (((unhide B0).on hb2 (by simp)).on hb3 (by have := hb2.size; simp at this; omega)).on hb4 (by have := hb2.size; have := hb3.size; simp at *; omega)
         obtain ⟨c0, c1, c2, c3, f0, f1, f2, f3⟩ := Box.four8 B4))
    obtain ⟨q0, q1, q2, q3, _, _, _, _⟩ := (B4.put4 (.int .i64 1) (.string ⟨t.toArray⟩) (.int .i64 0) (.int .i64 0)).four8
    refine bodyPost_ret (v := encR (.word 1 t 0 t.length)) (by simp [results, Tryz.results119, go_sem, q0, q1, q2, q3, encR]) rfl ⟨by rw [unhide H], ?_⟩
    exact below4 ((((unhide BB0).trans (hb2.mono (by simp))).trans (hb3.mono (by have := hb2.size; simp at this; omega))).trans (hb4.mono (by have := hb2.size; have := hb3.size; simp at *; omega))) (Nat.le_refl _) _ _ _ _
  · have H := hide (show nameW s.data.toList = .bad 12 by rw [nameW, ← unhide Ht, if_neg hlen])
    rw [decide_eq_false hlen] at hB
    have HB := hide hB
    clear ht hB
    go_enter Tryz.func119, Tryz.ntmps119
    go_wp2_with (first
      | (go_at_call 140; refine (lead_c _ _ _ _ hm).mono ?_; rintro e w2 ⟨rfl, hb2⟩; rw [← unhide Ht])
      | (go_at_call 57; refine (name21 _ _ (by rw [hts]; unfold maxLen; omega)).mono ?_; rintro e w3 ⟨rfl, hb3⟩; rw [unhide HB]
         have B4 := ((unhide B0).on hb2 (by simp)).on hb3 (by have := hb2.size; simp at this; omega)
         obtain ⟨c0, c1, c2, c3, f0, f1, f2, f3⟩ := Box.four8 B4))
    obtain ⟨q0, q1, q2, q3, _, _, _, _⟩ := (B4.put4 (.int .i64 0) (.string ⟨#[]⟩) (.int .i64 0) (.int .i64 0)).four8
    refine bodyPost_ret (v := encR (.bad 12)) (by simp [results, Tryz.results119, go_sem, q0, q1, q2, q3, encR]) rfl ⟨by rw [unhide H], ?_⟩
    exact below4 (((unhide BB0).trans (hb2.mono (by simp))).trans (hb3.mono (by have := hb2.size; simp at this; omega))) (Nat.le_refl _) _ _ _ _

set_option maxHeartbeats 1000000 in
theorem great33_c (s : ByteArray) (w : World) (hV : Vars w) (hs : s.size ≤ 281474976710656) :
    Calls Tryz.prog 120 #[.string s] w fun e w' => e = .returned (encR (greatW s.data.toList)) ∧ Below w.heap.size w w' := by
  have hm : s.size ≤ maxLen := by unfold maxLen; omega
  have hz := hV.size
  have hz1 : 2 < w.heap.size := by omega
  have hs0 := hV.g0
  have hs1 := hV.g1
  have hll := leadL_len 65 90 s.data.toList
  have hsl : s.data.toList.length = s.size := Array.length_toList ..
  obtain ⟨t, ht⟩ : ∃ t, t = leadL 65 90 s.data.toList := ⟨_, rfl⟩
  have hts : (ByteArray.mk t.toArray).size = t.length := List.size_toArray ..
  have Ht := hide ht
  rw [← ht] at hll
  have b0 := Box.new w 74 w0
  have bb0 : Below w.heap.size w (w.alloc (.cells w0 74)) := (Below.refl _ _).alloc (Nat.le_refl _) _
  have B0 := hide b0
  have BB0 := hide bb0
  clear b0 bb0
  by_cases hlen : t.length ≤ 8
  · have H := hide (show greatW s.data.toList = .word 4 t 0 t.length by rw [greatW, ← unhide Ht, if_pos hlen])
    clear ht
    go_enter Tryz.func120, Tryz.ntmps120
    go_wp2_with (first
      | (go_at_call 140; refine (lead_c _ _ _ _ hm).mono ?_; rintro e w2 ⟨rfl, hb2⟩; rw [← unhide Ht])
      | (go_at_call 141; refine (clone42_c _ _ (by rw [hts]; omega)).mono ?_; rintro e w4 ⟨rfl, hb4⟩
         have B4 := ((unhide B0).on hb2 (by simp)).on hb4 (by have := hb2.size; simp at this; omega)
         obtain ⟨c0, c1, c2, c3, f0, f1, f2, f3⟩ := Box.four8 B4))
    obtain ⟨q0, q1, q2, q3, _, _, _, _⟩ := (B4.put4 (.int .i64 4) (.string ⟨t.toArray⟩) (.int .i64 0) (.int .i64 0)).four8
    refine bodyPost_ret (v := encR (.word 4 t 0 t.length)) (by simp [results, Tryz.results120, go_sem, q0, q1, q2, q3, encR]) rfl ⟨by rw [unhide H], ?_⟩
    exact below4 (((unhide BB0).trans (hb2.mono (by simp))).trans (hb4.mono (by have := hb2.size; simp at this; omega))) (Nat.le_refl _) _ _ _ _
  · have H := hide (show greatW s.data.toList = .bad 12 by rw [greatW, ← unhide Ht, if_neg hlen])
    clear ht
    go_enter Tryz.func120, Tryz.ntmps120
    go_wp2_with (go_at_call 140; refine (lead_c _ _ _ _ hm).mono ?_; rintro e w2 ⟨rfl, hb2⟩; rw [← unhide Ht]
                 have B4 := (unhide B0).on hb2 (by simp)
                 obtain ⟨c0, c1, c2, c3, f0, f1, f2, f3⟩ := Box.four8 B4)
    obtain ⟨q0, q1, q2, q3, _, _, _, _⟩ := (B4.put4 (.int .i64 0) (.string ⟨#[]⟩) (.int .i64 0) (.int .i64 0)).four8
    refine bodyPost_ret (v := encR (.bad 12)) (by simp [results, Tryz.results120, go_sem, q0, q1, q2, q3, encR]) rfl ⟨by rw [unhide H], ?_⟩
    exact below4 ((unhide BB0).trans (hb2.mono (by simp))) (Nat.le_refl _) _ _ _ _

theorem trim_minus (l : List UInt8) : Lib.trimPrefix l [45] = if l.head? = some 45 then l.tail else l := by
  cases l with
  | nil => rfl
  | cons c r => by_cases h : c = 45 <;> simp [Lib.trimPrefix, Lib.hasPrefix, h, eq_comm (a := (45 : UInt8))]

set_option maxHeartbeats 1000000 in
theorem isNum34_c (s : ByteArray) (w : World) (hV : Vars w) :
    Calls Tryz.prog 121 #[.string s] w fun e w' => e = .returned (.bool (isNumL s.data.toList)) ∧ Below w.heap.size w w' := by
  have hz := hV.size
  have hz1 : 4 < w.heap.size := by omega
  have hs0 := hV.d0
  have hs1 := hV.d1
  obtain ⟨s2, ht⟩ : ∃ s2 : ByteArray, s2 = ⟨(Lib.trimPrefix s.data.toList [45]).toArray⟩ := ⟨_, rfl⟩
  have hd : s2.data.toList = Lib.trimPrefix s.data.toList [45] := by rw [ht]
  have Ht := hide ht
  have htl : s2.toList = s2.data.toList := by simp [ByteArray.toList_eq]
  cases hc : s2.data.toList with
  | nil =>
    have H := hide (show isNumL s.data.toList = false by rw [isNumL, ← trim_minus, ← hd, hc])
    have hE : s2.toList.isEmpty = true := by rw [htl, hc]; rfl
    clear ht hd hc htl
    go_enter Tryz.func121, Tryz.ntmps121
    go_wp2_with (go_at_call 142; refine (Tryz.strings_TrimPrefix _ _ _).mono ?_; rintro e w2 ⟨rfl, rfl⟩; rw [← unhide Ht])
    go_quiet (fail)
    all_goals go_wp2
    all_goals go_ret
    all_goals exact ⟨by rw [unhide H]; rfl, below_drewN (Below.refl _ _) _⟩
  | cons c r =>
    have H := hide (show isNumL s.data.toList = inB 48 57 c.toNat by rw [isNumL, ← trim_minus, ← hd, hc])
    have hE : s2.toList.isEmpty = false := by rw [htl, hc]; rfl
    have hsz : 0 < s2.size := by show 0 < s2.data.size; rw [← Array.length_toList, hc]; simp
    have hget := hide (show s2[0] = c by rw [ByteArray.getElem_eq_getElem_data, ← Array.getElem_toList]; simp [hc])
    clear ht hd hc htl
    go_enter Tryz.func121, Tryz.ntmps121
    go_wp2_with (go_at_call 142; refine (Tryz.strings_TrimPrefix _ _ _).mono ?_; rintro e w2 ⟨rfl, rfl⟩; rw [← unhide Ht])
    go_region_with (go_at_call 118; refine (has31_c _ _ _ _).mono ?_; rintro e w3 ⟨rfl, hb3⟩)
    all_goals go_wp2
    all_goals go_ret
    all_goals exact ⟨by rw [unhide H, ← unhide hget]; rfl, (Below.refl _ _).drew.trans hb3⟩

end Go.Proofs.YtmhpakhnclkenaaGreatDoor

namespace Go.Proofs.YtmhpakhnclkenaaGreatDoor
open Go.RowKit Go.Shelf

/-- How long the text is that l begins with (behind its first byte): 0 where it does not end. -/
def tlen (l : List UInt8) : Nat := match endL (l.drop 1) with | none => 0 | some n => n + 1

/-- The end of a text, i bytes of it behind: what the whole comes to. -/
def tlenAt (l : List UInt8) (i : Nat) : Nat := match endL (l.drop i) with | none => 0 | some n => i + n
theorem tlenAt_one (l : List UInt8) : tlenAt l 1 = tlen l := by
  unfold tlenAt tlen
  cases endL (l.drop 1) <;> simp [Nat.add_comm]
theorem drop_cons (l : List UInt8) (i : Nat) (h : i < l.length) : l.drop i = l[i] :: l.drop (i + 1) := List.drop_eq_getElem_cons h
theorem tlenAt_end (l : List UInt8) (i : Nat) (h : l.length ≤ i) : tlenAt l i = 0 := by simp [tlenAt, List.drop_eq_nil_of_le h, endL]
theorem tlenAt_quote (l : List UInt8) (i : Nat) (h : i < l.length) (hc : l[i].toNat = 34) : tlenAt l i = i + 1 := by
  rw [tlenAt, drop_cons l i h, endL.eq_def]; simp [hc]
theorem tlenAt_slash_end (l : List UInt8) (i : Nat) (h : i < l.length) (hc : l[i].toNat = 92) (h2 : l.length ≤ i + 1) : tlenAt l i = 0 := by
  rw [tlenAt, drop_cons l i h, List.drop_eq_nil_of_le h2]; simp [endL, hc]
theorem tlenAt_slash (l : List UInt8) (i : Nat) (h : i < l.length) (hc : l[i].toNat = 92) (h2 : i + 1 < l.length) :
    tlenAt l i = if l[i + 1].toNat = 34 ∨ l[i + 1].toNat = 92 then tlenAt l (i + 2) else 0 := by
  rw [tlenAt, drop_cons l i h, drop_cons l (i + 1) h2]
  simp only [endL, hc]
  by_cases hd : l[i + 1].toNat = 34 ∨ l[i + 1].toNat = 92
  · simp only [hd, if_true, tlenAt]
    cases endL (l.drop (i + 1 + 1)) <;> simp [Nat.add_comm, Nat.add_left_comm]
  · simp [hd]
theorem tlenAt_plain (l : List UInt8) (i : Nat) (h : i < l.length) (h1 : ¬ l[i].toNat = 34) (h2 : ¬ l[i].toNat = 92) :
    tlenAt l i = if inB 32 126 l[i].toNat = true then tlenAt l (i + 1) else 0 := by
  rw [tlenAt, drop_cons l i h, endL.eq_def]
  simp only [h1, h2, if_false]
  by_cases hd : inB 32 126 l[i].toNat = true
  · simp only [hd, if_true, tlenAt]
    cases endL (l.drop (i + 1)) <;> simp [Nat.add_comm, Nat.add_left_comm]
  · simp [hd]
theorem at_data (s : ByteArray) (i : Nat) (h : i < s.size) : s.data.toList[i]'(by rw [Array.length_toList]; exact h) = s[i] := by
  rw [ByteArray.getElem_eq_getElem_data, ← Array.getElem_toList]

set_option maxRecDepth 100000 in
set_option maxHeartbeats 2000000 in
theorem textLen45_c (s : ByteArray) (w : World) (hV : Vars w) (hs : s.size ≤ 281474976710656) :
    Calls Tryz.prog 144 #[.string s] w fun e w' => e = .returned (.int .i64 (tlen s.data.toList)) ∧ Below w.heap.size w w' := by
  have hz := hV.size
  have hz1 : 6 < w.heap.size := by omega
  have hs0 := hV.p0
  have hs1 := hV.p1
  have hsl := hide (show s.data.toList.length = s.size from Array.length_toList ..)
  have hmx : Tryz.prog.follows .mixedOrders = true := by kernel_rfl
  go_enter Tryz.func144, Tryz.ntmps144
  go_wp2
  go_loopw [3] (fun i wr => ∃ k : Nat, 1 ≤ k ∧ k ≤ s.size + 1 ∧ i = .int .i64 k ∧ Hid (tlenAt s.data.toList k = tlen s.data.toList) ∧ Below w.heap.size w wr) (fun i _ => s.size + 2 - (intOf i).toNat)
  case atStart => exact ⟨1, Nat.le_refl _, by omega, rfl, hide (tlenAt_one _), Below.refl _ _⟩
  case round =>
    obtain ⟨k, hk1, hk, rfl, hn, hb⟩ := hrel
    by_cases hlt : k < s.size
    · have hl : k < s.data.toList.length := by rw [unhide hsl]; exact hlt
      have hat := hide (at_data s k hlt)
      by_cases h34 : s[k].toNat = 34
      · have H := hide (show tlen s.data.toList = k + 1 by rw [← unhide hn]; exact tlenAt_quote _ _ hl (by rw [unhide hat]; exact h34))
        have h34' : ((s[k].toNat : Int) == 34) = true := by simp [h34]
        clear h34
        go_wp2
        go_ret
        exact ⟨by rw [unhide H]; rfl, hb⟩
      · have h34' : ((s[k].toNat : Int) == 34) = false := by simp; omega
        by_cases h92 : s[k].toNat = 92
        · have h92' : ((s[k].toNat : Int) == 92) = true := by simp [h92]
          by_cases h2 : k + 1 < s.size
          · have hl2 : k + 1 < s.data.toList.length := by rw [unhide hsl]; exact h2
            have hat2 := hide (at_data s (k + 1) h2)
            have hS := tlenAt_slash _ _ hl (by rw [unhide hat]; exact h92) hl2
            rw [unhide hat2, unhide hn] at hS
            have HS := hide hS
            clear hS
            have hne : ((k : Int) + 1 == s.size) = false := by simp; omega
            by_cases d34 : s[k + 1].toNat = 34
            · have d34' : ((s[k + 1].toNat : Int) != 34) = false := by simp [d34]
              have H := hide (show tlenAt s.data.toList (k + 2) = tlen s.data.toList by have := unhide HS; rw [if_pos (.inl d34)] at this; exact this.symm)
              clear d34 h34 h92
              go_wp2
              go_roundw
              case rel => exact ⟨k + 2, by omega, by omega, by go_num, H, hb⟩
              case measure => simp [intOf]; omega
            · have d34' : ((s[k + 1].toNat : Int) != 34) = true := by simp; omega
              by_cases d92 : s[k + 1].toNat = 92
              · have d92' : ((s[k + 1].toNat : Int) != 92) = false := by simp [d92]
                have H := hide (show tlenAt s.data.toList (k + 2) = tlen s.data.toList by have := unhide HS; rw [if_pos (.inr d92)] at this; exact this.symm)
                clear d34 d92 h34 h92
                go_wp2
                go_roundw
                case rel => exact ⟨k + 2, by omega, by omega, by go_num, H, hb⟩
                case measure => simp [intOf]; omega
              · have d92' : ((s[k + 1].toNat : Int) != 92) = true := by simp; omega
                have H := hide (show tlen s.data.toList = 0 by have := unhide HS; rw [if_neg (by omega)] at this; exact this)
                clear d34 d92 h34 h92
                go_wp2
                go_ret
                exact ⟨by rw [unhide H]; rfl, hb⟩
          · have H := hide (show tlen s.data.toList = 0 by rw [← unhide hn]; exact tlenAt_slash_end _ _ hl (by rw [unhide hat]; exact h92) (by rw [unhide hsl]; omega))
            have hne : ((k : Int) + 1 == s.size) = true := by simp; omega
            clear h34 h92
            go_wp2
            go_ret
            exact ⟨by rw [unhide H]; rfl, hb⟩
        · have h92' : ((s[k].toNat : Int) == 92) = false := by simp; omega
          have hS := tlenAt_plain _ _ hl (by rw [unhide hat]; exact h34) (by rw [unhide hat]; exact h92)
          rw [unhide hat, unhide hn] at hS
          have HS := hide hS
          clear hS h34 h92
          have hc0 : wr.cell? ⟨6, 0, none⟩ = some (.int .u8 32) := (hb.cell (p := ⟨6, 0, none⟩) hz1).trans hs0
          have hc1 : wr.cell? ⟨6, 1, none⟩ = some (.int .u8 126) := (hb.cell (p := ⟨6, 1, none⟩) hz1).trans hs1
          have gc0 := cell_regrown hc0
          have gc1 := cell_regrown hc1
          cases hin : inB 32 126 s[k].toNat
          · have H := hide (show tlen s.data.toList = 0 by have := unhide HS; rw [if_neg (by rw [hin]; decide)] at this; exact this)
            have HC := hide (show ∀ W, Calls Tryz.prog 118 #[.agg #[.int .u8 32, .int .u8 126], .int .u8 s[k].toNat] W fun e w' => e = .returned (.bool false) ∧ Below W.heap.size W w' from fun W => by have := has31_c 32 126 s[k].toNat W; rwa [hin] at this)
            clear hin
            go_wp2
            refine wp_region_quiet_below (by assumption) (by kernel_rfl) ?_
            repeat (quiet_step (first | (go_at_call 118; exact Calls.regrown_of (unhide HC _))))
            refine wpQuiet_nil ?_
            intro _ hw'
            obtain ⟨⟨dq, osq⟩, hw''⟩ := hw'
            subst hw''
            have hb1 := below_regrown wr dq osq
            generalize Sort.grow (redrawn wr dq) osq = W1 at hb1 ⊢
            go_wp2
            go_ret
            exact ⟨by rw [unhide H]; rfl, hb.trans (hb1.mono hb.size)⟩
          · have H := hide (show tlenAt s.data.toList (k + 1) = tlen s.data.toList by have := unhide HS; rw [if_pos hin] at this; exact this.symm)
            have HC := hide (show ∀ W, Calls Tryz.prog 118 #[.agg #[.int .u8 32, .int .u8 126], .int .u8 s[k].toNat] W fun e w' => e = .returned (.bool true) ∧ Below W.heap.size W w' from fun W => by have := has31_c 32 126 s[k].toNat W; rwa [hin] at this)
            clear hin
            go_wp2
            refine wp_region_quiet_below (by assumption) (by kernel_rfl) ?_
            repeat (quiet_step (first | (go_at_call 118; exact Calls.regrown_of (unhide HC _))))
            refine wpQuiet_nil ?_
            intro _ hw'
            obtain ⟨⟨dq, osq⟩, hw''⟩ := hw'
            subst hw''
            have hb1 := below_regrown wr dq osq
            generalize Sort.grow (redrawn wr dq) osq = W1 at hb1 ⊢
            go_wp2
            go_roundw
            case rel => exact ⟨k + 1, by omega, by omega, by go_num, H, hb.trans (hb1.mono hb.size)⟩
            case measure => simp [intOf]; omega
    · have H := hide (show tlen s.data.toList = 0 by rw [← unhide hn]; exact tlenAt_end _ _ (by rw [unhide hsl]; omega))
      go_wp2
      go_ret
      exact ⟨by rw [unhide H]; rfl, hb⟩

end Go.Proofs.YtmhpakhnclkenaaGreatDoor
