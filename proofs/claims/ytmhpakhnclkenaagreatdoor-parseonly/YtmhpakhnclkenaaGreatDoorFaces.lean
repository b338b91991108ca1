/-
  What the document's functions on values and names answer (package pasternref1, layer 1): the same as the program's, for every argument, in whatever world.
  Numbers' digits as plain lists; a byte as a text.
  What the document's Dec answers: a number's digits; for every number, in whatever world; nothing that lay is turned.
  What the document's functions on rows of texts answer (package pasternref1, layer 1), in whatever world; nothing that lay is turned.
  What the document's Kids and shaped answer: for every tree that lies, in whatever world; nothing that lay is turned.
  What the document's SameExpr and Alias answer: for all trees, all rows of elements that lie, in whatever world; nothing that lay is turned.
  What the document's ShowValue and sign answer: the text that the pieces of a value make.
  What the document's show answers: the text that the pieces of a condition make, for every condition whose nodes are as they may be.
  What the document's Nodes, IsExpr answer: for every tree that lies, its nodes no more than memory holds; nothing that lay is turned.
  What the document's IsPattern answers: for every pattern that lies, in whatever world; nothing that lay is turned.
  Conditions as they may be: every node is, and the text is short; what the document's ShowExpr answers.
  What the faces of package show answer: the texts of values, conditions, patterns, where they may be; else the empty text.
-/
import Derived.Test.YtmhpakhnclkenaaGreatDoorPShow
import Derived.BigQuiet
import Derived.Laws.AppendOwnNone
namespace Go.Proofs.YtmhpakhnclkenaaGreatDoor
open Go.RowKit



set_option maxHeartbeats 1000000 in
theorem refPlain_c (s : ByteArray) (w : World) (hs : s.size ≤ maxLen) :
    Calls Tryz.prog 117 #[.string s] w fun e w' => e = .returned (.bool (isTextB s)) ∧ w' = w := by
  unfold maxLen at hs
  go_enter Tryz.func117, Tryz.ntmps117
  go_wp2
  go_loop [3] (fun i => ∃ k : Nat, k ≤ s.size ∧ i = .int .i64 k ∧ Hid (allB 32 126 (s.data.toList.take k) = true)) (fun i => s.size - (intOf i).toNat)
  case atStart => exact ⟨0, Nat.zero_le _, rfl, hide rfl⟩
  case round =>
    obtain ⟨k, hk, rfl, H⟩ := hrel
    by_cases hlt : k < s.size
    · by_cases h1 : (s[k].toNat : Int) < 32
      · have Hn := hide (show isTextB s = false by unfold isTextB; rw [allB_no 32 126 s k hlt (by simp [inB]; omega), Bool.and_false])
        go_wp2
        go_ret
        exact ⟨by rw [unhide Hn]; rfl, rfl⟩
      · by_cases h2 : 126 < (s[k].toNat : Int)
        · have Hn := hide (show isTextB s = false by unfold isTextB; rw [allB_no 32 126 s k hlt (by simp [inB]; omega), Bool.and_false])
          go_wp2
          go_ret
          exact ⟨by rw [unhide Hn]; rfl, rfl⟩
        · have Hs := hide (show allB 32 126 (s.data.toList.take (k + 1)) = true by rw [take_snoc s k hlt, allB_snoc, unhide H]; simp [inB]; omega)
          go_wp2
          go_round
          case rel => exact ⟨k + 1, by omega, by go_num, Hs⟩
          case measure => simp [intOf]; omega
    · have e : allB 32 126 s.data.toList = true := by
        have := unhide H
        rwa [List.take_of_length_le (by simp; omega)] at this
      have Hn := hide (show isTextB s = decide ((s.size : Int) ≤ 16) by unfold isTextB; rw [e, Bool.and_true]; congr 1; simp; omega)
      clear e
      go_wp2
      go_ret
      exact ⟨by rw [unhide Hn]; rfl, rfl⟩

set_option maxHeartbeats 1000000 in
theorem refName_c (s : ByteArray) (w : World) (hs : s.size ≤ maxLen) :
    Calls Tryz.prog 35 #[.string s] w fun e w' => e = .returned (.bool (nameB s)) ∧ w' = w := by
  unfold maxLen at hs
  go_enter Tryz.func35, Tryz.ntmps35
  go_wp2
  go_loop [3] (fun i => ∃ k : Nat, k ≤ s.size ∧ i = .int .i64 k ∧ Hid (allB 97 122 (s.data.toList.take k) = true)) (fun i => s.size - (intOf i).toNat)
  case atStart => exact ⟨0, Nat.zero_le _, rfl, hide rfl⟩
  case round =>
    obtain ⟨k, hk, rfl, H⟩ := hrel
    by_cases hlt : k < s.size
    · by_cases h1 : (s[k].toNat : Int) < 97
      · have Hn := hide (show nameB s = false by unfold nameB; rw [allB_no 97 122 s k hlt (by simp [inB]; omega), Bool.and_false])
        go_wp2
        go_ret
        exact ⟨by rw [unhide Hn]; rfl, rfl⟩
      · by_cases h2 : 122 < (s[k].toNat : Int)
        · have Hn := hide (show nameB s = false by unfold nameB; rw [allB_no 97 122 s k hlt (by simp [inB]; omega), Bool.and_false])
          go_wp2
          go_ret
          exact ⟨by rw [unhide Hn]; rfl, rfl⟩
        · have Hs := hide (show allB 97 122 (s.data.toList.take (k + 1)) = true by rw [take_snoc s k hlt, allB_snoc, unhide H]; simp [inB]; omega)
          go_wp2
          go_round
          case rel => exact ⟨k + 1, by omega, by go_num, Hs⟩
          case measure => simp [intOf]; omega
    · have e : allB 97 122 s.data.toList = true := by
        have := unhide H
        rwa [List.take_of_length_le (by simp; omega)] at this
      by_cases h1 : (1 : Int) ≤ s.size
      · have Hn := hide (show nameB s = decide ((s.size : Int) ≤ 8) by unfold nameB; rw [e, Bool.and_true, decide_eq_true (show 1 ≤ s.size by omega), Bool.true_and]; congr 1; simp; omega)
        clear e
        go_wp2
        go_ret
        exact ⟨by rw [unhide Hn]; rfl, rfl⟩
      · have Hn := hide (show nameB s = false by unfold nameB; rw [decide_eq_false (show ¬ 1 ≤ s.size by omega)]; rfl)
        clear e
        go_wp2
        go_ret
        exact ⟨by rw [unhide Hn]; rfl, rfl⟩

set_option maxHeartbeats 400000 in
theorem refIs_c (k n : Int) (s : ByteArray) (w : World) (hs : s.size ≤ maxLen) :
    Calls Tryz.prog 92 #[.agg #[.int .i64 k, .int .i64 n, .string s]] w fun e w' => e = .returned (.bool (isB k n s)) ∧ Below w.heap.size w w' := by
  by_cases h1 : k = 1
  · subst h1
    have H := hide (show isB 1 n s = s.toList.isEmpty by simp [isB])
    go_enter Tryz.func92, Tryz.ntmps92
    go_wp2
    go_ret
    exact ⟨by rw [unhide H]; rfl, (Below.refl _ _).alloc (Nat.le_refl _) _⟩
  by_cases h2 : k = 2
  · subst h2
    by_cases hn : n = 0
    · subst hn
      have H := hide (show isB 2 0 s = isTextB s by simp [isB])
      clear h1
      go_enter Tryz.func92, Tryz.ntmps92
      go_wp2_with (go_at_call 117; refine (refPlain_c _ _ hs).mono ?_; rintro e w2 ⟨rfl, rfl⟩)
      go_ret
      exact ⟨by rw [unhide H]; rfl, (Below.refl _ _).alloc (Nat.le_refl _) _⟩
    · have H := hide (show isB 2 n s = false by simp [isB, hn])
      have hn' : (n == 0) = false := by simp [hn]
      clear hn h1
      go_enter Tryz.func92, Tryz.ntmps92
      go_wp2
      go_ret
      exact ⟨by rw [unhide H]; rfl, (Below.refl _ _).alloc (Nat.le_refl _) _⟩
  by_cases h3 : k = 3
  · subst h3
    clear h1 h2
    by_cases hn : n = 0
    · subst hn
      have H := hide (show isB 3 0 s = s.toList.isEmpty by simp [isB, inB])
      go_enter Tryz.func92, Tryz.ntmps92
      go_wp2
      go_ret
      exact ⟨by rw [unhide H]; rfl, (Below.refl _ _).alloc (Nat.le_refl _) _⟩
    · have hn' : (n == 0) = false := by simp [hn]
      by_cases hm : n = 1
      · subst hm
        have H := hide (show isB 3 1 s = s.toList.isEmpty by simp [isB, inB])
        clear hn hn'
        go_enter Tryz.func92, Tryz.ntmps92
        go_wp2
        go_ret
        exact ⟨by rw [unhide H]; rfl, (Below.refl _ _).alloc (Nat.le_refl _) _⟩
      · have hm' : (n == 1) = false := by simp [hm]
        have H := hide (show isB 3 n s = false by simp [isB, inB]; intro _ _; omega)
        clear hn hm
        go_enter Tryz.func92, Tryz.ntmps92
        go_wp2
        go_ret
        exact ⟨by rw [unhide H]; rfl, (Below.refl _ _).alloc (Nat.le_refl _) _⟩
  · have H := hide (show isB k n s = false by simp [isB, h1, h2, h3])
    have h1' : (k == 1) = false := by simp [h1]
    have h2' : (k == 2) = false := by simp [h2]
    have h3' : (k == 3) = false := by simp [h3]
    clear h1 h2 h3
    go_enter Tryz.func92, Tryz.ntmps92
    go_wp2
    go_ret
    exact ⟨by rw [unhide H]; rfl, (Below.refl _ _).alloc (Nat.le_refl _) _⟩

end Go.Proofs.YtmhpakhnclkenaaGreatDoor

namespace Go.Proofs.YtmhpakhnclkenaaGreatDoor
open Go.RowKit Go.Shelf

theorem conv1 {W : World} {B : Nat} {n : Int} (h : W.cell? ⟨B, 0, none⟩ = some (.int .u8 n)) : (convert 160 9 (.slice (some ⟨B, 0, none⟩) 1 1)).run Tryz.prog W = .ok (.string (strOfNums [n])) W :=
  run_convert_bytes_arg W 160 5 Tryz.underlying160 Tryz.underlying5 B 0 1 1 [n] rfl (fun i hi => by cases (show i = 0 by omega); simpa using h) 9 Tryz.underlying9
theorem append_list (a b : ByteArray) : (a ++ b).data.toList = a.data.toList ++ b.data.toList := by simp
/-- A digit. -/
def digC (d : Nat) : UInt8 := UInt8.ofNat (48 + d)
/-- A number's digits. -/
def natL (n : Nat) : List UInt8 := if n < 10 then [digC n] else natL (n / 10) ++ [digC (n % 10)]
theorem natL_small {n : Nat} (h : n < 10) : natL n = [digC n] := by rw [natL, if_pos h]
theorem natL_big {n : Nat} (h : ¬ n < 10) : natL n = natL (n / 10) ++ [digC (n % 10)] := by rw [natL, if_neg h]
/-- A number as it is written. -/
def decL (n : Int) : List UInt8 := if n < 0 then 45 :: natL n.natAbs else natL n.natAbs
def natB (n : Nat) : ByteArray := ⟨(natL n).toArray⟩
theorem natB_succ (n : Nat) (h : ¬ n < 10) : natB (n / 10) ++ ⟨#[digC (n % 10)]⟩ = natB n := eq_of_list (by rw [append_list]; exact (natL_big h).symm)
theorem natL_len (k : Nat) : ∀ n, n < 10 ^ (k + 1) → (natL n).length ≤ k + 1 := by
  induction k with
  | zero => intro n h; rw [natL_small (by omega)]; simp
  | succ k ih =>
    intro n h
    by_cases h10 : n < 10
    · rw [natL_small h10]; simp
    · rw [natL_big h10, List.length_append]
      have := ih (n / 10) (by rw [Nat.pow_succ] at h; omega)
      simp; omega
theorem natB_size (n : Nat) (h : n < 18446744073709551616) : (natB n).size ≤ 20 := by
  rw [show (natB n).size = (natL n).length from List.size_toArray ..]
  exact natL_len 19 n (by omega)

end Go.Proofs.YtmhpakhnclkenaaGreatDoor

namespace Go.Proofs.YtmhpakhnclkenaaGreatDoor
open Go.RowKit Go.Shelf

set_option maxRecDepth 100000 in
set_option maxHeartbeats 4000000 in
theorem nat19_small (n : Nat) (h : n < 10) (w : World) :
    Calls Tryz.prog 66 #[.int .u64 n] w fun e w' => e = .returned (.string (natB n)) ∧ Below w.heap.size w w' := by
  have H := hide (show natB n = strOfNums [(48 : Int) + n] from eq_of_list (by
    rw [strOfNums_data]
    show natL n = _
    rw [natL_small h]
    simp only [List.map_cons, List.map_nil, digC, List.cons.injEq, and_true]
    congr 1))
  have h' : (n : Int) < 10 := by omega
  have hcv := conv1 (W := w.alloc (.cells #[.int .u8 (48 + (n : Int))] 5)) (B := w.heap.size) (n := 48 + (n : Int)) (by simp)
  go_enter Tryz.func66, Tryz.ntmps66
  go_wp2
  go_ret
  exact ⟨by rw [unhide H]; rfl, (Below.refl _ _).alloc (Nat.le_refl _) _⟩

set_option maxRecDepth 100000 in
set_option maxHeartbeats 4000000 in
theorem nat19_big (n : Nat) (h : ¬ n < 10) (hn : n < 18446744073709551616) (ih : ∀ w, Calls Tryz.prog 66 #[.int .u64 ((n / 10 : Nat) : Int)] w fun e w' => e = .returned (.string (natB (n / 10))) ∧ Below w.heap.size w w') (w : World) :
    Calls Tryz.prog 66 #[.int .u64 n] w fun e w' => e = .returned (.string (natB n)) ∧ Below w.heap.size w w' := by
  have IH := hide ih
  clear ih
  have h' : ¬ (n : Int) < 10 := by omega
  have hmx : Tryz.prog.follows .mixedOrders = true := by kernel_rfl
  go_enter Tryz.func66, Tryz.ntmps66
  go_wp2
  have IH2 := hide (show ∀ w, Calls Tryz.prog 66 #[.int .u64 ((n : Int) / 10)] w fun e w' => e = .returned (.string (natB (n / 10))) ∧ Below w.heap.size w w' from fun w => by
    have := unhide IH w
    rwa [show ((n / 10 : Nat) : Int) = (n : Int) / 10 by omega] at this)
  have hr0 : (0 : Int) ≤ (n : Int) % 10 := by omega
  have hr1 : (n : Int) % 10 < 10 := by omega
  have hq0 : (0 : Int) ≤ (n : Int) / 10 := by omega
  have hq1 : (n : Int) / 10 < 18446744073709551616 := by omega
  have hnz : (n : Int) < 18446744073709551616 := by omega
  have Hcat := hide (show natB (n / 10) ++ strOfNums [48 + (n : Int) % 10] = natB n from by
    rw [← natB_succ n h]
    have e : strOfNums [48 + (n : Int) % 10] = ⟨#[digC (n % 10)]⟩ := eq_of_list (by
      rw [strOfNums_data]
      simp only [List.map_cons, List.map_nil, digC]
      rw [show (48 + (n : Int) % 10).toNat = 48 + n % 10 by omega])
    rw [e])
  have hz1 := hide (natB_size (n / 10) (by omega))
  have hz2 : (natB (n / 10)).size + 1 ≤ 281474976710656 := by have := unhide hz1; omega
  have hz3 : (strOfNums [48 + (n : Int) % 10]).size = 1 := rfl
  have hz4 : ¬ 9223372036854775807 < (natB (n / 10)).size + 1 := by omega
  have e1 : IntKind.u64.wrap ((n : Int) / 10) = (n : Int) / 10 := by rw [IntKind.wrap_u64]; omega
  have e2 : Int.tmod (n : Int) 10 = (n : Int) % 10 := Int.tmod_eq_emod_of_nonneg (by omega)
  have e3 : IntKind.u64.wrap (48 + (n : Int) % 10) = 48 + (n : Int) % 10 := by rw [IntKind.wrap_u64]; omega
  have e4 : IntKind.u8.wrap (48 + (n : Int) % 10) = 48 + (n : Int) % 10 := by rw [IntKind.wrap_u8]; omega
  have cD : Below w.heap.size w w.drew := (Below.refl _ _).drew
  refine wp_region_any hmx (wpAny_of_C (C := fun w' => Below w.heap.size w w') _ _ _ _ ?_)
  refine wpAnyC_reads 0 cD (by kernel_rfl) (by kernel_rfl) (by kernel_rfl) (fun d _ _ _ _ h => by cases d <;> exact h) (fun oi ho K hK => ?_)
  simp only [List.getElem?_toArray, List.getElem?_cons_zero, Option.some.injEq] at ho
  subst ho
  rw [if_pos (by kernel_rfl)]
  refine ⟨.int .u64 n, fun w' hw' => ?_, hK _ ?_⟩
  · clear hw'
    go_simp
  clear hK K
  refine wpAnyC_reads 1 cD (by kernel_rfl) (by kernel_rfl) (by kernel_rfl) (fun d _ _ _ _ h => by cases d <;> exact h) (fun oi ho K hK => ?_)
  simp only [List.getElem?_toArray, List.getElem?_cons_succ, List.getElem?_cons_zero, Option.some.injEq] at ho
  subst ho
  rw [if_pos (by kernel_rfl)]
  refine ⟨.int .u64 ((n : Int) / 10), fun w' hw' => ?_, hK _ ?_⟩
  · clear hw'
    go_simp
  clear hK K
  refine wpAnyC_reads 3 cD (by kernel_rfl) (by kernel_rfl) (by kernel_rfl) (fun d _ _ _ _ h => by cases d <;> exact h) (fun oi ho K hK => ?_)
  simp only [List.getElem?_toArray, List.getElem?_cons_succ, List.getElem?_cons_zero, Option.some.injEq] at ho
  subst ho
  rw [if_pos (by kernel_rfl)]
  refine ⟨.int .u64 n, fun w' hw' => ?_, hK _ ?_⟩
  · clear hw'
    go_simp
  clear hK K
  refine wpAnyC_reads 4 cD (by kernel_rfl) (by kernel_rfl) (by kernel_rfl) (fun d _ _ _ _ h => by cases d <;> exact h) (fun oi ho K hK => ?_)
  simp only [List.getElem?_toArray, List.getElem?_cons_succ, List.getElem?_cons_zero, Option.some.injEq] at ho
  subst ho
  rw [if_pos (by kernel_rfl)]
  refine ⟨.int .u64 ((n : Int) % 10), fun w' hw' => ?_, hK _ ?_⟩
  · clear hw'
    go_simp
  clear hK K
  refine wpAnyC_reads 5 cD (by kernel_rfl) (by kernel_rfl) (by kernel_rfl) (fun d _ _ _ _ h => by cases d <;> exact h) (fun oi ho K hK => ?_)
  simp only [List.getElem?_toArray, List.getElem?_cons_succ, List.getElem?_cons_zero, Option.some.injEq] at ho
  subst ho
  rw [if_pos (by kernel_rfl)]
  refine ⟨.int .u64 (48 + (n : Int) % 10), fun w' hw' => ?_, hK _ ?_⟩
  · clear hw'
    go_simp
  clear hK K
  refine wpAnyC_reads 6 cD (by kernel_rfl) (by kernel_rfl) (by kernel_rfl) (fun d _ _ _ _ h => by cases d <;> exact h) (fun oi ho K hK => ?_)
  simp only [List.getElem?_toArray, List.getElem?_cons_succ, List.getElem?_cons_zero, Option.some.injEq] at ho
  subst ho
  rw [if_pos (by kernel_rfl)]
  refine ⟨.int .u8 (48 + (n : Int) % 10), fun w' hw' => ?_, hK _ ?_⟩
  · clear hw'
    go_simp
  clear hK K
  refine wpAnyC_two 2 7 (by kernel_rfl) (fun oi ho K hK => ?_) (fun oi ho K hK => ?_)
  · simp only [List.getElem?_toArray, List.getElem?_cons_succ, List.getElem?_cons_zero, Option.some.injEq] at ho
    subst ho
    go_simp
    refine (unhide IH2 _).mono ?_
    rintro e w2 ⟨rfl, hbw2⟩
    have cw2 : Below w.heap.size w w2 := cD.trans (hbw2.mono cD.size)
    go_simp
    refine hK _ _ cw2 ?_
    clear hK K
    have bA : Below w2.heap.size w2 (w2.alloc (.cells #[.int .u8 (48 + (n : Int) % 10)] 5)) := (Below.refl _ _).alloc (Nat.le_refl _) _
    have cA : Below w.heap.size w (w2.alloc (.cells #[.int .u8 (48 + (n : Int) % 10)] 5)) := cw2.trans (bA.mono cw2.size)
    have hcv := conv1 (W := w2.alloc (.cells #[.int .u8 (48 + (n : Int) % 10)] 5)) (B := w2.heap.size) (n := 48 + (n : Int) % 10) (by simp)
    refine wpAnyC_calls 7 (by kernel_rfl) (fun oi ho K hK => ?_)
    simp only [List.getElem?_toArray, List.getElem?_cons_succ, List.getElem?_cons_zero, Option.some.injEq] at ho
    subst ho
    go_simp
    refine hK _ _ cA ?_
    clear hK K
    refine wpAnyC_calls 8 (by kernel_rfl) (fun oi ho K hK => ?_)
    simp only [List.getElem?_toArray, List.getElem?_cons_succ, List.getElem?_cons_zero, Option.some.injEq] at ho
    subst ho
    go_simp
    refine hK _ _ cA ?_
    clear hK K
    refine wpAnyC_calls 9 (by kernel_rfl) (fun oi ho K hK => ?_)
    simp only [List.getElem?_toArray, List.getElem?_cons_succ, List.getElem?_cons_zero, Option.some.injEq] at ho
    subst ho
    go_simp
    refine hK _ _ cA ?_
    clear hK K
    refine wpAnyC_calls 10 (by kernel_rfl) (fun oi ho K hK => ?_)
    simp only [List.getElem?_toArray, List.getElem?_cons_succ, List.getElem?_cons_zero, Option.some.injEq] at ho
    subst ho
    go_simp
    refine hK _ _ cA ?_
    clear hK K
    refine wpAnyC_done (by kernel_rfl) ?_ _
    go_wp2
    go_ret
    exact ⟨by rw [← unhide Hcat]; rfl, cA⟩
  · simp only [List.getElem?_toArray, List.getElem?_cons_succ, List.getElem?_cons_zero, Option.some.injEq] at ho
    subst ho
    have bA : Below w.heap.size w (w.drew.alloc (.cells #[.int .u8 (48 + (n : Int) % 10)] 5)) := cD.alloc (Nat.le_refl _) _
    have hcl : (w.drew.alloc (.cells #[.int .u8 (48 + (n : Int) % 10)] 5)).cell? ⟨w.heap.size, 0, none⟩ = some (.int .u8 (48 + (n : Int) % 10)) := (Box.new w.drew 5 #[.int .u8 (48 + (n : Int) % 10)]).one.1
    have hcv := conv1 hcl
    have hcvd := conv1 (W := (w.alloc (.cells #[.int .u8 (48 + (n : Int) % 10)] 5)).drew) hcl
    go_simp
    refine hK _ _ bA ?_
    clear hK K
    refine wpAnyC_two 2 8 (by kernel_rfl) (fun oi ho K hK => ?_) (fun oi ho K hK => ?_)
    · simp only [List.getElem?_toArray, List.getElem?_cons_succ, List.getElem?_cons_zero, Option.some.injEq] at ho
      subst ho
      go_simp
      refine (unhide IH2 _).mono ?_
      rintro e w3 ⟨rfl, hb3⟩
      have c3 : Below w.heap.size w w3 := bA.trans (hb3.mono bA.size)
      have hcv3 := conv1 ((hb3.cell (p := ⟨w.heap.size, 0, none⟩) (by simp)).trans hcl)
      go_simp
      refine hK _ _ c3 ?_
      clear hK K
      refine wpAnyC_calls 8 (by kernel_rfl) (fun oi ho K hK => ?_)
      simp only [List.getElem?_toArray, List.getElem?_cons_succ, List.getElem?_cons_zero, Option.some.injEq] at ho
      subst ho
      go_simp
      refine hK _ _ c3 ?_
      clear hK K
      refine wpAnyC_calls 9 (by kernel_rfl) (fun oi ho K hK => ?_)
      simp only [List.getElem?_toArray, List.getElem?_cons_succ, List.getElem?_cons_zero, Option.some.injEq] at ho
      subst ho
      go_simp
      refine hK _ _ c3 ?_
      clear hK K
      refine wpAnyC_calls 10 (by kernel_rfl) (fun oi ho K hK => ?_)
      simp only [List.getElem?_toArray, List.getElem?_cons_succ, List.getElem?_cons_zero, Option.some.injEq] at ho
      subst ho
      go_simp
      refine hK _ _ c3 ?_
      clear hK K
      refine wpAnyC_done (by kernel_rfl) ?_ _
      go_wp2
      go_ret
      exact ⟨by rw [← unhide Hcat]; rfl, c3⟩
    · simp only [List.getElem?_toArray, List.getElem?_cons_succ, List.getElem?_cons_zero, Option.some.injEq] at ho
      subst ho
      go_simp
      refine hK _ _ bA ?_
      clear hK K
      refine wpAnyC_calls 2 (by kernel_rfl) (fun oi ho K hK => ?_)
      simp only [List.getElem?_toArray, List.getElem?_cons_succ, List.getElem?_cons_zero, Option.some.injEq] at ho
      subst ho
      go_simp
      refine (unhide IH2 _).mono ?_
      rintro e w3 ⟨rfl, hb3⟩
      have c3 : Below w.heap.size w w3 := bA.trans (hb3.mono bA.size)
      go_simp
      refine hK _ _ c3 ?_
      clear hK K
      refine wpAnyC_calls 9 (by kernel_rfl) (fun oi ho K hK => ?_)
      simp only [List.getElem?_toArray, List.getElem?_cons_succ, List.getElem?_cons_zero, Option.some.injEq] at ho
      subst ho
      go_simp
      refine hK _ _ c3 ?_
      clear hK K
      refine wpAnyC_calls 10 (by kernel_rfl) (fun oi ho K hK => ?_)
      simp only [List.getElem?_toArray, List.getElem?_cons_succ, List.getElem?_cons_zero, Option.some.injEq] at ho
      subst ho
      go_simp
      refine hK _ _ c3 ?_
      clear hK K
      refine wpAnyC_done (by kernel_rfl) ?_ _
      go_wp2
      go_ret
      exact ⟨by rw [← unhide Hcat]; rfl, c3⟩

theorem nat19_c (n : Nat) : n < 18446744073709551616 → ∀ w, Calls Tryz.prog 66 #[.int .u64 n] w fun e w' => e = .returned (.string (natB n)) ∧ Below w.heap.size w w' := by
  induction n using Nat.strongRecOn with
  | ind n ih =>
    intro hn w
    by_cases h : n < 10
    · exact nat19_small n h w
    · exact nat19_big n h hn (ih (n / 10) (by omega) (by omega)) w

def decB (n : Int) : ByteArray := ⟨(decL n).toArray⟩
theorem decB_size (n : Int) (lo : -9223372036854775808 ≤ n) (hi : n ≤ 9223372036854775807) : (decB n).size ≤ 21 := by
  have := natB_size n.natAbs (by omega)
  rw [show (natB n.natAbs).size = (natL n.natAbs).length from List.size_toArray ..] at this
  rw [show (decB n).size = (decL n).length from List.size_toArray .., decL]
  split
  · simp; omega
  · omega

set_option maxRecDepth 100000 in
set_option maxHeartbeats 4000000 in
theorem dec13_c (n : Int) (lo : -9223372036854775808 ≤ n) (hi : n ≤ 9223372036854775807) (w : World) :
    Calls Tryz.prog 34 #[.int .i64 n] w fun e w' => e = .returned (.string (decB n)) ∧ Below w.heap.size w w' := by
  by_cases h : n < 0
  · have HN := hide (nat19_c n.natAbs (by omega) w)
    have hz := natB_size n.natAbs (by omega)
    have hz2 : (natB n.natAbs).size + 1 ≤ 281474976710656 := by omega
    have e1 : IntKind.i64.wrap (n + 1) = n + 1 := by rw [IntKind.wrap_i64]; omega
    have e2 : IntKind.i64.wrap (-(n + 1)) = -(n + 1) := by rw [IntKind.wrap_i64]; omega
    have e3 : IntKind.u64.wrap (-(n + 1)) = -(n + 1) := by rw [IntKind.wrap_u64]; omega
    have e4 : IntKind.u64.wrap (-(n + 1) + 1) = n.natAbs := by rw [IntKind.wrap_u64]; omega
    have H := hide (show ⟨#[45]⟩ ++ natB n.natAbs = decB n from eq_of_list (by rw [append_list]; show 45 :: natL n.natAbs = decL n; rw [decL, if_pos h]))
    go_enter Tryz.func34, Tryz.ntmps34
    go_wp2_with fail
    refine (unhide HN).mono ?_
    rintro e w2 ⟨rfl, hb2⟩
    go_wp2_with fail
    go_ret
    exact ⟨by rw [← unhide H]; rfl, hb2⟩
  · have HN := hide (nat19_c n.natAbs (by omega) w)
    have e3 : IntKind.u64.wrap n = n.natAbs := by rw [IntKind.wrap_u64]; omega
    have H := hide (show natB n.natAbs = decB n from eq_of_list (by show natL n.natAbs = decL n; rw [decL, if_neg h]))
    go_enter Tryz.func34, Tryz.ntmps34
    go_wp2_with fail
    refine (unhide HN).mono ?_
    rintro e w2 ⟨rfl, hb2⟩
    go_wp2_with fail
    go_ret
    exact ⟨by rw [← unhide H]; rfl, hb2⟩

end Go.Proofs.YtmhpakhnclkenaaGreatDoor

namespace Go.Proofs.YtmhpakhnclkenaaGreatDoor
open Go.RowKit

def lessB (x y : ByteArray) : Bool := Op.bytesLess x.toList y.toList
theorem Strs.len {n₀ : Nat} {W : World} {a : Option Addr} {len cap : Nat} {ss : List ByteArray} (h : Strs n₀ W (.slice a len cap) ss) : len = ss.length := by
  rcases h with ⟨_, _, e, rfl⟩ | ⟨b, off, c, e, -, -⟩
  · simp only [Value.slice.injEq] at e; simp [e.2.1]
  · simp only [Value.slice.injEq] at e; exact e.2.1
theorem Strs.cellAt {n₀ : Nat} {W : World} {a : Option Addr} {len cap : Nat} {ss : List ByteArray} (h : Strs n₀ W (.slice a len cap) ss) (hl : 0 < ss.length) : ∃ b off, a = some ⟨b, off, none⟩ ∧ len = ss.length ∧ b < n₀ ∧ ∀ j, j < ss.length → W.cell? ⟨b, off + j, none⟩ = some (.string (ss[j]?.getD ByteArray.empty)) := by
  rcases h with ⟨_, _, _, rfl⟩ | ⟨b, off, c, e, hb, hc⟩
  · simp at hl
  · simp only [Value.slice.injEq] at e
    obtain ⟨rfl, rfl, rfl⟩ := e
    exact ⟨b, off, rfl, rfl, hb, hc⟩

theorem below_dn {B : Nat} {a w : World} (h : Below B a w) (n : Nat) : Below B a (w.drewN n) := ⟨h.os, h.tape, h.output, h.size, h.block⟩

set_option maxHeartbeats 1000000 in
theorem refRise17 (a : Option Addr) (len cap : Nat) (ss : List ByteArray) (hreach : ss.length * 16 ≤ 140737488351232) (w : World) (hI : Strs w.heap.size w (.slice a len cap) ss) :
    Calls Tryz.prog 37 #[.slice a len cap] w fun e w' => e = .returned (.bool (riseB ss)) ∧ Below w.heap.size w w' := by
  have hlen := hI.len
  have hlb : (len : Int) ≤ 8796093021952 := by omega
  have HI := hide hI
  have HL := hide hlen
  clear hI hlen
  go_enter Tryz.func37, Tryz.ntmps37
  go_wp2
  go_loopw [3] (fun i wr => ∃ k : Nat, k ≤ len - 1 ∧ i = .int .i64 (k + 1) ∧ Hid (allP (pairsTo ss k) = true) ∧ Below w.heap.size w wr) (fun i _ => len - (intOf i).toNat)
  case atStart => exact ⟨0, Nat.zero_le _, rfl, hide rfl, Below.refl _ _⟩
  case round =>
    obtain ⟨k, hk, rfl, hp, hB⟩ := hrel
    by_cases hlt : k + 1 < len
    · have hll := unhide HL
      obtain ⟨b, off, rfl, _, hb, hc⟩ := ((unhide HI).below hB).cellAt (by omega)
      have hc1 := hc k (by omega)
      have hc2 := hc (k + 1) (by omega)
      have Hs := hide (show allP (pairsTo ss (k + 1)) = lessB (ss[k]?.getD ByteArray.empty) (ss[k + 1]?.getD ByteArray.empty) by unfold pairsTo; rw [upto_succ, allP_snoc]; have := unhide hp; unfold pairsTo at this; rw [this]; rfl)
      have Hno := hide (fun h => rise_no ss (k + 1) (by omega) h)
      clear hc hll
      generalize ss[k]?.getD ByteArray.empty = x at *
      generalize ss[k + 1]?.getD ByteArray.empty = y at *
      have hk1 : (k : Int) + 1 < len := by omega
      have hk2 : (0 : Int) ≤ k := by omega
      have hk3 : (k : Int) < len := by omega
      have hw1 : IntKind.i64.wrap (k : Int) = k := by rw [IntKind.wrap_i64]; omega
      go_wp2
      go_quiet (fail)
      go_wp2
      · have hx : (!Op.bytesLess x.toList y.toList) = true := by assumption
        have hr := unhide Hno (by rw [unhide Hs]; simpa [lessB] using hx)
        go_ret
        exact ⟨by rw [hr]; rfl, below_dn hB _⟩
      · have hx : (!Op.bytesLess x.toList y.toList) = false := by assumption
        exact ⟨⟨k + 1, by omega, by go_num, hide (by rw [unhide Hs]; simpa [lessB] using hx), below_dn hB _⟩, by simp [intOf]; omega⟩
    · have hk1 : ¬ (k : Int) + 1 < len := by omega
      have hr : riseB ss = true := by
        have e : k = ss.length - 1 := by have := unhide HL; omega
        have := unhide hp
        rw [e] at this
        exact this
      have Hr := hide hr
      clear hr
      go_wp2
      go_ret
      exact ⟨by rw [unhide Hr]; rfl, hB⟩

end Go.Proofs.YtmhpakhnclkenaaGreatDoor

namespace Go.Proofs.YtmhpakhnclkenaaGreatDoor
open Go.RowKit Go.Shelf

set_option maxHeartbeats 400000 in
theorem refKids_c (op : Int) (w : World) : Calls Tryz.prog 93 #[.int .i64 op] w fun e w' => e = .returned (.int .i64 (kidsN op)) ∧ w' = w := by
  by_cases h1 : op = 12
  · subst h1
    go_enter Tryz.func93, Tryz.ntmps93
    go_wp2
    go_ret
    exact ⟨rfl, rfl⟩
  have e1 : (op == 12) = false := by simp [h1]
  by_cases h2 : 3 ≤ op
  · by_cases h3 : op ≤ 11
    · have H := hide (show kidsN op = 2 by simp [kidsN, h1, h2, h3])
      clear h1
      go_enter Tryz.func93, Tryz.ntmps93
      go_wp2
      go_ret
      exact ⟨by rw [unhide H]; rfl, rfl⟩
    · have H := hide (show kidsN op = 0 by simp [kidsN, h1, h3])
      clear h1
      go_enter Tryz.func93, Tryz.ntmps93
      go_wp2
      go_ret
      exact ⟨by rw [unhide H]; rfl, rfl⟩
  · have H := hide (show kidsN op = 0 by simp [kidsN, h1, h2])
    clear h1
    go_enter Tryz.func93, Tryz.ntmps93
    go_wp2
    go_ret
    exact ⟨by rw [unhide H]; rfl, rfl⟩

theorem eqlV (k n k' n' : Int) (s s' : ByteArray) (W : World) : (binOp .eql 24 (.agg #[.int .i64 k, .int .i64 n, .string s]) (.agg #[.int .i64 k', .int .i64 n', .string s'])).run Tryz.prog W = .ok (.bool (decide (k = k' ∧ n = n' ∧ s.toList = s'.toList))) W := by
  by_cases h1 : k = k'
  · by_cases h2 : n = n'
    · by_cases h3 : s.toList = s'.toList
      · subst h1 h2
        have e3 : (s.toList == s'.toList) = true := by simp [h3]
        go_simp
      · have e3 : (s.toList == s'.toList) = false := by simp [h3]
        go_simp
    · have e2 : (n == n') = false := by simp [h2]
      go_simp
  · have e1 : (k == k') = false := by simp [h1]
    go_simp

theorem nil_toList : (⟨#[]⟩ : ByteArray).toList = [] := by kernel_rfl
theorem eqlV0 (d : Dat) (W : World) : (binOp .eql 24 (.agg #[.int .i64 d.k, .int .i64 d.n, .string d.s.1]) (.agg #[.int .i64 0, .int .i64 0, .string ⟨#[]⟩])).run Tryz.prog W = .ok (.bool (zeroB d)) W := by
  rw [eqlV, nil_toList]; rfl

mutual
/-- A condition as it may be, as the document asks it: each node by its depth. -/
def shapedT (n : Nat) : Tree → Bool
  | .mk x ks => (decide (n ≤ 5) && soundB x ks.length) && shapedL (n + 1) ks
def shapedL (n : Nat) : List Tree → Bool
  | [] => true
  | t :: ts => shapedT n t && shapedL n ts
end
theorem shapedL_append (n : Nat) (ts us : List Tree) : shapedL n (ts ++ us) = (shapedL n ts && shapedL n us) := by
  induction ts with
  | nil => simp [shapedL]
  | cons t ts ih => simp [shapedL, ih, Bool.and_assoc]
theorem shapedL_no (n : Nat) (ts : List Tree) (k : Nat) (h : shapedL n (ts.take k) = false) : shapedL n ts = false := by
  rw [← List.take_append_drop k ts, shapedL_append, h, Bool.false_and]

/-- What shaped does with a node whose kids lie at a. -/
def ShapedC (n₀ : Nat) (W0 : World) (a : Option Addr) (ks : List Tree) : Prop :=
  ∀ (d : Dat) (cap n : Nat) (W : World), n ≤ 6 → Sm n₀ W0 W → n₀ ≤ W.heap.size →
    Calls Tryz.prog 67 #[d.v a ks.length cap, .int .i64 n] W fun r W' => r = .returned (.bool (shapedT n (.mk d ks))) ∧ Below W.heap.size W W'

set_option maxRecDepth 100000 in
set_option maxHeartbeats 4000000 in
theorem shaped_step (n₀ : Nat) (W0 : World) (a : Option Addr) (ks : List Tree) (hlen : ks.length ≤ 1099511627776)
    (hK : ks = [] ∨ ∃ (b off : Nat) (f : Nat → Option Addr × Nat), a = some ⟨b, off, none⟩ ∧ b < n₀ ∧ (∀ j t, ks[j]? = some t → ∀ i u, (t.dat.cs (f j).1 t.kids.length (f j).2)[i]? = some u → W0.cell? ⟨b, off + j * 7 + i, none⟩ = some u) ∧ ∀ (j : Nat) t, ks[j]? = some t → ShapedC n₀ W0 (f j).1 t.kids) :
    ShapedC n₀ W0 a ks := by
  intro d cap n w hn6 hs hn
  obtain ⟨m, hm⟩ : ∃ m, m = ks.length := ⟨_, rfl⟩
  obtain ⟨W, hW⟩ : ∃ W, W = w.alloc (.cells (d.cs a ks.length cap) 27) := ⟨_, rfl⟩
  have bW : Below w.heap.size w W := by rw [hW]; exact (Below.refl _ _).alloc (Nat.le_refl _) _
  have xb : Box W w.heap.size 27 (d.cs a ks.length cap) := by rw [hW]; exact Box.new _ _ _
  obtain ⟨op, k, nn, s, al, fd⟩ := d
  obtain ⟨h0, h1, h2, h3, h4, h5, h6⟩ := xb.seven
  simp only at h0 h1 h2 h3 h4 h5 h6
  have HS := hide (show shapedT n (.mk ⟨op, k, nn, s, al, fd⟩ ks) = ((decide (n ≤ 5) && soundB ⟨op, k, nn, s, al, fd⟩ m) && shapedL (n + 1) ks) by rw [hm]; rfl)
  replace hK := hide hK
  rw [← hm] at h6 hW xb hlen ⊢
  replace hm := hide hm
  go_enter Tryz.func67, Tryz.ntmps67
  go_upto_region 1 with fail
  dsimp only [Dat.cs] at hW
  rw [← hW]
  clear hW
  by_cases c1 : 1 ≤ op
  case neg =>
    have H := hide (show soundB ⟨op, k, nn, s, al, fd⟩ m = false by simp [soundB, c1])
    have e1 : decide (op < 1) = true := by simp; omega
    go_quiet (fail)
    go_wp2_with fail
    go_ret
    exact ⟨by rw [unhide HS, unhide H]; simp, Box.bd bW⟩
  have e1 : decide (op < 1) = false := by simp; omega
  by_cases c2 : op ≤ 12
  case neg =>
    have H := hide (show soundB ⟨op, k, nn, s, al, fd⟩ m = false by simp [soundB, c2])
    have e2 : decide (12 < op) = true := by simp; omega
    clear c1
    go_quiet (fail)
    go_wp2_with fail
    go_ret
    exact ⟨by rw [unhide HS, unhide H]; simp, Box.bd bW⟩
  have e2 : decide (12 < op) = false := by simp; omega
  by_cases c3 : m = kidsN op
  case neg =>
    have H := hide (show soundB ⟨op, k, nn, s, al, fd⟩ m = false by simp [soundB, c3])
    have e3 : ((m : Int) != (kidsN op : Int)) = true := by simp; omega
    replace c3 := hide c3
    clear c1 c2
    go_quiet ((go_at_call 93; exact Calls.quiet_of_same (refKids_c _ _)))
    go_wp2_with fail
    go_ret
    exact ⟨by rw [unhide HS, unhide H]; simp, Box.bd bW⟩
  have e3 : ((m : Int) != (kidsN op : Int)) = false := by simp; omega
  replace c3 := hide c3
  by_cases c4 : n ≤ 5
  case neg =>
    have H := hide (show decide (n ≤ 5) = false by simp [c4])
    have e4 : decide (5 < (n : Int)) = true := by simp; omega
    clear c1 c2 c4
    go_quiet ((go_at_call 93; exact Calls.quiet_of_same (refKids_c _ _)))
    go_wp2_with fail
    go_ret
    exact ⟨by rw [unhide HS, unhide H]; simp, Box.bd bW⟩
  have e4 : decide (5 < (n : Int)) = false := by simp; omega
  go_quiet ((go_at_call 93; exact Calls.quiet_of_same (refKids_c _ _)))
  clear e1 e2 e3 e4
  obtain ⟨W2, hW2⟩ : ∃ W2, W2 = W.drewN nq := ⟨_, rfl⟩
  have bW2 : Below w.heap.size w W2 := by rw [hW2]; exact Box.bd bW
  have xb2 : Box W2 w.heap.size 27 (Dat.cs ⟨op, k, nn, s, al, fd⟩ a m cap) := by rw [hW2]; exact xb.drewN _
  rw [← hW2]
  clear hW2 h0 h1 h2 h3 h4 h5 h6 xb bW
  obtain ⟨h0, h1, h2, h3, h4, h5, h6⟩ := xb2.seven
  simp only at h0 h1 h2 h3 h4 h5 h6
  have hs' := s.2
  have c12 : (decide (n ≤ 5) && (decide (1 ≤ op) && decide (op ≤ 12) && decide (m = kidsN op))) = true := by simp [c1, c2, unhide c3, c4]
  obtain ⟨z, hz⟩ : ∃ z, z = zeroB ⟨op, k, nn, s, al, fd⟩ := ⟨_, rfl⟩
  have heq : ∀ W, (binOp .eql 24 (.agg #[.int .i64 k, .int .i64 nn, .string s.1]) (.agg #[.int .i64 0, .int .i64 0, .string ⟨#[]⟩])).run Tryz.prog W = .ok (.bool z) W := fun W => (eqlV0 ⟨op, k, nn, s, al, fd⟩ W).trans (by rw [hz])
  replace hz := hide hz
  obtain ⟨b, hb⟩ : ∃ b, b = bareB ⟨op, k, nn, s, al, fd⟩ := ⟨_, rfl⟩
  have ks0 : (op = 1 ∨ op = 2) → shapedL (n + 1) ks = true := fun h => by
    have : kidsN op = 0 := by rcases h with rfl | rfl <;> simp [kidsN]
    have e0 : ks = [] := List.eq_nil_of_length_eq_zero (by have := unhide hm; have := unhide c3; omega)
    rw [e0]; rfl
  replace ks0 := hide ks0
  have hA0 := hide (show bareB ⟨op, k, nn, s, al, fd⟩ = (al.1.toList.isEmpty && fd.1.toList.isEmpty) from rfl)
  have HT := hide (show shapedT n (.mk ⟨op, k, nn, s, al, fd⟩ ks) = ((if op = 1 then b && isB k nn s.1 else if op = 2 then z && nameB al.1 && nameB fd.1 else b && z) && shapedL (n + 1) ks) by
    rw [unhide HS, hb, unhide hz]
    have e : soundB ⟨op, k, nn, s, al, fd⟩ m = (decide (1 ≤ op) && decide (op ≤ 12) && decide (m = kidsN op) && (if op = 1 then bareB ⟨op, k, nn, s, al, fd⟩ && isB k nn s.1 else if op = 2 then zeroB ⟨op, k, nn, s, al, fd⟩ && nameB al.1 && nameB fd.1 else bareB ⟨op, k, nn, s, al, fd⟩ && zeroB ⟨op, k, nn, s, al, fd⟩)) := rfl
    rw [e, ← Bool.and_assoc (decide (n ≤ 5)), c12, Bool.true_and])
  clear c12 HS c1 c2 hz
  replace hb := hide hb
  replace c3 := hide c3
  have c4' : (n : Int) + 1 ≤ 6 := by omega
  have hl1 := al.2
  have hl2 := fd.2
  go_upto_region 3 with fail
  go_cut [5, 6] (fun x y wx => x = .bool z ∧ y = .bool b ∧ ∃ d, wx = W2.drewN d)
  case first =>
    clear HT ks0 hK
    cases hA : al.1.toList.isEmpty
    · obtain rfl : b = false := by rw [unhide hb, unhide hA0, hA]; rfl
      go_quiet (fail)
      go_wp2
      go_meet
      case rel => exact ⟨rfl, rfl, _, rfl⟩
    · cases hF : fd.1.toList.isEmpty
      · obtain rfl : b = false := by rw [unhide hb, unhide hA0, hA, hF]; rfl
        go_quiet (fail)
        go_wp2
        go_meet
        case rel => exact ⟨rfl, rfl, _, rfl⟩
      · obtain rfl : b = true := by rw [unhide hb, unhide hA0, hA, hF]; rfl
        go_quiet (fail)
        go_wp2
        go_meet
        case rel => exact ⟨rfl, rfl, _, rfl⟩
  case rest =>
  obtain ⟨rfl, rfl, nq, rfl⟩ := hcut
  obtain ⟨W3, hW3⟩ : ∃ W3, W3 = W2.drewN nq := ⟨_, rfl⟩
  have bW3 : Below w.heap.size w W3 := by rw [hW3]; exact Box.bd bW2
  have xb3 : Box W3 w.heap.size 27 (Dat.cs ⟨op, k, nn, s, al, fd⟩ a m cap) := by rw [hW3]; exact xb2.drewN _
  rw [← hW3]
  clear hW3 h0 h1 h2 h3 h4 h5 h6 xb2 bW2 hb hA0 heq
  obtain ⟨h0, h1, h2, h3, h4, h5, h6⟩ := xb3.seven
  simp only at h0 h1 h2 h3 h4 h5 h6
  by_cases o1 : op = 1
  · subst o1
    have H := hide (show shapedT n (.mk ⟨1, k, nn, s, al, fd⟩ ks) = (isB k nn s.1 && b) by rw [unhide HT, unhide ks0 (.inl rfl)]; simp [Bool.and_comm])
    clear HT ks0
    obtain ⟨q, hq⟩ : ∃ q, q = isB k nn s.1 := ⟨_, rfl⟩
    have cI : ∀ W, Calls Tryz.prog 92 #[.agg #[.int .i64 k, .int .i64 nn, .string s.1]] W fun e w' => e = .returned (.bool q) ∧ Below W.heap.size W w' := fun W => by rw [hq]; exact refIs_c k nn s.1 W hs'
    rw [← hq] at H
    clear hq
    cases q <;> cases b
    all_goals
      go_wp2_with (go_at_call 92; refine (cI _).mono ?_; rintro e w4 ⟨rfl, hb4⟩)
      go_ret
      exact ⟨by rw [unhide H]; rfl, bW3.trans (hb4.mono bW3.size)⟩
  have o1' : (op == 1) = false := by simp [o1]
  by_cases o2 : op = 2
  · subst o2
    have H := hide (show shapedT n (.mk ⟨2, k, nn, s, al, fd⟩ ks) = ((z && nameB al.1) && nameB fd.1) by rw [unhide HT, unhide ks0 (.inr rfl)]; simp)
    clear HT ks0 o1
    obtain ⟨q, hq⟩ : ∃ q, q = nameB al.1 := ⟨_, rfl⟩
    have cN : ∀ W, Calls Tryz.prog 35 #[.string al.1] W fun e w' => e = .returned (.bool q) ∧ w' = W := fun W => by rw [hq]; exact refName_c al.1 W hl1
    obtain ⟨q2, hq2⟩ : ∃ q2, q2 = nameB fd.1 := ⟨_, rfl⟩
    have cN2 : ∀ W, Calls Tryz.prog 35 #[.string fd.1] W fun e w' => e = .returned (.bool q2) ∧ w' = W := fun W => by rw [hq2]; exact refName_c fd.1 W hl2
    rw [← hq, ← hq2] at H
    clear hq hq2
    cases z
    · go_wp2_with fail
      go_ret
      exact ⟨by rw [unhide H]; rfl, bW3⟩
    cases q
    · go_wp2_with fail
      refine (cN _).mono ?_
      rintro e w4 ⟨rfl, rfl⟩
      go_wp2_with fail
      go_ret
      exact ⟨by rw [unhide H]; rfl, bW3⟩
    go_wp2_with fail
    refine (cN _).mono ?_
    rintro e w4 ⟨rfl, rfl⟩
    go_wp2_with fail
    refine (cN2 _).mono ?_
    rintro e w4 ⟨rfl, rfl⟩
    go_wp2_with fail
    go_ret
    exact ⟨by rw [unhide H]; simp, bW3⟩
  have o2' : (op == 2) = false := by simp [o2]
  have H := hide (show shapedT n (.mk ⟨op, k, nn, s, al, fd⟩ ks) = ((z && b) && shapedL (n + 1) ks) by rw [unhide HT]; simp [o1, o2, Bool.and_comm])
  clear HT ks0 o1 o2
  have hlen' : (m : Int) ≤ 1099511627776 := by omega
  go_upto_region 9 with fail
  go_wp2_with fail
  go_loopw [7] (fun i wr => ∃ j : Nat, j ≤ m ∧ i = .int .i64 j ∧ Hid (shapedL (n + 1) (ks.take j) = true) ∧ Below W3.heap.size W3 wr) (fun i _ => m - (intOf i).toNat)
  case atStart => exact ⟨0, Nat.zero_le _, rfl, hide (by simp [shapedL]), Below.refl _ _⟩
  case round =>
    obtain ⟨j, hj, rfl, hp, hB⟩ := hrel
    clear h0 h1 h2 h3 h4 h5 h6
    have xr := xb3.on hB xb3.lt
    obtain ⟨h0, h1, h2, h3, h4, h5, h6⟩ := xr.seven
    clear h0 h1 h2 h3 h4 h5
    have br : Below w.heap.size w wr := bW3.trans (hB.mono bW3.size)
    by_cases hlt : j < m
    · rcases unhide hK with h | ⟨bb, off, f, ea, hbn, hcs, hV⟩
      · exfalso; have := unhide hm; rw [h] at this; simp at this; omega
      have hjk : j < ks.length := by have := unhide hm; omega
      obtain ⟨t, ht⟩ : ∃ t, ks[j]? = some t := ⟨_, List.getElem?_eq_getElem hjk⟩
      have htk := hide (show shapedL (n + 1) (ks.take (j + 1)) = shapedT (n + 1) t by
        have e1 : ks.take (j + 1) = ks.take j ++ [t] := by rw [List.take_succ_eq_append_getElem hjk]; simp [List.getElem?_eq_getElem hjk] at ht; rw [ht]
        rw [e1, shapedL_append, unhide hp]; simp [shapedL])
      have sr : Sm n₀ W0 wr := hs.trans (Sm.of_below (br.mono hn))
      have hcs' : ∀ i v, (t.dat.cs (f j).1 t.kids.length (f j).2)[i]? = some v → wr.cell? ⟨bb, off + j * 7 + i, none⟩ = some v := fun i v hv => sr.cell hbn (hcs j t ht i v hv)
      replace hV := hV j t ht
      clear hcs hK ht hjk
      obtain ⟨dt, kt⟩ := t
      generalize f j = fk at hcs' hV
      obtain ⟨at', ct⟩ := fk
      simp only [Tree.dat, Tree.kids] at hcs' hV
      have hd0 := hcs' 0 _ rfl
      have hd1 := hcs' 1 _ rfl
      have hd2 := hcs' 2 _ rfl
      have hd3 := hcs' 3 _ rfl
      have hd4 := hcs' 4 _ rfl
      have hd5 := hcs' 5 _ rfl
      have hd6 := hcs' 6 _ rfl
      rw [Nat.add_zero] at hd0
      clear hcs'
      subst ea
      have hwr : n₀ ≤ wr.heap.size := Nat.le_trans hn br.size
      have cV := hV dt ct (n + 1) wr (by omega) sr hwr
      rw [show ((n + 1 : Nat) : Int) = (n : Int) + 1 by omega] at cV
      replace cV := hide cV
      have hkl : (j : Int) < m := by omega
      clear hV
      go_wp2_with fail
      refine (unhide cV).mono ?_
      rintro e W5 ⟨rfl, hb5⟩
      clear cV hd0 hd1 hd2 hd3 hd4 hd5 hd6
      have hE := hB.trans (hb5.mono hB.size)
      cases hst : shapedT (n + 1) (.mk dt kt)
      · have hno := hide (show shapedL (n + 1) ks = false from shapedL_no _ ks (j + 1) (by rw [unhide htk, hst]))
        clear htk
        go_wp2_with fail
        go_ret
        exact ⟨by rw [unhide H, unhide hno]; simp, bW3.trans (hE.mono bW3.size)⟩
      · rw [hst] at htk
        go_wp2_with fail
        go_roundw
        case rel => exact ⟨j + 1, by omega, by go_num, htk, hE⟩
        case measure => simp [intOf]; omega
    · have hke : shapedL (n + 1) ks = true := by
        have := unhide hp
        rwa [List.take_of_length_le (by have := unhide hm; omega)] at this
      have hn' : ¬ (j : Int) < m := by omega
      have H' := hide (show shapedT n (.mk ⟨op, k, nn, s, al, fd⟩ ks) = (z && b) by rw [unhide H, hke, Bool.and_true])
      clear hke H
      cases z <;> cases b
      all_goals
        go_wp2_with fail
        go_ret
        exact ⟨by rw [unhide H']; rfl, br⟩

theorem shaped_C (n₀ : Nat) (W0 : World) (a : Option Addr) (ks : List Tree) (hL : Lies n₀ W0 a ks) : ShapedC n₀ W0 a ks := by
  induction hL with
  | nil a => exact shaped_step n₀ W0 a [] (by simp) (.inl rfl)
  | row b off ks f hl hb hc hk ih => exact shaped_step n₀ W0 _ ks hl (.inr ⟨b, off, f, rfl, hb, hc, ih⟩)

theorem shaped_c (d : Dat) (cap : Nat) (a : Option Addr) (ks : List Tree) (W : World) (hL : Lies W.heap.size W a ks) :
    Calls Tryz.prog 67 #[d.v a ks.length cap, .int .i64 1] W fun r W' => r = .returned (.bool (shapedT 1 (.mk d ks))) ∧ Below W.heap.size W W' :=
  shaped_C W.heap.size W a ks hL d cap 1 W (by omega) (Sm.refl _ _) (Nat.le_refl _)

end Go.Proofs.YtmhpakhnclkenaaGreatDoor

namespace Go.Proofs.YtmhpakhnclkenaaGreatDoor
open Go.RowKit Go.Shelf

theorem neqV (k n k' n' : Int) (s s' : ByteArray) (W : World) : (binOp .neq 24 (.agg #[.int .i64 k, .int .i64 n, .string s]) (.agg #[.int .i64 k', .int .i64 n', .string s'])).run Tryz.prog W = .ok (.bool (!decide (k = k' ∧ n = n' ∧ s.toList = s'.toList))) W := by
  by_cases h1 : k = k'
  · by_cases h2 : n = n'
    · by_cases h3 : s.toList = s'.toList
      · subst h1 h2
        have e3 : (s.toList == s'.toList) = true := by simp [h3]
        go_simp
      · have e3 : (s.toList == s'.toList) = false := by simp [h3]
        go_simp
    · have e2 : (n == n') = false := by simp [h2]
      go_simp
  · have e1 : (k == k') = false := by simp [h1]
    go_simp

/-- What the document's SameExpr does with a node whose kids lie at a. -/
def RSameC (n₀ : Nat) (W0 : World) (a : Option Addr) (ks : List Tree) : Prop :=
  ∀ (d e : Dat) (cap cap' : Nat) (a' : Option Addr) (ls : List Tree) (W : World), Lies n₀ W0 a' ls → Sm n₀ W0 W → n₀ ≤ W.heap.size →
    Calls Tryz.prog 12 #[d.v a ks.length cap, e.v a' ls.length cap'] W fun r W' => r = .returned (.bool (sameT (.mk d ks) (.mk e ls))) ∧ Below W.heap.size W W'

set_option maxRecDepth 100000 in
set_option maxHeartbeats 4000000 in
theorem refSame_step (n₀ : Nat) (W0 : World) (a : Option Addr) (ks : List Tree) (hL : Lies n₀ W0 a ks)
    (hK : ks = [] ∨ ∃ (b off : Nat) (f : Nat → Option Addr × Nat), a = some ⟨b, off, none⟩ ∧ b < n₀ ∧ (∀ j t, ks[j]? = some t → ∀ i u, (t.dat.cs (f j).1 t.kids.length (f j).2)[i]? = some u → W0.cell? ⟨b, off + j * 7 + i, none⟩ = some u) ∧ ∀ (j : Nat) t, ks[j]? = some t → RSameC n₀ W0 (f j).1 t.kids) :
    RSameC n₀ W0 a ks := by
  have hmx : Tryz.prog.follows .mixedOrders = true := by kernel_rfl
  intro d e cap cap' a' ls W hL' hs hn
  obtain ⟨Wk, hWk⟩ : ∃ Wk, Wk = (W.alloc (.cells (d.cs a ks.length cap) 27)).alloc (.cells (e.cs a' ls.length cap') 27) := ⟨_, rfl⟩
  have bk : Below W.heap.size W Wk := by rw [hWk]; exact ((Below.refl _ _).alloc (Nat.le_refl _) _).alloc (by simp) _
  have xk : Box Wk W.heap.size 27 (d.cs a ks.length cap) := by rw [hWk]; exact (Box.new _ _ _).alloc _
  have yk : Box Wk (W.heap.size + 1) 27 (e.cs a' ls.length cap') := by
    have := Box.new (W.alloc (.cells (d.cs a ks.length cap) 27)) 27 (e.cs a' ls.length cap')
    simp only [World.size_alloc] at this
    rw [hWk]; exact this
  have H := hide (show sameT (.mk d ks) (.mk e ls) = (decide (d.op = e.op) && decide (d.k = e.k ∧ d.n = e.n ∧ d.s.1.toList = e.s.1.toList) && (d.al.1.toList == e.al.1.toList) && (d.fd.1.toList == e.fd.1.toList) && (decide (ks.length = ls.length) && sameL ks ls)) by rw [sameT]; rfl)
  have h1 := hL.len
  have h2 := hL'.len
  obtain ⟨z, hz⟩ : ∃ z, z = decide (d.k = e.k ∧ d.n = e.n ∧ d.s.1.toList = e.s.1.toList) := ⟨_, rfl⟩
  have heq : ∀ W, (binOp .neq 24 (.agg #[.int .i64 d.k, .int .i64 d.n, .string d.s.1]) (.agg #[.int .i64 e.k, .int .i64 e.n, .string e.s.1])).run Tryz.prog W = .ok (.bool (!z)) W := fun W => by rw [neqV, hz]
  rw [← hz] at H
  clear hz
  replace hK := hide hK
  obtain ⟨q0, q1, q2, q3, q4, q5, q6⟩ := xk.seven
  obtain ⟨p0, p1, p2, p3, p4, p5, p6⟩ := yk.seven
  go_enter Tryz.func12, Tryz.ntmps12
  go_upto_region 1 with fail
  rw [← hWk]
  clear hWk
  by_cases c1 : d.op = e.op
  case neg =>
    have e1 : (d.op != e.op) = true := by simp [c1]
    rw [decide_eq_false c1] at H
    clear c1
    go_wp2_with fail
    go_ret
    exact ⟨by rw [unhide H]; rfl, bk⟩
  have e1 : (d.op != e.op) = false := by simp [c1]
  rw [decide_eq_true c1] at H
  clear c1
  cases z
  · go_wp2_with fail
    go_ret
    exact ⟨by rw [unhide H]; rfl, bk⟩
  cases c3 : d.al.1.toList == e.al.1.toList
  · rw [c3] at H
    have c3' : (d.al.1.toList != e.al.1.toList) = true := by simp only [bne, c3]; rfl
    go_wp2_with fail
    all_goals go_ret
    all_goals exact ⟨by rw [unhide H]; rfl, bk⟩
  rw [c3] at H
  have c3' : (d.al.1.toList != e.al.1.toList) = false := by simp only [bne, c3]; rfl
  cases c4 : d.fd.1.toList == e.fd.1.toList
  · rw [c4] at H
    have c4' : (d.fd.1.toList != e.fd.1.toList) = true := by simp only [bne, c4]; rfl
    go_wp2_with fail
    all_goals go_ret
    all_goals exact ⟨by rw [unhide H]; rfl, bk⟩
  rw [c4] at H
  have c4' : (d.fd.1.toList != e.fd.1.toList) = false := by simp only [bne, c4]; rfl
  by_cases c5 : ks.length = ls.length
  case neg =>
    have e5 : ((ks.length : Int) != (ls.length : Int)) = true := by simp; omega
    rw [decide_eq_false c5] at H
    clear c5
    go_wp2_with fail
    go_ret
    exact ⟨by rw [unhide H]; rfl, bk⟩
  have e5 : ((ks.length : Int) != (ls.length : Int)) = false := by simp; omega
  rw [decide_eq_true c5] at H
  have H2 := hide (show sameT (.mk d ks) (.mk e ls) = sameL ks ls by rw [unhide H]; simp)
  clear H
  replace c5 := hide c5
  go_upto_region 3 with fail
  clear e1 c3 c3' c4 c4' e5 heq q0 q1 q2 q3 q4 q5 q6 p0 p1 p2 p3 p4 p5 p6
  go_wp2_with fail
  go_loopw [5] (fun i wr => ∃ k : Nat, k ≤ ks.length ∧ i = .int .i64 k ∧ Hid (sameL (ks.take k) (ls.take k) = true) ∧ Below Wk.heap.size Wk wr) (fun i _ => ks.length - (intOf i).toNat)
  case atStart => exact ⟨0, Nat.zero_le _, rfl, hide (by simp [sameL]), Below.refl _ _⟩
  case round =>
    obtain ⟨k, hk, rfl, hsm, hB⟩ := hrel
    have xr := (xk.on hB xk.lt).seven.2.2.2.2.2.2
    have yr := (yk.on hB yk.lt).seven.2.2.2.2.2.2
    have br : Below W.heap.size W wr := bk.trans (hB.mono bk.size)
    by_cases hlt : k < ks.length
    · have hlt2 : k < ls.length := by have := unhide c5; omega
      obtain ⟨t, ht⟩ : ∃ t, ks[k]? = some t := ⟨_, List.getElem?_eq_getElem hlt⟩
      obtain ⟨u, hu⟩ : ∃ u, ls[k]? = some u := ⟨_, List.getElem?_eq_getElem hlt2⟩
      have htk := hide (show sameL (ks.take (k + 1)) (ls.take (k + 1)) = sameT t u by
        have e1 : ks.take (k + 1) = ks.take k ++ [t] := by rw [List.take_succ_eq_append_getElem hlt]; simp [List.getElem?_eq_getElem hlt] at ht; rw [ht]
        have e2 : ls.take (k + 1) = ls.take k ++ [u] := by rw [List.take_succ_eq_append_getElem hlt2]; simp [List.getElem?_eq_getElem hlt2] at hu; rw [hu]
        rw [e1, e2, sameL_snoc _ _ _ _ (by have := unhide c5; simp; omega), unhide hsm, Bool.true_and])
      have sr : Sm n₀ W0 wr := hs.trans (Sm.of_below (br.mono hn))
      rcases unhide hK with h | ⟨b, off, f, ea, hbn, hcs, hV⟩
      · rw [h] at hlt; simp at hlt
      obtain ⟨b', off', a2, c2, ea', hbn', hL2, hcs2⟩ := hL'.cells hu
      have hcs' : ∀ i v, (t.dat.cs (f k).1 t.kids.length (f k).2)[i]? = some v → wr.cell? ⟨b, off + k * 7 + i, none⟩ = some v := fun i v hv => sr.cell hbn (hcs k t ht i v hv)
      replace hcs2 : ∀ i v, (u.dat.cs a2 u.kids.length c2)[i]? = some v → wr.cell? ⟨b', off' + k * 7 + i, none⟩ = some v := fun i v hv => sr.cell hbn' (hcs2 i v hv)
      replace hV := hV k t ht
      clear hcs hK ht hu
      obtain ⟨dt, kt⟩ := t
      obtain ⟨du, ku⟩ := u
      generalize f k = fk at hcs' hV
      obtain ⟨at', ct⟩ := fk
      simp only [Tree.dat, Tree.kids] at hcs' hV hcs2 hL2
      subst ea ea'
      have hwr : n₀ ≤ wr.heap.size := Nat.le_trans hn br.size
      have hd0 := cell_regrown (hcs' 0 _ rfl)
      have hd1 := cell_regrown (hcs' 1 _ rfl)
      have hd2 := cell_regrown (hcs' 2 _ rfl)
      have hd3 := cell_regrown (hcs' 3 _ rfl)
      have hd4 := cell_regrown (hcs' 4 _ rfl)
      have hd5 := cell_regrown (hcs' 5 _ rfl)
      have hd6 := cell_regrown (hcs' 6 _ rfl)
      have hg0 := cell_regrown (hcs2 0 _ rfl)
      have hg1 := cell_regrown (hcs2 1 _ rfl)
      have hg2 := cell_regrown (hcs2 2 _ rfl)
      have hg3 := cell_regrown (hcs2 3 _ rfl)
      have hg4 := cell_regrown (hcs2 4 _ rfl)
      have hg5 := cell_regrown (hcs2 5 _ rfl)
      have hg6 := cell_regrown (hcs2 6 _ rfl)
      rw [Nat.add_zero] at hd0 hg0
      clear hcs' hcs2
      have xg := cell_regrown xr
      have yg := cell_regrown yr
      have cV : Hid (∀ (dd : Nat) (oo : Array Obj), Calls Tryz.prog 12 #[dt.v at' kt.length ct, du.v a2 ku.length c2] (Sort.grow (redrawn wr dd) oo) fun r W' => r = .returned (.bool (sameT (.mk dt kt) (.mk du ku))) ∧ Below (Sort.grow (redrawn wr dd) oo).heap.size (Sort.grow (redrawn wr dd) oo) W') := hide fun dd oo => by
        have hbg := below_regrown wr dd oo
        exact hV dt du ct c2 a2 ku _ hL2 (sr.trans (Sm.of_below (hbg.mono hwr))) (Nat.le_trans hwr hbg.size)
      have hkl : (k : Int) < ks.length := by omega
      have hkl' : (k : Int) < ls.length := by omega
      clear hV hlt hlt2
      obtain ⟨st, hst⟩ : ∃ st, st = sameT (.mk dt kt) (.mk du ku) := ⟨_, rfl⟩
      rw [← hst] at cV htk
      clear hst
      go_upto_region 6 with fail
      refine wp_region_quiet_below hmx (by kernel_rfl) ?_
      repeat (quiet_step (first | (go_at_call 12; exact Calls.regrown_of (unhide cV _ _))))
      refine wpQuiet_nil ?_
      intro _ hw'
      obtain ⟨⟨dq, osq⟩, hw''⟩ := hw'
      subst hw''
      have hb5 := below_regrown wr dq osq
      generalize Sort.grow (redrawn wr dq) osq = W5 at hb5 ⊢
      clear cV hd0 hd1 hd2 hd3 hd4 hd5 hd6 hg0 hg1 hg2 hg3 hg4 hg5 hg6 xg yg
      have bE := hB.trans (hb5.mono hB.size)
      cases st
      · have hno := hide (show sameL ks ls = false from sameL_no ks ls (k + 1) (unhide htk))
        clear htk
        go_wp2_with fail
        go_ret
        exact ⟨by rw [unhide H2, unhide hno]; rfl, bk.trans (bE.mono bk.size)⟩
      · go_wp2_with fail
        go_roundw
        case rel => exact ⟨k + 1, by omega, by go_num, htk, bE⟩
        case measure => simp [intOf]; omega
    · have hke : sameL ks ls = true := by
        have := unhide hsm
        rwa [List.take_of_length_le (by omega), List.take_of_length_le (by have := unhide c5; omega)] at this
      have H3 := hide (show sameT (.mk d ks) (.mk e ls) = true by rw [unhide H2, hke])
      clear hke
      have hn' : ¬ (k : Int) < ks.length := by omega
      go_wp2_with fail
      go_ret
      exact ⟨by rw [unhide H3]; rfl, br⟩

theorem refSame_C (n₀ : Nat) (W0 : World) (a : Option Addr) (ks : List Tree) (hL : Lies n₀ W0 a ks) : RSameC n₀ W0 a ks := by
  induction hL with
  | nil a => exact refSame_step n₀ W0 a [] (.nil a) (.inl rfl)
  | row b off ks f hl hb hc hk ih => exact refSame_step n₀ W0 _ ks (.row b off ks f hl hb hc hk) (.inr ⟨b, off, f, rfl, hb, hc, ih⟩)

theorem refSame_c (d e : Dat) (cap cap' : Nat) (a a' : Option Addr) (ks ls : List Tree) (W : World) (hL : Lies W.heap.size W a ks) (hL' : Lies W.heap.size W a' ls) :
    Calls Tryz.prog 12 #[d.v a ks.length cap, e.v a' ls.length cap'] W fun r W' => r = .returned (.bool (sameT (.mk d ks) (.mk e ls))) ∧ Below W.heap.size W W' :=
  refSame_C W.heap.size W a ks hL d e cap cap' a' ls W hL' (Sm.refl _ _) (Nat.le_refl _)

/-- The first element of that alias. -/
def aliasN (es : List Em) (s : ByteArray) : Int := match es.findIdx? fun e => e.al.1.toList == s.toList with | some i => i | none => -1
theorem anyAl_no {es : List Em} {s : ByteArray} (h : anyAl es s = false) {j : Nat} {e : Em} (he : es[j]? = some e) : (e.al.1.toList == s.toList) = false := by
  cases hq : (e.al.1.toList == s.toList)
  · rfl
  · rw [anyAl, List.any_eq_false] at h
    exact absurd hq (h e (List.mem_of_getElem? he))
theorem aliasN_yes {es : List Em} {s : ByteArray} {k : Nat} {e : Em} (he : es[k]? = some e) (hq : (e.al.1.toList == s.toList) = true) (h : anyAl (es.take k) s = false) : aliasN es s = k := by
  have hk : k < es.length := (List.getElem?_eq_some_iff.1 he).1
  have e1 : es[k] = e := (List.getElem?_eq_some_iff.1 he).2
  have e2 : (es.findIdx? fun e => e.al.1.toList == s.toList) = some k := by
    refine List.findIdx?_eq_some_iff_getElem.2 ⟨hk, by rw [e1]; exact hq, fun j hj => ?_⟩
    have h1 : (es.take k)[j]? = some es[j] := by rw [List.getElem?_take_of_lt hj]; exact List.getElem?_eq_getElem (by omega)
    rw [anyAl_no h h1]; decide
  unfold aliasN; rw [e2]
theorem aliasN_none {es : List Em} {s : ByteArray} (h : anyAl es s = false) : aliasN es s = -1 := by
  have e2 : (es.findIdx? fun e => e.al.1.toList == s.toList) = none := by
    refine List.findIdx?_eq_none_iff.2 fun e he => ?_
    rw [anyAl, List.any_eq_false] at h
    cases hq : (e.al.1.toList == s.toList)
    · rfl
    · exact absurd hq (h e he)
  unfold aliasN; rw [e2]
/-- An element's own alias is first found at its own place, or there is one ahead. -/
theorem aliasN_own {es : List Em} {k : Nat} {e : Em} (he : es[k]? = some e) : (aliasN es e.al.1 != (k : Int)) = anyAl (es.take k) e.al.1 := by
  cases h : anyAl (es.take k) e.al.1
  · rw [aliasN_yes he (by simp) h]; simp
  · have hne : aliasN es e.al.1 ≠ k := fun hc => by
      unfold aliasN at hc
      cases h2 : (es.findIdx? fun x => x.al.1.toList == e.al.1.toList) with
      | none => rw [h2] at hc; simp only at hc; omega
      | some i =>
        rw [h2] at hc
        have hik : i = k := by have : (i : Int) = k := by simpa using hc
                               omega
        subst hik
        obtain ⟨hi, -, hno⟩ := List.findIdx?_eq_some_iff_getElem.1 h2
        rw [anyAl, List.any_eq_true] at h
        obtain ⟨x, hx, hq⟩ := h
        obtain ⟨j, hj, rfl⟩ := List.mem_iff_getElem.1 hx
        rw [List.length_take] at hj
        have := hno j (by omega)
        rw [List.getElem_take] at hq
        exact this hq
    simpa [bne] using hne

set_option maxRecDepth 100000 in
set_option maxHeartbeats 2000000 in
theorem refAlias_c (a : Option Addr) (cap : Nat) (s : ByteArray) (es : List Em) (w : World) (hE : Ems w.heap.size w a es) :
    Calls Tryz.prog 36 #[.slice a es.length cap, .string s] w fun r w' => r = .returned (.int .i64 (aliasN es s)) ∧ w' = w := by
  have hl' := hE.1
  go_enter Tryz.func36, Tryz.ntmps36
  go_wp2_with fail
  go_loop [5] (fun i => ∃ k : Nat, k ≤ es.length ∧ i = .int .i64 k ∧ Hid (anyAl (es.take k) s = false)) (fun i => es.length - (intOf i).toNat)
  case atStart => exact ⟨0, Nat.zero_le _, rfl, hide (by simp [anyAl])⟩
  case round =>
    obtain ⟨k, hk, rfl, hp⟩ := hrel
    by_cases hlt : k < es.length
    · obtain ⟨e, he⟩ : ∃ e, es[k]? = some e := ⟨_, List.getElem?_eq_getElem hlt⟩
      obtain ⟨b, off, p, ea, hbn, hcs, -⟩ := hE.at he
      have htk := hide (show anyAl (es.take (k + 1)) s = (e.al.1.toList == s.toList) by
        have e1 : es.take (k + 1) = es.take k ++ [e] := by rw [List.take_succ_eq_append_getElem hlt]; simp [List.getElem?_eq_getElem hlt] at he; rw [he]
        have := unhide hp
        unfold anyAl at this ⊢
        rw [e1, List.any_append, this]; simp)
      have hd0 := hcs 0 _ rfl
      rw [Nat.add_zero] at hd0
      replace he := hide he
      clear hcs
      subst ea
      have hkl : (k : Int) < es.length := by omega
      have hk0 : (0 : Int) ≤ k := by omega
      replace hE := hide hE
      cases hq : (e.al.1.toList == s.toList)
      · rw [hq] at htk
        go_wp2_with fail
        go_round
        case rel => exact ⟨k + 1, by omega, by go_num, htk⟩
        case measure => simp [intOf]; omega
      · have hyes := hide (aliasN_yes (unhide he) hq (unhide hp))
        go_wp2_with fail
        go_ret
        exact ⟨by rw [unhide hyes]; rfl, rfl⟩
    · have hke : aliasN es s = -1 := by
        have := unhide hp
        rw [List.take_of_length_le (by omega)] at this
        exact aliasN_none this
      replace hke := hide hke
      replace hE := hide hE
      go_wp2_with fail
      go_ret
      exact ⟨by rw [unhide hke]; rfl, rfl⟩

end Go.Proofs.YtmhpakhnclkenaaGreatDoor

namespace Go.Proofs.YtmhpakhnclkenaaGreatDoor
open Go.RowKit Go.Shelf

/-- The text that pieces make. -/
def txtB (ps : List ByteArray) : ByteArray := ⟨(flatB ps).toArray⟩
theorem bytes_assoc (a b c : ByteArray) : (a ++ b) ++ c = a ++ (b ++ c) := eq_of_list (by simp)
theorem txtB_nil : txtB [] = ⟨#[]⟩ := rfl
theorem txtB_append (a b : List ByteArray) : txtB (a ++ b) = txtB a ++ txtB b := eq_of_list (by rw [append_list]; simp [txtB, flatB_append])
theorem txtB_one (x : ByteArray) : txtB [x] = x := eq_of_list (by simp [txtB, flatB])
theorem txtB_size (ps : List ByteArray) : (txtB ps).size = (flatB ps).length := List.size_toArray ..
theorem natL_dec (n : Nat) : natL n = Lib.decDigits n := by
  induction n using Nat.strongRecOn with
  | ind n ih =>
    by_cases h : n < 10
    · rw [natL_small h, Lib.decDigits, dif_pos h]; rfl
    · rw [natL_big h, Lib.decDigits, dif_neg h, ih (n / 10) (by omega)]; rfl
theorem decB_itoa (n : Int) : decB n = itoaB n := by
  unfold decB itoaB decL Lib.itoa
  by_cases h : n < 0
  · rw [if_pos h, if_pos h, natL_dec]
  · rw [if_neg h, if_neg h, natL_dec, show n.natAbs = n.toNat by omega]
theorem esc_size (l : List UInt8) : (flatB (escP l)).length ≤ 2 * l.length := by
  induction l with
  | nil => simp [escP, flatB]
  | cons c l ih =>
    have e : escP (c :: l) = escC c ++ escP l := by simp [escP]
    rw [e, flatB_append, List.length_append]
    have : (flatB (escC c)).length ≤ 2 := by unfold escC; split <;> simp [flatB]
    simp; omega

set_option maxRecDepth 100000 in
set_option maxHeartbeats 4000000 in
theorem showV_str (n : Int) (s : ByteArray) (hB : isB 2 n s = true) (hs : s.size ≤ 16) (w : World) :
    Calls Tryz.prog 64 #[.agg #[.int .i64 2, .int .i64 n, .string s]] w fun e w' => e = .returned (.string (txtB (litP 2 n s))) ∧ Below w.heap.size w w' := by
  obtain ⟨W0, hW0⟩ : ∃ W0, W0 = w.alloc (.cells #[.int .i64 2, .int .i64 n, .string s] 24) := ⟨_, rfl⟩
  have b0 : Below w.heap.size w W0 := by rw [hW0]; exact (Below.refl _ _).alloc (Nat.le_refl _) _
  have x0 : Box W0 w.heap.size 24 #[.int .i64 2, .int .i64 n, .string s] := by rw [hW0]; exact Box.new _ _ _
  have HT := hide (show txtB (litP 2 n s) = (⟨#[34]⟩ ++ txtB (escP s.data.toList)) ++ ⟨#[34]⟩ by
    show txtB ([quB] ++ escP s.data.toList ++ [quB]) = _
    rw [txtB_append, txtB_append, txtB_one])
  obtain ⟨c0, c1, c2⟩ := x0.three
  have cI := hide (refIs_c 2 n s W0 (by unfold maxLen; omega))
  rw [hB] at cI
  go_enter Tryz.func64, Tryz.ntmps64
  go_upto_region 1 with fail
  rw [← hW0]
  clear hW0
  go_wp2_with fail
  refine (unhide cI).mono ?_
  rintro e W1 ⟨rfl, hb1⟩
  have x1 := x0.on hb1 x0.lt
  have b1 := b0.trans (hb1.mono b0.size)
  clear c0 c1 c2 cI
  obtain ⟨c0, c1, c2⟩ := x1.three
  go_wp2_with fail
  go_loop [3, 4] (fun t i => ∃ j : Nat, j ≤ s.size ∧ i = .int .i64 j ∧ t = .string (txtB (escP (s.data.toList.take j)))) (fun _ i => s.size - (intOf i).toNat)
  case atStart => exact ⟨0, Nat.zero_le _, rfl, rfl⟩
  case round =>
    obtain ⟨j, hj, rfl, rfl⟩ := hrel
    by_cases hlt : j < s.size
    · have htk := hide (show txtB (escP (s.data.toList.take (j + 1))) = txtB (escP (s.data.toList.take j)) ++ txtB (escC s[j]) by rw [take_snoc s j hlt, escP_snoc, txtB_append])
      have hxs : (txtB (escP (s.data.toList.take j))).size ≤ 32 := by
        rw [txtB_size]
        refine Nat.le_trans (esc_size _) ?_
        rw [List.length_take]; omega
      have hext := hide (ext_one s j hlt)
      generalize txtB (escP (s.data.toList.take j)) = x at htk hxs ⊢
      have hz1 : (s.extract j (j + 1)).size = 1 := by rw [unhide hext]; rfl
      have hz2 : (x ++ (⟨#[92]⟩ : ByteArray)).size = x.size + 1 := by rw [ByteArray.size_append]; rfl
      by_cases h34 : s[j].toNat = 34
      · have hec := hide (show txtB (escC s[j]) = ⟨#[92]⟩ ++ ⟨#[s[j]]⟩ by unfold escC; rw [if_pos (.inl h34)]; rw [show [(⟨#[92]⟩ : ByteArray), ⟨#[s[j]]⟩] = [⟨#[92]⟩] ++ [⟨#[s[j]]⟩] from rfl, txtB_append, txtB_one, txtB_one])
        go_wp2_with fail
        exact ⟨⟨j + 1, by omega, by go_num, by rw [unhide htk, unhide hec, unhide hext, bytes_assoc]⟩, by simp [intOf]; omega⟩
      · have e34 : ((s[j].toNat : Int) == 34) = false := by simp; omega
        by_cases h92 : s[j].toNat = 92
        · have hec := hide (show txtB (escC s[j]) = ⟨#[92]⟩ ++ ⟨#[s[j]]⟩ by unfold escC; rw [if_pos (.inr h92)]; rw [show [(⟨#[92]⟩ : ByteArray), ⟨#[s[j]]⟩] = [⟨#[92]⟩] ++ [⟨#[s[j]]⟩] from rfl, txtB_append, txtB_one, txtB_one])
          clear h34
          go_wp2_with fail
          exact ⟨⟨j + 1, by omega, by go_num, by rw [unhide htk, unhide hec, unhide hext, bytes_assoc]⟩, by simp [intOf]; omega⟩
        · have e92 : ((s[j].toNat : Int) == 92) = false := by simp; omega
          have hec := hide (show txtB (escC s[j]) = ⟨#[s[j]]⟩ by unfold escC; rw [if_neg (by omega), txtB_one])
          clear h34 h92
          go_wp2_with fail
          exact ⟨⟨j + 1, by omega, by go_num, by rw [unhide htk, unhide hec, unhide hext]⟩, by simp [intOf]; omega⟩
    · obtain rfl : j = s.size := by omega
      rw [List.take_of_length_le (Nat.le_of_eq (show s.data.toList.length = s.size from Array.length_toList ..))]
      have hxs : (txtB (escP s.data.toList)).size ≤ 32 := by
        rw [txtB_size]
        refine Nat.le_trans (esc_size _) ?_
        rw [show s.data.toList.length = s.size from Array.length_toList ..]; omega
      generalize txtB (escP s.data.toList) = x at HT hxs ⊢
      have hz2 : ((⟨#[34]⟩ : ByteArray) ++ x).size = x.size + 1 := by rw [ByteArray.size_append]; show 1 + x.size = _; omega
      go_wp2_with fail
      go_ret
      exact ⟨by rw [unhide HT]; rfl, b1⟩

/-- The text of a value, as the document tells it. -/
def valB (k n : Int) (s : ByteArray) : ByteArray := if isB k n s then txtB (litP k n s) else ⟨#[]⟩
theorem valB_yes {k n : Int} {s : ByteArray} (h : isB k n s = true) : valB k n s = txtB (litP k n s) := by unfold valB; rw [if_pos h]
theorem valB_no {k n : Int} {s : ByteArray} (h : isB k n s = false) : valB k n s = ⟨#[]⟩ := by unfold valB; rw [h]; rfl

set_option maxRecDepth 100000 in
set_option maxHeartbeats 4000000 in
theorem showV_c (k n : Int) (s : ByteArray) (h0 : -9223372036854775808 ≤ n) (h1 : n ≤ 9223372036854775807) (hs : s.size ≤ maxLen) (w : World) :
    Calls Tryz.prog 64 #[.agg #[.int .i64 k, .int .i64 n, .string s]] w fun e w' => e = .returned (.string (valB k n s)) ∧ Below w.heap.size w w' := by
  by_cases hk2 : k = 2 ∧ isB k n s = true
  · obtain ⟨rfl, hB⟩ := hk2
    refine (showV_str n s hB (isB_size hB rfl) w).mono fun e w' h => ?_
    rw [valB_yes hB]; exact h
  obtain ⟨W0, hW0⟩ : ∃ W0, W0 = w.alloc (.cells #[.int .i64 k, .int .i64 n, .string s] 24) := ⟨_, rfl⟩
  have b0 : Below w.heap.size w W0 := by rw [hW0]; exact (Below.refl _ _).alloc (Nat.le_refl _) _
  have x0 : Box W0 w.heap.size 24 #[.int .i64 k, .int .i64 n, .string s] := by rw [hW0]; exact Box.new _ _ _
  obtain ⟨c0, c1, c2⟩ := x0.three
  have cI := hide (refIs_c k n s W0 hs)
  go_enter Tryz.func64, Tryz.ntmps64
  go_upto_region 1 with fail
  rw [← hW0]
  clear hW0
  go_wp2_with fail
  refine (unhide cI).mono ?_
  rintro e W1 ⟨rfl, hb1⟩
  have x1 := x0.on hb1 x0.lt
  have b1 := b0.trans (hb1.mono b0.size)
  clear c0 c1 c2 cI
  obtain ⟨c0, c1, c2⟩ := x1.three
  obtain ⟨q, hq⟩ : ∃ q, q = isB k n s := ⟨_, rfl⟩
  rw [← hq]
  cases q
  · have HQ := hide hq
    clear hk2 hq
    go_wp2_with fail
    go_ret
    exact ⟨by rw [valB_no (unhide HQ).symm]; rfl, b1⟩
  have hB := hq.symm
  clear hq
  have hk : k = 1 ∨ k = 3 := by
    have : k = 1 ∨ k = 2 ∨ k = 3 := by
      by_cases h1 : k = 1
      · exact .inl h1
      by_cases h2 : k = 2
      · exact .inr (.inl h2)
      by_cases h3 : k = 3
      · exact .inr (.inr h3)
      · simp [isB, h1, h2, h3] at hB
    rcases this with h | h | h
    · exact .inl h
    · exact absurd ⟨h, hB⟩ hk2
    · exact .inr h
  clear hk2
  rcases hk with rfl | rfl
  · have cD := hide (dec13_c n h0 h1 W1)
    rw [decB_itoa] at cD
    have HT := hide (show valB 1 n s = itoaB n by rw [valB_yes hB]; exact txtB_one _)
    clear hB
    go_wp2_with fail
    refine (unhide cD).mono ?_
    rintro e W2 ⟨rfl, hb2⟩
    go_wp2_with fail
    go_ret
    exact ⟨by rw [unhide HT]; rfl, b1.trans (hb2.mono b1.size)⟩
  · by_cases hn : n = 1
    · subst hn
      have HT := hide (show valB 3 1 s = ⟨#[84, 82, 85, 69]⟩ by rw [valB_yes hB]; rfl)
      clear hB
      go_wp2_with fail
      go_ret
      exact ⟨by rw [unhide HT]; rfl, b1⟩
    · have hn' : (n == 1) = false := by simp [hn]
      have HT := hide (show valB 3 n s = ⟨#[70, 65, 76, 83, 69]⟩ by rw [valB_yes hB]; show txtB [if n = 1 then _ else _] = _; rw [if_neg hn, txtB_one])
      clear hB hn
      go_wp2_with fail
      go_ret
      exact ⟨by rw [unhide HT]; rfl, b1⟩

theorem sgn_index0 (w : World) : (Instr.index 159 (.agg #[.string ⟨#[43]⟩, .string ⟨#[45]⟩, .string ⟨#[42]⟩, .string ⟨#[61]⟩, .string ⟨#[33, 61]⟩, .string ⟨#[60]⟩, .string ⟨#[60, 61]⟩, .string ⟨#[65, 78, 68]⟩, .string ⟨#[79, 82]⟩]) (.int .i64 0)).run Tryz.prog w = .ok (.string ⟨#[43]⟩) w := by kernel_rfl
theorem sgn_index1 (w : World) : (Instr.index 159 (.agg #[.string ⟨#[43]⟩, .string ⟨#[45]⟩, .string ⟨#[42]⟩, .string ⟨#[61]⟩, .string ⟨#[33, 61]⟩, .string ⟨#[60]⟩, .string ⟨#[60, 61]⟩, .string ⟨#[65, 78, 68]⟩, .string ⟨#[79, 82]⟩]) (.int .i64 1)).run Tryz.prog w = .ok (.string ⟨#[45]⟩) w := by kernel_rfl
theorem sgn_index2 (w : World) : (Instr.index 159 (.agg #[.string ⟨#[43]⟩, .string ⟨#[45]⟩, .string ⟨#[42]⟩, .string ⟨#[61]⟩, .string ⟨#[33, 61]⟩, .string ⟨#[60]⟩, .string ⟨#[60, 61]⟩, .string ⟨#[65, 78, 68]⟩, .string ⟨#[79, 82]⟩]) (.int .i64 2)).run Tryz.prog w = .ok (.string ⟨#[42]⟩) w := by kernel_rfl
theorem sgn_index3 (w : World) : (Instr.index 159 (.agg #[.string ⟨#[43]⟩, .string ⟨#[45]⟩, .string ⟨#[42]⟩, .string ⟨#[61]⟩, .string ⟨#[33, 61]⟩, .string ⟨#[60]⟩, .string ⟨#[60, 61]⟩, .string ⟨#[65, 78, 68]⟩, .string ⟨#[79, 82]⟩]) (.int .i64 3)).run Tryz.prog w = .ok (.string ⟨#[61]⟩) w := by kernel_rfl
theorem sgn_index4 (w : World) : (Instr.index 159 (.agg #[.string ⟨#[43]⟩, .string ⟨#[45]⟩, .string ⟨#[42]⟩, .string ⟨#[61]⟩, .string ⟨#[33, 61]⟩, .string ⟨#[60]⟩, .string ⟨#[60, 61]⟩, .string ⟨#[65, 78, 68]⟩, .string ⟨#[79, 82]⟩]) (.int .i64 4)).run Tryz.prog w = .ok (.string ⟨#[33, 61]⟩) w := by kernel_rfl
theorem sgn_index5 (w : World) : (Instr.index 159 (.agg #[.string ⟨#[43]⟩, .string ⟨#[45]⟩, .string ⟨#[42]⟩, .string ⟨#[61]⟩, .string ⟨#[33, 61]⟩, .string ⟨#[60]⟩, .string ⟨#[60, 61]⟩, .string ⟨#[65, 78, 68]⟩, .string ⟨#[79, 82]⟩]) (.int .i64 5)).run Tryz.prog w = .ok (.string ⟨#[60]⟩) w := by kernel_rfl
theorem sgn_index6 (w : World) : (Instr.index 159 (.agg #[.string ⟨#[43]⟩, .string ⟨#[45]⟩, .string ⟨#[42]⟩, .string ⟨#[61]⟩, .string ⟨#[33, 61]⟩, .string ⟨#[60]⟩, .string ⟨#[60, 61]⟩, .string ⟨#[65, 78, 68]⟩, .string ⟨#[79, 82]⟩]) (.int .i64 6)).run Tryz.prog w = .ok (.string ⟨#[60, 61]⟩) w := by kernel_rfl
theorem sgn_index7 (w : World) : (Instr.index 159 (.agg #[.string ⟨#[43]⟩, .string ⟨#[45]⟩, .string ⟨#[42]⟩, .string ⟨#[61]⟩, .string ⟨#[33, 61]⟩, .string ⟨#[60]⟩, .string ⟨#[60, 61]⟩, .string ⟨#[65, 78, 68]⟩, .string ⟨#[79, 82]⟩]) (.int .i64 7)).run Tryz.prog w = .ok (.string ⟨#[65, 78, 68]⟩) w := by kernel_rfl
theorem sgn_index8 (w : World) : (Instr.index 159 (.agg #[.string ⟨#[43]⟩, .string ⟨#[45]⟩, .string ⟨#[42]⟩, .string ⟨#[61]⟩, .string ⟨#[33, 61]⟩, .string ⟨#[60]⟩, .string ⟨#[60, 61]⟩, .string ⟨#[65, 78, 68]⟩, .string ⟨#[79, 82]⟩]) (.int .i64 8)).run Tryz.prog w = .ok (.string ⟨#[79, 82]⟩) w := by kernel_rfl

set_option maxRecDepth 100000 in
set_option maxHeartbeats 4000000 in
theorem sign_c (op : Int) (h3 : 3 ≤ op) (h11 : op ≤ 11) (w : World) : Calls Tryz.prog 65 #[.int .i64 op] w fun e w' => e = .returned (.string (sgB op.toNat)) ∧ w' = w := by
  have i0 := sgn_index0
  have i1 := sgn_index1
  have i2 := sgn_index2
  have i3 := sgn_index3
  have i4 := sgn_index4
  have i5 := sgn_index5
  have i6 := sgn_index6
  have i7 := sgn_index7
  have i8 := sgn_index8
  obtain rfl | rfl | rfl | rfl | rfl | rfl | rfl | rfl | rfl : op = 3 ∨ op = 4 ∨ op = 5 ∨ op = 6 ∨ op = 7 ∨ op = 8 ∨ op = 9 ∨ op = 10 ∨ op = 11 := by omega
  all_goals
    clear h3 h11
    go_enter Tryz.func65, Tryz.ntmps65
    go_wp2_with fail
    go_ret
    exact ⟨rfl, rfl⟩

end Go.Proofs.YtmhpakhnclkenaaGreatDoor

namespace Go.Proofs.YtmhpakhnclkenaaGreatDoor
open Go.RowKit Go.Shelf

theorem txtB_list (ps : List ByteArray) : (txtB ps).data.toList = flatB ps := by simp [txtB]
theorem txt_not (u : List ByteArray) : txtB [[notB], u, [clB]].flatten = (notB ++ txtB u) ++ clB := eq_of_list (by
  rw [txtB_list, append_list, append_list, txtB_list]; simp [flatB])
theorem txt_two (u v : List ByteArray) (g : ByteArray) : txtB [[opB], u, [blB, g, blB], v, [clB]].flatten = (((((opB ++ txtB u) ++ blB) ++ g) ++ blB) ++ txtB v) ++ clB := eq_of_list (by
  rw [txtB_list]; simp only [append_list, txtB_list]; simp [flatB])
theorem txt_dot (a b : ByteArray) : txtB [a, dotB, b] = (a ++ dotB) ++ b := eq_of_list (by
  rw [txtB_list]; simp only [append_list]; simp [flatB])
theorem sgB_size (q : Nat) (h3 : 3 ≤ q) (h11 : q ≤ 11) : (sgB q).size ≤ 3 := by
  obtain rfl | rfl | rfl | rfl | rfl | rfl | rfl | rfl | rfl : q = 3 ∨ q = 4 ∨ q = 5 ∨ q = 6 ∨ q = 7 ∨ q = 8 ∨ q = 9 ∨ q = 10 ∨ q = 11 := by omega
  all_goals decide

set_option maxRecDepth 100000 in
set_option maxHeartbeats 8000000 in
theorem show_c (t : Tree) (hS : Snd t) : ∀ (a : Option Addr) (cap : Nat) (w : World), Lies w.heap.size w a t.kids → (flatB (condP t)).length ≤ 1099511627776 →
    Calls Tryz.prog 33 #[t.dat.v a t.kids.length cap] w fun e w' => e = .returned (.string (txtB (condP t))) ∧ Below w.heap.size w w' := by
  induction hS with
  | mk d ks hs hn0 hn1 hk ih =>
  intro a cap w hL hz
  have hmx : Tryz.prog.follows .mixedOrders = true := by kernel_rfl
  obtain ⟨ho1, ho12, hkn, hlit⟩ := sound_op hs
  obtain ⟨W0, hW0⟩ : ∃ W0, W0 = w.alloc (.cells (d.cs a ks.length cap) 27) := ⟨_, rfl⟩
  have b0 : Below w.heap.size w W0 := by rw [hW0]; exact (Below.refl _ _).alloc (Nat.le_refl _) _
  have x0 : Box W0 w.heap.size 27 (d.cs a ks.length cap) := by rw [hW0]; exact Box.new _ _ _
  obtain ⟨c0, c1, c2, c3, c4, c5, c6⟩ := x0.seven
  have hu := hide (show condP (.mk d ks) = condN d (condL ks) by rw [condP])
  by_cases q1 : d.op = 1
  · have hv := hide (showV_c d.k d.n d.s.1 hn0 hn1 d.s.2 W0)
    have hu2 := hide (show valB d.k d.n d.s.1 = txtB (condP (.mk d ks)) by rw [unhide hu, condN, if_pos q1, valB_yes (hlit q1)])
    have e1 : (d.op == 1) = true := by simp [q1]
    clear hk ih hlit hkn hs q1 hz
    go_enter Tryz.func33, Tryz.ntmps33
    go_upto_region 1 with fail
    rw [show Obj.cells #[Value.int .i64 d.op, .int .i64 d.k, .int .i64 d.n, .string d.s.1, .string d.al.1, .string d.fd.1, .slice a ks.length cap] 27 = Obj.cells (d.cs a ks.length cap) 27 from rfl, ← hW0]
    clear hW0
    go_wp2_with fail
    refine (unhide hv).mono ?_
    rintro e w1 ⟨rfl, hb1⟩
    rw [unhide hu2]
    go_wp2_with fail
    go_ret
    exact ⟨rfl, b0.trans (hb1.mono b0.size)⟩
  have e1 : (d.op == 1) = false := by simp [q1]
  by_cases q2 : d.op = 2
  · have hu1 : condP (.mk d ks) = [d.al.1, dotB, d.fd.1] := by rw [unhide hu, condN, if_neg q1, if_pos q2]
    have hu2 := hide (show txtB (condP (.mk d ks)) = (d.al.1 ++ dotB) ++ d.fd.1 by rw [hu1, txt_dot])
    have hz2 : (d.al.1 ++ dotB).size = d.al.1.size + 1 := by rw [ByteArray.size_append]; rfl
    have hz3 : d.al.1.size + 1 + d.fd.1.size ≤ 1099511627776 := by
      have h1 := txtB_size (condP (.mk d ks))
      rw [unhide hu2, ByteArray.size_append, hz2] at h1
      omega
    have e2 : (d.op == 2) = true := by simp [q2]
    clear hk ih hlit hkn hs q1 q2 hz hu1
    go_enter Tryz.func33, Tryz.ntmps33
    go_upto_region 1 with fail
    rw [show Obj.cells #[Value.int .i64 d.op, .int .i64 d.k, .int .i64 d.n, .string d.s.1, .string d.al.1, .string d.fd.1, .slice a ks.length cap] 27 = Obj.cells (d.cs a ks.length cap) 27 from rfl, ← hW0]
    clear hW0
    go_wp2_with fail
    go_ret
    exact ⟨by rw [unhide hu2]; rfl, b0⟩
  have e2 : (d.op == 2) = false := by simp [q2]
  by_cases q12 : d.op = 12
  · have e12 : (d.op == 12) = true := by simp [q12]
    obtain ⟨t0, rfl⟩ : ∃ t0, ks = [t0] := by
      rw [kidsN, if_pos q12] at hkn
      match ks, hkn with
      | [t0], _ => exact ⟨t0, rfl⟩
    have ih0 := ih 0 t0 rfl
    have hu1 : condP (.mk d [t0]) = [[notB], condP t0, [clB]].flatten := by rw [unhide hu, condN, if_neg q1, if_neg q2, if_pos q12]; simp [condL]
    have hu2 := hide (show txtB (condP (.mk d [t0])) = (notB ++ txtB (condP t0)) ++ clB by rw [hu1, txt_not])
    have hz2 : (notB ++ txtB (condP t0)).size = (txtB (condP t0)).size + 5 := by rw [ByteArray.size_append]; show 5 + _ = _; omega
    have hz3 : (txtB (condP t0)).size + 6 ≤ 1099511627776 := by
      have h1 := txtB_size (condP (.mk d [t0]))
      rw [unhide hu2, ByteArray.size_append, hz2] at h1
      have h2 : clB.size = 1 := rfl
      omega
    have hz0 : (flatB (condP t0)).length ≤ 1099511627776 := by rw [← txtB_size]; omega
    clear hk ih hlit hkn hs q1 q2 q12 hz hu1
    cases hL with
    | row b off _ f hl hbw hc hkl =>
    simp only [List.length_cons, List.length_nil, Nat.zero_add] at hW0 x0 c6
    have l0 := hkl 0 t0 rfl
    have k0 := (b0.cell (p := ⟨b, off, none⟩) hbw).trans (hc 0 t0 rfl 0 (.int .i64 t0.dat.op) rfl)
    have k1 := (b0.cell (p := ⟨b, off + 1, none⟩) hbw).trans (hc 0 t0 rfl 1 (.int .i64 t0.dat.k) rfl)
    have k2 := (b0.cell (p := ⟨b, off + 2, none⟩) hbw).trans (hc 0 t0 rfl 2 (.int .i64 t0.dat.n) rfl)
    have k3 := (b0.cell (p := ⟨b, off + 3, none⟩) hbw).trans (hc 0 t0 rfl 3 (.string t0.dat.s.1) rfl)
    have k4 := (b0.cell (p := ⟨b, off + 4, none⟩) hbw).trans (hc 0 t0 rfl 4 (.string t0.dat.al.1) rfl)
    have k5 := (b0.cell (p := ⟨b, off + 5, none⟩) hbw).trans (hc 0 t0 rfl 5 (.string t0.dat.fd.1) rfl)
    have k6 := (b0.cell (p := ⟨b, off + 6, none⟩) hbw).trans (hc 0 t0 rfl 6 (.slice (f 0).1 t0.kids.length (f 0).2) rfl)
    clear hc hkl
    have hv := hide (ih0 (f 0).1 (f 0).2 W0 (l0.on b0) hz0)
    clear ih0 l0 hz0
    generalize txtB (condP t0) = u at hv hu2 hz2 hz3
    obtain ⟨d0, ks0⟩ := t0
    simp only [Tree.dat, Tree.kids] at hv k0 k1 k2 k3 k4 k5 k6
    go_enter Tryz.func33, Tryz.ntmps33
    go_upto_region 1 with fail
    rw [show Obj.cells #[Value.int .i64 d.op, .int .i64 d.k, .int .i64 d.n, .string d.s.1, .string d.al.1, .string d.fd.1, .slice (some ⟨b, off, none⟩) 1 cap] 27 = Obj.cells (d.cs (some ⟨b, off, none⟩) 1 cap) 27 from rfl, ← hW0]
    clear hW0
    go_wp2_with fail
    refine (unhide hv).mono ?_
    rintro e w1 ⟨rfl, hb1⟩
    go_wp2_with fail
    go_ret
    exact ⟨by rw [unhide hu2]; rfl, b0.trans (hb1.mono b0.size)⟩
  · have e12 : (d.op == 12) = false := by simp [q12]
    have h3 : 3 ≤ d.op := by omega
    have h11 : d.op ≤ 11 := by omega
    obtain ⟨t0, t1, rfl⟩ : ∃ t0 t1, ks = [t0, t1] := by
      rw [kidsN, if_neg q12, if_pos ⟨h3, h11⟩] at hkn
      match ks, hkn with
      | [t0, t1], _ => exact ⟨t0, t1, rfl⟩
    have ih0 := ih 0 t0 rfl
    have ih1 := ih 1 t1 rfl
    have hu1 : condP (.mk d [t0, t1]) = [[opB], condP t0, [blB, sgB d.op.toNat, blB], condP t1, [clB]].flatten := by rw [unhide hu, condN, if_neg q1, if_neg q2, if_neg q12]; simp [condL]
    have hsg := sgB_size d.op.toNat (by omega) (by omega)
    have cS := hide (sign_c d.op h3 h11)
    generalize sgB d.op.toNat = g at hsg cS hu1
    have hu2 := hide (show txtB (condP (.mk d [t0, t1])) = (((((opB ++ txtB (condP t0)) ++ blB) ++ g) ++ blB) ++ txtB (condP t1)) ++ clB by rw [hu1, txt_two])
    have z1 : (opB ++ txtB (condP t0)).size = (txtB (condP t0)).size + 1 := by rw [ByteArray.size_append]; show 1 + _ = _; omega
    have z2 : ((opB ++ txtB (condP t0)) ++ blB).size = (txtB (condP t0)).size + 2 := by rw [ByteArray.size_append, z1]; rfl
    have z3 : (((opB ++ txtB (condP t0)) ++ blB) ++ g).size = (txtB (condP t0)).size + 2 + g.size := by rw [ByteArray.size_append, z2]
    have z4 : ((((opB ++ txtB (condP t0)) ++ blB) ++ g) ++ blB).size = (txtB (condP t0)).size + 3 + g.size := by rw [ByteArray.size_append, z3]; show _ + 1 = _; omega
    have z5 : (((((opB ++ txtB (condP t0)) ++ blB) ++ g) ++ blB) ++ txtB (condP t1)).size = (txtB (condP t0)).size + 3 + g.size + (txtB (condP t1)).size := by rw [ByteArray.size_append, z4]
    have z6 : (txtB (condP t0)).size + 4 + g.size + (txtB (condP t1)).size ≤ 1099511627776 := by
      have h1 := txtB_size (condP (.mk d [t0, t1]))
      rw [unhide hu2, ByteArray.size_append, z5] at h1
      have h2 : clB.size = 1 := rfl
      omega
    have hz0 : (flatB (condP t0)).length ≤ 1099511627776 := by rw [← txtB_size]; omega
    have hz1 : (flatB (condP t1)).length ≤ 1099511627776 := by rw [← txtB_size]; omega
    clear hk ih hlit hkn hs q1 q2 q12 hz hu1 ho1 ho12 h3 h11
    cases hL with
    | row b off _ f hl hbw hc hkl =>
    simp only [List.length_cons, List.length_nil, Nat.zero_add, Nat.reduceAdd] at hW0 x0 c6
    have l0 := hkl 0 t0 rfl
    have l1 := hkl 1 t1 rfl
    have ce : ∀ (i : Nat) v, w.cell? ⟨b, off + i, none⟩ = some v → W0.cell? ⟨b, off + i, none⟩ = some v := fun i v h => (b0.cell (p := ⟨b, off + i, none⟩) hbw).trans h
    have k0 := cell_regrown (ce 0 _ (hc 0 t0 rfl 0 (.int .i64 t0.dat.op) rfl))
    have k1 := cell_regrown (ce 1 _ (hc 0 t0 rfl 1 (.int .i64 t0.dat.k) rfl))
    have k2 := cell_regrown (ce 2 _ (hc 0 t0 rfl 2 (.int .i64 t0.dat.n) rfl))
    have k3 := cell_regrown (ce 3 _ (hc 0 t0 rfl 3 (.string t0.dat.s.1) rfl))
    have k4 := cell_regrown (ce 4 _ (hc 0 t0 rfl 4 (.string t0.dat.al.1) rfl))
    have k5 := cell_regrown (ce 5 _ (hc 0 t0 rfl 5 (.string t0.dat.fd.1) rfl))
    have k6 := cell_regrown (ce 6 _ (hc 0 t0 rfl 6 (.slice (f 0).1 t0.kids.length (f 0).2) rfl))
    have j0 := cell_regrown (ce 7 _ (hc 1 t1 rfl 0 (.int .i64 t1.dat.op) rfl))
    have j1 := cell_regrown (ce 8 _ (hc 1 t1 rfl 1 (.int .i64 t1.dat.k) rfl))
    have j2 := cell_regrown (ce 9 _ (hc 1 t1 rfl 2 (.int .i64 t1.dat.n) rfl))
    have j3 := cell_regrown (ce 10 _ (hc 1 t1 rfl 3 (.string t1.dat.s.1) rfl))
    have j4 := cell_regrown (ce 11 _ (hc 1 t1 rfl 4 (.string t1.dat.al.1) rfl))
    have j5 := cell_regrown (ce 12 _ (hc 1 t1 rfl 5 (.string t1.dat.fd.1) rfl))
    have j6 := cell_regrown (ce 13 _ (hc 1 t1 rfl 6 (.slice (f 1).1 t1.kids.length (f 1).2) rfl))
    rw [Nat.add_zero] at k0
    clear hc hkl ce
    have g0 := cell_regrown c0
    have g6 := cell_regrown c6
    have cA : Hid (∀ (dd : Nat) (oo : Array Obj), Calls Tryz.prog 33 #[t0.dat.v (f 0).1 t0.kids.length (f 0).2] (Sort.grow (redrawn W0 dd) oo) fun r W' => r = .returned (.string (txtB (condP t0))) ∧ Below (Sort.grow (redrawn W0 dd) oo).heap.size (Sort.grow (redrawn W0 dd) oo) W') := hide fun dd oo => ih0 _ _ _ ((l0.on b0).on (below_regrown W0 dd oo)) hz0
    have cB : Hid (∀ (dd : Nat) (oo : Array Obj), Calls Tryz.prog 33 #[t1.dat.v (f 1).1 t1.kids.length (f 1).2] (Sort.grow (redrawn W0 dd) oo) fun r W' => r = .returned (.string (txtB (condP t1))) ∧ Below (Sort.grow (redrawn W0 dd) oo).heap.size (Sort.grow (redrawn W0 dd) oo) W') := hide fun dd oo => ih1 _ _ _ ((l1.on b0).on (below_regrown W0 dd oo)) hz1
    have cG : Hid (∀ (dd : Nat) (oo : Array Obj), Calls Tryz.prog 65 #[.int .i64 d.op] (Sort.grow (redrawn W0 dd) oo) fun r W' => r = .returned (.string g) ∧ Below (Sort.grow (redrawn W0 dd) oo).heap.size (Sort.grow (redrawn W0 dd) oo) W') := hide fun dd oo => (unhide cS _).mono fun e w' ⟨h1, h2⟩ => ⟨h1, by rw [h2]; exact Below.refl _ _⟩
    clear ih0 ih1 l0 l1 hz0 hz1 cS
    generalize txtB (condP t0) = u at cA hu2 z1 z2 z3 z4 z5 z6
    generalize txtB (condP t1) = v at cB hu2 z5 z6
    have s1 : opB.size = 1 := rfl
    have s2 : blB.size = 1 := rfl
    have s3 : clB.size = 1 := rfl
    have n1 : ¬ 9223372036854775807 < 1 + u.size := by omega
    have n2 : ¬ 9223372036854775807 < 1 + u.size + 1 := by omega
    have n3 : ¬ 9223372036854775807 < 1 + u.size + 1 + g.size := by omega
    have n4 : ¬ 9223372036854775807 < 1 + u.size + 1 + g.size + 1 := by omega
    have n5 : ¬ 9223372036854775807 < 1 + u.size + 1 + g.size + 1 + v.size := by omega
    have n6 : ¬ 9223372036854775807 < 1 + u.size + 1 + g.size + 1 + v.size + 1 := by omega
    clear z1 z2 z3 z4 z5 z6 s1 s2 s3 hsg
    obtain ⟨d0, ks0⟩ := t0
    obtain ⟨d1, ks1⟩ := t1
    simp only [Tree.dat, Tree.kids] at cA cB k0 k1 k2 k3 k4 k5 k6 j0 j1 j2 j3 j4 j5 j6
    go_enter Tryz.func33, Tryz.ntmps33
    go_upto_region 1 with fail
    rw [show Obj.cells #[Value.int .i64 d.op, .int .i64 d.k, .int .i64 d.n, .string d.s.1, .string d.al.1, .string d.fd.1, .slice (some ⟨b, off, none⟩) 2 cap] 27 = Obj.cells (d.cs (some ⟨b, off, none⟩) 2 cap) 27 from rfl, ← hW0]
    clear hW0
    go_upto_region 8 with fail
    refine wp_region_quiet_below hmx (by kernel_rfl) ?_
    repeat (quiet_step (first | (go_at_call 65; exact Calls.regrown_of (unhide cG _ _)) | (go_at_call 33; first | (with_reducible exact Calls.regrown_of (unhide cA _ _)) | (with_reducible exact Calls.regrown_of (unhide cB _ _)))))
    refine wpQuiet_nil ?_
    intro _ hw'
    obtain ⟨⟨dq, osq⟩, hw''⟩ := hw'
    subst hw''
    have hb5 := below_regrown W0 dq osq
    generalize Sort.grow (redrawn W0 dq) osq = W5 at hb5 ⊢
    go_wp2_with fail
    go_ret
    exact ⟨by rw [unhide hu2]; rfl, b0.trans (hb5.mono b0.size)⟩

end Go.Proofs.YtmhpakhnclkenaaGreatDoor

namespace Go.Proofs.YtmhpakhnclkenaaGreatDoor
open Go.RowKit Go.Shelf

theorem owns_low {W : World} {base : Nat} {e : TypeId} {size : Nat} {v : Value} {n : Nat} {xs : List Value} (h : W.ownsRow base e size v n xs) {g : Nat} (hg : v.ownBlock = some g) : base ≤ g ∧ g < W.heap.size := by
  rcases h.2 with ⟨rfl, _⟩ | ⟨g', cap, cur, rfl, hb, hc, _⟩
  · cases hg
  · cases hg; exact ⟨hb, (Array.getElem?_eq_some_iff.1 hc).1⟩


/-- A node as it lies flat. -/
structure Nd where
  d : Dat
  a : Option Addr
  m : Nat
  cap : Nat
abbrev Nd.cs (x : Nd) : Array Value := x.d.cs x.a x.m x.cap
def newsN (l : List Nd) : List Value := l.flatMap fun x => x.cs.toList
theorem newsN_cons (x : Nd) (l : List Nd) : newsN (x :: l) = x.cs.toList ++ newsN l := by simp [newsN]
theorem newsN_append (l k : List Nd) : newsN (l ++ k) = newsN l ++ newsN k := by simp [newsN]
theorem newsN_len (l : List Nd) : (newsN l).length = l.length * 7 := by
  induction l with
  | nil => rfl
  | cons x l ih => rw [newsN_cons, List.length_append, ih]; simp; omega
theorem newsN_at (l : List Nd) : ∀ (j : Nat) x, l[j]? = some x → ∀ i, i < 7 → (newsN l)[j * 7 + i]? = x.cs[i]? := by
  induction l with
  | nil => intro j x h; simp at h
  | cons y l ih =>
    intro j x h i hi
    rw [newsN_cons]
    cases j with
    | zero =>
      simp only [List.getElem?_cons_zero, Option.some.injEq] at h
      subst h
      rw [Nat.zero_mul, Nat.zero_add, List.getElem?_append_left (by simpa using hi), Array.getElem?_toList]
    | succ j =>
      rw [List.getElem?_append_right (by simp; omega)]
      have := ih j x (by simpa using h) i hi
      rw [← this]
      congr 1
      simp; omega
theorem newsN_one (l : List Nd) : ∀ u ∈ newsN l, u.oneCell' = true := by
  intro u hu
  simp only [newsN, List.mem_flatMap] at hu
  obtain ⟨x, _, hx⟩ := hu
  simp at hx
  rcases hx with rfl | rfl | rfl | rfl | rfl | rfl | rfl <;> simp [Value.oneCell']
abbrev zeroX : Value := .agg #[.int .i64 0, .int .i64 0, .int .i64 0, .string ⟨#[]⟩, .string ⟨#[]⟩, .string ⟨#[]⟩, .slice none 0 0]
theorem infoX : (Tryz.prog.info? 27).map (fun i => (i.zero, i.size, i.bytes)) = some (some zeroX, 7, 96) := by kernel_rfl

mutual
/-- How many nodes of a sign there are, as deep as is left. -/
def cntT (left : Nat) : Tree → Nat
  | .mk x ks => if x.op = 0 ∨ left = 0 then 0 else 1 + cntL (left - 1) ks
def cntL (left : Nat) : List Tree → Nat
  | [] => 0
  | t :: ts => cntT left t + cntL left ts
end
theorem cntL_append (n : Nat) (ts us : List Tree) : cntL n (ts ++ us) = cntL n ts + cntL n us := by
  induction ts with
  | nil => simp [cntL]
  | cons t ts ih => simp [cntL, ih]; omega
theorem cntL_take (n : Nat) (ts : List Tree) (k : Nat) : cntL n (ts.take k) ≤ cntL n ts := by
  conv => rhs; rw [← List.take_append_drop k ts, cntL_append]
  omega

/-- What nodes does with a node whose kids lie at a. -/
def NodesC (n₀ : Nat) (W0 : World) (a : Option Addr) (ks : List Tree) : Prop :=
  ∀ (d : Dat) (cap left : Nat) (W : World), left ≤ 20 → Sm n₀ W0 W → n₀ ≤ W.heap.size → cntT left (.mk d ks) ≤ 1073741824 →
    Calls Tryz.prog 94 #[d.v a ks.length cap, .int .i64 left] W fun r W' => ∃ v l, r = .returned v ∧ l.length = cntT left (.mk d ks) ∧ W'.ownsRow W.heap.size 27 7 v l.length (newsN l) ∧ Below W.heap.size W W'

theorem owns_cellsN {W : World} {base : Nat} {ad : Addr} {n c : Nat} {xs : List Value} (h : W.ownsRow base 27 7 (.slice (some ad) n c) n xs) : ∀ j u, xs[j]? = some u → W.cell? (ad.add j) = some u := by
  rcases h.2 with ⟨e, _⟩ | ⟨g, cap, cur, e, hb, hc, h1, h2, h3, h4⟩
  · simp at e
  · simp only [Value.slice.injEq, Option.some.injEq] at e
    obtain ⟨rfl, -, rfl⟩ := e
    intro j u hu
    rw [WideShapes.add_plain, Nat.zero_add]
    have hj := (List.getElem?_eq_some_iff.1 hu).1
    have hl := h.1
    rw [← h4, List.getElem?_take_of_lt (by omega), Array.getElem?_toList] at hu
    simp [World.cell?, hc, hu]

set_option maxRecDepth 100000 in
set_option maxHeartbeats 4000000 in
theorem nodes_step (n₀ : Nat) (W0 : World) (a : Option Addr) (ks : List Tree) (hlen : ks.length ≤ 1099511627776)
    (hK : ks = [] ∨ ∃ (b off : Nat) (f : Nat → Option Addr × Nat), a = some ⟨b, off, none⟩ ∧ b < n₀ ∧ (∀ j t, ks[j]? = some t → ∀ i u, (t.dat.cs (f j).1 t.kids.length (f j).2)[i]? = some u → W0.cell? ⟨b, off + j * 7 + i, none⟩ = some u) ∧ ∀ (j : Nat) t, ks[j]? = some t → NodesC n₀ W0 (f j).1 t.kids) :
    NodesC n₀ W0 a ks := by
  obtain ⟨i0, hi, hz0, hz1, hz2⟩ := info_parts infoX
  intro d cap left w hl20 hs hn hcnt
  obtain ⟨W, hW⟩ : ∃ W, W = w.alloc (.cells (d.cs a ks.length cap) 27) := ⟨_, rfl⟩
  have bW : Below w.heap.size w W := by rw [hW]; exact (Below.refl _ _).alloc (Nat.le_refl _) _
  have xb : Box W w.heap.size 27 (d.cs a ks.length cap) := by rw [hW]; exact Box.new _ _ _
  have HC := hide (show cntT left (.mk d ks) = if d.op = 0 ∨ left = 0 then 0 else 1 + cntL (left - 1) ks by rw [cntT])
  replace hcnt := hide hcnt
  replace hK := hide hK
  obtain ⟨h0, h1, h2, h3, h4, h5, h6⟩ := xb.seven
  go_enter Tryz.func94, Tryz.ntmps94
  go_upto_region 1 with fail
  rw [show Obj.cells #[Value.int .i64 d.op, .int .i64 d.k, .int .i64 d.n, .string d.s.1, .string d.al.1, .string d.fd.1, .slice a ks.length cap] 27 = Obj.cells (d.cs a ks.length cap) 27 from rfl, ← hW]
  clear hW
  by_cases o0 : d.op = 0
  · have e0 : (d.op == 0) = true := by simp [o0]
    rw [if_pos (.inl o0)] at HC
    clear o0
    go_wp2_with fail
    go_ret
    exact ⟨_, [], rfl, by rw [unhide HC]; rfl, World.ownsRow_nil _ _ _ _, bW⟩
  have e0 : (d.op == 0) = false := by simp [o0]
  by_cases l0 : left = 0
  · subst l0
    rw [if_pos (.inr rfl)] at HC
    clear o0
    go_wp2_with fail
    go_ret
    exact ⟨_, [], rfl, by rw [unhide HC]; rfl, World.ownsRow_nil _ _ _ _, bW⟩
  have e1 : ((left : Int) == 0) = false := by simp; omega
  rw [if_neg (by omega)] at HC
  clear o0
  go_upto_region 3 with fail
  go_wp2_with fail
  obtain ⟨W1, hW1⟩ : ∃ W1, W1 = W.alloc (.cells (d.cs a ks.length cap) 27) := ⟨_, rfl⟩
  rw [show Obj.cells #[Value.int .i64 d.op, .int .i64 d.k, .int .i64 d.n, .string d.s.1, .string d.al.1, .string d.fd.1, .slice a ks.length cap] 27 = Obj.cells (d.cs a ks.length cap) 27 from rfl, ← hW1]
  have b1 : Below W.heap.size W W1 := by rw [hW1]; exact (Below.refl _ _).alloc (Nat.le_refl _) _
  have own0 := hide (show W1.ownsRow W.heap.size 27 7 (.slice (some ⟨W.heap.size, 0, none⟩) 1 1) 1 (newsN [⟨d, a, ks.length, cap⟩]) from
    ⟨rfl, .inr ⟨W.heap.size, 1, d.cs a ks.length cap, rfl, Nat.le_refl _, by rw [hW1]; exact World.alloc_heap_new W _, Nat.le_refl _, by unfold maxLen; omega, rfl, by simp [newsN]⟩⟩)
  clear hW1 h0 h1 h2 h3 h4 h5 h6
  go_loopw [5, 6] (fun vo vi wr => ∃ (j : Nat) (l : List Nd), j ≤ ks.length ∧ vi = .int .i64 j ∧ Hid (l.length = 1 + cntL (left - 1) (ks.take j)) ∧ Hid (wr.ownsRow W.heap.size 27 7 vo l.length (newsN l)) ∧ Below W.heap.size W wr) (fun _ vi _ => ks.length - (intOf vi).toNat)
  case atStart => exact ⟨0, _, Nat.zero_le _, rfl, hide (by simp [cntL]), own0, b1⟩
  case round =>
    obtain ⟨j, l, hj, rfl, hll, hown, hB⟩ := hrel
    have xr := (xb.on hB xb.lt).seven.2.2.2.2.2.2
    have br : Below w.heap.size w wr := bW.trans (hB.mono bW.size)
    by_cases hlt : j < ks.length
    · rcases unhide hK with h | ⟨bb, off, f, ea, hbn, hcs, hV⟩
      · exfalso; rw [h] at hlt; simp at hlt
      obtain ⟨t, ht⟩ : ∃ t, ks[j]? = some t := ⟨_, List.getElem?_eq_getElem hlt⟩
      have htk := hide (show cntL (left - 1) (ks.take (j + 1)) = cntL (left - 1) (ks.take j) + cntT (left - 1) t by
        have e1 : ks.take (j + 1) = ks.take j ++ [t] := by rw [List.take_succ_eq_append_getElem hlt]; simp [List.getElem?_eq_getElem hlt] at ht; rw [ht]
        rw [e1, cntL_append]; simp [cntL])
      have hM := hide (show cntL (left - 1) (ks.take j) + cntT (left - 1) t ≤ 1073741823 by
        have h1 := unhide hcnt
        have h2 := cntL_take (left - 1) ks (j + 1)
        rw [unhide HC] at h1
        rw [unhide htk] at h2
        omega)
      have sr : Sm n₀ W0 wr := hs.trans (Sm.of_below (br.mono hn))
      have hcs' : ∀ i v, (t.dat.cs (f j).1 t.kids.length (f j).2)[i]? = some v → wr.cell? ⟨bb, off + j * 7 + i, none⟩ = some v := fun i v hv => sr.cell hbn (hcs j t ht i v hv)
      replace hV := hV j t ht
      clear hcs hK ht
      obtain ⟨dt, kt⟩ := t
      generalize f j = fk at hcs' hV
      obtain ⟨at', ct⟩ := fk
      simp only [Tree.dat, Tree.kids] at hcs' hV
      have hd0 := hcs' 0 _ rfl
      have hd1 := hcs' 1 _ rfl
      have hd2 := hcs' 2 _ rfl
      have hd3 := hcs' 3 _ rfl
      have hd4 := hcs' 4 _ rfl
      have hd5 := hcs' 5 _ rfl
      have hd6 := hcs' 6 _ rfl
      rw [Nat.add_zero] at hd0
      clear hcs'
      subst ea
      have hwr : n₀ ≤ wr.heap.size := Nat.le_trans hn br.size
      have cV := hV dt ct (left - 1) wr (by omega) sr hwr (by have := unhide hM; omega)
      rw [show ((left - 1 : Nat) : Int) = (left : Int) - 1 by omega] at cV
      replace cV := hide cV
      have hkl : (j : Int) < ks.length := by omega
      have hl1 : (1 : Int) ≤ left := by omega
      have hl2 : (left : Int) ≤ 20 := by omega
      clear hV l0
      go_wp2_with fail
      refine (unhide cV).mono ?_
      rintro e W5 ⟨v2, l2, rfl, hl2', hown2, hb5⟩
      clear cV hd0 hd1 hd2 hd3 hd4 hd5 hd6
      have hE := hB.trans (hb5.mono hB.size)
      have hownE := owns_on hb5 (unhide hown)
      have hz : l.length + l2.length ≤ 1073741824 := by have h1 := unhide hll; have h2 := unhide hM; omega
      have hlen2 := hide (show l.length + l2.length = 1 + cntL (left - 1) (ks.take (j + 1)) by rw [unhide hll, unhide htk, hl2']; omega)
      have hbs : W.heap.size ≤ W5.heap.size := hE.size
      replace hl2' := hide hl2'
      obtain ⟨a2, c2, rfl⟩ := owns_form hown2
      cases a2 with
      | none =>
        have e2 : l2 = [] ∧ c2 = 0 := by
          rcases hown2.2 with ⟨e, h0⟩ | ⟨g, cc, cur, e, _⟩
          · simp only [Value.slice.injEq] at e
            exact ⟨List.eq_nil_of_length_eq_zero h0, e.2.2⟩
          · simp at e
        obtain ⟨rfl, rfl⟩ := e2
        go_wp2_with (at_builtin; go_must (refine wpList_append_own_none rfl _ _ 25 rfl W.heap.size 27 i0 7 Tryz.underlying25 hi _ l.length (newsN l) rfl hownE rfl ?_))
        exact ⟨⟨j + 1, l, by omega, by go_num, hide (by have := unhide hlen2; simpa using this), hide hownE, hE⟩, by simp [intOf]; omega⟩
      | some ad =>
        have hnews := hide (owns_cellsN hown2)
        have hln := hide (newsN_len l2)
        have h1 := hide (newsN_one l2)
        replace hown2 := hide hown2
        go_wp2_with (at_builtin; go_must (refine wpList_append_own _ rfl _ _ 25 rfl W.heap.size 27 i0 zeroX 7 96 Tryz.underlying25 hi hz0 hz1 hz2 rfl (by decide) _ l.length (newsN l) rfl hownE ad l2.length c2 (newsN l2) rfl (unhide hln) (unhide hnews) (unhide h1) (by unfold maxLen; omega) (by omega) hbs ?_); intro v' w2 hown3 hgrow _)
        rw [← newsN_append] at hown3
        have hb2 : Below W.heap.size W w2 := hE.grown hgrow hbs (fun k e => (owns_low hownE e).1)
        replace hown3 := hide (show w2.ownsRow W.heap.size 27 7 v' (l ++ l2).length (newsN (l ++ l2)) by rw [List.length_append]; exact hown3)
        go_wp2_with fail
        exact ⟨⟨j + 1, l ++ l2, by omega, by go_num, hide (by rw [List.length_append]; exact unhide hlen2), hown3, hb2⟩, by simp [intOf]; omega⟩
    · have hl : l.length = cntT left (.mk d ks) := by
        have := unhide hll
        rw [List.take_of_length_le (by omega)] at this
        rw [unhide HC, this]
      replace hl := hide hl
      have hown' := hide (owns_base (show w.heap.size ≤ W.heap.size from bW.size) (unhide hown))
      have hn' : ¬ (j : Int) < ks.length := by omega
      go_wp2_with fail
      go_ret
      exact ⟨_, rfl, l, unhide hl, unhide hown', br⟩

theorem nodes_C (n₀ : Nat) (W0 : World) (a : Option Addr) (ks : List Tree) (hL : Lies n₀ W0 a ks) : NodesC n₀ W0 a ks := by
  induction hL with
  | nil a => exact nodes_step n₀ W0 a [] (by simp) (.inl rfl)
  | row b off ks f hl hb hc hk ih => exact nodes_step n₀ W0 _ ks hl (.inr ⟨b, off, f, rfl, hb, hc, ih⟩)

theorem nodes_c (d : Dat) (cap : Nat) (a : Option Addr) (ks : List Tree) (W : World) (hL : Lies W.heap.size W a ks) (hM : cntT 20 (.mk d ks) ≤ 1073741824) :
    Calls Tryz.prog 68 #[d.v a ks.length cap] W fun r W' => ∃ v l, r = .returned v ∧ l.length = cntT 20 (.mk d ks) ∧ W'.ownsRow W.heap.size 27 7 v l.length (newsN l) ∧ Below W.heap.size W W' := by
  obtain ⟨W0, hW0⟩ : ∃ W0, W0 = W.alloc (.cells (d.cs a ks.length cap) 27) := ⟨_, rfl⟩
  have b0 : Below W.heap.size W W0 := by rw [hW0]; exact (Below.refl _ _).alloc (Nat.le_refl _) _
  have x0 : Box W0 W.heap.size 27 (d.cs a ks.length cap) := by rw [hW0]; exact Box.new _ _ _
  obtain ⟨h0, h1, h2, h3, h4, h5, h6⟩ := x0.seven
  have cN := hide (nodes_C W0.heap.size W0 a ks (hL.on b0) d cap 20 W0 (Nat.le_refl _) (Sm.refl _ _) (Nat.le_refl _) hM)
  go_enter Tryz.func68, Tryz.ntmps68
  go_upto_region 1 with fail
  rw [show Obj.cells #[Value.int .i64 d.op, .int .i64 d.k, .int .i64 d.n, .string d.s.1, .string d.al.1, .string d.fd.1, .slice a ks.length cap] 27 = Obj.cells (d.cs a ks.length cap) 27 from rfl, ← hW0]
  clear hW0
  go_wp2_with fail
  refine (unhide cN).mono ?_
  rintro e W1 ⟨v, l, rfl, hl, hown, hb⟩
  replace hown := hide (owns_base (show W.heap.size ≤ W0.heap.size from b0.size) hown)
  replace hl := hide hl
  go_wp2_with fail
  go_ret
  exact ⟨_, l, rfl, unhide hl, unhide hown, b0.trans (hb.mono b0.size)⟩

theorem sound_op0 {d : Dat} {m : Nat} (h : soundB d m = true) : ¬ (d.op = 0) := fun e => by have := (sound_op h).1; omega
mutual
/-- Every step of a walk is as it may be where the tree is shaped. -/
theorem shaped_all (n : Nat) : ∀ t : Tree, (walkT n t).all okS = shapedT n t
  | .mk x ks => by
    rw [walkT, shapedT, List.all_cons]
    have e : okS (n, Tree.mk x ks) = (decide (n ≤ 5) && soundB x ks.length) := rfl
    rw [e]
    by_cases h5 : n ≤ 5
    · cases hs : soundB x ks.length
      · simp
      · rw [if_neg (fun h => by rcases h with h | h; exact sound_op0 hs h; omega), shapedL_all (n + 1) ks]
    · simp [h5]
theorem shapedL_all (n : Nat) : ∀ ts : List Tree, (walkL n ts).all okS = shapedL n ts
  | [] => by simp [walkL, shapedL]
  | t :: ts => by rw [walkL, shapedL, List.all_append, shaped_all n t, shapedL_all n ts]
end
mutual
/-- How many nodes a shaped tree has: as many as its walk has steps. -/
theorem shaped_cnt (n : Nat) : ∀ t : Tree, shapedT n t = true → (walkT n t).length = cntT (21 - n) t
  | .mk x ks, h => by
    rw [shapedT, Bool.and_eq_true, Bool.and_eq_true, decide_eq_true_eq] at h
    obtain ⟨⟨h5, hs⟩, hk⟩ := h
    rw [walkT, cntT, if_neg (fun h => by rcases h with h | h; exact sound_op0 hs h; omega), if_neg (fun h => by rcases h with h | h; exact sound_op0 hs h; omega), List.length_cons, shapedL_cnt (n + 1) ks hk, show 21 - n - 1 = 21 - (n + 1) by omega]
    omega
theorem shapedL_cnt (n : Nat) : ∀ ts : List Tree, shapedL n ts = true → (walkL n ts).length = cntL (21 - n) ts
  | [], _ => by simp [walkL, cntL]
  | t :: ts, h => by
    rw [shapedL, Bool.and_eq_true] at h
    rw [walkL, cntL, List.length_append, shaped_cnt n t h.1, shapedL_cnt n ts h.2]
end
theorem kidsN_two (op : Int) : kidsN op ≤ 2 := by unfold kidsN; split; omega; split <;> omega
mutual
theorem shaped_few (n : Nat) : ∀ t : Tree, shapedT n t = true → cntT (21 - n) t + 1 ≤ 2 ^ (6 - n)
  | .mk x ks, h => by
    rw [shapedT, Bool.and_eq_true, Bool.and_eq_true, decide_eq_true_eq] at h
    obtain ⟨⟨h5, hs⟩, hk⟩ := h
    have h2 : ks.length ≤ 2 := by rw [(sound_op hs).2.2.1]; exact kidsN_two _
    have hL := shapedL_few (n + 1) ks hk
    rw [cntT, if_neg (fun h => by rcases h with h | h; exact sound_op0 hs h; omega), show 21 - n - 1 = 21 - (n + 1) by omega]
    have e : 6 - n = (6 - (n + 1)) + 1 := by omega
    rw [e, Nat.pow_succ]
    have hp : 0 < 2 ^ (6 - (n + 1)) := Nat.two_pow_pos _
    generalize 2 ^ (6 - (n + 1)) = p at hL hp ⊢
    have : ks.length * (p - 1) ≤ 2 * (p - 1) := Nat.mul_le_mul_right _ h2
    omega
theorem shapedL_few (n : Nat) : ∀ ts : List Tree, shapedL n ts = true → cntL (21 - n) ts ≤ ts.length * (2 ^ (6 - n) - 1)
  | [], _ => by simp [cntL]
  | t :: ts, h => by
    rw [shapedL, Bool.and_eq_true] at h
    have h1 := shaped_few n t h.1
    have h2 := shapedL_few n ts h.2
    rw [cntL, List.length_cons, Nat.add_mul]
    omega
end
theorem isT_shaped (t : Tree) : isT t = (shapedT 1 t && decide (cntT 20 t ≤ 24)) := by
  rw [isT, goodL, shaped_all]
  cases h : shapedT 1 t
  · simp
  · rw [shaped_cnt 1 t h]; simp

set_option maxRecDepth 100000 in
set_option maxHeartbeats 2000000 in
theorem refIsE_c (d : Dat) (cap : Nat) (a : Option Addr) (ks : List Tree) (W : World) (hL : Lies W.heap.size W a ks) :
    Calls Tryz.prog 38 #[d.v a ks.length cap] W fun r W' => r = .returned (.bool (isT (.mk d ks))) ∧ Below W.heap.size W W' := by
  have HI := hide (isT_shaped (.mk d ks))
  obtain ⟨W0, hW0⟩ : ∃ W0, W0 = W.alloc (.cells (d.cs a ks.length cap) 27) := ⟨_, rfl⟩
  have b0 : Below W.heap.size W W0 := by rw [hW0]; exact (Below.refl _ _).alloc (Nat.le_refl _) _
  have x0 : Box W0 W.heap.size 27 (d.cs a ks.length cap) := by rw [hW0]; exact Box.new _ _ _
  obtain ⟨h0, h1, h2, h3, h4, h5, h6⟩ := x0.seven
  have cS := hide (shaped_c d cap a ks W0 (hL.on b0))
  obtain ⟨q, hq⟩ : ∃ q, q = shapedT 1 (.mk d ks) := ⟨_, rfl⟩
  rw [← hq] at cS HI
  replace hq := hide hq
  go_enter Tryz.func38, Tryz.ntmps38
  go_upto_region 1 with fail
  rw [show Obj.cells #[Value.int .i64 d.op, .int .i64 d.k, .int .i64 d.n, .string d.s.1, .string d.al.1, .string d.fd.1, .slice a ks.length cap] 27 = Obj.cells (d.cs a ks.length cap) 27 from rfl, ← hW0]
  clear hW0
  go_wp2_with fail
  refine (unhide cS).mono ?_
  rintro e W1 ⟨rfl, hb1⟩
  have b1 := b0.trans (hb1.mono b0.size)
  have x1 := x0.on hb1 x0.lt
  clear cS h0 h1 h2 h3 h4 h5 h6
  obtain ⟨h0, h1, h2, h3, h4, h5, h6⟩ := x1.seven
  cases q
  · go_wp2_with fail
    go_ret
    exact ⟨by rw [unhide HI]; rfl, b1⟩
  have cN := hide (nodes_c d cap a ks W1 (hL.on b1) (by have := shaped_few 1 _ (unhide hq).symm; simp at this; omega))
  clear hq
  go_wp2_with fail
  refine (unhide cN).mono ?_
  rintro e W2 ⟨v, l, rfl, hl, hown, hb⟩
  obtain ⟨a', c', rfl⟩ := owns_form hown
  clear hown cN
  have b2 := b1.trans (hb.mono b1.size)
  rw [Bool.true_and, ← hl] at HI
  clear hl
  go_wp2_with fail
  go_ret
  exact ⟨by rw [unhide HI]; simp; omega, b2⟩

end Go.Proofs.YtmhpakhnclkenaaGreatDoor

namespace Go.Proofs.YtmhpakhnclkenaaGreatDoor
open Go.RowKit Go.Shelf

theorem patB_row {q : Pt} (h : rowB q.es = false) : patB q = false := by simp [patB, h]
theorem rowB_part {es : List Em} (h : partB true es = false) : rowB es = false := by simp [rowB, h]
/-- How the element ahead of place i stands: the row's end counts as a Not. -/
def ntAt (es : List Em) (i : Nat) : Bool := match i with | 0 => true | k + 1 => match es[k]? with | some e => e.nt | none => true
theorem partK_take (es : List Em) (i : Nat) (e : Em) (he : es[i]? = some e) (h : partK true (es.take i) = some (ntAt es i)) :
    partK true (es.take (i + 1)) = if ntAt es i && e.nt then none else some e.nt := by
  have hi : i < es.length := (List.getElem?_eq_some_iff.1 he).1
  have e1 : es.take (i + 1) = es.take i ++ [e] := by rw [List.take_succ_eq_append_getElem hi]; simp [List.getElem?_eq_getElem hi] at he; rw [he]
  rw [e1, partK_snoc, h]; rfl
theorem partB_first {es : List Em} {e : Em} (he : es[0]? = some e) (h : e.nt = true) : partB true es = false := by
  cases es with
  | nil => simp at he
  | cons x es => simp at he; subst he; simp [partB, h]
theorem partB_last {es : List Em} {e : Em} (he : es[es.length - 1]? = some e) (h : e.nt = true) : partB true es = false := by
  have hi : es.length - 1 < es.length := (List.getElem?_eq_some_iff.1 he).1
  have e1 : es = es.take (es.length - 1) ++ [e] := by
    conv => lhs; rw [← List.take_length (l := es), show es.length = es.length - 1 + 1 by omega, List.take_succ_eq_append_getElem hi]
    simp [List.getElem?_eq_getElem hi] at he; rw [he]
  rw [partB_of, e1, partK_snoc]
  cases partK true (es.take (es.length - 1)) with
  | none => rfl
  | some m => cases m <;> simp [h]
/-- What the document asks of the element at i, ahead of its types and its condition. -/
def headB (es : List Em) (i : Nat) (e : Em) : Bool := nameB e.al.1 && !anyAl (es.take i) e.al.1 && decide (1 ≤ e.ts.length) && decide (e.ts.length ≤ 3) && riseB (e.ts.map (·.1)) && !(e.pl && e.nt) && !(decide (0 < i) && e.nt && ntAt es i)
theorem headB_no {es : List Em} {i : Nat} {e : Em} (he : es[i]? = some e) (hp : partK true (es.take i) = some (ntAt es i)) (h : headB es i e = false) : rowB es = false := by
  have hi : i < es.length := (List.getElem?_eq_some_iff.1 he).1
  have key : rowAt es i = false ∨ (decide (0 < i) && e.nt && ntAt es i) = true := by
    have e1 : rowAt es i = (elemB e && !anyAl (es.take i) e.al.1) := by rw [rowAt, he]
    rw [e1, elemB, typesB]
    unfold headB at h
    revert h
    cases nameB e.al.1 <;> cases anyAl (es.take i) e.al.1 <;> cases decide (1 ≤ e.ts.length) <;> cases decide (e.ts.length ≤ 3) <;> cases riseB (e.ts.map (·.1)) <;> cases (e.pl && e.nt) <;> simp
    intro h1 h2 h3
    exact .inr ⟨⟨h1, h2⟩, h3⟩
  rcases key with h1 | h1
  · unfold rowB; rw [rowTo_no es i hi h1, Bool.and_false]
  · apply rowB_part
    apply partK_no true es (i + 1)
    rw [partK_take es i e he hp]
    simp only [Bool.and_eq_true, decide_eq_true_eq] at h1
    rw [if_pos (by rw [h1.1.2, h1.2]; rfl)]
/-- The rest that is asked of an element. -/
def tailB (e : Em) : Bool := !anyNo e.ts && (sameT e.t (.mk d0 []) || isT e.t)
theorem row_step {es : List Em} {i : Nat} {e : Em} (he : es[i]? = some e) (h : headB es i e = true) : rowAt es i = tailB e := by
  have e1 : rowAt es i = (elemB e && !anyAl (es.take i) e.al.1) := by rw [rowAt, he]
  rw [e1, elemB, typesB, tailB]
  unfold headB at h
  revert h
  cases nameB e.al.1 <;> cases anyAl (es.take i) e.al.1 <;> cases decide (1 ≤ e.ts.length) <;> cases decide (e.ts.length ≤ 3) <;> cases riseB (e.ts.map (·.1)) <;> cases (e.pl && e.nt) <;> simp
theorem part_step {es : List Em} {i : Nat} {e : Em} (he : es[i]? = some e) (h0 : ∀ x, es[0]? = some x → x.nt = false) (hp : partK true (es.take i) = some (ntAt es i)) (h : headB es i e = true) : partK true (es.take (i + 1)) = some (ntAt es (i + 1)) := by
  rw [partK_take es i e he hp]
  have e2 : ntAt es (i + 1) = e.nt := by simp [ntAt, he]
  rw [e2]
  have hn : (ntAt es i && e.nt) = false := by
    cases i with
    | zero => rw [h0 e he, Bool.and_false]
    | succ k =>
      unfold headB at h
      simp only [Bool.and_eq_true, Bool.not_eq_true', decide_eq_true_eq] at h
      have := h.2
      simp only [Nat.succ_pos, decide_true, Bool.true_and] at this
      rw [Bool.and_comm]; exact this
  rw [hn]; rfl
theorem part_done {es : List Em} (hne : 0 < es.length) (hl : ∀ x, es[es.length - 1]? = some x → x.nt = false) (hp : partK true es = some (ntAt es es.length)) : partB true es = true := by
  rw [partB_of, hp]
  obtain ⟨k, hk⟩ : ∃ k, es.length = k + 1 := ⟨es.length - 1, by omega⟩
  rw [hk] at hl ⊢
  have hx : es[k]? = some es[k] := List.getElem?_eq_getElem (by omega)
  have := hl es[k] (by rw [Nat.add_sub_cancel]; exact hx)
  simp [ntAt, hx, this]

set_option maxRecDepth 100000 in
set_option maxHeartbeats 8000000 in
theorem refPat_c (q : Pt) (a : Option Addr) (cap : Nat) (w : World) (hE : Ems w.heap.size w a q.es) :
    Calls Tryz.prog 16 #[q.v a cap] w fun r w' => r = .returned (.bool (patB q)) ∧ Below w.heap.size w w' := by
  obtain ⟨W, hW⟩ : ∃ W, W = w.alloc (.cells (q.cs a cap) 36) := ⟨_, rfl⟩
  have bW : Below w.heap.size w W := by rw [hW]; exact (Below.refl _ _).alloc (Nat.le_refl _) _
  have xb : Box W w.heap.size 36 (q.cs a cap) := by rw [hW]; exact Box.new _ _ _
  have hlen := hE.1
  have hEW := hE.on bW
  obtain ⟨h0, h1, h2, h3⟩ := xb.four
  have hnm := q.nm.2
  obtain ⟨es, wi, nm, any⟩ := q
  simp only at hE hlen h0 h1 h2 h3 hEW hnm
  replace hE := hide hE
  go_enter Tryz.func16, Tryz.ntmps16
  go_upto_region 1 with fail
  rw [show Obj.cells #[Value.slice a es.length cap, .int .i64 wi, .string nm.1, .bool any] 36 = Obj.cells (Pt.cs ⟨es, wi, nm, any⟩ a cap) 36 from rfl, ← hW]
  clear hW
  by_cases c1 : 1 ≤ es.length
  case neg =>
    have e0 : es = [] := List.eq_nil_of_length_eq_zero (by omega)
    have H := hide (show patB ⟨es, wi, nm, any⟩ = false from patB_row (by simp only; rw [e0]; rfl))
    have e1 : (es.length : Int) < 1 := by omega
    clear c1 e0
    replace hEW := hide hEW
    go_wp2_with fail
    go_ret
    exact ⟨by rw [unhide H]; rfl, bW⟩
  have e1 : ¬ (es.length : Int) < 1 := by omega
  by_cases c2 : es.length ≤ 5
  case neg =>
    have H := hide (show patB ⟨es, wi, nm, any⟩ = false from patB_row (by simp only [rowB]; rw [decide_eq_false c2]; rfl))
    have e2 : (5 : Int) < es.length := by omega
    clear c2
    replace hEW := hide hEW
    go_wp2_with fail
    go_ret
    exact ⟨by rw [unhide H]; rfl, bW⟩
  have e2 : ¬ (5 : Int) < es.length := by omega
  by_cases c3 : 0 ≤ wi
  case neg =>
    have H := hide (show patB ⟨es, wi, nm, any⟩ = false by simp [patB, c3])
    have e3 : wi < 0 := by omega
    clear c3
    replace hEW := hide hEW
    go_wp2_with fail
    go_ret
    exact ⟨by rw [unhide H]; rfl, bW⟩
  have e3 : ¬ wi < 0 := by omega
  by_cases c4 : wi ≤ 1000
  case neg =>
    have H := hide (show patB ⟨es, wi, nm, any⟩ = false by simp [patB, c4])
    have e4 : 1000 < wi := by omega
    clear c4
    replace hEW := hide hEW
    go_wp2_with fail
    go_ret
    exact ⟨by rw [unhide H]; rfl, bW⟩
  have e4 : ¬ 1000 < wi := by omega
  obtain ⟨ef, hef⟩ : ∃ e, es[0]? = some e := ⟨_, List.getElem?_eq_getElem (by omega)⟩
  obtain ⟨el, hel⟩ : ∃ e, es[es.length - 1]? = some e := ⟨_, List.getElem?_eq_getElem (by omega)⟩
  obtain ⟨b, off, pf, ea, hbn, hcf, -⟩ := hEW.at hef
  obtain ⟨b', off', pl, ea', -, hcl, -⟩ := hEW.at hel
  rw [ea] at ea'
  simp only [Option.some.injEq, Addr.mk.injEq] at ea'
  obtain ⟨rfl, rfl, -⟩ := ea'
  have f3 := hcf 3 (.bool ef.nt) rfl
  have l3 := hcl 3 (.bool el.nt) rfl
  rw [Nat.zero_mul, Nat.add_zero] at f3
  have Hf := hide hef
  have Hl := hide hel
  clear hef hel hcf hcl
  replace hEW := hide hEW
  subst ea
  have HP := hide (show (decide (0 ≤ wi) && decide (wi ≤ 1000)) = true by simp [c3, c4])
  clear c3 c4
  go_upto_region 2 with fail
  go_cut [52] (fun v wx => ∃ G : Bool, v = .bool G ∧ wx = W ∧ Hid (G = false → (nm.1.toList.isEmpty || nameB nm.1) = true ∧ ef.nt = false ∧ el.nt = false) ∧ Hid (G = true → patB ⟨es, wi, nm, any⟩ = false))
  case first =>
    have hk1 : (0 : Int) < es.length := by omega
    have hk2 : ((es.length : Int) - 1).toNat = es.length - 1 := by omega
    have hk3 : (es.length : Int) - 1 < es.length := by omega
    have hk4 : (0 : Int) ≤ (es.length : Int) - 1 := by omega
    have hn3 : ∀ x : List UInt8, (x == []) = x.isEmpty := fun x => by cases x <;> rfl
    have fin : ∀ (nmB : Bool), (nm.1.toList.isEmpty || nameB nm.1) = nmB → nmB = true → (ef.nt = true → patB ⟨es, wi, nm, any⟩ = false) ∧ (ef.nt = false → el.nt = true → patB ⟨es, wi, nm, any⟩ = false) := fun _ _ _ =>
      ⟨fun h => patB_row (rowB_part (partB_first (unhide Hf) h)), fun _ h => patB_row (rowB_part (partB_last (unhide Hl) h))⟩
    cases hne : nm.1.toList.isEmpty
    · have hne2 : (nm.1.toList == []) = false := by rw [hn3, hne]
      have cN : ∀ W, Calls Tryz.prog 35 #[.string nm.1] W fun e w' => e = .returned (.bool (nameB nm.1)) ∧ w' = W := fun W => refName_c nm.1 W hnm
      clear hn3
      cases hN : nameB nm.1
      · have H := hide (show patB ⟨es, wi, nm, any⟩ = false by simp only [patB]; rw [hne, hN, Bool.or_false, Bool.and_false])
        rw [hN] at cN
        clear hN fin
        go_wp2_with (go_at_call 35; refine (cN _).mono ?_; rintro e w4 ⟨rfl, rfl⟩)
        go_meet
        case rel => exact ⟨true, rfl, rfl, hide (fun h => by cases h), hide (fun _ => unhide H)⟩
      · obtain ⟨F1, F2⟩ := fin true (by rw [hne, hN]; rfl) rfl
        have HN := hide (show (nm.1.toList.isEmpty || nameB nm.1) = true by rw [hne, hN]; rfl)
        rw [hN] at cN
        clear hN fin
        replace F1 := hide F1
        replace F2 := hide F2
        cases c6 : ef.nt
        · rw [c6] at f3
          have K6 := hide c6
          cases c7 : el.nt
          · rw [c7] at l3
            have K7 := hide c7
            go_wp2_with (go_at_call 35; refine (cN _).mono ?_; rintro e w4 ⟨rfl, rfl⟩)
            go_meet
            case rel => exact ⟨false, rfl, rfl, hide (fun _ => ⟨unhide HN, unhide K6, unhide K7⟩), hide (fun h => by cases h)⟩
          · rw [c7] at l3
            have K7 := hide c7
            go_wp2_with (go_at_call 35; refine (cN _).mono ?_; rintro e w4 ⟨rfl, rfl⟩)
            go_meet
            case rel => exact ⟨true, rfl, rfl, hide (fun h => by cases h), hide (fun _ => unhide F2 (unhide K6) (unhide K7))⟩
        · rw [c6] at f3
          have K6 := hide c6
          go_wp2_with (go_at_call 35; refine (cN _).mono ?_; rintro e w4 ⟨rfl, rfl⟩)
          go_meet
          case rel => exact ⟨true, rfl, rfl, hide (fun h => by cases h), hide (fun _ => unhide F1 (unhide K6))⟩
    · have hne2 : (nm.1.toList == []) = true := by rw [hn3, hne]
      clear hn3
      obtain ⟨F1, F2⟩ := fin true (by rw [hne]; rfl) rfl
      have HN := hide (show (nm.1.toList.isEmpty || nameB nm.1) = true by rw [hne]; rfl)
      clear fin
      replace F1 := hide F1
      replace F2 := hide F2
      cases c6 : ef.nt
      · rw [c6] at f3
        have K6 := hide c6
        cases c7 : el.nt
        · rw [c7] at l3
          have K7 := hide c7
          go_wp2_with fail
          go_meet
          case rel => exact ⟨false, rfl, rfl, hide (fun _ => ⟨unhide HN, unhide K6, unhide K7⟩), hide (fun h => by cases h)⟩
        · rw [c7] at l3
          have K7 := hide c7
          go_wp2_with fail
          go_meet
          case rel => exact ⟨true, rfl, rfl, hide (fun h => by cases h), hide (fun _ => unhide F2 (unhide K6) (unhide K7))⟩
      · rw [c6] at f3
        have K6 := hide c6
        go_wp2_with fail
        go_meet
        case rel => exact ⟨true, rfl, rfl, hide (fun h => by cases h), hide (fun _ => unhide F1 (unhide K6))⟩
  case rest =>
  obtain ⟨G, rfl, rfl, hG0, hG1⟩ := hcut
  obtain ⟨V0, eV0⟩ : ∃ V0, V0 = wc := ⟨_, rfl⟩
  subst eV0
  clear e1 e2 e3 e4 f3 l3
  cases G
  case true =>
    have H := hide (unhide hG1 rfl)
    go_wp2_with fail
    go_ret
    exact ⟨by rw [unhide H]; rfl, bW⟩
  obtain ⟨hG2, hG3, hG4⟩ := unhide hG0 rfl
  have HQ := hide (show patB ⟨es, wi, nm, any⟩ = rowB es by simp only [patB]; rw [hG2, Bool.and_assoc (rowB es), unhide HP, Bool.and_true, Bool.and_true])
  have H0 := hide (show ∀ x, es[0]? = some x → x.nt = false from fun x hx => by rw [unhide Hf] at hx; cases hx; exact hG3)
  have HL := hide (show ∀ x, es[es.length - 1]? = some x → x.nt = false from fun x hx => by rw [unhide Hl] at hx; cases hx; exact hG4)
  clear hG0 hG1 hG2 hG3 hG4 HP Hf Hl
  go_upto_region 4 with fail
  go_wp2_with fail
  go_loopw [4] (fun vi wr => ∃ i : Nat, i ≤ es.length ∧ vi = .int .i64 i ∧ Hid (rowTo es i = true) ∧ Hid (partK true (es.take i) = some (ntAt es i)) ∧ Below V0.heap.size V0 wr) (fun vi _ => es.length - (intOf vi).toNat)
  case atStart => exact ⟨0, Nat.zero_le _, rfl, hide rfl, hide rfl, Below.refl _ _⟩
  case round =>
    obtain ⟨i, hi, rfl, hrow, hpart, hB⟩ := hrel
    obtain ⟨Wr, eWr⟩ : ∃ Wr, Wr = wr := ⟨_, rfl⟩
    subst eWr
    have xr := xb.on hB xb.lt
    have br : Below w.heap.size w Wr := bW.trans (hB.mono bW.size)
    clear h0 h1 h2 h3
    obtain ⟨h0, h1, h2, h3⟩ := xr.four
    by_cases hlt : i < es.length
    · obtain ⟨e, he⟩ : ∃ e, es[i]? = some e := ⟨_, List.getElem?_eq_getElem hlt⟩
      have hEr := (unhide hEW).on hB
      obtain ⟨b2, off2, p, ea2, hbn2, hcs, hin⟩ := hEr.at he
      simp only [Option.some.injEq, Addr.mk.injEq] at ea2
      obtain ⟨rfl, rfl, -⟩ := ea2
      have hd0 := hcs 0 _ rfl
      have hd1 := hcs 1 _ rfl
      have hd2 := hcs 2 _ rfl
      have hd3 := hcs 3 _ rfl
      have hd4 := hcs 4 _ rfl
      have hd5 := hcs 5 _ rfl
      have hd6 := hcs 6 _ rfl
      have hd7 := hcs 7 _ rfl
      have hd8 := hcs 8 _ rfl
      have hd9 := hcs 9 _ rfl
      have hd10 := hcs 10 _ rfl
      rw [Nat.add_zero] at hd0
      clear hcs
      have hkl : (i : Int) < es.length := by omega
      have hk0 : (0 : Int) ≤ i := by omega
      have He := hide he
      clear he
      replace hEr := hide hEr
      replace hin := hide hin
      have HPV := hide (show ∀ k, i = k + 1 → Wr.cell? ⟨b, off + k * 11 + 3, none⟩ = some (.bool (ntAt es i)) from fun k hk => by
        subst hk
        obtain ⟨x, hx⟩ : ∃ x, es[k]? = some x := ⟨_, List.getElem?_eq_getElem (by omega)⟩
        obtain ⟨b3, off3, p3, ea3, -, hc3, -⟩ := (unhide hEr).at hx
        simp only [Option.some.injEq, Addr.mk.injEq] at ea3
        obtain ⟨rfl, rfl, -⟩ := ea3
        have e1 : ntAt es (k + 1) = x.nt := by simp [ntAt, hx]
        rw [e1]; exact hc3 3 (.bool x.nt) rfl)
      obtain ⟨eal, ets, epl, ent, ⟨td, tk⟩⟩ := e
      go_upto_region 8 with fail
      obtain ⟨Wi, hWi⟩ : ∃ Wi, Wi = Wr.alloc (.cells (Em.cs ⟨eal, ets, epl, ent, .mk td tk⟩ p) 55) := ⟨_, rfl⟩
      have bi : Below Wr.heap.size Wr Wi := by rw [hWi]; exact (Below.refl _ _).alloc (Nat.le_refl _) _
      have xi : Box Wi Wr.heap.size 55 (Em.cs ⟨eal, ets, epl, ent, .mk td tk⟩ p) := by rw [hWi]; exact Box.new _ _ _
      rw [show Obj.cells #[Value.string eal.1, .slice p.ta ets.length p.tc, .bool epl, .bool ent, .int .i64 td.op, .int .i64 td.k, .int .i64 td.n, .string td.s.1, .string td.al.1, .string td.fd.1, .slice p.ka tk.length p.kc] 55 = Obj.cells (Em.cs ⟨eal, ets, epl, ent, .mk td tk⟩ p) 55 from rfl, ← hWi]
      clear hWi hd0 hd1 hd2 hd3 hd4 hd5 hd6 hd7 hd8 hd9 hd10
      have HPVi := hide (show ∀ k, i = k + 1 → Wi.cell? ⟨b, off + k * 11 + 3, none⟩ = some (.bool (ntAt es i)) from fun k hk => (bi.cell (p := ⟨b, off + k * 11 + 3, none⟩) hbn2).trans (unhide HPV k hk))
      have hbi : b < Wi.heap.size := Nat.lt_of_lt_of_le hbn2 bi.size
      clear HPV
      have hini := (unhide hin).on bi
      have hEi := (unhide hEr).on bi
      have yi := xr.on bi xr.lt
      have bEi : Below V0.heap.size V0 Wi := hB.trans (bi.mono hB.size)
      obtain ⟨d0', d1, d2, d3, -, -, -, -, -, -, -⟩ := xi.eleven
      obtain ⟨g0, -, -, -⟩ := yi.four
      have hal := eal.2
      obtain ⟨qN, hqN⟩ : ∃ x, x = nameB eal.1 := ⟨_, rfl⟩
      obtain ⟨qA, hqA⟩ : ∃ x, x = anyAl (es.take i) eal.1 := ⟨_, rfl⟩
      obtain ⟨qR, hqR⟩ : ∃ x, x = riseB (ets.map (·.1)) := ⟨_, rfl⟩
      obtain ⟨an, han⟩ : ∃ x, x = aliasN es eal.1 := ⟨_, rfl⟩
      have eA : (an != (i : Int)) = qA := by rw [han, hqA]; exact aliasN_own (unhide He)
      have cN : ∀ W, Calls Tryz.prog 35 #[.string eal.1] W fun r w' => r = .returned (.bool qN) ∧ w' = W := fun W => by rw [hqN]; exact refName_c eal.1 W hal
      have cA := hide (refAlias_c (some ⟨b, off, none⟩) cap eal.1 es Wi hEi)
      rw [← han] at cA
      have hT1 := hini.1.1
      have cR := hide (fun h3 : ets.length ≤ 3 => refRise17 p.ta ets.length p.tc (ets.map (·.1)) (by rw [List.length_map]; omega) Wi (hini.1.strs p.tc))
      rw [← hqR] at cR
      have HB := hide (show headB es i ⟨eal, ets, epl, ent, .mk td tk⟩ = (qN && !qA && decide (1 ≤ ets.length) && decide (ets.length ≤ 3) && qR && !(epl && ent) && !(decide (0 < i) && ent && ntAt es i)) by rw [hqN, hqA, hqR]; rfl)
      clear hqN hqA hqR han
      replace hini := hide hini
      replace hEi := hide hEi
      go_cut [118] (fun v wx => ∃ G : Bool, v = .bool G ∧ Below Wi.heap.size Wi wx ∧ Hid (G = !headB es i ⟨eal, ets, epl, ent, .mk td tk⟩))
      case first =>
        go_wp2_with fail
        refine (cN _).mono ?_
        rintro r w4 ⟨rfl, rfl⟩
        clear cN
        cases qN
        · go_wp2_with fail
          go_meet
          case rel => exact ⟨true, rfl, Below.refl _ _, hide (by rw [unhide HB]; rfl)⟩
        go_wp2_with fail
        refine (unhide cA).mono ?_
        rintro r w4 ⟨rfl, rfl⟩
        clear cA
        cases qA
        case true =>
          go_wp2_with fail
          go_meet
          case rel => exact ⟨true, rfl, Below.refl _ _, hide (by rw [unhide HB]; rfl)⟩
        by_cases c5 : 1 ≤ ets.length
        case neg =>
          have e5 : decide ((ets.length : Int) < 1) = true := by simp; omega
          have HG := hide (show headB es i ⟨eal, ets, epl, ent, .mk td tk⟩ = false by rw [unhide HB, decide_eq_false c5]; rfl)
          clear c5
          go_wp2_with fail
          go_meet
          case rel => exact ⟨true, rfl, Below.refl _ _, hide (by rw [unhide HG]; rfl)⟩
        have e5 : decide ((ets.length : Int) < 1) = false := by simp; omega
        by_cases c6 : ets.length ≤ 3
        case neg =>
          have e6 : decide ((3 : Int) < ets.length) = true := by simp; omega
          have HG := hide (show headB es i ⟨eal, ets, epl, ent, .mk td tk⟩ = false by rw [unhide HB, decide_eq_false c6, Bool.and_false]; rfl)
          clear c5 c6
          go_wp2_with fail
          go_meet
          case rel => exact ⟨true, rfl, Below.refl _ _, hide (by rw [unhide HG]; rfl)⟩
        have e6 : decide ((3 : Int) < ets.length) = false := by simp; omega
        have HG := hide (show headB es i ⟨eal, ets, epl, ent, .mk td tk⟩ = (qR && !(epl && ent) && !(decide (0 < i) && ent && ntAt es i)) by rw [unhide HB, decide_eq_true c5, decide_eq_true c6]; rfl)
        have cR3 := hide (unhide cR c6)
        clear c5 c6 HB cR
        go_wp2_with fail
        refine (unhide cR3).mono ?_
        rintro r w5 ⟨rfl, hb5⟩
        clear cR3 d0' d1 d2 d3 g0
        have x5 := xi.on hb5 xi.lt
        have y5 := yi.on hb5 yi.lt
        obtain ⟨d0', d1, d2, d3, -, -, -, -, -, -, -⟩ := x5.eleven
        obtain ⟨g0, -, -, -⟩ := y5.four
        have HPV5 := hide (show ∀ k, i = k + 1 → w5.cell? ⟨b, off + k * 11 + 3, none⟩ = some (.bool (ntAt es i)) from fun k hk => (hb5.cell (p := ⟨b, off + k * 11 + 3, none⟩) hbi).trans (unhide HPVi k hk))
        clear HPVi
        cases qR
        · clear HPV5
          go_wp2_with fail
          go_meet
          case rel => exact ⟨true, rfl, hb5, hide (by rw [unhide HG]; rfl)⟩
        cases ent
        · cases epl
          all_goals
            clear HPV5
            cases i with
            | zero =>
              go_wp2_with fail
              go_meet
              case rel => exact ⟨false, rfl, hb5, hide (by rw [unhide HG]; rfl)⟩
            | succ k =>
              have e7 : (0 : Int) < ((k + 1 : Nat) : Int) := by omega
              have HG2 := hide (show headB es (k + 1) _ = true from (unhide HG).trans (by simp))
              clear HG
              go_wp2_with fail
              go_meet
              case rel => exact ⟨false, rfl, hb5, hide (by rw [unhide HG2]; rfl)⟩
        cases epl
        case true =>
          clear HPV5
          go_wp2_with fail
          go_meet
          case rel => exact ⟨true, rfl, hb5, hide (by rw [unhide HG]; rfl)⟩
        cases i with
        | zero =>
          clear HPV5
          go_wp2_with fail
          go_meet
          case rel => exact ⟨false, rfl, hb5, hide (by rw [unhide HG]; rfl)⟩
        | succ k =>
          have hp := unhide HPV5 k rfl
          obtain ⟨pv, hpv⟩ : ∃ x, x = ntAt es (k + 1) := ⟨_, rfl⟩
          have HG2 := hide (show headB es (k + 1) _ = !pv from (unhide HG).trans (by rw [hpv]; simp))
          rw [← hpv] at hp
          clear HG HPV5 hpv
          have e7 : (0 : Int) < ((k + 1 : Nat) : Int) := by omega
          have e8 : ((k + 1 : Nat) : Int) - 1 = (k : Int) := by omega
          have e9 : (k : Int) < es.length := by omega
          have e10 : (0 : Int) ≤ k := by omega
          go_wp2_with fail
          go_meet
          case rel => exact ⟨pv, rfl, hb5, hide (by rw [unhide HG2]; simp)⟩
      case rest =>
      obtain ⟨G, rfl, bx, hG⟩ := hcut
      have xw := xi.on bx xi.lt
      have yw := yi.on bx yi.lt
      have bEw : Below V0.heap.size V0 wc := bEi.trans (bx.mono bEi.size)
      have bww : Below w.heap.size w wc := bW.trans (bEw.mono bW.size)
      have hinw := (unhide hini).on bx
      clear hini hEi hin hEr d0' d1 d2 d3 g0 h0 h1 h2 h3 eA cN cA cR HB HPVi xi yi bi bEi
      cases G
      case true =>
        have H := hide (show patB ⟨es, wi, nm, any⟩ = false from (unhide HQ).trans (headB_no (unhide He) (unhide hpart) (by have := unhide hG; simpa using this)))
        replace hinw := hide hinw
        go_wp2_with fail
        go_ret
        exact ⟨by rw [unhide H]; rfl, bww⟩
      have HH := hide (show headB es i ⟨eal, ets, epl, ent, .mk td tk⟩ = true by have := unhide hG; simpa using this)
      clear hG
      have HT := hide (show rowTo es (i + 1) = tailB ⟨eal, ets, epl, ent, .mk td tk⟩ by rw [rowTo_succ, unhide hrow, Bool.true_and, row_step (unhide He) (unhide HH)])
      have Hno := hide (fun h : tailB ⟨eal, ets, epl, ent, .mk td tk⟩ = false => show patB ⟨es, wi, nm, any⟩ = false from (unhide HQ).trans (by
        unfold rowB; rw [rowTo_no es i hlt ((row_step (unhide He) (unhide HH)).trans h), Bool.and_false]))
      obtain ⟨d0', d1, d2, d3, d4, d5, d6, d7, d8, d9, d10⟩ := xw.eleven
      replace hinw := hide hinw
      go_upto_region 10 with fail
      have hle : ets.length ≤ 3 := by
        have := unhide HH
        unfold headB at this
        simp only [Bool.and_eq_true, decide_eq_true_eq] at this
        exact this.1.1.1.2
      go_wp2_with fail
      go_loop [6] (fun vk => ∃ k : Nat, k ≤ ets.length ∧ vk = .int .i64 k ∧ Hid (anyNo (ets.take k) = false)) (fun vk => ets.length - (intOf vk).toNat)
      case atStart => exact ⟨0, Nat.zero_le _, rfl, hide (by simp [anyNo])⟩
      case round =>
        obtain ⟨k, hk, rfl, hp⟩ := hrel
        by_cases hkt : k < ets.length
        · obtain ⟨t, ht⟩ : ∃ t, ets[k]? = some t := ⟨_, List.getElem?_eq_getElem hkt⟩
          have htk := hide (show anyNo (ets.take (k + 1)) = !nameB t.1 by
            have e1 : ets.take (k + 1) = ets.take k ++ [t] := by rw [List.take_succ_eq_append_getElem hkt]; simp [List.getElem?_eq_getElem hkt] at ht; rw [ht]
            have := unhide hp
            unfold anyNo at this ⊢
            rw [e1, List.any_append, this]; simp)
          have hmem := hide (List.mem_of_getElem? ht)
          rcases (unhide hinw).1.2 with h | ⟨b4, off4, ea4, hb4, hc4⟩
          · exfalso; replace h : ets = [] := h; rw [h] at hkt; simp at hkt
          have hct := hc4 k t ht
          replace ea4 : p.ta = some ⟨b4, off4, none⟩ := ea4
          clear hc4 ht
          rw [ea4] at d1
          have cN : ∀ W, Calls Tryz.prog 35 #[.string t.1] W fun r w' => r = .returned (.bool (nameB t.1)) ∧ w' = W := fun W => refName_c t.1 W t.2
          obtain ⟨qT, hqT⟩ : ∃ x, x = nameB t.1 := ⟨_, rfl⟩
          rw [← hqT] at cN htk
          have hk1 : (k : Int) < ets.length := by omega
          have hk2 : (0 : Int) ≤ k := by omega
          have hk3 : (k : Int) + 1 ≤ 3 := by omega
          have HqT := hide hqT
          clear hqT
          cases qT
          · have H := hide (show patB ⟨es, wi, nm, any⟩ = false from unhide Hno (by
              unfold tailB
              have : anyNo ets = true := List.any_eq_true.2 ⟨t, unhide hmem, by rw [← unhide HqT]; rfl⟩
              simp only
              rw [this]; rfl))
            go_wp2_with (go_at_call 35; refine (cN _).mono ?_; rintro r w4 ⟨rfl, rfl⟩)
            go_ret
            exact ⟨by rw [unhide H]; rfl, bww⟩
          · go_wp2_with (go_at_call 35; refine (cN _).mono ?_; rintro r w4 ⟨rfl, rfl⟩)
            go_round
            case rel => exact ⟨k + 1, by omega, by go_num, htk⟩
            case measure => simp [intOf]; omega
        · have hke := hide (show anyNo ets = false by
            have := unhide hp
            rwa [List.take_of_length_le (by omega)] at this)
          have hn' : ¬ (k : Int) < ets.length := by omega
          have hLw : Lies wc.heap.size wc p.ka tk := (unhide hinw).2
          have cS := hide (refSame_c td d0 p.kc 0 p.ka none tk [] wc hLw (Lies.nil none))
          obtain ⟨qS, hqS⟩ : ∃ x, x = sameT (.mk td tk) (.mk d0 []) := ⟨_, rfl⟩
          rw [← hqS] at cS
          have HqS := hide hqS
          clear hqS
          replace hLw := hide hLw
          go_wp2_with fail
          refine (unhide cS).mono ?_
          rintro r w6 ⟨rfl, hb6⟩
          clear cS
          have x6 := xw.on hb6 xw.lt
          have bE6 : Below V0.heap.size V0 w6 := bEw.trans (hb6.mono bEw.size)
          clear d0' d1 d2 d3 d4 d5 d6 d7 d8 d9 d10
          obtain ⟨d0', d1, d2, d3, d4, d5, d6, d7, d8, d9, d10⟩ := x6.eleven
          have HP2 := hide (part_step (unhide He) (unhide H0) (unhide hpart) (unhide HH))
          cases qS
          case true =>
            have HT2 := hide (show rowTo es (i + 1) = true by rw [unhide HT, tailB]; simp only; rw [unhide hke, ← unhide HqS]; rfl)
            go_wp2_with fail
            exact ⟨⟨i + 1, by omega, by go_num, HT2, HP2, bE6⟩, by simp [intOf]; omega⟩
          have cI := hide (refIsE_c td p.kc p.ka tk w6 ((unhide hLw).on hb6))
          obtain ⟨qI, hqI⟩ : ∃ x, x = isT (.mk td tk) := ⟨_, rfl⟩
          rw [← hqI] at cI
          have HqI := hide hqI
          clear hqI
          go_wp2_with fail
          refine (unhide cI).mono ?_
          rintro r w7 ⟨rfl, hb7⟩
          clear cI
          have bE7 : Below V0.heap.size V0 w7 := bE6.trans (hb7.mono bE6.size)
          cases qI
          · have H := hide (show patB ⟨es, wi, nm, any⟩ = false from unhide Hno (by unfold tailB; simp only; rw [← unhide HqS, ← unhide HqI]; simp))
            go_wp2_with fail
            go_ret
            exact ⟨by rw [unhide H]; rfl, bW.trans (bE7.mono bW.size)⟩
          · have HT2 := hide (show rowTo es (i + 1) = true by rw [unhide HT, tailB]; simp only; rw [unhide hke, ← unhide HqS, ← unhide HqI]; rfl)
            go_wp2_with fail
            exact ⟨⟨i + 1, by omega, by go_num, HT2, HP2, bE7⟩, by simp [intOf]; omega⟩
    · obtain rfl : i = es.length := by omega
      have H := hide (show patB ⟨es, wi, nm, any⟩ = true by
        rw [unhide HQ]
        have h1 := unhide hpart
        rw [List.take_length] at h1
        unfold rowB
        rw [decide_eq_true c2, part_done (by omega) (unhide HL) h1, unhide hrow]; rfl)
      have hn' : ¬ (es.length : Int) < es.length := by omega
      go_wp2_with fail
      go_ret
      exact ⟨by rw [unhide H]; rfl, br⟩

end Go.Proofs.YtmhpakhnclkenaaGreatDoor

namespace Go.Proofs.YtmhpakhnclkenaaGreatDoor
open Go.RowKit Go.Shelf

/-- Every node's number is one of 64 bits. -/
inductive Bnd : Tree → Prop
  | mk (d : Dat) (ks : List Tree) (h0 : -9223372036854775808 ≤ d.n) (h1 : d.n ≤ 9223372036854775807) (hk : ∀ (j : Nat) t, ks[j]? = some t → Bnd t) : Bnd (.mk d ks)
theorem shapedL_at {n : Nat} {ts : List Tree} (h : shapedL n ts = true) : ∀ (j : Nat) t, ts[j]? = some t → shapedT n t = true := by
  induction ts with
  | nil => intro j t ht; simp at ht
  | cons x ts ih =>
    rw [shapedL, Bool.and_eq_true] at h
    intro j t ht
    cases j with
    | zero => simp at ht; subst ht; exact h.1
    | succ j => exact ih h.2 j t (by simpa using ht)
theorem shaped_snd {t : Tree} (hb : Bnd t) : ∀ n, shapedT n t = true → Snd t := by
  induction hb with
  | mk d ks h0 h1 hk ih =>
    intro n h
    rw [shapedT, Bool.and_eq_true, Bool.and_eq_true] at h
    exact .mk d ks h.1.2 h0 h1 fun j t ht => ih j t ht (n + 1) (shapedL_at h.2 j t ht)
theorem isT_snd {t : Tree} (hb : Bnd t) (h : isT t = true) : Snd t := by
  rw [isT_shaped, Bool.and_eq_true] at h
  exact shaped_snd hb 1 h.1

theorem lit_len (k n : Int) (s : ByteArray) (h0 : -9223372036854775808 ≤ n) (h1 : n ≤ 9223372036854775807) (h : isB k n s = true) : (flatB (litP k n s)).length ≤ 50 := by
  unfold litP
  by_cases h2 : k = 2
  · rw [if_pos h2]
    have hs := isB_size h h2
    have he := esc_size s.data.toList
    rw [show s.data.toList.length = s.size from Array.length_toList ..] at he
    rw [flatB_append, flatB_append, List.length_append, List.length_append]
    have hq : (flatB [quB]).length = 1 := rfl
    omega
  · rw [if_neg h2]
    by_cases h3 : k = 3
    · rw [if_pos h3]; split <;> decide
    · rw [if_neg h3]
      have := decB_size n h0 h1
      rw [decB_itoa] at this
      have e : (flatB [⟨(Lib.itoa n).toArray⟩]).length = (itoaB n).size := by simp [flatB, itoaB]; rfl
      rw [e]; omega
theorem name_size {s : ByteArray} (h : nameB s = true) : s.size ≤ 8 := by
  unfold nameB at h
  simp only [Bool.and_eq_true, decide_eq_true_eq] at h
  have := h.1.2
  omega
theorem shaped_len {t : Tree} (hb : Bnd t) : ∀ n, shapedT n t = true → (flatB (condP t)).length ≤ 50 * 3 ^ (6 - n) := by
  induction hb with
  | mk d ks h0 h1 hk ih =>
    intro n h
    rw [shapedT, Bool.and_eq_true, Bool.and_eq_true, decide_eq_true_eq] at h
    obtain ⟨⟨h5, hs⟩, hks⟩ := h
    obtain ⟨ho1, ho12, hkn, hlit⟩ := sound_op hs
    have hK : ∀ (j : Nat) t, ks[j]? = some t → (flatB (condP t)).length ≤ 50 * 3 ^ (6 - (n + 1)) := fun j t ht => ih j t ht (n + 1) (shapedL_at hks j t ht)
    have hp : 1 ≤ 3 ^ (6 - (n + 1)) := Nat.one_le_pow _ _ (by decide)
    have e : 3 ^ (6 - n) = 3 ^ (6 - (n + 1)) * 3 := by rw [← Nat.pow_succ]; congr 1; omega
    rw [e, condP]
    generalize 3 ^ (6 - (n + 1)) = p at hK hp ⊢
    unfold condN
    by_cases q1 : d.op = 1
    · rw [if_pos q1]
      have := lit_len d.k d.n d.s.1 h0 h1 (hlit q1)
      omega
    rw [if_neg q1]
    by_cases q2 : d.op = 2
    · rw [if_pos q2]
      have hn : nameB d.al.1 = true ∧ nameB d.fd.1 = true := by
        unfold soundB at hs
        rw [if_neg q1, if_pos q2] at hs
        simp only [Bool.and_eq_true] at hs
        exact ⟨hs.2.1.2, hs.2.2⟩
      have ha := name_size hn.1
      have hf := name_size hn.2
      have e2 : (flatB [d.al.1, dotB, d.fd.1]).length = d.al.1.size + (1 + d.fd.1.size) := by simp [flatB]; omega
      rw [e2]; omega
    rw [if_neg q2]
    by_cases q12 : d.op = 12
    · rw [if_pos q12]
      obtain ⟨t0, rfl⟩ : ∃ t0, ks = [t0] := by
        rw [kidsN, if_pos q12] at hkn
        match ks, hkn with
        | [t0], _ => exact ⟨t0, rfl⟩
      have hk0 := hK 0 t0 rfl
      have e2 : (flatB [[notB], (condL [t0]).getD 0 [], [clB]].flatten).length = 5 + ((flatB (condP t0)).length + 1) := by simp [flatB, condL]; omega
      rw [e2]; omega
    · rw [if_neg q12]
      have h3 : 3 ≤ d.op := by omega
      have h11 : d.op ≤ 11 := by omega
      obtain ⟨t0, t1, rfl⟩ : ∃ t0 t1, ks = [t0, t1] := by
        rw [kidsN, if_neg q12, if_pos ⟨h3, h11⟩] at hkn
        match ks, hkn with
        | [t0, t1], _ => exact ⟨t0, t1, rfl⟩
      have hk0 := hK 0 t0 rfl
      have hk1 := hK 1 t1 rfl
      have hsg := sgB_size d.op.toNat (by omega) (by omega)
      have e2 : (flatB [[opB], (condL [t0, t1]).getD 0 [], [blB, sgB d.op.toNat, blB], (condL [t0, t1]).getD 1 [], [clB]].flatten).length = 1 + ((flatB (condP t0)).length + (1 + ((sgB d.op.toNat).size + (1 + ((flatB (condP t1)).length + 1))))) := by
        simp [flatB, condL]; omega
      rw [e2]; omega
theorem isT_len {t : Tree} (hb : Bnd t) (h : isT t = true) : (flatB (condP t)).length ≤ 12150 := by
  rw [isT_shaped, Bool.and_eq_true] at h
  exact shaped_len hb 1 h.1

/-- The text of a condition, as the document tells it. -/
def exprB (t : Tree) : ByteArray := if isT t then txtB (condP t) else ⟨#[]⟩
theorem exprB_yes {t : Tree} (h : isT t = true) : exprB t = txtB (condP t) := by unfold exprB; rw [if_pos h]
theorem exprB_no {t : Tree} (h : isT t = false) : exprB t = ⟨#[]⟩ := by unfold exprB; rw [h]; rfl

end Go.Proofs.YtmhpakhnclkenaaGreatDoor

namespace Go.Proofs.YtmhpakhnclkenaaGreatDoor
open Go.RowKit Go.Shelf

set_option maxRecDepth 100000 in
set_option maxHeartbeats 2000000 in
theorem faceV_c (k n : Int) (s : ByteArray) (h0 : -9223372036854775808 ≤ n) (h1 : n ≤ 9223372036854775807) (hs : s.size ≤ maxLen) (W : World) (hV : VarsS W) :
    Calls Tryz.prog 43 #[.agg #[.int .i64 k, .int .i64 n, .string s]] W fun r W' => r = .returned (.string (valB k n s)) ∧ Below W.heap.size W W' := by
  obtain ⟨W0, hW0⟩ : ∃ W0, W0 = W.alloc (.cells #[.int .i64 k, .int .i64 n, .string s] 24) := ⟨_, rfl⟩
  have b0 : Below W.heap.size W W0 := by rw [hW0]; exact (Below.refl _ _).alloc (Nat.le_refl _) _
  have x0 : Box W0 W.heap.size 24 #[.int .i64 k, .int .i64 n, .string s] := by rw [hW0]; exact Box.new _ _ _
  obtain ⟨c0, c1, c2⟩ := x0.three
  have cI := hide (is36 k n s W0 hs)
  obtain ⟨q, hq⟩ : ∃ q, q = isB k n s := ⟨_, rfl⟩
  rw [← hq] at cI
  replace hq := hide hq
  go_enter Tryz.func43, Tryz.ntmps43
  go_upto_region 1 with fail
  rw [← hW0]
  clear hW0
  go_wp2_with fail
  refine (unhide cI).mono ?_
  rintro e W1 ⟨rfl, hb1⟩
  have x1 := x0.on hb1 x0.lt
  have b1 := b0.trans (hb1.mono b0.size)
  clear c0 c1 c2 cI
  obtain ⟨c0, c1, c2⟩ := x1.three
  cases q
  · have H := hide (valB_no (unhide hq).symm)
    go_wp2_with fail
    go_ret
    exact ⟨by rw [unhide H]; rfl, b1⟩
  have H := hide (valB_yes (unhide hq).symm)
  have hln := hide (lit_len k n s h0 h1 (unhide hq).symm)
  have cL := hide (literal_c W1.heap.size k n s h0 h1 (fun e => Nat.le_trans (isB_size (unhide hq).symm e) (by decide)) W1 (Nat.le_refl _) (hV.on b1))
  go_wp2_with fail
  refine (unhide cL).mono ?_
  rintro e W2 ⟨u, rfl, hp, hb2⟩
  have cW := hide (whole_c W1.heap.size u (litP k n s) W2 hp (Nat.le_trans (unhide hln) (by decide)))
  have b2 := b1.trans (hb2.mono b1.size)
  clear cL hp
  go_wp2_with fail
  refine (unhide cW).mono ?_
  rintro e W3 ⟨rfl, hb3⟩
  go_wp2_with fail
  go_ret
  exact ⟨by rw [unhide H]; rfl, b2.trans (hb3.mono b2.size)⟩

theorem flat_len (pss : List (List ByteArray)) : (flatB pss.flatten).length = (pss.map fun ps => (flatB ps).length).sum := by
  induction pss with
  | nil => rfl
  | cons p pss ih => rw [List.flatten_cons, flatB_append, List.length_append, ih]; simp
theorem noneNo {ts : List Txt} (h : anyNo ts = false) : ∀ t ∈ ts, nameB t.1 = true := fun t ht => by
  unfold anyNo at h
  rw [List.any_eq_false] at h
  have := h t ht
  simpa using this
theorem same_zero {t : Tree} (h : sameT t (.mk d0 []) = true) : t.dat.op = 0 := by
  obtain ⟨d, ks⟩ := t
  rw [sameT, sameD] at h
  simp only [Bool.and_eq_true, decide_eq_true_eq] at h
  exact h.1.1.1.1
theorem elem_good {e : Em} (hb : Bnd e.t) (h : elemB e = true) : EGood e ∧ e.al.1.size ≤ 8 ∧ (flatB (askP e.t)).length ≤ 12152 := by
  unfold elemB typesB at h
  simp only [Bool.and_eq_true, decide_eq_true_eq, Bool.not_eq_true', Bool.or_eq_true] at h
  obtain ⟨⟨⟨hn, ⟨⟨h1, h3⟩, hr⟩, hno⟩, hpn⟩, ht⟩ := h
  have key : e.t.dat.op = 0 ∨ isT e.t = true := ht.imp same_zero id
  refine ⟨⟨key.imp id (isT_snd hb), ⟨h1, h3⟩, fun t ht => name_size (noneNo hno t ht)⟩, name_size hn, ?_⟩
  unfold askP
  by_cases h0 : e.t.dat.op = 0
  · rw [if_pos h0]; exact Nat.zero_le _
  · rw [if_neg h0, flat_len]
    have := isT_len hb (key.resolve_left h0)
    have e1 : (flatB [obB]).length = 1 := rfl
    have e2 : (flatB [cbB]).length = 1 := rfl
    simp only [List.map_cons, List.map_nil, List.sum_cons, List.sum_nil, e1, e2]
    omega
theorem elem_len {e : Em} (hb : Bnd e.t) (h : elemB e = true) : (flatB (elemP e)).length ≤ 12300 := by
  obtain ⟨hG, ha, hk⟩ := elem_good hb h
  unfold elemP
  rw [flat_len]
  have hj := join_len e.ts hG.2.1.2 hG.2.2
  have e1 : (flatB (if e.nt then [exB] else [])).length ≤ 1 := by split <;> decide
  have e2 : (flatB (if e.pl then [plB] else [])).length ≤ 1 := by split <;> decide
  have e3 : (flatB [e.al.1, coB, joinB e.ts]).length = e.al.1.size + (1 + (joinB e.ts).size) := by simp [flatB]; omega
  have hj' : (joinB e.ts).size ≤ 100 := by
    show ((Lib.join (e.ts.map fun t => t.1.data.toList) barB.data.toList).toArray).size ≤ 100
    rw [List.size_toArray]; exact hj
  simp only [List.map_cons, List.map_nil, List.sum_cons, List.sum_nil, e3]
  omega
theorem rowS_bound (B : Nat) : ∀ (l : List Em) (k : Nat), (∀ e ∈ l, (flatB (elemP e)).length ≤ B) → (flatB ((l.zipIdx k).flatMap fun x => [if decide ((0 : Int) < x.2) then [csB] else [], elemP x.1]).flatten).length ≤ l.length * (B + 2) := by
  intro l
  induction l with
  | nil => intro k _; simp [flatB]
  | cons e l ih =>
    intro k h
    have h1 := ih (k + 1) fun x hx => h x (by simp [hx])
    have h2 := h e (by simp)
    have h3 : (flatB (if decide ((0 : Int) < (k : Int)) then [csB] else [])).length ≤ 2 := by split <;> decide
    rw [List.zipIdx_cons, List.flatMap_cons, List.flatten_append, flatB_append, List.length_append, flat_len, List.length_cons, Nat.add_mul]
    simp only [List.map_cons, List.map_nil, List.sum_cons, List.sum_nil]
    omega
theorem patB_parts {q : Pt} (h : patB q = true) : q.es.length ≤ 5 ∧ 0 ≤ q.wi ∧ q.wi ≤ 1000 ∧ (∀ e ∈ q.es, elemB e = true) ∧ q.nm.1.size ≤ 8 := by
  unfold patB rowB at h
  simp only [Bool.and_eq_true, decide_eq_true_eq, Bool.or_eq_true] at h
  obtain ⟨⟨⟨⟨⟨h5, -⟩, hr⟩, hw0⟩, hw1⟩, hn⟩ := h
  refine ⟨h5, hw0, hw1, fun e he => ?_, ?_⟩
  · obtain ⟨j, hj, rfl⟩ := List.mem_iff_getElem.1 he
    unfold rowTo at hr
    have := List.all_eq_true.1 hr j (List.mem_range.2 hj)
    rw [rowAt, List.getElem?_eq_getElem hj] at this
    simp only [Bool.and_eq_true] at this
    exact this.1
  · rcases hn with hn | hn
    · have : q.nm.1.data.toList.length = 0 := by
        rw [← ByteArray.toList_eq, List.isEmpty_iff.1 hn]; rfl
      have e : q.nm.1.size = q.nm.1.data.toList.length := (Array.length_toList ..).symm
      omega
    · exact name_size hn
theorem pat_good {q : Pt} (hb : ∀ e ∈ q.es, Bnd e.t) (h : patB q = true) : PGood q ∧ (flatB (patP q)).length ≤ 100000 := by
  obtain ⟨h5, hw0, hw1, he, hn⟩ := patB_parts h
  refine ⟨⟨fun e hm => (elem_good (hb e hm) (he e hm)).1, h5, hw0, hw1⟩, ?_⟩
  unfold patP
  rw [flat_len]
  have hrow := rowS_bound 12300 q.es 0 fun e hm => elem_len (hb e hm) (he e hm)
  have hm : q.es.length * (12300 + 2) ≤ 5 * (12300 + 2) := Nat.mul_le_mul_right _ h5
  have hd := decB_size q.wi (by omega) (by omega)
  rw [decB_itoa] at hd
  have e1 : (flatB [seqB]).length = 4 := rfl
  have e2 : (flatB [wiB, itoaB q.wi]).length = 9 + (itoaB q.wi).size := by simp [flatB]; omega
  have e3 : (flatB (if !(q.nm.1.toList == []) then [byB, q.nm.1] else [])).length ≤ 12 := by
    split
    · have : (flatB [byB, q.nm.1]).length = 4 + q.nm.1.size := by simp [flatB]; omega
      omega
    · exact Nat.zero_le _
  have e4 : (flatB (if q.any then [anyB] else [])).length ≤ 4 := by split <;> decide
  simp only [List.map_cons, List.map_nil, List.sum_cons, List.sum_nil, e1, e2]
  have e5 : (flatB (rowS q.es).flatten).length ≤ q.es.length * (12300 + 2) := hrow
  omega

/-- The text of a pattern, as the document tells it. -/
def pattB (q : Pt) : ByteArray := if patB q then txtB (patP q) else ⟨#[]⟩
theorem pattB_yes {q : Pt} (h : patB q = true) : pattB q = txtB (patP q) := by unfold pattB; rw [if_pos h]
theorem pattB_no {q : Pt} (h : patB q = false) : pattB q = ⟨#[]⟩ := by unfold pattB; rw [h]; rfl

end Go.Proofs.YtmhpakhnclkenaaGreatDoor
