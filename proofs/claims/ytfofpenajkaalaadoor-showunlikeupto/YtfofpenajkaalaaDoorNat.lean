/-
  What the document's Dec answers: a number's digits; for every number, in whatever world; nothing that lay is turned.
-/
import Derived.Test.YtfofpenajkaalaaDoorNumP
namespace Go.Proofs.YtfofpenajkaalaaDoor
open Go.RowKit Go.Shelf

set_option maxRecDepth 100000 in
set_option maxHeartbeats 4000000 in
theorem nat19_small (n : Nat) (h : n < 10) (w : World) :
    Calls Tryd.prog 45 #[.int .u64 n] w fun e w' => e = .returned (.string (natB n)) ∧ Below w.heap.size w w' := by
  have H := hide (show natB n = strOfNums [(48 : Int) + n] from eq_of_list (by
    rw [strOfNums_data]
    show natL n = _
    rw [natL_small h]
    simp only [List.map_cons, List.map_nil, digC, List.cons.injEq, and_true]
    congr 1))
  have h' : (n : Int) < 10 := by omega
  have hcv := conv1 (W := w.alloc (.cells #[.int .u8 (48 + (n : Int))] 5)) (B := w.heap.size) (n := 48 + (n : Int)) (by simp)
  go_enter Tryd.func45, Tryd.ntmps45
  go_wp2
  go_ret
  exact ⟨by rw [unhide H]; rfl, (Below.refl _ _).alloc (Nat.le_refl _) _⟩

set_option maxRecDepth 100000 in
set_option maxHeartbeats 4000000 in
theorem nat19_big (n : Nat) (h : ¬ n < 10) (hn : n < 18446744073709551616) (ih : ∀ w, Calls Tryd.prog 45 #[.int .u64 ((n / 10 : Nat) : Int)] w fun e w' => e = .returned (.string (natB (n / 10))) ∧ Below w.heap.size w w') (w : World) :
    Calls Tryd.prog 45 #[.int .u64 n] w fun e w' => e = .returned (.string (natB n)) ∧ Below w.heap.size w w' := by
  have IH := hide ih
  clear ih
  have h' : ¬ (n : Int) < 10 := by omega
  have hmx : Tryd.prog.follows .mixedOrders = true := by kernel_rfl
  go_enter Tryd.func45, Tryd.ntmps45
  go_wp2
  have IH2 := hide (show ∀ w, Calls Tryd.prog 45 #[.int .u64 ((n : Int) / 10)] w fun e w' => e = .returned (.string (natB (n / 10))) ∧ Below w.heap.size w w' from fun w => by
    have := unhide IH w
    rwa [show ((n / 10 : Nat) : Int) = (n : Int) / 10 by omega] at this)
  have hr0 : (0 : Int) ≤ (n : Int) % 10 := by omega
  have hr1 : (n : Int) % 10 < 10 := by omega
  have hq0 : (0 : Int) ≤ (n : Int) / 10 := by omega
  have hq1 : (n : Int) / 10 < 18446744073709551616 := by omega
  have hnz : (n : Int) < 18446744073709551616 := by omega
  have Hcat := hide (show natB (n / 10) ++ strOfNums [48 + (n : Int) % 10] = natB n from by
    rw [← natB_succ n h]
    have e : strOfNums [48 + (n : Int) % 10] = ⟨#[digC (n % 10)]⟩ := eq_of_list (by
      rw [strOfNums_data]
      simp only [List.map_cons, List.map_nil, digC]
      rw [show (48 + (n : Int) % 10).toNat = 48 + n % 10 by omega])
    rw [e])
  have hz1 := hide (natB_size (n / 10) (by omega))
  have hz2 : (natB (n / 10)).size + 1 ≤ 281474976710656 := by have := unhide hz1; omega
  have hz3 : (strOfNums [48 + (n : Int) % 10]).size = 1 := rfl
  have hz4 : ¬ 9223372036854775807 < (natB (n / 10)).size + 1 := by omega
  have e1 : IntKind.u64.wrap ((n : Int) / 10) = (n : Int) / 10 := by rw [IntKind.wrap_u64]; omega
  have e2 : Int.tmod (n : Int) 10 = (n : Int) % 10 := Int.tmod_eq_emod_of_nonneg (by omega)
  have e3 : IntKind.u64.wrap (48 + (n : Int) % 10) = 48 + (n : Int) % 10 := by rw [IntKind.wrap_u64]; omega
  have e4 : IntKind.u8.wrap (48 + (n : Int) % 10) = 48 + (n : Int) % 10 := by rw [IntKind.wrap_u8]; omega
  have cD : Below w.heap.size w w.drew := (Below.refl _ _).drew
  refine wp_region_any hmx (wpAny_of_C (C := fun w' => Below w.heap.size w w') _ _ _ _ ?_)
  refine wpAnyC_reads 0 cD (by kernel_rfl) (by kernel_rfl) (by kernel_rfl) (fun d _ _ _ _ h => by cases d <;> exact h) (fun oi ho K hK => ?_)
  simp only [List.getElem?_toArray, List.getElem?_cons_zero, Option.some.injEq] at ho
  subst ho
  rw [if_pos (by kernel_rfl)]
  refine ⟨.int .u64 n, fun w' hw' => ?_, hK _ ?_⟩
  · clear hw'
    go_simp
  clear hK K
  refine wpAnyC_reads 1 cD (by kernel_rfl) (by kernel_rfl) (by kernel_rfl) (fun d _ _ _ _ h => by cases d <;> exact h) (fun oi ho K hK => ?_)
  simp only [List.getElem?_toArray, List.getElem?_cons_succ, List.getElem?_cons_zero, Option.some.injEq] at ho
  subst ho
  rw [if_pos (by kernel_rfl)]
  refine ⟨.int .u64 ((n : Int) / 10), fun w' hw' => ?_, hK _ ?_⟩
  · clear hw'
    go_simp
  clear hK K
  refine wpAnyC_reads 3 cD (by kernel_rfl) (by kernel_rfl) (by kernel_rfl) (fun d _ _ _ _ h => by cases d <;> exact h) (fun oi ho K hK => ?_)
  simp only [List.getElem?_toArray, List.getElem?_cons_succ, List.getElem?_cons_zero, Option.some.injEq] at ho
  subst ho
  rw [if_pos (by kernel_rfl)]
  refine ⟨.int .u64 n, fun w' hw' => ?_, hK _ ?_⟩
  · clear hw'
    go_simp
  clear hK K
  refine wpAnyC_reads 4 cD (by kernel_rfl) (by kernel_rfl) (by kernel_rfl) (fun d _ _ _ _ h => by cases d <;> exact h) (fun oi ho K hK => ?_)
  simp only [List.getElem?_toArray, List.getElem?_cons_succ, List.getElem?_cons_zero, Option.some.injEq] at ho
  subst ho
  rw [if_pos (by kernel_rfl)]
  refine ⟨.int .u64 ((n : Int) % 10), fun w' hw' => ?_, hK _ ?_⟩
  · clear hw'
    go_simp
  clear hK K
  refine wpAnyC_reads 5 cD (by kernel_rfl) (by kernel_rfl) (by kernel_rfl) (fun d _ _ _ _ h => by cases d <;> exact h) (fun oi ho K hK => ?_)
  simp only [List.getElem?_toArray, List.getElem?_cons_succ, List.getElem?_cons_zero, Option.some.injEq] at ho
  subst ho
  rw [if_pos (by kernel_rfl)]
  refine ⟨.int .u64 (48 + (n : Int) % 10), fun w' hw' => ?_, hK _ ?_⟩
  · clear hw'
    go_simp
  clear hK K
  refine wpAnyC_reads 6 cD (by kernel_rfl) (by kernel_rfl) (by kernel_rfl) (fun d _ _ _ _ h => by cases d <;> exact h) (fun oi ho K hK => ?_)
  simp only [List.getElem?_toArray, List.getElem?_cons_succ, List.getElem?_cons_zero, Option.some.injEq] at ho
  subst ho
  rw [if_pos (by kernel_rfl)]
  refine ⟨.int .u8 (48 + (n : Int) % 10), fun w' hw' => ?_, hK _ ?_⟩
  · clear hw'
    go_simp
  clear hK K
  refine wpAnyC_two 2 7 (by kernel_rfl) (fun oi ho K hK => ?_) (fun oi ho K hK => ?_)
  · simp only [List.getElem?_toArray, List.getElem?_cons_succ, List.getElem?_cons_zero, Option.some.injEq] at ho
    subst ho
    go_simp
    refine (unhide IH2 _).mono ?_
    rintro e w2 ⟨rfl, hbw2⟩
    have cw2 : Below w.heap.size w w2 := cD.trans (hbw2.mono cD.size)
    go_simp
    refine hK _ _ cw2 ?_
    clear hK K
    have bA : Below w2.heap.size w2 (w2.alloc (.cells #[.int .u8 (48 + (n : Int) % 10)] 5)) := (Below.refl _ _).alloc (Nat.le_refl _) _
    have cA : Below w.heap.size w (w2.alloc (.cells #[.int .u8 (48 + (n : Int) % 10)] 5)) := cw2.trans (bA.mono cw2.size)
    have hcv := conv1 (W := w2.alloc (.cells #[.int .u8 (48 + (n : Int) % 10)] 5)) (B := w2.heap.size) (n := 48 + (n : Int) % 10) (by simp)
    refine wpAnyC_calls 7 (by kernel_rfl) (fun oi ho K hK => ?_)
    simp only [List.getElem?_toArray, List.getElem?_cons_succ, List.getElem?_cons_zero, Option.some.injEq] at ho
    subst ho
    go_simp
    refine hK _ _ cA ?_
    clear hK K
    refine wpAnyC_calls 8 (by kernel_rfl) (fun oi ho K hK => ?_)
    simp only [List.getElem?_toArray, List.getElem?_cons_succ, List.getElem?_cons_zero, Option.some.injEq] at ho
    subst ho
    go_simp
    refine hK _ _ cA ?_
    clear hK K
    refine wpAnyC_calls 9 (by kernel_rfl) (fun oi ho K hK => ?_)
    simp only [List.getElem?_toArray, List.getElem?_cons_succ, List.getElem?_cons_zero, Option.some.injEq] at ho
    subst ho
    go_simp
    refine hK _ _ cA ?_
    clear hK K
    refine wpAnyC_calls 10 (by kernel_rfl) (fun oi ho K hK => ?_)
    simp only [List.getElem?_toArray, List.getElem?_cons_succ, List.getElem?_cons_zero, Option.some.injEq] at ho
    subst ho
    go_simp
    refine hK _ _ cA ?_
    clear hK K
    refine wpAnyC_done (by kernel_rfl) ?_ _
    go_wp2
    go_ret
    exact ⟨by rw [← unhide Hcat]; rfl, cA⟩
  · simp only [List.getElem?_toArray, List.getElem?_cons_succ, List.getElem?_cons_zero, Option.some.injEq] at ho
    subst ho
    have bA : Below w.heap.size w (w.drew.alloc (.cells #[.int .u8 (48 + (n : Int) % 10)] 5)) := cD.alloc (Nat.le_refl _) _
    have hcl : (w.drew.alloc (.cells #[.int .u8 (48 + (n : Int) % 10)] 5)).cell? ⟨w.heap.size, 0, none⟩ = some (.int .u8 (48 + (n : Int) % 10)) := (Box.new w.drew 5 #[.int .u8 (48 + (n : Int) % 10)]).one.1
    have hcv := conv1 hcl
    have hcvd := conv1 (W := (w.alloc (.cells #[.int .u8 (48 + (n : Int) % 10)] 5)).drew) hcl
    go_simp
    refine hK _ _ bA ?_
    clear hK K
    refine wpAnyC_two 2 8 (by kernel_rfl) (fun oi ho K hK => ?_) (fun oi ho K hK => ?_)
    · simp only [List.getElem?_toArray, List.getElem?_cons_succ, List.getElem?_cons_zero, Option.some.injEq] at ho
      subst ho
      go_simp
      refine (unhide IH2 _).mono ?_
      rintro e w3 ⟨rfl, hb3⟩
      have c3 : Below w.heap.size w w3 := bA.trans (hb3.mono bA.size)
      have hcv3 := conv1 ((hb3.cell (p := ⟨w.heap.size, 0, none⟩) (by simp)).trans hcl)
      go_simp
      refine hK _ _ c3 ?_
      clear hK K
      refine wpAnyC_calls 8 (by kernel_rfl) (fun oi ho K hK => ?_)
      simp only [List.getElem?_toArray, List.getElem?_cons_succ, List.getElem?_cons_zero, Option.some.injEq] at ho
      subst ho
      go_simp
      refine hK _ _ c3 ?_
      clear hK K
      refine wpAnyC_calls 9 (by kernel_rfl) (fun oi ho K hK => ?_)
      simp only [List.getElem?_toArray, List.getElem?_cons_succ, List.getElem?_cons_zero, Option.some.injEq] at ho
      subst ho
      go_simp
      refine hK _ _ c3 ?_
      clear hK K
      refine wpAnyC_calls 10 (by kernel_rfl) (fun oi ho K hK => ?_)
      simp only [List.getElem?_toArray, List.getElem?_cons_succ, List.getElem?_cons_zero, Option.some.injEq] at ho
      subst ho
      go_simp
      refine hK _ _ c3 ?_
      clear hK K
      refine wpAnyC_done (by kernel_rfl) ?_ _
      go_wp2
      go_ret
      exact ⟨by rw [← unhide Hcat]; rfl, c3⟩
    · simp only [List.getElem?_toArray, List.getElem?_cons_succ, List.getElem?_cons_zero, Option.some.injEq] at ho
      subst ho
      go_simp
      refine hK _ _ bA ?_
      clear hK K
      refine wpAnyC_calls 2 (by kernel_rfl) (fun oi ho K hK => ?_)
      simp only [List.getElem?_toArray, List.getElem?_cons_succ, List.getElem?_cons_zero, Option.some.injEq] at ho
      subst ho
      go_simp
      refine (unhide IH2 _).mono ?_
      rintro e w3 ⟨rfl, hb3⟩
      have c3 : Below w.heap.size w w3 := bA.trans (hb3.mono bA.size)
      go_simp
      refine hK _ _ c3 ?_
      clear hK K
      refine wpAnyC_calls 9 (by kernel_rfl) (fun oi ho K hK => ?_)
      simp only [List.getElem?_toArray, List.getElem?_cons_succ, List.getElem?_cons_zero, Option.some.injEq] at ho
      subst ho
      go_simp
      refine hK _ _ c3 ?_
      clear hK K
      refine wpAnyC_calls 10 (by kernel_rfl) (fun oi ho K hK => ?_)
      simp only [List.getElem?_toArray, List.getElem?_cons_succ, List.getElem?_cons_zero, Option.some.injEq] at ho
      subst ho
      go_simp
      refine hK _ _ c3 ?_
      clear hK K
      refine wpAnyC_done (by kernel_rfl) ?_ _
      go_wp2
      go_ret
      exact ⟨by rw [← unhide Hcat]; rfl, c3⟩

theorem nat19_c (n : Nat) : n < 18446744073709551616 → ∀ w, Calls Tryd.prog 45 #[.int .u64 n] w fun e w' => e = .returned (.string (natB n)) ∧ Below w.heap.size w w' := by
  induction n using Nat.strongRecOn with
  | ind n ih =>
    intro hn w
    by_cases h : n < 10
    · exact nat19_small n h w
    · exact nat19_big n h hn (ih (n / 10) (by omega) (by omega)) w

def decB (n : Int) : ByteArray := ⟨(decL n).toArray⟩
theorem decB_size (n : Int) (lo : -9223372036854775808 ≤ n) (hi : n ≤ 9223372036854775807) : (decB n).size ≤ 21 := by
  have := natB_size n.natAbs (by omega)
  rw [show (natB n.natAbs).size = (natL n.natAbs).length from List.size_toArray ..] at this
  rw [show (decB n).size = (decL n).length from List.size_toArray .., decL]
  split
  · simp; omega
  · omega

set_option maxRecDepth 100000 in
set_option maxHeartbeats 4000000 in
theorem dec13_c (n : Int) (lo : -9223372036854775808 ≤ n) (hi : n ≤ 9223372036854775807) (w : World) :
    Calls Tryd.prog 23 #[.int .i64 n] w fun e w' => e = .returned (.string (decB n)) ∧ Below w.heap.size w w' := by
  by_cases h : n < 0
  · have HN := hide (nat19_c n.natAbs (by omega) w)
    have hz := natB_size n.natAbs (by omega)
    have hz2 : (natB n.natAbs).size + 1 ≤ 281474976710656 := by omega
    have e1 : IntKind.i64.wrap (n + 1) = n + 1 := by rw [IntKind.wrap_i64]; omega
    have e2 : IntKind.i64.wrap (-(n + 1)) = -(n + 1) := by rw [IntKind.wrap_i64]; omega
    have e3 : IntKind.u64.wrap (-(n + 1)) = -(n + 1) := by rw [IntKind.wrap_u64]; omega
    have e4 : IntKind.u64.wrap (-(n + 1) + 1) = n.natAbs := by rw [IntKind.wrap_u64]; omega
    have H := hide (show ⟨#[45]⟩ ++ natB n.natAbs = decB n from eq_of_list (by rw [append_list]; show 45 :: natL n.natAbs = decL n; rw [decL, if_pos h]))
    go_enter Tryd.func23, Tryd.ntmps23
    go_wp2_with fail
    refine (unhide HN).mono ?_
    rintro e w2 ⟨rfl, hb2⟩
    go_wp2_with fail
    go_ret
    exact ⟨by rw [← unhide H]; rfl, hb2⟩
  · have HN := hide (nat19_c n.natAbs (by omega) w)
    have e3 : IntKind.u64.wrap n = n.natAbs := by rw [IntKind.wrap_u64]; omega
    have H := hide (show natB n.natAbs = decB n from eq_of_list (by show natL n.natAbs = decL n; rw [decL, if_neg h]))
    go_enter Tryd.func23, Tryd.ntmps23
    go_wp2_with fail
    refine (unhide HN).mono ?_
    rintro e w2 ⟨rfl, hb2⟩
    go_wp2_with fail
    go_ret
    exact ⟨by rw [← unhide H]; rfl, hb2⟩

end Go.Proofs.YtfofpenajkaalaaDoor
