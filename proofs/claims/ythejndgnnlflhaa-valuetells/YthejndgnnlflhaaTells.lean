/-
  Proved: for every two values, kind and text the call of ValueTells returns true, and they read behind it as they read before; no condition.
-/
import Derived.Test.YthejndgnnlflhaaRef
import Derived.Lib.QuietBelow
import Derived.ProofKit
import Derived.OpenShut
import Derived.Lib.SmallJoins
namespace Go.Proofs.Ythejndgnnlflhaa.valueTells
open Go.ChangeShapes Go.WideShapes Go.ChangeAt Go.RowKit Go.Joins Go.WideMaps Go.WideElems
open Go.ChangeMaps (open_string)

theorem own : ownKnob Try.prog.godebug = none := by kernel_rfl
theorem laidOut : laidOutB Try.prog = true := by kernel_rfl

set_option maxHeartbeats 4000000 in
theorem walk_far (k n k' n' kd : Int) (s s' t : ByteArray) (hs : s.size ≤ maxLen) (hs' : s'.size ≤ maxLen) (ht : t.size ≤ maxLen) (h : 100 < t.size ∨ 100 < s.size ∨ 100 < s'.size) (w : World) :
    Calls Try.prog 3 #[.agg #[.int .i64 k, .int .i64 n, .string s], .agg #[.int .i64 k', .int .i64 n', .string s'], .int .i64 kd, .string t] w fun e w' => e = .returned (.bool true) ∧ Below w.heap.size w w' := by
  unfold maxLen at hs hs' ht
  have hcase : (100 < (t.size : Int)) ∨ ((t.size : Int) ≤ 100 ∧ 100 < (s.size : Int)) ∨ ((t.size : Int) ≤ 100 ∧ (s.size : Int) ≤ 100 ∧ 100 < (s'.size : Int)) := by omega
  clear h
  rcases hcase with h1 | ⟨h1, h2⟩ | ⟨h1, h2, h3⟩
  all_goals
    go_enter Try.func3, Try.ntmps3
    go_wp2_with fail
    refine (known8 _).mono ?_
    rintro e w1 ⟨rfl, hb1⟩
    have hc2 : w1.cell? ⟨w.heap.size, 2, none⟩ = some (.string s) := (hb1.cell (p := ⟨w.heap.size, 2, none⟩) (by simp; omega)).trans (by simp)
    have hd2 : w1.cell? ⟨w.heap.size + 1, 2, none⟩ = some (.string s') := (hb1.cell (p := ⟨w.heap.size + 1, 2, none⟩) (by simp)).trans (by simp)
    go_wp2_with fail
    go_ret
    exact ⟨rfl, (((Below.refl _ _).alloc (Nat.le_refl _) _).alloc (by simp) _).trans (hb1.mono (by simp; omega))⟩

theorem str_ext {s t : ByteArray} (h : s.toList = t.toList) : s = t := by
  rw [ByteArray.toList_eq, ByteArray.toList_eq] at h
  exact ByteArray.ext (Array.toList_inj.1 h)

theorem refName15' (s : ByteArray) (w : World) (hs : s.size ≤ maxLen) :
    Calls Try.prog 15 #[.string s] w fun e w' => e = .returned (.bool (nameB s)) ∧ Below w.heap.size w w' :=
  (refName15 s w hs).mono fun _ _ ⟨he, hw⟩ => ⟨he, by rw [hw]; exact Below.refl _ _⟩

set_option maxHeartbeats 4000000 in
theorem walk_near (k n k' n' kd : Int) (s s' t : ByteArray) (h1 : (t.size : Int) ≤ 100) (h2 : (s.size : Int) ≤ 100) (h3 : (s'.size : Int) ≤ 100) (w : World) :
    Calls Try.prog 3 #[.agg #[.int .i64 k, .int .i64 n, .string s], .agg #[.int .i64 k', .int .i64 n', .string s'], .int .i64 kd, .string t] w fun e w' => e = .returned (.bool true) ∧ Below w.heap.size w w' := by
  have hs : s.size ≤ maxLen := by unfold maxLen; omega
  have hs' : s'.size ≤ maxLen := by unfold maxLen; omega
  have ht : t.size ≤ maxLen := by unfold maxLen; omega
  have hmx : Try.prog.follows .mixedOrders = true := by kernel_rfl
  have hss : sameB k n s k n s = true := by simp [sameB]
  have hcase : (k ≠ k' ∧ sameB k n s k' n' s' = false) ∨ (k = k' ∧ n ≠ n' ∧ sameB k n s k' n' s' = false) ∨ (k = k' ∧ n = n' ∧ s.toList ≠ s'.toList ∧ sameB k n s k' n' s' = false) ∨ (k = k' ∧ n = n' ∧ s.toList = s'.toList ∧ sameB k n s k' n' s' = true) := by
    unfold sameB
    by_cases e1 : k = k' <;> by_cases e2 : n = n' <;> by_cases e3 : s.toList = s'.toList <;> simp [e1, e2, e3]
  rcases hcase with ⟨e1, hsm⟩ | ⟨rfl, e2, hsm⟩ | ⟨rfl, rfl, e3, hsm⟩ | ⟨rfl, rfl, e3, hsm⟩
  · go_enter Try.func3, Try.ntmps3
    go_wp2_with fail
    refine (known8 _).mono ?_
    rintro e w1 ⟨rfl, hb1⟩
    have hc0 : w1.cell? ⟨w.heap.size, 0, none⟩ = some (.int .i64 k) := (hb1.cell (p := ⟨w.heap.size, 0, none⟩) (by simp; omega)).trans (by simp)
    have hc1 : w1.cell? ⟨w.heap.size, 1, none⟩ = some (.int .i64 n) := (hb1.cell (p := ⟨w.heap.size, 1, none⟩) (by simp; omega)).trans (by simp)
    have hc2 : w1.cell? ⟨w.heap.size, 2, none⟩ = some (.string s) := (hb1.cell (p := ⟨w.heap.size, 2, none⟩) (by simp; omega)).trans (by simp)
    have hd0 : w1.cell? ⟨w.heap.size + 1, 0, none⟩ = some (.int .i64 k') := (hb1.cell (p := ⟨w.heap.size + 1, 0, none⟩) (by simp)).trans (by simp)
    have hd1 : w1.cell? ⟨w.heap.size + 1, 1, none⟩ = some (.int .i64 n') := (hb1.cell (p := ⟨w.heap.size + 1, 1, none⟩) (by simp)).trans (by simp)
    have hd2 : w1.cell? ⟨w.heap.size + 1, 2, none⟩ = some (.string s') := (hb1.cell (p := ⟨w.heap.size + 1, 2, none⟩) (by simp)).trans (by simp)
    go_wp2_with fail
    have gc0 := cell_regrown hc0
    have gc1 := cell_regrown hc1
    have gc2 := cell_regrown hc2
    have gd0 := cell_regrown hd0
    have gd1 := cell_regrown hd1
    have gd2 := cell_regrown hd2
    refine wp_region_quiet_below (by assumption) (by kernel_rfl) ?_
    repeat (quiet_step (first
      | (go_at_call 9; exact Calls.regrown_of (is9 _ _ _ _ (by assumption)))
      | (go_at_call 10; exact Calls.regrown_of (isValue10 _ _ _ _ (by assumption)))
      | (go_at_call 11; exact Calls.regrown_of (same11 _ _ _ _ _ _ _))
      | (go_at_call 12; exact Calls.regrown_of (zero12 _ _))
      | (go_at_call 13; exact Calls.regrown_of (refZero13 _ _))
      | (go_at_call 14; exact Calls.regrown_of (name14 _ _ (by assumption)))
      | (go_at_call 15; exact Calls.regrown_of (refName15' _ _ (by assumption)))))
    refine wpQuiet_nil ?_
    intro _ hw'
    obtain ⟨⟨dq, osq⟩, hw''⟩ := hw'
    subst hw''
    go_wp2
    go_ret
    exact ⟨rfl, ((((Below.refl _ _).alloc (Nat.le_refl _) _).alloc (by simp) _).trans (hb1.mono (by simp; omega))).trans ((below_regrown w1 dq osq).mono (by have := hb1.size; simp at this; omega))⟩
  · go_enter Try.func3, Try.ntmps3
    go_wp2_with fail
    refine (known8 _).mono ?_
    rintro e w1 ⟨rfl, hb1⟩
    have hc0 : w1.cell? ⟨w.heap.size, 0, none⟩ = some (.int .i64 k) := (hb1.cell (p := ⟨w.heap.size, 0, none⟩) (by simp; omega)).trans (by simp)
    have hc1 : w1.cell? ⟨w.heap.size, 1, none⟩ = some (.int .i64 n) := (hb1.cell (p := ⟨w.heap.size, 1, none⟩) (by simp; omega)).trans (by simp)
    have hc2 : w1.cell? ⟨w.heap.size, 2, none⟩ = some (.string s) := (hb1.cell (p := ⟨w.heap.size, 2, none⟩) (by simp; omega)).trans (by simp)
    have hd0 : w1.cell? ⟨w.heap.size + 1, 0, none⟩ = some (.int .i64 k) := (hb1.cell (p := ⟨w.heap.size + 1, 0, none⟩) (by simp)).trans (by simp)
    have hd1 : w1.cell? ⟨w.heap.size + 1, 1, none⟩ = some (.int .i64 n') := (hb1.cell (p := ⟨w.heap.size + 1, 1, none⟩) (by simp)).trans (by simp)
    have hd2 : w1.cell? ⟨w.heap.size + 1, 2, none⟩ = some (.string s') := (hb1.cell (p := ⟨w.heap.size + 1, 2, none⟩) (by simp)).trans (by simp)
    go_wp2_with fail
    have gc0 := cell_regrown hc0
    have gc1 := cell_regrown hc1
    have gc2 := cell_regrown hc2
    have gd0 := cell_regrown hd0
    have gd1 := cell_regrown hd1
    have gd2 := cell_regrown hd2
    refine wp_region_quiet_below (by assumption) (by kernel_rfl) ?_
    repeat (quiet_step (first
      | (go_at_call 9; exact Calls.regrown_of (is9 _ _ _ _ (by assumption)))
      | (go_at_call 10; exact Calls.regrown_of (isValue10 _ _ _ _ (by assumption)))
      | (go_at_call 11; exact Calls.regrown_of (same11 _ _ _ _ _ _ _))
      | (go_at_call 12; exact Calls.regrown_of (zero12 _ _))
      | (go_at_call 13; exact Calls.regrown_of (refZero13 _ _))
      | (go_at_call 14; exact Calls.regrown_of (name14 _ _ (by assumption)))
      | (go_at_call 15; exact Calls.regrown_of (refName15' _ _ (by assumption)))))
    refine wpQuiet_nil ?_
    intro _ hw'
    obtain ⟨⟨dq, osq⟩, hw''⟩ := hw'
    subst hw''
    go_wp2
    go_ret
    exact ⟨rfl, ((((Below.refl _ _).alloc (Nat.le_refl _) _).alloc (by simp) _).trans (hb1.mono (by simp; omega))).trans ((below_regrown w1 dq osq).mono (by have := hb1.size; simp at this; omega))⟩
  · go_enter Try.func3, Try.ntmps3
    go_wp2_with fail
    refine (known8 _).mono ?_
    rintro e w1 ⟨rfl, hb1⟩
    have hc0 : w1.cell? ⟨w.heap.size, 0, none⟩ = some (.int .i64 k) := (hb1.cell (p := ⟨w.heap.size, 0, none⟩) (by simp; omega)).trans (by simp)
    have hc1 : w1.cell? ⟨w.heap.size, 1, none⟩ = some (.int .i64 n) := (hb1.cell (p := ⟨w.heap.size, 1, none⟩) (by simp; omega)).trans (by simp)
    have hc2 : w1.cell? ⟨w.heap.size, 2, none⟩ = some (.string s) := (hb1.cell (p := ⟨w.heap.size, 2, none⟩) (by simp; omega)).trans (by simp)
    have hd0 : w1.cell? ⟨w.heap.size + 1, 0, none⟩ = some (.int .i64 k) := (hb1.cell (p := ⟨w.heap.size + 1, 0, none⟩) (by simp)).trans (by simp)
    have hd1 : w1.cell? ⟨w.heap.size + 1, 1, none⟩ = some (.int .i64 n) := (hb1.cell (p := ⟨w.heap.size + 1, 1, none⟩) (by simp)).trans (by simp)
    have hd2 : w1.cell? ⟨w.heap.size + 1, 2, none⟩ = some (.string s') := (hb1.cell (p := ⟨w.heap.size + 1, 2, none⟩) (by simp)).trans (by simp)
    go_wp2_with fail
    have gc0 := cell_regrown hc0
    have gc1 := cell_regrown hc1
    have gc2 := cell_regrown hc2
    have gd0 := cell_regrown hd0
    have gd1 := cell_regrown hd1
    have gd2 := cell_regrown hd2
    refine wp_region_quiet_below (by assumption) (by kernel_rfl) ?_
    repeat (quiet_step (first
      | (go_at_call 9; exact Calls.regrown_of (is9 _ _ _ _ (by assumption)))
      | (go_at_call 10; exact Calls.regrown_of (isValue10 _ _ _ _ (by assumption)))
      | (go_at_call 11; exact Calls.regrown_of (same11 _ _ _ _ _ _ _))
      | (go_at_call 12; exact Calls.regrown_of (zero12 _ _))
      | (go_at_call 13; exact Calls.regrown_of (refZero13 _ _))
      | (go_at_call 14; exact Calls.regrown_of (name14 _ _ (by assumption)))
      | (go_at_call 15; exact Calls.regrown_of (refName15' _ _ (by assumption)))))
    refine wpQuiet_nil ?_
    intro _ hw'
    obtain ⟨⟨dq, osq⟩, hw''⟩ := hw'
    subst hw''
    go_wp2
    go_ret
    exact ⟨rfl, ((((Below.refl _ _).alloc (Nat.le_refl _) _).alloc (by simp) _).trans (hb1.mono (by simp; omega))).trans ((below_regrown w1 dq osq).mono (by have := hb1.size; simp at this; omega))⟩
  · obtain rfl := str_ext e3
    clear e3 hsm
    go_enter Try.func3, Try.ntmps3
    go_wp2_with fail
    refine (known8 _).mono ?_
    rintro e w1 ⟨rfl, hb1⟩
    have hc0 : w1.cell? ⟨w.heap.size, 0, none⟩ = some (.int .i64 k) := (hb1.cell (p := ⟨w.heap.size, 0, none⟩) (by simp; omega)).trans (by simp)
    have hc1 : w1.cell? ⟨w.heap.size, 1, none⟩ = some (.int .i64 n) := (hb1.cell (p := ⟨w.heap.size, 1, none⟩) (by simp; omega)).trans (by simp)
    have hc2 : w1.cell? ⟨w.heap.size, 2, none⟩ = some (.string s) := (hb1.cell (p := ⟨w.heap.size, 2, none⟩) (by simp; omega)).trans (by simp)
    have hd0 : w1.cell? ⟨w.heap.size + 1, 0, none⟩ = some (.int .i64 k) := (hb1.cell (p := ⟨w.heap.size + 1, 0, none⟩) (by simp)).trans (by simp)
    have hd1 : w1.cell? ⟨w.heap.size + 1, 1, none⟩ = some (.int .i64 n) := (hb1.cell (p := ⟨w.heap.size + 1, 1, none⟩) (by simp)).trans (by simp)
    have hd2 : w1.cell? ⟨w.heap.size + 1, 2, none⟩ = some (.string s) := (hb1.cell (p := ⟨w.heap.size + 1, 2, none⟩) (by simp)).trans (by simp)
    go_wp2_with fail
    have gc0 := cell_regrown hc0
    have gc1 := cell_regrown hc1
    have gc2 := cell_regrown hc2
    have gd0 := cell_regrown hd0
    have gd1 := cell_regrown hd1
    have gd2 := cell_regrown hd2
    refine wp_region_quiet_below (by assumption) (by kernel_rfl) ?_
    repeat (quiet_step (first
      | (go_at_call 9; exact Calls.regrown_of (is9 _ _ _ _ (by assumption)))
      | (go_at_call 10; exact Calls.regrown_of (isValue10 _ _ _ _ (by assumption)))
      | (go_at_call 11; exact Calls.regrown_of (same11 _ _ _ _ _ _ _))
      | (go_at_call 12; exact Calls.regrown_of (zero12 _ _))
      | (go_at_call 13; exact Calls.regrown_of (refZero13 _ _))
      | (go_at_call 14; exact Calls.regrown_of (name14 _ _ (by assumption)))
      | (go_at_call 15; exact Calls.regrown_of (refName15' _ _ (by assumption)))))
    refine wpQuiet_nil ?_
    intro _ hw'
    obtain ⟨⟨dq, osq⟩, hw''⟩ := hw'
    subst hw''
    go_wp2
    go_ret
    exact ⟨rfl, ((((Below.refl _ _).alloc (Nat.le_refl _) _).alloc (by simp) _).trans (hb1.mono (by simp; omega))).trans ((below_regrown w1 dq osq).mono (by have := hb1.size; simp at this; omega))⟩

theorem walk (k n k' n' kd : Int) (s s' t : ByteArray) (hs : s.size ≤ maxLen) (hs' : s'.size ≤ maxLen) (ht : t.size ≤ maxLen) (w : World) :
    Calls Try.prog 3 #[.agg #[.int .i64 k, .int .i64 n, .string s], .agg #[.int .i64 k', .int .i64 n', .string s'], .int .i64 kd, .string t] w fun e w' => e = .returned (.bool true) ∧ Below w.heap.size w w' := by
  by_cases h : 100 < t.size ∨ 100 < s.size ∨ 100 < s'.size
  · exact walk_far k n k' n' kd s s' t hs hs' ht h w
  · exact walk_near k n k' n' kd s s' t (by omega) (by omega) (by omega) w

theorem cells23 : Try.prog.cellsOf 23 = 3 := by kernel_rfl

/-- A value of the type api.Value, as it is read: a kind, a number, a text. -/
theorem open_value {H : Type} {enc : TypeId × Value → H} {W : World} {r : Reach} {b0 : Nat} {v : Value} {d : DataW H} {p : List MemPlace} {sp : Nat → Bool} {hd : Bool} {bs : Nat}
    (hv : Value.okWide Try.prog W r b0 23 v) (h : DataW.Trod enc Try.prog W bs sp hd 23 v d p) : ∃ (k n : Int) (s : ByteArray), v = .agg #[.int .i64 k, .int .i64 n, .string s] ∧ s.size ≤ maxLen := by
  obtain ⟨c0, c1, c2, y0, y1, y2, m, rfl, _, _, hy0, hy1, hy2⟩ := open_agg3 Try.underlying23 (by kernel_rfl) cells23 hv h
  obtain ⟨k, e0, rfl, _⟩ := DataW.trod_int Try.underlying3 hy0
  obtain ⟨n, e1, rfl, _⟩ := DataW.trod_int Try.underlying2 hy1
  obtain ⟨s, e2, rfl, hs⟩ := DataW.trod_string Try.underlying9 hy2
  simp only [List.cons.injEq, and_true] at e0 e1 e2
  subst e0 e1 e2
  exact ⟨k, n, s, rfl, hs⟩

set_option maxRecDepth 100000 in
theorem lifted (os : Os) (started : os.Started) (H : Type) (enc : TypeId × Value → H) :
    ReturnsInHanded {} Try.checked os 3 .any (Rows.valueTellsSpec.pre6 enc Try.prog Try.f3 Rows.valueTellsRow.domain false) (Rows.valueTellsSpec.post enc Try.prog Try.f3 false true false false) := by
  refine returnsInHanded_of_change (C := Try.checked) own started (by kernel_rfl) Try.func3
    (ChangeSpec.witness6 (enc := enc) (C := Try.checked) false ⟨#[], #[.agg #[.int .i64 0, .int .i64 0, .string ⟨#[]⟩], .agg #[.int .i64 0, .int .i64 0, .string ⟨#[]⟩], .int .i64 0, .string ⟨#[]⟩], []⟩ 8 (by kernel_rfl) (by kernel_rfl) (by kernel_rfl) (by kernel_rfl)) ?_
  intro W base args ds gs before hval0 hW hcnd _
  have hval : ∀ (j : Nat) t v, Try.f3.params[j]? = some t → args[j]? = some v → Value.okWide Try.prog W .any base t v := hval0
  have hW' := hW
  obtain ⟨p, q, hA0, hV, rfl, hfz, hnd⟩ := hW
  have hA : DataW.TrodAll enc Try.prog W 0 (fun _ => true) true Try.f3.params.toList args.toList ds p := hA0
  rw [Try.params3] at hA hval
  obtain ⟨v0, vs0, d0, ds0, p0, q0, hargs, rfl, rfl, h0, r0⟩ := trodAll_cons hA
  obtain ⟨v1, vs1, d1, ds1, p1, q1, rfl, rfl, rfl, h1, r1⟩ := trodAll_cons r0
  obtain ⟨v2, vs2, d2, ds2, p2, q2, rfl, rfl, rfl, h2, r2⟩ := trodAll_cons r1
  obtain ⟨v3, vs3, d3, ds3, p3, q3, rfl, rfl, rfl, h3, r3⟩ := trodAll_cons r2
  obtain ⟨rfl, rfl, rfl⟩ := trodAll_nil r3
  obtain rfl : args = #[v0, v1, v2, v3] := by cases args; simp_all
  obtain ⟨rfl, rfl⟩ := trodVars_none hV
  have lt0 : ∀ x ∈ p0, x.block < W.heap.size := by obtain ⟨m, hm⟩ := h0; exact DataW.trod_lt m _ _ _ hm
  have lt1 : ∀ x ∈ p1, x.block < W.heap.size := by obtain ⟨m, hm⟩ := h1; exact DataW.trod_lt m _ _ _ hm
  have lt2 : ∀ x ∈ p2, x.block < W.heap.size := by obtain ⟨m, hm⟩ := h2; exact DataW.trod_lt m _ _ _ hm
  have lt3 : ∀ x ∈ p3, x.block < W.heap.size := by obtain ⟨m, hm⟩ := h3; exact DataW.trod_lt m _ _ _ hm
  obtain ⟨k, n, s, rfl, hs⟩ := open_value (hval 0 23 v0 rfl rfl) h0
  obtain ⟨k', n', s', rfl, hs'⟩ := open_value (hval 1 23 v1 rfl rfl) h1
  obtain ⟨kd, rfl, _, _, _⟩ := open_int Try.underlying3 (hval 2 3 v2 rfl rfl) h2
  obtain ⟨t, rfl, _, _, ht⟩ := open_string Try.underlying9 (hval 3 9 v3 rfl rfl) h3
  clear hA0 hval0
  refine (walk k n k' n' kd s s' t hs hs' ht W).mono fun e W' ⟨he, bel⟩ => ?_
  subst he
  exact ⟨_, rfl, _, _, _, [], _, [], hW', trodAll_mk1 (shut_bool Try.underlying4 _),
    trodAll_cons_mk (Below.trod laidOut (by kernel_rfl) (of_decide_eq_true (by kernel_rfl)) h0 bel lt0) (trodAll_cons_mk (Below.trod laidOut (by kernel_rfl) (of_decide_eq_true (by kernel_rfl)) h1 bel lt1)
      (trodAll_cons_mk (Below.trod laidOut (by kernel_rfl) (of_decide_eq_true (by kernel_rfl)) h2 bel lt2) (trodAll_cons_mk (Below.trod laidOut (by kernel_rfl) (of_decide_eq_true (by kernel_rfl)) h3 bel lt3) trodAll_mk0))),
    rfl, bel.frame _, fun h => by cases h⟩

theorem over : Rows.valueTellsRow.holds Try.pinned (OpenSpec.ofChange Rows.valueTellsSpec) :=
  OpenClaim.holds_of_wide 3 Try.f3 rfl rfl rfl rfl rfl rfl rfl ⟨rfl, rfl, rfl, rfl, rfl⟩ rfl rfl rfl rfl rfl (by kernel_rfl) Try.func3 (by kernel_rfl)
    (of_decide_eq_true (by kernel_rfl)) (by unfold Func.isWrapper; first | (rw [if_pos (by decide +kernel)]; kernel_rfl) | (rw [if_neg (by decide +kernel)]; exact ⟨rfl, rfl⟩))
    (fun os started H enc _ => lifted os started H enc)

end Go.Proofs.Ythejndgnnlflhaa.valueTells

namespace Go.Proofs.Ythejndgnnlflhaa
theorem valueTells_holds : Rows.ValueTellsSaid := valueTells.over
end Go.Proofs.Ythejndgnnlflhaa
