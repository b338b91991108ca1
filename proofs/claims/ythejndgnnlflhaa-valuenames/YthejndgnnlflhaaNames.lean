/-
  Proved: for every three bytes the call of ValueNames returns true, and they read behind it as they read before; no condition.
-/
import Derived.Test.YthejndgnnlflhaaBytes
import Derived.ProofKit
import Derived.OpenShut
namespace Go.Proofs.Ythejndgnnlflhaa.valueNames
open Go.ChangeShapes Go.WideShapes Go.ChangeAt Go.RowKit

theorem own : ownKnob Try.prog.godebug = none := by kernel_rfl
theorem info5 : (Try.prog.info? 5).map (fun i => (i.zero, i.size, i.bytes)) = some (some (.int .u8 0), 1, 1) := by kernel_rfl

set_option maxHeartbeats 1000000 in
theorem walk (n m y : Int) (hn : 0 ≤ n ∧ n ≤ 255) (hm : 0 ≤ m ∧ m ≤ 255) (hy : 0 ≤ y ∧ y ≤ 255) (w : World) :
    Calls Try.prog 6 #[.int .u8 n, .int .u8 m, .int .u8 y] w fun e w' => e = .returned (.bool true) ∧ Below w.heap.size w w' := by
  obtain ⟨hn1, hn2⟩ := hn
  obtain ⟨hm1, hm2⟩ := hm
  obtain ⟨hy1, hy2⟩ := hy
  obtain ⟨k, hk⟩ : ∃ k : Nat, n % 11 = (k : Int) := ⟨(n % 11).toNat, by omega⟩
  have hk20 : k < 11 := by omega
  obtain ⟨i0, hi, hz0, hz1, hz2⟩ := info_parts info5
  go_enter Try.func6, Try.ntmps6
  go_wp2_with (first
    | (go_at_call 8; refine (known8 _).mono ?_; rintro e w1 ⟨rfl, hb1⟩)
    | (at_make; refine wpList_make_full _ rfl _ _ 35 rfl w1.heap.size 5 i0 (.int .u8 0) 1 Try.underlying35 hi hz0 hz1 .i64 .i64 _ _ k rfl rfl (by first | rfl | omega) (by first | rfl | omega) (by rw [hz2]; omega) (by unfold maxLen; omega) (Nat.le_refl _) ?_; intro w2 hown0 hgrow0))
  have hrow0 := hide (ByteRow.made hown0)
  have hB2 : Below w1.heap.size w1 w2 := (Below.refl _ _).grown hgrow0 (Nat.le_refl _) (fun k e => by cases e)
  have hsz2 : w1.heap.size < w2.heap.size := by
    rcases hown0.2 with ⟨h', _⟩ | ⟨g, cap, cur, h', _, hg, _⟩
    · simp at h'
    · simp at h'; obtain ⟨rfl, _⟩ := h'; exact (Array.getElem?_eq_some_iff.1 hg).1
  clear hown0
  go_loopw [9] (fun i wr => ∃ j : Nat, j ≤ k ∧ i = .int .i64 j ∧ Hid (∃ xs, ByteRow wr w1.heap.size k xs ∧ ∀ i, i < j → xs.getD i 0 = 110) ∧ Below w1.heap.size w1 wr ∧ w1.heap.size < wr.heap.size) (fun i _ => k - (intOf i).toNat)
  case atStart => exact ⟨0, Nat.zero_le _, rfl, hide ⟨_, unhide hrow0, fun i h => by omega⟩, hB2, hsz2⟩
  case round =>
    obtain ⟨j, hj, rfl, hrow, hB, hsz⟩ := hrel
    obtain ⟨xs, hr, hx⟩ := unhide hrow
    clear hrow hrow0
    by_cases hlt : j < k
    · have hc := hr.2.1 j hlt
      have hf := hr.2.2 j hlt
      have Hr := hide hr
      have Hx := hide hx
      clear hr hx
      go_wp2
      go_roundw
      case rel => exact ⟨j + 1, by omega, by go_num, hide ⟨_, (unhide Hr).set j hlt 110, fun i h => (by
          by_cases e : i = j
          · subst e; simp [List.getD, (unhide Hr).1, hlt]
          · have := unhide Hx i (by omega); simpa [List.getD, Ne.symm e] using this)⟩, hB.setCell (p := ⟨w1.heap.size, j, none⟩) (Nat.le_refl _) _, by simp; exact hsz⟩
      case measure => simp [intOf]; omega
    · have ejk : k = j := by omega
      subst ejk
      have Hr := hide hr
      have Hx := hide hx
      clear hr hx hlt hj
      by_cases h0 : k = 0
      · subst h0
        have e0 : xs = [] := List.length_eq_zero_iff.1 (unhide Hr).1
        have hcv := conv_bytes (unhide Hr)
        rw [e0] at hcv
        obtain ⟨s, hs⟩ : ∃ s, s = strOfNums [] := ⟨_, rfl⟩
        rw [← hs] at hcv
        have hsz0 : s.size ≤ maxLen := by rw [hs, strOfNums_size]; simp
        have e1 : nameB s = false := by rw [hs]; kernel_rfl
        clear hs e0
        go_wp2_with fail
        refine (name14 _ _ hsz0).mono ?_
        rintro e w4 ⟨rfl, hb4⟩
        rw [e1]
        go_wp2_with fail
        go_ret
        have b4 := hB.trans (hb4.mono (Nat.le_of_lt hsz))
        exact ⟨rfl, hb1.trans (b4.mono hb1.size)⟩
      · obtain ⟨p, hp, hpk⟩ : ∃ p : Nat, m % (k : Int) = (p : Int) ∧ p < k := by
          have h1 := Int.emod_nonneg m (show (k : Int) ≠ 0 by omega)
          have h2 := Int.emod_lt_of_pos m (show 0 < (k : Int) by omega)
          exact ⟨(m % (k : Int)).toNat, by omega, by omega⟩
        have hrow2 := hide ((unhide Hr).set p hpk y)
        have hcv := conv_bytes (unhide hrow2)
        obtain ⟨s, hs⟩ : ∃ s, s = strOfNums (xs.set p y) := ⟨_, rfl⟩
        rw [← hs] at hcv
        have hss : s.size = k := by rw [hs, strOfNums_size]; simpa using (unhide Hr).1
        have hsz0 : s.size ≤ maxLen := by rw [hss]; unfold maxLen; omega
        have he1 : nameB s = ((decide (1 ≤ k) && decide (k ≤ 8)) && (decide (97 ≤ y) && decide (y ≤ 122))) := by
          have h1 := allB_set 97 122 110 y k p xs (unhide Hr).1 hpk (unhide Hx) ⟨by omega, by omega⟩ ⟨hy1, hy2⟩ (by kernel_rfl)
          rw [← hs] at h1
          simp only [nameB, hss, h1, inB]
        have hcell := (unhide Hr).2.1 p hpk
        have hfr := (unhide Hr).2.2 p hpk
        have hk0 : (0 : Int) < (k : Int) := by omega
        have hpk' : (p : Int) < (k : Int) := by omega
        clear hs hss
        have hk1 : (1 : Int) ≤ (k : Int) := by omega
        have hcase : (k ≤ 8 ∧ 97 ≤ y ∧ y ≤ 122 ∧ nameB s = true) ∨ (8 < k ∧ nameB s = false) ∨ (k ≤ 8 ∧ y < 97 ∧ nameB s = false) ∨ (k ≤ 8 ∧ 97 ≤ y ∧ 122 < y ∧ nameB s = false) := by
          rw [he1]
          simp only [Bool.and_eq_true, decide_eq_true_eq, Bool.and_eq_false_iff, decide_eq_false_iff_not]
          omega
        clear he1 h0
        rcases hcase with ⟨h16, h32, h126, he1⟩ | ⟨h16, he1⟩ | ⟨h16, h32, he1⟩ | ⟨h16, h32, h126, he1⟩
        all_goals
          try have hd8 : decide ((k : Int) ≤ 8) = false := decide_eq_false (by omega)
          try have hd122 : decide (y ≤ 122) = false := decide_eq_false (by omega)
          go_wp2_with fail
          refine (name14 _ _ hsz0).mono ?_
          rintro e w4 ⟨rfl, hb4⟩
          rw [he1]
          go_wp2_with fail
          go_ret
          have b3 := hB.setCell (p := ⟨w1.heap.size, p, none⟩) (Nat.le_refl _) (.int .u8 y)
          have b4 := b3.trans (hb4.mono (by simp; omega))
          exact ⟨rfl, hb1.trans (b4.mono hb1.size)⟩

set_option maxRecDepth 100000 in
theorem lifted (os : Os) (started : os.Started) (H : Type) (enc : TypeId × Value → H) :
    ReturnsInHanded {} Try.checked os 6 .any (Rows.valueNamesSpec.pre6 enc Try.prog Try.f6 Rows.valueNamesRow.domain false) (Rows.valueNamesSpec.post enc Try.prog Try.f6 false true false false) := by
  refine returnsInHanded_of_change (C := Try.checked) own started (by kernel_rfl) Try.func6
    (ChangeSpec.witness6 (enc := enc) (C := Try.checked) false ⟨#[], #[.int .u8 0, .int .u8 0, .int .u8 0], []⟩ 8 (by kernel_rfl) (by kernel_rfl) (by kernel_rfl) (by kernel_rfl)) ?_
  intro W base args ds gs before hval0 hW hcnd _
  have hval : ∀ (j : Nat) t v, Try.f6.params[j]? = some t → args[j]? = some v → Value.okWide Try.prog W .any base t v := hval0
  have hW' := hW
  obtain ⟨p, q, hA0, hV, rfl, hfz, hnd⟩ := hW
  have hA : DataW.TrodAll enc Try.prog W 0 (fun _ => true) true Try.f6.params.toList args.toList ds p := hA0
  rw [Try.params6] at hA hval
  obtain ⟨v0, vs0, d0, ds0, p0, q0, hargs, rfl, rfl, h0, r0⟩ := trodAll_cons hA
  obtain ⟨v1, vs1, d1, ds1, p1, q1, rfl, rfl, rfl, h1, r1⟩ := trodAll_cons r0
  obtain ⟨v2, vs2, d2, ds2, p2, q2, rfl, rfl, rfl, h2, r2⟩ := trodAll_cons r1
  obtain ⟨rfl, rfl, rfl⟩ := trodAll_nil r2
  obtain rfl : args = #[v0, v1, v2] := by cases args; simp_all
  obtain ⟨rfl, rfl⟩ := trodVars_none hV
  obtain ⟨a0, rfl, rfl, rfl, w0⟩ := open_int Try.underlying5 (hval 0 5 v0 rfl rfl) h0
  obtain ⟨a1, rfl, rfl, rfl, w1⟩ := open_int Try.underlying5 (hval 1 5 v1 rfl rfl) h1
  obtain ⟨a2, rfl, rfl, rfl, w2⟩ := open_int Try.underlying5 (hval 2 5 v2 rfl rfl) h2
  clear hA0 hval0
  simp only [List.append_nil] at hW'
  refine (walk a0 a1 a2 (bounds_u8 w0) (bounds_u8 w1) (bounds_u8 w2) W).mono fun e W' ⟨he, bel⟩ => ?_
  subst he
  exact ⟨_, rfl, _, _, _, [], [], [], hW', trodAll_mk1 (shut_bool Try.underlying4 _), (trodAll_cons_mk (shut_int Try.underlying5 w0) (trodAll_cons_mk (shut_int Try.underlying5 w1) (trodAll_cons_mk (shut_int Try.underlying5 w2) trodAll_mk0))), rfl, bel.frame _, fun h => by cases h⟩

theorem over : Rows.valueNamesRow.holds Try.pinned (OpenSpec.ofChange Rows.valueNamesSpec) :=
  OpenClaim.holds_of_wide 6 Try.f6 rfl rfl rfl rfl rfl rfl rfl ⟨rfl, rfl, rfl, rfl, rfl⟩ rfl rfl rfl rfl rfl (by kernel_rfl) Try.func6 (by kernel_rfl)
    (of_decide_eq_true (by kernel_rfl)) (by unfold Func.isWrapper; first | (rw [if_pos (by decide +kernel)]; kernel_rfl) | (rw [if_neg (by decide +kernel)]; exact ⟨rfl, rfl⟩))
    (fun os started H enc _ => lifted os started H enc)

end Go.Proofs.Ythejndgnnlflhaa.valueNames

namespace Go.Proofs.Ythejndgnnlflhaa
theorem valueNames_holds : Rows.ValueNamesSaid := valueNames.over
end Go.Proofs.Ythejndgnnlflhaa
