/-
  What the reader's node does at every depth; what its condition does.
-/
import Derived.Test.YtmhpakhnclkenaaGreatDoorParI
namespace Go.Proofs.YtmhpakhnclkenaaGreatDoor
open Go.RowKit Go.Shelf

theorem node_all : ∀ (f : Nat), f ≤ 5 → ∀ (n B : Nat) (s : Ps), 3 < B → 0 ≤ s.nd → s.nd + 2 ^ (f + 1) ≤ 1000000 → NodeAt n B (6 - (f : Int)) s (nodeF (f + 1) (6 - (f : Int)) s)
  | 0, _, n, B, s, hB, h0, h1 => by
    refine node_step n B 0 _ (by decide) (by decide) s h0 (by simp at h1; omega) hB ?_
    intro h; exact absurd (by decide) h
  | f + 1, hf, n, B, s, hB, h0, h1 => by
    have hd : (6 : Int) - ((f + 1 : Nat) : Int) + 1 = 6 - (f : Int) := by omega
    have hpow : (2 : Int) ^ (f + 1 + 1) = 2 ^ (f + 1) + 2 ^ (f + 1) := by rw [Int.pow_succ]; omega
    have hp1 : (1 : Int) ≤ 2 ^ (f + 1) := Int.le_of_lt_add_one (by have := Int.pow_pos (n := 2) (m := f + 1) (by decide); omega)
    refine node_step n B (f + 1) _ (by omega) (by omega) s h0 (by omega) hB ?_
    intro _ V hR hP
    have IH := fun s' (hs : 0 ≤ s'.nd) (hs' : s'.nd + 2 ^ (f + 1) ≤ 1000000) => node_all f (by omega) n B s' hB hs hs'
    have hm : (must1 ⟨s.rest, s.nd + 1, s.er⟩ oB).nd = s.nd + 1 := must1_nd _ _
    by_cases hN : isW (must1 ⟨s.rest, s.nd + 1, s.er⟩ oB).head noB = true
    · have e : innerF (f + 1) (6 - ((f + 1 : Nat) : Int)) ⟨s.rest, s.nd + 1, s.er⟩ = (.mk (dOp 12) [(nodeF (f + 1) (6 - (f : Int)) (must1 ⟨s.rest, s.nd + 1, s.er⟩ oB).tl).1], must1 (nodeF (f + 1) (6 - (f : Int)) (must1 ⟨s.rest, s.nd + 1, s.er⟩ oB).tl).2 cB) := by
        rw [innerF, if_pos hN, hd]
      rw [e]
      refine inner_not n B _ (by omega) (by omega) _ _ _ _ rfl hN ?_ V hR hP hB
      rw [hd]
      exact IH _ (by show 0 ≤ (must1 _ oB).nd; omega) (by show (must1 _ oB).nd + _ ≤ _; omega)
    · have hN' : isW (must1 ⟨s.rest, s.nd + 1, s.er⟩ oB).head noB = false := by simpa using hN
      have b1 := nodeF_nd (f + 1) (6 - (f : Int)) (must1 ⟨s.rest, s.nd + 1, s.er⟩ oB)
      have e1 : (opP (nodeF (f + 1) (6 - (f : Int)) (must1 ⟨s.rest, s.nd + 1, s.er⟩ oB)).2).2.nd = (nodeF (f + 1) (6 - (f : Int)) (must1 ⟨s.rest, s.nd + 1, s.er⟩ oB)).2.nd := opF_nd _ _ _
      rw [innerF, if_neg hN, hd]
      obtain ⟨s2, hs2⟩ : ∃ s2, must1 ⟨s.rest, s.nd + 1, s.er⟩ oB = s2 := ⟨_, rfl⟩
      rw [hs2] at hN' b1 e1 hm ⊢
      obtain ⟨t1, s3, h3⟩ : ∃ t1 s3, nodeF (f + 1) (6 - (f : Int)) s2 = (t1, s3) := ⟨_, _, rfl⟩
      rw [h3] at b1 e1 ⊢
      obtain ⟨o, s4, h4⟩ : ∃ o s4, opP s3 = (o, s4) := ⟨_, _, rfl⟩
      simp only at e1 b1 ⊢
      rw [h4] at e1 ⊢
      simp only at e1 ⊢
      obtain ⟨t2, s5, h5⟩ : ∃ t2 s5, nodeF (f + 1) (6 - (f : Int)) s4 = (t2, s5) := ⟨_, _, rfl⟩
      rw [h5]
      refine inner_op n B _ (by omega) (by omega) _ _ _ _ _ _ _ _ hs2 hN' ?_ h4 ?_ V hR hP hB
      · rw [hd, ← h3]; exact IH _ (by omega) (by omega)
      · rw [hd, ← h5]; exact IH _ (by omega) (by omega)

set_option maxRecDepth 100000 in
set_option maxHeartbeats 4000000 in
theorem cond_c (n B : Nat) (s : Ps) (W : World) (h : RS n B W s) (hP : PsV W) (hB3 : 3 < B) :
    Calls Tryz.prog 19 #[.pointer (some ⟨B, 0, none⟩)] W fun r W' => ∃ v, r = .returned v ∧ TreeAt W.heap.size W' v (condF s).1 ∧ RS n B W' (condF s).2 ∧ Kb B W W' := by
  have hBl := h.lt
  have hnW := h.1
  have hne : W.heap.size ≠ B := by omega
  obtain ⟨W0, hW0⟩ : ∃ W0, W0 = W.alloc (.cells zeroE 27) := ⟨_, rfl⟩
  have b0 : Below W.heap.size W W0 := by rw [hW0]; exact (Below.refl _ _).alloc (Nat.le_refl _) _
  have y0 : Box W0 W.heap.size 27 zeroE := by rw [hW0]; exact Box.new _ _ _
  have h0 := h.up b0
  obtain ⟨hnw, hBn, ra, rc, g1, g2, hx, hw⟩ := h0
  obtain ⟨hb0, hb1, hb2⟩ := hx.three
  have hbf := hx.frz 1
  have h0' : RS n B W0 s := ⟨hnw, hBn, ra, rc, g1, g2, hx, hw⟩
  obtain ⟨W1, hW1⟩ : ∃ W1, W1 = W0.setCell ⟨B, 1, none⟩ (.int .i64 0) := ⟨_, rfl⟩
  have h1 : RS n B W1 ⟨s.rest, 0, s.er⟩ := by rw [hW1]; exact rs_nd h0' 0
  have y1 : Box W1 W.heap.size 27 zeroE := by rw [hW1]; exact y0.other _ _ (by show B ≠ W.heap.size; omega)
  have k1 : Kb B W W1 := by rw [hW1]; exact (Kb.of b0).set 1 _
  have cN := node_all 5 (by decide) n B ⟨s.rest, 0, s.er⟩ hB3 (Int.le_refl _) (by show (0 : Int) + 2 ^ (5 + 1) ≤ 1000000; decide) W1 h1 (hP.kb k1 hB3)
  obtain ⟨⟨dd, ks⟩, sI, hI⟩ : ∃ tt sI, condF s = (tt, sI) := ⟨_, _, rfl⟩
  have hI2 : nodeF (5 + 1) (6 - ((5 : Nat) : Int)) ⟨s.rest, 0, s.er⟩ = (.mk dd ks, sI) := hI
  rw [hI2] at cN
  rw [hI]
  clear hI hI2 hx hw g1 g2 h0' y0
  have cN' : Calls Tryz.prog 45 #[.pointer (some ⟨B, 0, none⟩), .int .i64 1] W1 _ := cN
  have Y := hide y1
  have K := hide k1
  have CN := hide cN'
  clear cN cN' h1 y1 k1
  go_enter Tryz.func19, Tryz.ntmps19
  go_upto_region 1 with fail
  rw [← hW0]
  clear hW0 b0
  go_upto_region 2 with fail
  rw [← hW1]
  clear hW1 hb0 hb1 hb2 hbf
  go_wp2_with fail
  refine (unhide CN).mono ?_
  rintro r W6 ⟨v, rfl, ⟨ka, kc, rfl, hl⟩, h6, k6⟩
  have y6 := k6.box (unhide Y) hne
  have k7 := (unhide K).trans k6
  have hyl := (unhide Y).lt
  have HL := hide (hl.mono (n := W.heap.size + 1) (by omega) (Nat.le_refl _))
  clear k6 hl
  obtain ⟨hr0, hr1, hr2, hr3, hr4, hr5, hr6⟩ := y6.seven
  have hf0 := y6.frz 0
  have hf1 := y6.frz 1
  have hf2 := y6.frz 2
  have hf3 := y6.frz 3
  have hf4 := y6.frz 4
  have hf5 := y6.frz 5
  have hf6 := y6.frz 6
  have YY := hide y6
  have KK := hide k7
  have HH := hide h6
  clear y6 k7 h6
  go_wp2_with fail
  have kE := (unhide KK).put7 (D := W.heap.size) (Nat.le_refl _) (.int .i64 dd.op) (.int .i64 dd.k) (.int .i64 dd.n) (.string dd.s.1) (.string dd.al.1) (.string dd.fd.1) (.slice ka ks.length kc)
  have hE := (unhide HH).put7 hnW (.int .i64 dd.op) (.int .i64 dd.k) (.int .i64 dd.n) (.string dd.s.1) (.string dd.al.1) (.string dd.fd.1) (.slice ka ks.length kc)
  obtain ⟨q0, q1, q2, q3, q4, q5, q6⟩ := ((unhide YY).put7' (.int .i64 dd.op) (.int .i64 dd.k) (.int .i64 dd.n) (.string dd.s.1) (.string dd.al.1) (.string dd.fd.1) (.slice ka ks.length kc)).seven
  refine bodyPost_ret (v := Dat.v dd ka ks.length kc) (by simp [results, Tryz.results19, go_sem, q0, q1, q2, q3, q4, q5, q6]) rfl ?_
  have lE := ((unhide HL).kb (((((((((Kb.refl W.heap.size W6).set 0 (.int .i64 dd.op)).set 1 (.int .i64 dd.k)).set 2 (.int .i64 dd.n)).set 3 (.string dd.s.1)).set 4 (.string dd.al.1)).set 5 (.string dd.fd.1)).set 6 (.slice ka ks.length kc))) (Nat.lt_succ_self _) (Nat.le_refl _)).mono (n := W.heap.size) (Nat.le_succ _) (show W6.heap.size ≤ (((((((W6.setCell ⟨W.heap.size, 0, none⟩ (.int .i64 dd.op)).setCell ⟨W.heap.size, 1, none⟩ (.int .i64 dd.k)).setCell ⟨W.heap.size, 2, none⟩ (.int .i64 dd.n)).setCell ⟨W.heap.size, 3, none⟩ (.string dd.s.1)).setCell ⟨W.heap.size, 4, none⟩ (.string dd.al.1)).setCell ⟨W.heap.size, 5, none⟩ (.string dd.fd.1)).setCell ⟨W.heap.size, 6, none⟩ (.slice ka ks.length kc)).heap.size by simp)
  exact ⟨_, rfl, ⟨ka, kc, rfl, lE⟩, hE, kE⟩
end Go.Proofs.YtmhpakhnclkenaaGreatDoor
