/-
  What the reader's node does, but for what inner does: five ways.
-/
import Derived.Test.YtmhpakhnclkenaaGreatDoorParH
namespace Go.Proofs.YtmhpakhnclkenaaGreatDoor
open Go.RowKit Go.Shelf

theorem nodeF_none (f : Nat) (d : Int) (s : Ps) (h1 : litB s.head = false) (h2 : ¬ s.head.k = 1) (h3 : isW s.head oB = false) : nodeF (f + 1) d s = (e0, s.fail 10) := by
  rw [nodeF, if_pos ⟨h1, h2, h3⟩]
theorem nodeF_large (f : Nat) (d : Int) (s : Ps) (h : ¬ (litB s.head = false ∧ s.head.k ≠ 1 ∧ isW s.head oB = false)) (h2 : 5 < d ∨ 24 < s.nd + 1) : nodeF (f + 1) d s = (e0, (Ps.mk s.rest (s.nd + 1) s.er).fail 12) := by
  rw [nodeF, if_neg h, if_pos h2]
theorem nodeF_lit (f : Nat) (d : Int) (s : Ps) (h : litB s.head = true) (h2 : ¬ (5 < d ∨ 24 < s.nd + 1)) : nodeF (f + 1) d s = (.mk (litD s.head) [], (takeP ⟨s.rest, s.nd + 1, s.er⟩ s.head.k).2) := by
  rw [nodeF, if_neg (by simp [h]), if_neg h2, if_pos h]
theorem nodeF_field (f : Nat) (d : Int) (s : Ps) (h : litB s.head = false) (hk : s.head.k = 1) (h2 : ¬ (5 < d ∨ 24 < s.nd + 1)) : nodeF (f + 1) d s = fieldP ⟨s.rest, s.nd + 1, s.er⟩ := by
  rw [nodeF, if_neg (by simp [hk]), if_neg h2, if_neg (by simp [h]), if_pos hk]
/-- What inner gives. -/
def innerF (f : Nat) (d : Int) (s : Ps) : Tree × Ps :=
  if isW (must1 s oB).head noB then (.mk (dOp 12) [(nodeF f (d + 1) (must1 s oB).tl).1], must1 (nodeF f (d + 1) (must1 s oB).tl).2 cB)
  else (.mk (dOp (opP (nodeF f (d + 1) (must1 s oB)).2).1) [(nodeF f (d + 1) (must1 s oB)).1, (nodeF f (d + 1) (opP (nodeF f (d + 1) (must1 s oB)).2).2).1], must1 (nodeF f (d + 1) (opP (nodeF f (d + 1) (must1 s oB)).2).2).2 cB)
theorem nodeF_inner (f : Nat) (d : Int) (s : Ps) (h : litB s.head = false) (hk : ¬ s.head.k = 1) (ho : isW s.head oB = true) (h2 : ¬ (5 < d ∨ 24 < s.nd + 1)) : nodeF (f + 1) d s = innerF f d ⟨s.rest, s.nd + 1, s.er⟩ := by
  rw [nodeF, if_neg (by simp [ho]), if_neg h2, if_neg (by simp [h]), if_neg hk]
  rfl
theorem litB_k {w : Pw} (h : litB w = true) : ¬ w.k = 0 := by
  intro h0
  simp only [litB, Bool.or_eq_true, decide_eq_true_eq] at h
  rcases h with ((h | h) | h) | h
  · omega
  · omega
  · have := isW_k h; omega
  · have := isW_k h; omega

theorem rs_nd {n B : Nat} {W : World} {s : Ps} (h : RS n B W s) (m : Int) : RS n B (W.setCell ⟨B, 1, none⟩ (.int .i64 m)) ⟨s.rest, m, s.er⟩ := by
  obtain ⟨hn, hB, a, cap, h1, h2, hx, hw⟩ := h
  exact ⟨by simpa using hn, hB, a, cap, h1, h2, hx.set 1 _, hw.kb hn ((Kb.refl B W).set 1 _)⟩

set_option maxRecDepth 100000 in
set_option maxHeartbeats 8000000 in
theorem node_step (n B f : Nat) (d : Int) (hd1 : 1 ≤ d) (hd6 : d ≤ 6) (s : Ps) (hn0 : 0 ≤ s.nd) (hn1 : s.nd ≤ 1000000) (hB3 : 3 < B)
    (hin : ¬ 5 < d → ∀ V, RS n B V ⟨s.rest, s.nd + 1, s.er⟩ → PsV V → Calls Tryz.prog 80 #[.pointer (some ⟨B, 0, none⟩), .int .i64 d] V fun r V' => ∃ v, r = .returned v ∧ TreeAt V.heap.size V' v (innerF f d ⟨s.rest, s.nd + 1, s.er⟩).1 ∧ RS n B V' (innerF f d ⟨s.rest, s.nd + 1, s.er⟩).2 ∧ Kb B V V') :
    NodeAt n B d s (nodeF (f + 1) d s) := by
  intro W h hP
  have hBl := h.lt
  have hnW := h.1
  have hne : W.heap.size ≠ B := by omega
  obtain ⟨W0, hW0⟩ : ∃ W0, W0 = W.alloc (.cells zeroE 27) := ⟨_, rfl⟩
  have b0 : Below W.heap.size W W0 := by rw [hW0]; exact (Below.refl _ _).alloc (Nat.le_refl _) _
  have y0 : Box W0 W.heap.size 27 zeroE := by rw [hW0]; exact Box.new _ _ _
  have h0 := h.up b0
  have hwr : IntKind.i64.wrap (s.nd + 1) = s.nd + 1 := by rw [IntKind.wrap_i64]; omega
  have E1 := hide (nodeF_none f d s)
  have E2 := hide (nodeF_large f d s)
  have E3 := hide (nodeF_lit f d s)
  have E4 := hide (nodeF_field f d s)
  have E5 := hide (nodeF_inner f d s)
  have hlk := hide (litB_k (w := s.head))
  have cH := head_c n B s W0 h0
  have cT := hide (fun (V : World) (x : RS n B V ⟨s.rest, s.nd + 1, s.er⟩) (hk : s.head.k ≠ 0) => take_c n B ⟨s.rest, s.nd + 1, s.er⟩ s.head.k hk V x)
  obtain ⟨p, hp⟩ : ∃ p, p = nodeF (f + 1) d s := ⟨_, rfl⟩
  rw [← hp] at E1 E2 E3 E4 E5 ⊢
  clear hp
  have hhd : (Ps.mk s.rest (s.nd + 1) s.er).head = s.head := rfl
  rw [hhd] at *
  clear hhd
  generalize s.head = w at E1 E2 E3 E4 E5 hlk cH cT
  have cL := literal9_c w
  have hld : litD w = ⟨1, (litV w).1, (litV w).2.1, (litV w).2.2, t0, t0⟩ := rfl
  rw [hld] at E3
  clear hld
  generalize litV w = lv at cL E3
  obtain ⟨l1, l2, l3⟩ := lv
  simp only at cL E3
  generalize hlb : litB w = lb at cL E1 E2 E3 E4 E5 hlk
  have cI := hide (is_c w oB)
  have dis : ∀ (p q : Prop), True := fun _ _ => trivial
  clear dis
  replace cL := hide cL
  replace cH := hide cH
  replace hlb := hide hlb
  replace hin := hide hin
  go_enter Tryz.func45, Tryz.ntmps45
  go_upto_region 1 with fail
  rw [← hW0]
  clear hW0
  go_wp2_with fail
  refine (unhide cH).mono ?_
  rintro r W1 ⟨rfl, hb1⟩
  clear cH
  obtain ⟨H1, hH1⟩ : ∃ H1, H1 = W1.heap.size := ⟨_, rfl⟩
  obtain ⟨W2, hW2⟩ : ∃ W2, W2 = W1.alloc (.cells #[.int .i64 w.k, .string w.t.1, .int .i64 w.n, .int .i64 w.p] 74) := ⟨_, rfl⟩
  have b2 : Below W1.heap.size W1 W2 := by rw [hW2]; exact (Below.refl _ _).alloc (Nat.le_refl _) _
  have w2 : Box W2 H1 74 #[.int .i64 w.k, .string w.t.1, .int .i64 w.n, .int .i64 w.p] := by rw [hW2, hH1]; exact Box.new _ _ _
  have hH1l : W.heap.size < H1 := by rw [hH1]; have := (y0.on hb1 y0.lt).lt; omega
  obtain ⟨c0, c1, c2, c3, -⟩ := w2.four8
  go_upto_region 2 with fail
  rw [← hW2, ← hH1]
  clear hW2
  have y2 := (y0.on hb1 y0.lt).on b2 (y0.on hb1 y0.lt).lt
  have h2 := (h0.up hb1).up b2
  have k2 := ((Kb.of (B := B) b0).up hb1).up b2
  have cL2 := hide (unhide cL W2)
  clear hH1 b0 hb1 b2 y0 h0 cL
  go_wp2_with fail
  refine (unhide cL2).mono ?_
  rintro r W3 ⟨rfl, hb3⟩
  clear cL2 c0 c1 c2 c3
  have w3 := w2.on hb3 w2.lt
  obtain ⟨H3, hH3⟩ : ∃ H3, H3 = W3.heap.size := ⟨_, rfl⟩
  obtain ⟨W4, hW4⟩ : ∃ W4, W4 = W3.alloc (.cells #[.int .i64 l1, .int .i64 l2, .string l3.1] 24) := ⟨_, rfl⟩
  have b4 : Below W3.heap.size W3 W4 := by rw [hW4]; exact (Below.refl _ _).alloc (Nat.le_refl _) _
  have v4 : Box W4 H3 24 #[.int .i64 l1, .int .i64 l2, .string l3.1] := by rw [hW4, hH3]; exact Box.new _ _ _
  have w4 := w3.on b4 w3.lt
  have y4 := (y2.on hb3 y2.lt).on b4 (y2.on hb3 y2.lt).lt
  have h4 := (h2.up hb3).up b4
  have k4 := (k2.up hb3).up b4
  have hP4 := hP.kb k4 hB3
  have hH3l : H1 < H3 := by rw [hH3]; exact w3.lt
  have hH1B : H1 ≠ B := by have := h.2.1; omega
  have hH3B : H3 ≠ B := by have := h.2.1; omega
  have cI4 := hide (unhide cI W4)
  clear w2 y2 h2 k2 w3 hb3 cI
  go_upto_region 3 with fail
  rw [← hW4, ← hH3]
  clear hW4 b4 hH3
  obtain ⟨c0, c1, c2, c3, -⟩ := w4.four8
  have Y4 := hide y4
  have K4 := hide k4
  have R4 := hide h4
  have V4 := hide v4
  have P4 := hide hP4
  have X4 := hide w4
  clear y4 k4 h4 v4 hP4 w4
  cases lb
  case false =>
    by_cases hk : w.k = 1
    · rw [hk] at c0
      obtain ⟨hnw, hBn, ra, rc, g1, g2, hx, hw⟩ := unhide R4
      obtain ⟨hb0, hb1, hb2⟩ := hx.three
      have hbf := hx.frz 1
      obtain ⟨WX, hWX⟩ : ∃ WX, WX = W4.setCell ⟨B, 1, none⟩ (.int .i64 (s.nd + 1)) := ⟨_, rfl⟩
      have RX := hide (show RS n B WX ⟨s.rest, s.nd + 1, s.er⟩ by rw [hWX]; exact rs_nd (unhide R4) (s.nd + 1))
      have YX := hide (show Box WX W.heap.size 27 zeroE by rw [hWX]; exact (unhide Y4).other _ _ (by show B ≠ W.heap.size; omega))
      have XX := hide (show Box WX H1 74 #[.int .i64 w.k, .string w.t.1, .int .i64 w.n, .int .i64 w.p] by rw [hWX]; exact (unhide X4).other _ _ (by show B ≠ H1; omega))
      have VX := hide (show Box WX H3 24 #[.int .i64 l1, .int .i64 l2, .string l3.1] by rw [hWX]; exact (unhide V4).other _ _ (by show B ≠ H3; omega))
      have KX := hide (show Kb B W WX by rw [hWX]; exact (unhide K4).set 1 _)
      have PX := hide (hP.kb (unhide KX) hB3)
      clear hx hw g1 g2
      go_upto_region 7 with fail
      rw [← hWX]
      clear hWX hb0 hb1 hb2 hbf R4 Y4 X4 V4 K4
      obtain ⟨rnw, rBn, rra, rrc, rg1, rg2, rhx, rhw⟩ := unhide RX
      obtain ⟨hb0, hb1, hb2⟩ := rhx.three
      clear rg1 rg2 rhx rhw
      by_cases h5 : 5 < d
      · skip
        have cF := hide (fail_c n B ⟨s.rest, s.nd + 1, s.er⟩ 12 (by decide) WX (unhide RX))
        go_wp2_with fail
        refine (unhide cF).mono ?_
        rintro r W6 ⟨rfl, h6, k6⟩
        clear cF
        have y6 := k6.box (unhide YX) hne
        have k7 := (unhide KX).trans k6
        clear k6
        obtain ⟨hr0, hr1, hr2, hr3, hr4, hr5, hr6⟩ := y6.seven
        have hf0 := y6.frz 0
        have hf1 := y6.frz 1
        have hf2 := y6.frz 2
        have hf3 := y6.frz 3
        have hf4 := y6.frz 4
        have hf5 := y6.frz 5
        have hf6 := y6.frz 6
        have YY := hide y6
        have KK := hide k7
        have HH := hide h6
        clear y6 k7 h6
        go_wp2_with fail
        have kE := (unhide KK).put7 (D := W.heap.size) (Nat.le_refl _) (.int .i64 0) (.int .i64 0) (.int .i64 0) (.string ⟨#[]⟩) (.string ⟨#[]⟩) (.string ⟨#[]⟩) (.slice none 0 0)
        have hE := (unhide HH).put7 hnW (.int .i64 0) (.int .i64 0) (.int .i64 0) (.string ⟨#[]⟩) (.string ⟨#[]⟩) (.string ⟨#[]⟩) (.slice none 0 0)
        obtain ⟨q0, q1, q2, q3, q4, q5, q6⟩ := ((unhide YY).put7' (.int .i64 0) (.int .i64 0) (.int .i64 0) (.string ⟨#[]⟩) (.string ⟨#[]⟩) (.string ⟨#[]⟩) (.slice none 0 0)).seven
        refine bodyPost_ret (v := Dat.v d0 none 0 0) (by simp [results, Tryz.results45, go_sem, q0, q1, q2, q3, q4, q5, q6, d0]) rfl ?_
        rw [unhide E2 (by rintro ⟨-, q, -⟩; exact q hk) (.inl h5)]
        exact ⟨_, rfl, ⟨none, 0, rfl, .nil _⟩, hE, kE⟩
      by_cases h24 : 24 < s.nd + 1
      · skip
        have cF := hide (fail_c n B ⟨s.rest, s.nd + 1, s.er⟩ 12 (by decide) WX (unhide RX))
        go_wp2_with fail
        refine (unhide cF).mono ?_
        rintro r W6 ⟨rfl, h6, k6⟩
        clear cF
        have y6 := k6.box (unhide YX) hne
        have k7 := (unhide KX).trans k6
        clear k6
        obtain ⟨hr0, hr1, hr2, hr3, hr4, hr5, hr6⟩ := y6.seven
        have hf0 := y6.frz 0
        have hf1 := y6.frz 1
        have hf2 := y6.frz 2
        have hf3 := y6.frz 3
        have hf4 := y6.frz 4
        have hf5 := y6.frz 5
        have hf6 := y6.frz 6
        have YY := hide y6
        have KK := hide k7
        have HH := hide h6
        clear y6 k7 h6
        go_wp2_with fail
        have kE := (unhide KK).put7 (D := W.heap.size) (Nat.le_refl _) (.int .i64 0) (.int .i64 0) (.int .i64 0) (.string ⟨#[]⟩) (.string ⟨#[]⟩) (.string ⟨#[]⟩) (.slice none 0 0)
        have hE := (unhide HH).put7 hnW (.int .i64 0) (.int .i64 0) (.int .i64 0) (.string ⟨#[]⟩) (.string ⟨#[]⟩) (.string ⟨#[]⟩) (.slice none 0 0)
        obtain ⟨q0, q1, q2, q3, q4, q5, q6⟩ := ((unhide YY).put7' (.int .i64 0) (.int .i64 0) (.int .i64 0) (.string ⟨#[]⟩) (.string ⟨#[]⟩) (.string ⟨#[]⟩) (.slice none 0 0)).seven
        refine bodyPost_ret (v := Dat.v d0 none 0 0) (by simp [results, Tryz.results45, go_sem, q0, q1, q2, q3, q4, q5, q6, d0]) rfl ?_
        rw [unhide E2 (by rintro ⟨-, q, -⟩; exact q hk) (.inr h24)]
        exact ⟨_, rfl, ⟨none, 0, rfl, .nil _⟩, hE, kE⟩
      have hsm : ¬ (5 < d ∨ 24 < s.nd + 1) := by omega
      obtain ⟨xc0, xc1, xc2, xc3, -⟩ := (unhide XX).four8
      rw [hk] at xc0
      obtain ⟨dd, sF, hF⟩ : ∃ dd sF, fieldP ⟨s.rest, s.nd + 1, s.er⟩ = (.mk dd [], sF) := ⟨_, _, rfl⟩
      have cG := field9_c n B ⟨s.rest, s.nd + 1, s.er⟩ WX (unhide RX)
      rw [hF] at cG
      replace hF := hide hF
      replace cG := hide cG
      go_wp2_with fail
      refine (unhide cG).mono ?_
      rintro r W6 ⟨rfl, h6, k6⟩
      clear cG xc0 xc1 xc2 xc3
      have y6 := k6.box (unhide YX) hne
      have k7 := (unhide KX).trans k6
      clear k6
      obtain ⟨hr0, hr1, hr2, hr3, hr4, hr5, hr6⟩ := y6.seven
      have hf0 := y6.frz 0
      have hf1 := y6.frz 1
      have hf2 := y6.frz 2
      have hf3 := y6.frz 3
      have hf4 := y6.frz 4
      have hf5 := y6.frz 5
      have hf6 := y6.frz 6
      have YY := hide y6
      have KK := hide k7
      have HH := hide h6
      clear y6 k7 h6
      go_wp2_with fail
      have kE := (unhide KK).put7 (D := W.heap.size) (Nat.le_refl _) (.int .i64 dd.op) (.int .i64 dd.k) (.int .i64 dd.n) (.string dd.s.1) (.string dd.al.1) (.string dd.fd.1) (.slice none 0 0)
      have hE := (unhide HH).put7 hnW (.int .i64 dd.op) (.int .i64 dd.k) (.int .i64 dd.n) (.string dd.s.1) (.string dd.al.1) (.string dd.fd.1) (.slice none 0 0)
      obtain ⟨q0, q1, q2, q3, q4, q5, q6⟩ := ((unhide YY).put7' (.int .i64 dd.op) (.int .i64 dd.k) (.int .i64 dd.n) (.string dd.s.1) (.string dd.al.1) (.string dd.fd.1) (.slice none 0 0)).seven
      refine bodyPost_ret (v := Dat.v dd none 0 0) (by simp [results, Tryz.results45, go_sem, q0, q1, q2, q3, q4, q5, q6]) rfl ?_
      rw [unhide E4 (by first | trivial | rfl) hk hsm, unhide hF]
      exact ⟨_, rfl, ⟨none, 0, rfl, .nil _⟩, hE, kE⟩
    obtain ⟨io, hio⟩ : ∃ io, io = isW w oB := ⟨_, rfl⟩
    rw [← hio] at cI4
    replace hio := hide hio
    go_wp2_with fail
    refine (unhide cI4).mono ?_
    rintro r WQ ⟨rfl, hbq⟩
    have RQ := hide ((unhide R4).up hbq)
    have YQ := hide ((unhide Y4).on hbq (unhide Y4).lt)
    have XQ := hide ((unhide X4).on hbq (unhide X4).lt)
    have VQ := hide ((unhide V4).on hbq (unhide V4).lt)
    have KQ := hide ((unhide K4).up hbq)
    clear cI4 R4 Y4 X4 V4 K4 c0 c1 c2 c3 hbq
    cases io
    · have ho := (unhide hio).symm
      replace ho := hide ho
      have cF := hide (fail_c n B s 10 (by decide) WQ (unhide RQ))
      go_wp2_with fail
      refine (unhide cF).mono ?_
      rintro r W6 ⟨rfl, h6, k6⟩
      clear cF
      have y6 := k6.box (unhide YQ) hne
      have k7 := (unhide KQ).trans k6
      clear k6
      obtain ⟨hr0, hr1, hr2, hr3, hr4, hr5, hr6⟩ := y6.seven
      have hf0 := y6.frz 0
      have hf1 := y6.frz 1
      have hf2 := y6.frz 2
      have hf3 := y6.frz 3
      have hf4 := y6.frz 4
      have hf5 := y6.frz 5
      have hf6 := y6.frz 6
      have YY := hide y6
      have KK := hide k7
      have HH := hide h6
      clear y6 k7 h6
      go_wp2_with fail
      have kE := (unhide KK).put7 (D := W.heap.size) (Nat.le_refl _) (.int .i64 0) (.int .i64 0) (.int .i64 0) (.string ⟨#[]⟩) (.string ⟨#[]⟩) (.string ⟨#[]⟩) (.slice none 0 0)
      have hE := (unhide HH).put7 hnW (.int .i64 0) (.int .i64 0) (.int .i64 0) (.string ⟨#[]⟩) (.string ⟨#[]⟩) (.string ⟨#[]⟩) (.slice none 0 0)
      obtain ⟨q0, q1, q2, q3, q4, q5, q6⟩ := ((unhide YY).put7' (.int .i64 0) (.int .i64 0) (.int .i64 0) (.string ⟨#[]⟩) (.string ⟨#[]⟩) (.string ⟨#[]⟩) (.slice none 0 0)).seven
      refine bodyPost_ret (v := Dat.v d0 none 0 0) (by simp [results, Tryz.results45, go_sem, q0, q1, q2, q3, q4, q5, q6, d0]) rfl ?_
      rw [unhide E1 (by first | trivial | rfl) hk (unhide ho)]
      exact ⟨_, rfl, ⟨none, 0, rfl, .nil _⟩, hE, kE⟩
    · have ho := (unhide hio).symm
      replace ho := hide ho
      obtain ⟨hnw, hBn, ra, rc, g1, g2, hx, hw⟩ := unhide RQ
      obtain ⟨hb0, hb1, hb2⟩ := hx.three
      have hbf := hx.frz 1
      obtain ⟨WX, hWX⟩ : ∃ WX, WX = WQ.setCell ⟨B, 1, none⟩ (.int .i64 (s.nd + 1)) := ⟨_, rfl⟩
      have RX := hide (show RS n B WX ⟨s.rest, s.nd + 1, s.er⟩ by rw [hWX]; exact rs_nd (unhide RQ) (s.nd + 1))
      have YX := hide (show Box WX W.heap.size 27 zeroE by rw [hWX]; exact (unhide YQ).other _ _ (by show B ≠ W.heap.size; omega))
      have XX := hide (show Box WX H1 74 #[.int .i64 w.k, .string w.t.1, .int .i64 w.n, .int .i64 w.p] by rw [hWX]; exact (unhide XQ).other _ _ (by show B ≠ H1; omega))
      have VX := hide (show Box WX H3 24 #[.int .i64 l1, .int .i64 l2, .string l3.1] by rw [hWX]; exact (unhide VQ).other _ _ (by show B ≠ H3; omega))
      have KX := hide (show Kb B W WX by rw [hWX]; exact (unhide KQ).set 1 _)
      have PX := hide (hP.kb (unhide KX) hB3)
      clear hx hw g1 g2
      go_upto_region 7 with fail
      rw [← hWX]
      clear hWX hb0 hb1 hb2 hbf RQ YQ XQ VQ KQ
      obtain ⟨rnw, rBn, rra, rrc, rg1, rg2, rhx, rhw⟩ := unhide RX
      obtain ⟨hb0, hb1, hb2⟩ := rhx.three
      clear rg1 rg2 rhx rhw
      by_cases h5 : 5 < d
      · skip
        have cF := hide (fail_c n B ⟨s.rest, s.nd + 1, s.er⟩ 12 (by decide) WX (unhide RX))
        go_wp2_with fail
        refine (unhide cF).mono ?_
        rintro r W6 ⟨rfl, h6, k6⟩
        clear cF
        have y6 := k6.box (unhide YX) hne
        have k7 := (unhide KX).trans k6
        clear k6
        obtain ⟨hr0, hr1, hr2, hr3, hr4, hr5, hr6⟩ := y6.seven
        have hf0 := y6.frz 0
        have hf1 := y6.frz 1
        have hf2 := y6.frz 2
        have hf3 := y6.frz 3
        have hf4 := y6.frz 4
        have hf5 := y6.frz 5
        have hf6 := y6.frz 6
        have YY := hide y6
        have KK := hide k7
        have HH := hide h6
        clear y6 k7 h6
        go_wp2_with fail
        have kE := (unhide KK).put7 (D := W.heap.size) (Nat.le_refl _) (.int .i64 0) (.int .i64 0) (.int .i64 0) (.string ⟨#[]⟩) (.string ⟨#[]⟩) (.string ⟨#[]⟩) (.slice none 0 0)
        have hE := (unhide HH).put7 hnW (.int .i64 0) (.int .i64 0) (.int .i64 0) (.string ⟨#[]⟩) (.string ⟨#[]⟩) (.string ⟨#[]⟩) (.slice none 0 0)
        obtain ⟨q0, q1, q2, q3, q4, q5, q6⟩ := ((unhide YY).put7' (.int .i64 0) (.int .i64 0) (.int .i64 0) (.string ⟨#[]⟩) (.string ⟨#[]⟩) (.string ⟨#[]⟩) (.slice none 0 0)).seven
        refine bodyPost_ret (v := Dat.v d0 none 0 0) (by simp [results, Tryz.results45, go_sem, q0, q1, q2, q3, q4, q5, q6, d0]) rfl ?_
        rw [unhide E2 (by rintro ⟨-, -, q⟩; rw [unhide ho] at q; cases q) (.inl h5)]
        exact ⟨_, rfl, ⟨none, 0, rfl, .nil _⟩, hE, kE⟩
      by_cases h24 : 24 < s.nd + 1
      · skip
        have cF := hide (fail_c n B ⟨s.rest, s.nd + 1, s.er⟩ 12 (by decide) WX (unhide RX))
        go_wp2_with fail
        refine (unhide cF).mono ?_
        rintro r W6 ⟨rfl, h6, k6⟩
        clear cF
        have y6 := k6.box (unhide YX) hne
        have k7 := (unhide KX).trans k6
        clear k6
        obtain ⟨hr0, hr1, hr2, hr3, hr4, hr5, hr6⟩ := y6.seven
        have hf0 := y6.frz 0
        have hf1 := y6.frz 1
        have hf2 := y6.frz 2
        have hf3 := y6.frz 3
        have hf4 := y6.frz 4
        have hf5 := y6.frz 5
        have hf6 := y6.frz 6
        have YY := hide y6
        have KK := hide k7
        have HH := hide h6
        clear y6 k7 h6
        go_wp2_with fail
        have kE := (unhide KK).put7 (D := W.heap.size) (Nat.le_refl _) (.int .i64 0) (.int .i64 0) (.int .i64 0) (.string ⟨#[]⟩) (.string ⟨#[]⟩) (.string ⟨#[]⟩) (.slice none 0 0)
        have hE := (unhide HH).put7 hnW (.int .i64 0) (.int .i64 0) (.int .i64 0) (.string ⟨#[]⟩) (.string ⟨#[]⟩) (.string ⟨#[]⟩) (.slice none 0 0)
        obtain ⟨q0, q1, q2, q3, q4, q5, q6⟩ := ((unhide YY).put7' (.int .i64 0) (.int .i64 0) (.int .i64 0) (.string ⟨#[]⟩) (.string ⟨#[]⟩) (.string ⟨#[]⟩) (.slice none 0 0)).seven
        refine bodyPost_ret (v := Dat.v d0 none 0 0) (by simp [results, Tryz.results45, go_sem, q0, q1, q2, q3, q4, q5, q6, d0]) rfl ?_
        rw [unhide E2 (by rintro ⟨-, -, q⟩; rw [unhide ho] at q; cases q) (.inr h24)]
        exact ⟨_, rfl, ⟨none, 0, rfl, .nil _⟩, hE, kE⟩
      have hsm : ¬ (5 < d ∨ 24 < s.nd + 1) := by omega
      obtain ⟨xc0, xc1, xc2, xc3, -⟩ := (unhide XX).four8
      have cG := unhide hin (by omega) WX (unhide RX) (unhide PX)
      obtain ⟨⟨dd, ks⟩, sI, hI⟩ : ∃ tt sI, innerF f d ⟨s.rest, s.nd + 1, s.er⟩ = (tt, sI) := ⟨_, _, rfl⟩
      rw [hI] at cG
      replace hI := hide hI
      replace cG := hide cG
      go_wp2_with fail
      refine (unhide cG).mono ?_
      rintro r W6 ⟨v, rfl, ⟨ka, kc, rfl, hl⟩, h6, k6⟩
      clear cG xc0 xc1 xc2 xc3
      have y6 := k6.box (unhide YX) hne
      have k7 := (unhide KX).trans k6
      have hyl := (unhide YX).lt
      have HL := hide (hl.mono (n := W.heap.size + 1) (by omega) (Nat.le_refl _))
      clear k6 hl
      obtain ⟨hr0, hr1, hr2, hr3, hr4, hr5, hr6⟩ := y6.seven
      have hf0 := y6.frz 0
      have hf1 := y6.frz 1
      have hf2 := y6.frz 2
      have hf3 := y6.frz 3
      have hf4 := y6.frz 4
      have hf5 := y6.frz 5
      have hf6 := y6.frz 6
      have YY := hide y6
      have KK := hide k7
      have HH := hide h6
      clear y6 k7 h6
      go_wp2_with fail
      have kE := (unhide KK).put7 (D := W.heap.size) (Nat.le_refl _) (.int .i64 dd.op) (.int .i64 dd.k) (.int .i64 dd.n) (.string dd.s.1) (.string dd.al.1) (.string dd.fd.1) (.slice ka ks.length kc)
      have hE := (unhide HH).put7 hnW (.int .i64 dd.op) (.int .i64 dd.k) (.int .i64 dd.n) (.string dd.s.1) (.string dd.al.1) (.string dd.fd.1) (.slice ka ks.length kc)
      obtain ⟨q0, q1, q2, q3, q4, q5, q6⟩ := ((unhide YY).put7' (.int .i64 dd.op) (.int .i64 dd.k) (.int .i64 dd.n) (.string dd.s.1) (.string dd.al.1) (.string dd.fd.1) (.slice ka ks.length kc)).seven
      refine bodyPost_ret (v := Dat.v dd ka ks.length kc) (by simp [results, Tryz.results45, go_sem, q0, q1, q2, q3, q4, q5, q6]) rfl ?_
      have lE := ((unhide HL).kb (((((((((Kb.refl W.heap.size W6).set 0 (.int .i64 dd.op)).set 1 (.int .i64 dd.k)).set 2 (.int .i64 dd.n)).set 3 (.string dd.s.1)).set 4 (.string dd.al.1)).set 5 (.string dd.fd.1)).set 6 (.slice ka ks.length kc))) (Nat.lt_succ_self _) (Nat.le_refl _)).mono (n := W.heap.size) (Nat.le_succ _) (show W6.heap.size ≤ (((((((W6.setCell ⟨W.heap.size, 0, none⟩ (.int .i64 dd.op)).setCell ⟨W.heap.size, 1, none⟩ (.int .i64 dd.k)).setCell ⟨W.heap.size, 2, none⟩ (.int .i64 dd.n)).setCell ⟨W.heap.size, 3, none⟩ (.string dd.s.1)).setCell ⟨W.heap.size, 4, none⟩ (.string dd.al.1)).setCell ⟨W.heap.size, 5, none⟩ (.string dd.fd.1)).setCell ⟨W.heap.size, 6, none⟩ (.slice ka ks.length kc)).heap.size by simp)
      rw [unhide E5 (by first | trivial | rfl) hk (unhide ho) hsm, unhide hI]
      exact ⟨_, rfl, ⟨ka, kc, rfl, lE⟩, hE, kE⟩
  case true =>
    obtain ⟨hnw, hBn, ra, rc, g1, g2, hx, hw⟩ := unhide R4
    obtain ⟨hb0, hb1, hb2⟩ := hx.three
    have hbf := hx.frz 1
    obtain ⟨WX, hWX⟩ : ∃ WX, WX = W4.setCell ⟨B, 1, none⟩ (.int .i64 (s.nd + 1)) := ⟨_, rfl⟩
    have RX := hide (show RS n B WX ⟨s.rest, s.nd + 1, s.er⟩ by rw [hWX]; exact rs_nd (unhide R4) (s.nd + 1))
    have YX := hide (show Box WX W.heap.size 27 zeroE by rw [hWX]; exact (unhide Y4).other _ _ (by show B ≠ W.heap.size; omega))
    have XX := hide (show Box WX H1 74 #[.int .i64 w.k, .string w.t.1, .int .i64 w.n, .int .i64 w.p] by rw [hWX]; exact (unhide X4).other _ _ (by show B ≠ H1; omega))
    have VX := hide (show Box WX H3 24 #[.int .i64 l1, .int .i64 l2, .string l3.1] by rw [hWX]; exact (unhide V4).other _ _ (by show B ≠ H3; omega))
    have KX := hide (show Kb B W WX by rw [hWX]; exact (unhide K4).set 1 _)
    have PX := hide (hP.kb (unhide KX) hB3)
    clear hx hw g1 g2
    go_upto_region 7 with fail
    rw [← hWX]
    clear hWX hb0 hb1 hb2 hbf R4 Y4 X4 V4 K4
    obtain ⟨rnw, rBn, rra, rrc, rg1, rg2, rhx, rhw⟩ := unhide RX
    obtain ⟨hb0, hb1, hb2⟩ := rhx.three
    clear rg1 rg2 rhx rhw
    by_cases h5 : 5 < d
    · skip
      have cF := hide (fail_c n B ⟨s.rest, s.nd + 1, s.er⟩ 12 (by decide) WX (unhide RX))
      go_wp2_with fail
      refine (unhide cF).mono ?_
      rintro r W6 ⟨rfl, h6, k6⟩
      clear cF
      have y6 := k6.box (unhide YX) hne
      have k7 := (unhide KX).trans k6
      clear k6
      obtain ⟨hr0, hr1, hr2, hr3, hr4, hr5, hr6⟩ := y6.seven
      have hf0 := y6.frz 0
      have hf1 := y6.frz 1
      have hf2 := y6.frz 2
      have hf3 := y6.frz 3
      have hf4 := y6.frz 4
      have hf5 := y6.frz 5
      have hf6 := y6.frz 6
      have YY := hide y6
      have KK := hide k7
      have HH := hide h6
      clear y6 k7 h6
      go_wp2_with fail
      have kE := (unhide KK).put7 (D := W.heap.size) (Nat.le_refl _) (.int .i64 0) (.int .i64 0) (.int .i64 0) (.string ⟨#[]⟩) (.string ⟨#[]⟩) (.string ⟨#[]⟩) (.slice none 0 0)
      have hE := (unhide HH).put7 hnW (.int .i64 0) (.int .i64 0) (.int .i64 0) (.string ⟨#[]⟩) (.string ⟨#[]⟩) (.string ⟨#[]⟩) (.slice none 0 0)
      obtain ⟨q0, q1, q2, q3, q4, q5, q6⟩ := ((unhide YY).put7' (.int .i64 0) (.int .i64 0) (.int .i64 0) (.string ⟨#[]⟩) (.string ⟨#[]⟩) (.string ⟨#[]⟩) (.slice none 0 0)).seven
      refine bodyPost_ret (v := Dat.v d0 none 0 0) (by simp [results, Tryz.results45, go_sem, q0, q1, q2, q3, q4, q5, q6, d0]) rfl ?_
      rw [unhide E2 (by rintro ⟨q, -⟩; cases q) (.inl h5)]
      exact ⟨_, rfl, ⟨none, 0, rfl, .nil _⟩, hE, kE⟩
    by_cases h24 : 24 < s.nd + 1
    · skip
      have cF := hide (fail_c n B ⟨s.rest, s.nd + 1, s.er⟩ 12 (by decide) WX (unhide RX))
      go_wp2_with fail
      refine (unhide cF).mono ?_
      rintro r W6 ⟨rfl, h6, k6⟩
      clear cF
      have y6 := k6.box (unhide YX) hne
      have k7 := (unhide KX).trans k6
      clear k6
      obtain ⟨hr0, hr1, hr2, hr3, hr4, hr5, hr6⟩ := y6.seven
      have hf0 := y6.frz 0
      have hf1 := y6.frz 1
      have hf2 := y6.frz 2
      have hf3 := y6.frz 3
      have hf4 := y6.frz 4
      have hf5 := y6.frz 5
      have hf6 := y6.frz 6
      have YY := hide y6
      have KK := hide k7
      have HH := hide h6
      clear y6 k7 h6
      go_wp2_with fail
      have kE := (unhide KK).put7 (D := W.heap.size) (Nat.le_refl _) (.int .i64 0) (.int .i64 0) (.int .i64 0) (.string ⟨#[]⟩) (.string ⟨#[]⟩) (.string ⟨#[]⟩) (.slice none 0 0)
      have hE := (unhide HH).put7 hnW (.int .i64 0) (.int .i64 0) (.int .i64 0) (.string ⟨#[]⟩) (.string ⟨#[]⟩) (.string ⟨#[]⟩) (.slice none 0 0)
      obtain ⟨q0, q1, q2, q3, q4, q5, q6⟩ := ((unhide YY).put7' (.int .i64 0) (.int .i64 0) (.int .i64 0) (.string ⟨#[]⟩) (.string ⟨#[]⟩) (.string ⟨#[]⟩) (.slice none 0 0)).seven
      refine bodyPost_ret (v := Dat.v d0 none 0 0) (by simp [results, Tryz.results45, go_sem, q0, q1, q2, q3, q4, q5, q6, d0]) rfl ?_
      rw [unhide E2 (by rintro ⟨q, -⟩; cases q) (.inr h24)]
      exact ⟨_, rfl, ⟨none, 0, rfl, .nil _⟩, hE, kE⟩
    have hsm : ¬ (5 < d ∨ 24 < s.nd + 1) := by omega
    obtain ⟨xc0, xc1, xc2, xc3, -⟩ := (unhide XX).four8
    have cT2 := hide (unhide cT WX (unhide RX) (unhide hlk rfl))
    go_wp2_with fail
    refine (unhide cT2).mono ?_
    rintro r W6 ⟨rfl, h6, k6⟩
    clear cT2 xc0 xc1 xc2 xc3
    have y6 := k6.box (unhide YX) hne
    have v6 := k6.box (unhide VX) hH3B
    have k7 := (unhide KX).trans k6
    clear k6
    obtain ⟨vc0, vc1, vc2⟩ := v6.three
    obtain ⟨hr0, hr1, hr2, hr3, hr4, hr5, hr6⟩ := y6.seven
    have hf0 := y6.frz 0
    have hf1 := y6.frz 1
    have hf2 := y6.frz 2
    have hf3 := y6.frz 3
    have hf4 := y6.frz 4
    have hf5 := y6.frz 5
    have hf6 := y6.frz 6
    have YY := hide y6
    have KK := hide k7
    have HH := hide h6
    clear y6 k7 h6
    go_wp2_with fail
    have kE := (unhide KK).put7 (D := W.heap.size) (Nat.le_refl _) (.int .i64 1) (.int .i64 l1) (.int .i64 l2) (.string l3.1) (.string ⟨#[]⟩) (.string ⟨#[]⟩) (.slice none 0 0)
    have hE := (unhide HH).put7 hnW (.int .i64 1) (.int .i64 l1) (.int .i64 l2) (.string l3.1) (.string ⟨#[]⟩) (.string ⟨#[]⟩) (.slice none 0 0)
    obtain ⟨q0, q1, q2, q3, q4, q5, q6⟩ := ((unhide YY).put7' (.int .i64 1) (.int .i64 l1) (.int .i64 l2) (.string l3.1) (.string ⟨#[]⟩) (.string ⟨#[]⟩) (.slice none 0 0)).seven
    refine bodyPost_ret (v := Dat.v ⟨1, l1, l2, l3, t0, t0⟩ none 0 0) (by simp [results, Tryz.results45, go_sem, q0, q1, q2, q3, q4, q5, q6]) rfl ?_
    rw [unhide E3 (by first | trivial | rfl) hsm]
    exact ⟨_, rfl, ⟨none, 0, rfl, .nil _⟩, hE, kE⟩

end Go.Proofs.YtmhpakhnclkenaaGreatDoor
