/-
  What package parse's Expr and Pattern answer: exprF, patF of the text's words.
  What package parse's Pattern answers: patF of the text's words.
-/
import Derived.Test.YtmhpakhnclkenaaGreatDoorParX
import Derived.Test.YtmhpakhnclkenaaGreatDoorParU
import Derived.BigRegion
namespace Go.Proofs.YtmhpakhnclkenaaGreatDoor
open Go.RowKit Go.Shelf

attribute [local go_sem] Oper.semAt_some

set_option maxRecDepth 100000 in
set_option maxHeartbeats 8000000 in
theorem parseE_c (s : ByteArray) (hs : s.size ≤ 1000000) (W : World) (hV : Vars W) (hS : VarsS W) (hP : PsV W) :
    Calls Tryz.prog 8 #[.string s] W fun r W' => ∃ v, r = .returned (.tuple #[v, errO (exprF (readP s)).2]) ∧ TreeAt W.heap.size W' v (exprF (readP s)).1 ∧ Below W.heap.size W W' := by
  have hW3' := hP.1
  obtain ⟨W0, hW0⟩ : ∃ W0, W0 = W.alloc (.cells zeroE 27) := ⟨_, rfl⟩
  have b0 : Below W.heap.size W W0 := by rw [hW0]; exact (Below.refl _ _).alloc (Nat.le_refl _) _
  have y0 : Box W0 W.heap.size 27 zeroE := by rw [hW0]; exact Box.new _ _ _
  have hP0 := hP.kb (Kb.of (B := 4) b0) (by decide)
  have cR := read_c s hs W0 (hV.on b0 hV.size) (hS.on b0)
  obtain ⟨⟨dd, ks⟩, s2, hI⟩ : ∃ tt s2, condF (readP s) = (tt, s2) := ⟨_, _, rfl⟩
  obtain ⟨s3, h3⟩ : ∃ s3, endP s2 = s3 := ⟨_, rfl⟩
  have hX : exprF (readP s) = if s3.er = 0 then (.mk dd ks, 0) else (e0, s3.er) := by simp only [exprF, hI, h3]
  obtain ⟨R, hR⟩ : ∃ R, R = exprF (readP s) := ⟨_, rfl⟩
  rw [← hR]
  rw [hX] at hR
  clear hX
  replace hR := hide hR
  generalize readP s = sr at hI cR
  have CR := hide cR
  have Y := hide y0
  have hyl := y0.lt
  have B0 := hide b0
  replace hP0 := hide hP0
  clear cR y0 hV hS hP b0
  go_enter Tryz.func8, Tryz.ntmps8
  go_upto_region 1 with fail
  rw [← hW0]
  clear hW0
  go_wp2_with fail
  refine (unhide CR).mono ?_
  rintro r W1 ⟨B, rfl, hB, h1, b1⟩
  have hP1 := (unhide hP0).kb (Kb.of (B := 4) b1) (by decide)
  have hz0 := (unhide B0).size
  have cC := cond_c _ B sr W1 h1 hP1 (by omega)
  rw [hI] at cC
  have CC := hide cC
  have Y1 := hide ((unhide Y).on b1 hyl)
  have B1 := hide ((unhide B0).trans (b1.mono hz0))
  have hz1 := b1.size
  clear CR cC h1 hP1 hP0 Y B0 b1 hI
  go_wp2_with fail
  refine (unhide CC).mono ?_
  rintro r W2 ⟨v, rfl, ⟨ka, kc, rfl, hl⟩, h2, k2⟩
  clear CC
  obtain ⟨W3, hW3⟩ : ∃ W3, W3 = W2.alloc (.cells #[.int .i64 dd.op, .int .i64 dd.k, .int .i64 dd.n, .string dd.s.1, .string dd.al.1, .string dd.fd.1, .slice ka ks.length kc] 27) := ⟨_, rfl⟩
  have b3 : Below W2.heap.size W2 W3 := by rw [hW3]; exact (Below.refl _ _).alloc (Nat.le_refl _) _
  have z3 : Box W3 W2.heap.size 27 #[.int .i64 dd.op, .int .i64 dd.k, .int .i64 dd.n, .string dd.s.1, .string dd.al.1, .string dd.fd.1, .slice ka ks.length kc] := by rw [hW3]; exact Box.new _ _ _
  have y2 := k2.box (unhide Y1) (by omega)
  have hyl1 := (unhide Y1).lt
  have hb2 := (unhide B1).trans (k2.below (n := W.heap.size) (by omega) (by omega))
  have Y3 := hide (y2.on b3 y2.lt)
  have Z3 := hide z3
  have hz3 := z3.lt
  have hz2 := k2.size
  have B3 := hide (hb2.trans (b3.mono hb2.size))
  have HL := hide (show LiesM W1.heap.size W2.heap.size W2 ka ks from hl)
  have cE := end_c _ B s2 W3 (h2.up b3)
  rw [h3] at cE
  have CE := hide cE
  have KB := hide b3
  have hBl := h2.lt
  clear Y1 B1 z3 y2 hb2 hl cE h2 k2 b3
  go_upto_region 3 with fail
  rw [← hW3]
  clear hW3
  go_wp2_with fail
  refine (unhide CE).mono ?_
  rintro r W4 ⟨rfl, h4, k4⟩
  clear CE
  obtain ⟨hn4, hB4, ra, rc, g1, g2, hx, hw⟩ := h4
  have y4 := k4.box (unhide Y3) (by omega)
  have z4 := k4.box (unhide Z3) (by omega)
  have hl4 := (unhide HL).kb ((Kb.of (unhide KB)).trans k4) (by omega) (Nat.le_refl _)
  have b4 := hide ((unhide B3).trans (k4.below (n := W.heap.size) (by omega) (unhide B3).size))
  have hz4 := k4.size
  clear hw g1 g2 hn4
  obtain ⟨-, -, c2⟩ := hx.three
  obtain ⟨t0', t1, t2, t3, t4, t5, t6⟩ := z4.seven
  obtain ⟨u0, u1, u2, u3, u4, u5, u6⟩ := y4.seven
  have hf0 := y4.frz 0
  have hf1 := y4.frz 1
  have hf2 := y4.frz 2
  have hf3 := y4.frz 3
  have hf4 := y4.frz 4
  have hf5 := y4.frz 5
  have hf6 := y4.frz 6
  have YY := hide y4
  replace hl4 := hide hl4
  clear y4 z4 hx k4 Z3 Y3 HL KB B3
  by_cases he : s3.er = 0
  · have hRR := hide (show R = (Tree.mk dd ks, 0) by rw [unhide hR, if_pos he])
    rw [he, errO_zero] at c2
    clear he hR
    go_wp2_with fail
    obtain ⟨q0, q1, q2, q3, q4, q5, q6⟩ := ((unhide YY).put7' (.int .i64 dd.op) (.int .i64 dd.k) (.int .i64 dd.n) (.string dd.s.1) (.string dd.al.1) (.string dd.fd.1) (.slice ka ks.length kc)).seven
    refine bodyPost_ret (v := .tuple #[Dat.v dd ka ks.length kc, .nilIface]) (by simp [results, Tryz.results8, go_sem, q0, q1, q2, q3, q4, q5, q6]) rfl ?_
    rw [unhide hRR]
    refine ⟨_, rfl, ⟨ka, kc, rfl, ((unhide hl4).keep (fun b hm hb => (((((((((Kb.refl W.heap.size W4).set 0 (.int .i64 dd.op)).set 1 (.int .i64 dd.k)).set 2 (.int .i64 dd.n)).set 3 (.string dd.s.1)).set 4 (.string dd.al.1)).set 5 (.string dd.fd.1)).set 6 (.slice ka ks.length kc)).block b (by omega) (by omega)))).mono (by omega) (by simp; omega)⟩, ?_⟩
    exact ((((((((unhide b4).setCell (p := ⟨W.heap.size, _, none⟩) (Nat.le_refl _) (.int .i64 dd.op)).setCell (p := ⟨W.heap.size, _, none⟩) (Nat.le_refl _) (.int .i64 dd.k)).setCell (p := ⟨W.heap.size, _, none⟩) (Nat.le_refl _) (.int .i64 dd.n)).setCell (p := ⟨W.heap.size, _, none⟩) (Nat.le_refl _) (.string dd.s.1)).setCell (p := ⟨W.heap.size, _, none⟩) (Nat.le_refl _) (.string dd.al.1)).setCell (p := ⟨W.heap.size, _, none⟩) (Nat.le_refl _) (.string dd.fd.1)).setCell (p := ⟨W.heap.size, _, none⟩) (Nat.le_refl _) (.slice ka ks.length kc))
  · have hRR := hide (show R = (e0, s3.er) by rw [unhide hR, if_neg he])
    have hE := errO_ne he
    rw [hE] at c2
    replace hE := hide hE
    clear he hR
    go_wp2_with fail
    go_region
    go_wp2_with fail
    obtain ⟨q0, q1, q2, q3, q4, q5, q6⟩ := ((unhide YY).put7' (.int .i64 0) (.int .i64 0) (.int .i64 0) (.string ⟨#[]⟩) (.string ⟨#[]⟩) (.string ⟨#[]⟩) (.slice none 0 0)).drew.seven
    refine bodyPost_ret (v := .tuple #[.agg zeroE, .iface 49 (.int .i64 s3.er)]) (by simp [results, Tryz.results8, go_sem, q0, q1, q2, q3, q4, q5, q6]) rfl ?_
    rw [unhide hRR]
    refine ⟨.agg zeroE, by show _ = Ending.returned (.tuple #[_, errO s3.er]); rw [unhide hE], ⟨none, 0, rfl, .nil _⟩, ?_⟩
    exact ((((((((unhide b4).setCell (p := ⟨W.heap.size, _, none⟩) (Nat.le_refl _) (.int .i64 0)).setCell (p := ⟨W.heap.size, _, none⟩) (Nat.le_refl _) (.int .i64 0)).setCell (p := ⟨W.heap.size, _, none⟩) (Nat.le_refl _) (.int .i64 0)).setCell (p := ⟨W.heap.size, _, none⟩) (Nat.le_refl _) (.string ⟨#[]⟩)).setCell (p := ⟨W.heap.size, _, none⟩) (Nat.le_refl _) (.string ⟨#[]⟩)).setCell (p := ⟨W.heap.size, _, none⟩) (Nat.le_refl _) (.string ⟨#[]⟩)).setCell (p := ⟨W.heap.size, _, none⟩) (Nat.le_refl _) (.slice none 0 0)).drew
end Go.Proofs.YtmhpakhnclkenaaGreatDoor

namespace Go.Proofs.YtmhpakhnclkenaaGreatDoor
open Go.RowKit Go.Shelf

attribute [local go_sem] Oper.semAt_some

theorem patternQ_es (s : Ps) : (patternQ s).1.es.length ≤ s.rest.length + 1 := by
  have h := (partsF_len elemQ cmB elemQ_len ((mustP s [seB, oB]).rest.length + 1) (mustP s [seB, oB])).2
  have h2 := mustP_len [seB, oB] s
  show (partsP elemQ cmB (mustP s [seB, oB])).1.length ≤ _
  unfold partsP
  omega

set_option maxRecDepth 100000 in
set_option maxHeartbeats 8000000 in
theorem parseP_c (s : ByteArray) (hs : s.size ≤ 1000000) (W : World) (hV : Vars W) (hS : VarsS W) (hP : PsV W) :
    Calls Tryz.prog 10 #[.string s] W fun r W' => ∃ v, r = .returned (.tuple #[v, errO (patF (readP s)).2]) ∧ PatAt W.heap.size W' v (patF (readP s)).1 ∧ Below W.heap.size W W' := by
  have hW3' := hP.1
  obtain ⟨W0, hW0⟩ : ∃ W0, W0 = W.alloc (.cells #[.slice none 0 0, .int .i64 0, .string ⟨#[]⟩, .bool false] 36) := ⟨_, rfl⟩
  have b0 : Below W.heap.size W W0 := by rw [hW0]; exact (Below.refl _ _).alloc (Nat.le_refl _) _
  have y0 : Box W0 W.heap.size 36 #[.slice none 0 0, .int .i64 0, .string ⟨#[]⟩, .bool false] := by rw [hW0]; exact Box.new _ _ _
  have hP0 := hP.kb (Kb.of (B := 4) b0) (by decide)
  have cR := read_c s hs W0 (hV.on b0 hV.size) (hS.on b0)
  obtain ⟨⟨es, wi, nm, an⟩, s2, hI⟩ : ∃ tt s2, patternQ (readP s) = (tt, s2) := ⟨_, _, rfl⟩
  have hes := patternQ_es (readP s)
  rw [hI] at hes
  obtain ⟨s3, h3⟩ : ∃ s3, endP s2 = s3 := ⟨_, rfl⟩
  obtain ⟨bp, hbp⟩ : ∃ bp, patB ⟨es, wi, nm, an⟩ = bp := ⟨_, rfl⟩
  obtain ⟨s4, h4⟩ : ∃ s4, lastP bp s3 = s4 := ⟨_, rfl⟩
  have hX : patF (readP s) = if s4.er = 0 then (⟨es, wi, nm, an⟩, 0) else (q0, s4.er) := by simp only [patF, hI, h3, hbp, h4]
  obtain ⟨R, hR⟩ : ∃ R, R = patF (readP s) := ⟨_, rfl⟩
  rw [← hR]
  rw [hX] at hR
  clear hX
  replace hR := hide hR
  generalize readP s = sr at hI cR hes
  replace hes : es.length ≤ sr.rest.length + 1 := hes
  have CR := hide cR
  have Y := hide y0
  have hyl := y0.lt
  have B0 := hide b0
  replace hP0 := hide hP0
  replace hbp := hide hbp
  replace h4 := hide h4
  clear cR y0 hV hS hP b0
  go_enter Tryz.func10, Tryz.ntmps10
  go_upto_region 1 with fail
  rw [← hW0]
  clear hW0
  go_wp2_with fail
  refine (unhide CR).mono ?_
  rintro r W1 ⟨B, rfl, hB, h1, b1⟩
  have hP1 := (unhide hP0).kb (Kb.of (B := 4) b1) (by decide)
  have hz0 := (unhide B0).size
  have hBn := h1.2.1
  have hrl : sr.rest.length ≤ 1000 := h1.2.2.choose_spec.choose_spec.2.1
  have cC := pattern9_c _ B sr W1 h1 hP1 (by omega)
  rw [hI] at cC
  have CC := hide cC
  have Y1 := hide ((unhide Y).on b1 hyl)
  have B1 := hide ((unhide B0).trans (b1.mono hz0))
  have hz1 := b1.size
  clear CR cC h1 hP1 hP0 Y B0 b1 hI
  go_wp2_with fail
  refine (unhide CC).mono ?_
  rintro r W2 ⟨v, rfl, ⟨ka, kc, rfl, hl, hcap⟩, h2, k2⟩
  clear CC
  replace hcap : es.length ≤ kc := hcap
  obtain ⟨W3, hW3⟩ : ∃ W3, W3 = W2.alloc (.cells #[.slice ka es.length kc, .int .i64 wi, .string nm.1, .bool an] 36) := ⟨_, rfl⟩
  have b3 : Below W2.heap.size W2 W3 := by rw [hW3]; exact (Below.refl _ _).alloc (Nat.le_refl _) _
  have z3 : Box W3 W2.heap.size 36 #[.slice ka es.length kc, .int .i64 wi, .string nm.1, .bool an] := by rw [hW3]; exact Box.new _ _ _
  have y2 := k2.box (unhide Y1) (by omega)
  have hyl1 := (unhide Y1).lt
  have hb2 := (unhide B1).trans (k2.below (n := W.heap.size) (by omega) (by omega))
  have Y3 := hide (y2.on b3 y2.lt)
  have Z3 := hide z3
  have hz3 := z3.lt
  have hz2 := k2.size
  have B3 := hide (hb2.trans (b3.mono hb2.size))
  have HL := hide (show EmsM W1.heap.size W2.heap.size W2 ka es from hl)
  have cE := end_c _ B s2 W3 (h2.up b3)
  rw [h3] at cE
  have CE := hide cE
  have KB := hide b3
  have hBl := h2.lt
  clear Y1 B1 z3 y2 hb2 hl cE h2 k2 b3
  go_upto_region 3 with fail
  rw [← hW3]
  clear hW3
  go_wp2_with fail
  refine (unhide CE).mono ?_
  rintro r W4 ⟨rfl, h4', k4⟩
  clear CE
  have y4 := k4.box (unhide Y3) (by omega)
  have z4 := k4.box (unhide Z3) (by omega)
  have hl4 := (unhide HL).keep (W := W4) (fun b hm hb => (k4.block b (by omega) (by omega)).trans ((unhide KB).block b hb))
  have b4 := (unhide B3).trans (k4.below (n := W.heap.size) (by omega) (unhide B3).size)
  have hz4 := k4.size
  have cP := pattern_c ⟨es, wi, nm, an⟩ ka kc hcap W4 (hl4.ems (by omega) (by show es.length ≤ 1000000; omega))
  rw [unhide hbp] at cP
  have CP := hide cP
  obtain ⟨t0', t1, t2, t3⟩ := z4.four
  have YY := hide y4
  have ZZ := hide z4
  have HH := hide h4'
  replace hl4 := hide hl4
  replace b4 := hide b4
  clear y4 z4 h4' k4 Y3 Z3 HL KB B3 cP
  go_wp2_with fail
  refine (unhide CP).mono ?_
  rintro r W5 ⟨rfl, b5⟩
  clear CP t0' t1 t2 t3
  have hz5 := b5.size
  have y5 := (unhide YY).on b5 (unhide YY).lt
  have z5 := (unhide ZZ).on b5 (unhide ZZ).lt
  have h5 := (unhide HH).up b5
  have bE5 := (unhide b4).trans (b5.mono (unhide b4).size)
  have hl5 := (unhide hl4).keep (W := W5) (fun b hm hb => b5.block b (by omega))
  clear YY ZZ HH b4 hl4 b5 hbp
  cases bp
  · have e4 : s4 = s3.fail 10 := by rw [← unhide h4]; rfl
    subst e4
    have cF := fail_c _ B s3 10 (by decide) W5 h5
    have CF := hide cF
    have y5' := hide y5
    have z5' := hide z5
    replace bE5 := hide bE5
    replace hl5 := hide hl5
    have hyl5 := y5.lt
    have hzl5 := z5.lt
    clear cF h5 h4 y5 z5
    go_wp2_with fail
    refine (unhide CF).mono ?_
    rintro r W6 ⟨rfl, hRE, k6⟩
    clear CF
    have yE := k6.box (unhide y5') (by omega)
    have zE := k6.box (unhide z5') (by omega)
    have bE := hide ((unhide bE5).trans (k6.below (n := W.heap.size) (by omega) (unhide bE5).size))
    have hl := hide ((unhide hl5).keep (W := W6) (fun b hm hb => k6.block b (by omega) (by omega)))
    have hz6 := k6.size
    clear y5' z5' bE5 hl5 k6
    obtain ⟨s4, hs4⟩ : ∃ s4, s4 = s3.fail 10 := ⟨_, rfl⟩
    rw [← hs4] at hR hRE
    clear hs4
    obtain ⟨hnE, hBE, ra, rc, g1, g2, hx, hw⟩ := hRE
    clear hw g1 g2 hnE hBE
    obtain ⟨-, -, c2⟩ := hx.three
    clear hx
    obtain ⟨t0', t1, t2, t3⟩ := zE.four
    obtain ⟨u0, u1, u2, u3⟩ := yE.four
    have hf0 := yE.frz 0
    have hf1 := yE.frz 1
    have hf2 := yE.frz 2
    have hf3 := yE.frz 3
    have YY := hide yE
    clear yE zE
    by_cases he : s4.er = 0
    · skip
      have hRR := hide (show R = ((⟨es, wi, nm, an⟩ : Pt), 0) by rw [unhide hR, if_pos he])
      rw [he, errO_zero] at c2
      clear he hR
      go_wp2_with fail
      obtain ⟨k0, k1, k2, k3⟩ := ((unhide YY).put4 (.slice ka es.length kc) (.int .i64 wi) (.string nm.1) (.bool an)).four
      refine bodyPost_ret (v := .tuple #[.agg #[.slice ka es.length kc, .int .i64 wi, .string nm.1, .bool an], .nilIface]) (by simp [results, Tryz.results10, go_sem, k0, k1, k2, k3]) rfl ?_
      rw [unhide hRR]
      refine ⟨_, rfl, ⟨ka, kc, rfl, ((unhide hl).keep (fun b hm hb => ((((((Kb.refl W.heap.size W6).set 0 (.slice ka es.length kc)).set 1 (.int .i64 wi)).set 2 (.string nm.1)).set 3 (.bool an)).block b (by omega) (by omega)))).mono (by omega) (by simp; omega), hcap⟩, ?_⟩
      exact (((((unhide bE).setCell (p := ⟨W.heap.size, _, none⟩) (Nat.le_refl _) (.slice ka es.length kc)).setCell (p := ⟨W.heap.size, _, none⟩) (Nat.le_refl _) (.int .i64 wi)).setCell (p := ⟨W.heap.size, _, none⟩) (Nat.le_refl _) (.string nm.1)).setCell (p := ⟨W.heap.size, _, none⟩) (Nat.le_refl _) (.bool an))
    · skip
      have hRR := hide (show R = (q0, s4.er) by rw [unhide hR, if_neg he])
      have hE := errO_ne he
      rw [hE] at c2
      replace hE := hide hE
      clear he hR
      go_wp2_with fail
      go_region
      go_wp2_with fail
      obtain ⟨k0, k1, k2, k3⟩ := ((unhide YY).put4 (.slice none 0 0) (.int .i64 0) (.string ⟨#[]⟩) (.bool false)).drew.four
      refine bodyPost_ret (v := .tuple #[.agg #[.slice none 0 0, .int .i64 0, .string ⟨#[]⟩, .bool false], .iface 49 (.int .i64 s4.er)]) (by simp [results, Tryz.results10, go_sem, k0, k1, k2, k3]) rfl ?_
      rw [unhide hRR]
      refine ⟨.agg #[.slice none 0 0, .int .i64 0, .string ⟨#[]⟩, .bool false], by show _ = Ending.returned (.tuple #[_, errO s4.er]); rw [unhide hE], ⟨none, 0, rfl, .inl rfl, Nat.le_refl _⟩, ?_⟩
      exact (((((unhide bE).setCell (p := ⟨W.heap.size, _, none⟩) (Nat.le_refl _) (.slice none 0 0)).setCell (p := ⟨W.heap.size, _, none⟩) (Nat.le_refl _) (.int .i64 0)).setCell (p := ⟨W.heap.size, _, none⟩) (Nat.le_refl _) (.string ⟨#[]⟩)).setCell (p := ⟨W.heap.size, _, none⟩) (Nat.le_refl _) (.bool false)).drew
  · have e4 : s4 = s3 := by rw [← unhide h4]; rfl
    subst e4
    have hRE := h5
    have yE := y5
    have zE := z5
    have bE := hide bE5
    have hl := hide hl5
    clear h4 h5 y5 z5 bE5 hl5
    obtain ⟨hnE, hBE, ra, rc, g1, g2, hx, hw⟩ := hRE
    clear hw g1 g2 hnE hBE
    obtain ⟨-, -, c2⟩ := hx.three
    clear hx
    obtain ⟨t0', t1, t2, t3⟩ := zE.four
    obtain ⟨u0, u1, u2, u3⟩ := yE.four
    have hf0 := yE.frz 0
    have hf1 := yE.frz 1
    have hf2 := yE.frz 2
    have hf3 := yE.frz 3
    have YY := hide yE
    clear yE zE
    by_cases he : s4.er = 0
    · skip
      have hRR := hide (show R = ((⟨es, wi, nm, an⟩ : Pt), 0) by rw [unhide hR, if_pos he])
      rw [he, errO_zero] at c2
      clear he hR
      go_wp2_with fail
      obtain ⟨k0, k1, k2, k3⟩ := ((unhide YY).put4 (.slice ka es.length kc) (.int .i64 wi) (.string nm.1) (.bool an)).four
      refine bodyPost_ret (v := .tuple #[.agg #[.slice ka es.length kc, .int .i64 wi, .string nm.1, .bool an], .nilIface]) (by simp [results, Tryz.results10, go_sem, k0, k1, k2, k3]) rfl ?_
      rw [unhide hRR]
      refine ⟨_, rfl, ⟨ka, kc, rfl, ((unhide hl).keep (fun b hm hb => ((((((Kb.refl W.heap.size W5).set 0 (.slice ka es.length kc)).set 1 (.int .i64 wi)).set 2 (.string nm.1)).set 3 (.bool an)).block b (by omega) (by omega)))).mono (by omega) (by simp; omega), hcap⟩, ?_⟩
      exact (((((unhide bE).setCell (p := ⟨W.heap.size, _, none⟩) (Nat.le_refl _) (.slice ka es.length kc)).setCell (p := ⟨W.heap.size, _, none⟩) (Nat.le_refl _) (.int .i64 wi)).setCell (p := ⟨W.heap.size, _, none⟩) (Nat.le_refl _) (.string nm.1)).setCell (p := ⟨W.heap.size, _, none⟩) (Nat.le_refl _) (.bool an))
    · skip
      have hRR := hide (show R = (q0, s4.er) by rw [unhide hR, if_neg he])
      have hE := errO_ne he
      rw [hE] at c2
      replace hE := hide hE
      clear he hR
      go_wp2_with fail
      go_region
      go_wp2_with fail
      obtain ⟨k0, k1, k2, k3⟩ := ((unhide YY).put4 (.slice none 0 0) (.int .i64 0) (.string ⟨#[]⟩) (.bool false)).drew.four
      refine bodyPost_ret (v := .tuple #[.agg #[.slice none 0 0, .int .i64 0, .string ⟨#[]⟩, .bool false], .iface 49 (.int .i64 s4.er)]) (by simp [results, Tryz.results10, go_sem, k0, k1, k2, k3]) rfl ?_
      rw [unhide hRR]
      refine ⟨.agg #[.slice none 0 0, .int .i64 0, .string ⟨#[]⟩, .bool false], by show _ = Ending.returned (.tuple #[_, errO s4.er]); rw [unhide hE], ⟨none, 0, rfl, .inl rfl, Nat.le_refl _⟩, ?_⟩
      exact (((((unhide bE).setCell (p := ⟨W.heap.size, _, none⟩) (Nat.le_refl _) (.slice none 0 0)).setCell (p := ⟨W.heap.size, _, none⟩) (Nat.le_refl _) (.int .i64 0)).setCell (p := ⟨W.heap.size, _, none⟩) (Nat.le_refl _) (.string ⟨#[]⟩)).setCell (p := ⟨W.heap.size, _, none⟩) (Nat.le_refl _) (.bool false)).drew
end Go.Proofs.YtmhpakhnclkenaaGreatDoor
