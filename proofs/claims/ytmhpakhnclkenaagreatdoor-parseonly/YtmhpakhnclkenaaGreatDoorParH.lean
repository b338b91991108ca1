/-
  What the reader's inner does: a node that has kids.
-/
import Derived.Test.YtmhpakhnclkenaaGreatDoorParG
import Derived.Test.YtmhpakhnclkenaaGreatDoorFaces
namespace Go.Proofs.YtmhpakhnclkenaaGreatDoor
open Go.RowKit Go.Shelf

theorem owns_below {A B : World} {base : Nat} {e : TypeId} {size : Nat} {v : Value} {n : Nat} {xs : List Value} (h : A.ownsRow base e size v n xs) (hb : Below A.heap.size A B) : B.ownsRow base e size v n xs :=
  owns_keep h fun g _ hl => hb.block g hl
theorem news_box {W : World} {B : Nat} {t : TypeId} {cs : Array Value} (h : Box W B t cs) : ∀ j u, cs.toList[j]? = some u → W.cell? ((⟨B, 0, none⟩ : Addr).add j) = some u := fun j u hu => by
  rw [WideShapes.add_plain, Nat.zero_add]
  exact h.at j (by rwa [Array.getElem?_toList] at hu)
/-- An owned row of nodes, as trees. -/
theorem lies_nds {W : World} {base m : Nat} {v : Value} {nds : List Nd} (ts : List Tree) (h : W.ownsRow base 27 7 v nds.length (newsN nds)) (hm : m ≤ base) (hts : ts.length = nds.length) (hl : nds.length ≤ 1000)
    (hk : ∀ (j : Nat) x, nds[j]? = some x → ∀ t, ts[j]? = some t → x.d = t.dat ∧ x.m = t.kids.length ∧ LiesM m W.heap.size W x.a t.kids) : ∃ a cap, v = .slice a ts.length cap ∧ LiesM m W.heap.size W a ts := by
  obtain ⟨a, cap, e⟩ := owns_form h
  subst e
  refine ⟨a, cap, by rw [hts], ?_⟩
  rcases h.2 with ⟨e, h0⟩ | ⟨g, cap', cur, e, hb, hg, hr⟩
  · have : nds.length = 0 := by first | exact h0 | exact h0.1 | (simp at e; exact e.2.1)
    have : ts = [] := List.eq_nil_of_length_eq_zero (by omega)
    subst this
    exact .nil _
  · simp only [Value.slice.injEq] at e
    obtain ⟨rfl, -, rfl⟩ := e
    refine .row g 0 ts (fun j => ((nds[j]?.map Nd.a).getD none, (nds[j]?.map Nd.cap).getD 0)) (by omega) (Nat.le_trans hm hb) (Array.getElem?_eq_some_iff.1 hg).1 (fun j t hj i u hu => ?_) fun j t hj => ?_
    all_goals
      have hjl : j < nds.length := by have := (List.getElem?_eq_some_iff.1 hj).1; omega
      obtain ⟨x, hx⟩ : ∃ x, nds[j]? = some x := ⟨_, List.getElem?_eq_getElem hjl⟩
      obtain ⟨h1, h2, h3⟩ := hk j x hx t hj
    · have h7 : i < 7 := by have := (Array.getElem?_eq_some_iff.1 hu).1; simpa using this
      rw [Nat.zero_add, h.cellAt (j * 7 + i) (by omega), newsN_at _ j x hx i h7, ← hu, hx]
      simp only [Option.map_some, Option.getD_some, Nd.cs, h1, h2]
    · rw [hx]; exact h3

/-- What the reader's node does at a depth, where the reader is so. -/
def NodeAt (n B : Nat) (d : Int) (s : Ps) (p : Tree × Ps) : Prop :=
  ∀ V, RS n B V s → PsV V → Calls Tryz.prog 45 #[.pointer (some ⟨B, 0, none⟩), .int .i64 d] V fun r V' => ∃ v, r = .returned v ∧ TreeAt V.heap.size V' v p.1 ∧ RS n B V' p.2 ∧ Kb B V V'

set_option maxRecDepth 100000 in
set_option maxHeartbeats 8000000 in
theorem inner_not (n B : Nat) (d : Int) (hd1 : 1 ≤ d) (hd5 : d ≤ 5) (s s2 s3 : Ps) (t1 : Tree) (hs2 : must1 s oB = s2) (hN : isW s2.head noB = true) (hN1 : NodeAt n B (d + 1) s2.tl (t1, s3)) (W : World) (h : RS n B W s) (hP : PsV W) (hB3 : 3 < B) :
    Calls Tryz.prog 80 #[.pointer (some ⟨B, 0, none⟩), .int .i64 d] W fun r W' => ∃ v, r = .returned v ∧ TreeAt W.heap.size W' v (.mk (dOp 12) [t1]) ∧ RS n B W' (must1 s3 cB) ∧ Kb B W W' := by
  have hBl := h.lt
  have hnW := h.1
  have hne : W.heap.size ≠ B := by omega
  have hXB : W.heap.size + 1 ≠ B := by omega
  have hmx : Tryz.prog.follows .mixedOrders = true := by kernel_rfl
  obtain ⟨i0, hi0, hz0, hz1, hz2⟩ := info_parts infoX
  obtain ⟨X, hX⟩ : ∃ X, X = W.heap.size + 1 := ⟨_, rfl⟩
  obtain ⟨W0, hW0⟩ : ∃ W0, W0 = (W.alloc (.cells zeroE 27)).alloc (.cells #[.int .i64 12, .int .i64 0, .int .i64 0, .string ⟨#[]⟩, .string ⟨#[]⟩, .string ⟨#[]⟩, .slice none 0 0] 27) := ⟨_, rfl⟩
  have b0 : Below W.heap.size W W0 := by rw [hW0]; exact ((Below.refl _ _).alloc (Nat.le_refl _) _).alloc (by simp) _
  have y0 : Box W0 W.heap.size 27 zeroE := by rw [hW0]; exact (Box.new _ _ _).alloc _
  have x0 : Box W0 X 27 #[.int .i64 12, .int .i64 0, .int .i64 0, .string ⟨#[]⟩, .string ⟨#[]⟩, .string ⟨#[]⟩, .slice none 0 0] := by rw [hW0, hX]; exact box_next _ _ _ _
  have h0 := h.up b0
  have hP0' := hP.kb (Kb.of (B := B) b0) hB3
  have cM := hide (must_one n B s oB W0 h0)
  have cE := hide (eat_c n B s2 noB)
  have hdw : IntKind.i64.wrap (d + 1) = d + 1 := by rw [IntKind.wrap_i64]; omega
  go_enter Tryz.func80, Tryz.ntmps80
  go_upto_region 2 with fail
  rw [← hW0]
  clear hW0
  rw [← hX] at hXB
  rw [← hX]
  have hXl : W.heap.size < X := by omega
  clear hX
  go_wp2_with fail
  refine (unhide cM).mono ?_
  rintro r W1 ⟨rfl, h1', k1'⟩
  clear cM
  rw [hs2] at h1'
  have x1' := k1'.box x0 hXB
  have y1' := k1'.box y0 hne
  have kA := (Kb.of (B := B) b0).trans k1'
  have cE1 := unhide cE W1 h1'
  clear cE
  rw [show eatP s2 noB = (true, s2.tl) by rw [eatP, hN]; rfl] at cE1
  replace cE1 := hide cE1
  go_wp2_with fail
  refine (unhide cE1).mono ?_
  rintro r V0 ⟨rfl, h2, k2⟩
  clear cE1
  have x2 := k2.box x1' hXB
  have y2 := k2.box y1' hne
  have k02 := kA.trans k2
  have hP2 := hP.kb k02 hB3
  have z2 := x2.lt
  clear x1' y1' kA h1' k1'
  have hx0 := hide x2
  have ho0 := hide (show V0.ownsRow (X + 1) 27 7 (.slice none 0 0) 0 (newsN []) from World.ownsRow_nil _ _ _ _)
  have hR0 := hide h2
  have kk0 := hide k02
  have hP0 := hide hP2
  have Y := hide y2
  clear x2 h2 k02 hP2 y2
  go_upto_region 6 with fail
  obtain ⟨V, hV'⟩ : ∃ V, V = ({ heap := V0.heap, tape := V0.tape, drawn := V0.drawn + 1, os := V0.os, output := V0.output } : World) := ⟨_, rfl⟩
  have bV : Below V0.heap.size V0 V := by rw [hV']; exact (Below.refl _ _).drew
  have cD : Box V X 27 #[.int .i64 12, .int .i64 0, .int .i64 0, .string ⟨#[]⟩, .string ⟨#[]⟩, .string ⟨#[]⟩, .slice none 0 0] := (unhide hx0).on bV (unhide hx0).lt
  have hcDv := cD.lt
  have hRV := (unhide hR0).up bV
  have kkV := (unhide kk0).up bV
  have hoV := hide (owns_below (unhide ho0) bV)
  have yV := (unhide Y).on bV (unhide Y).lt
  have cN := hide (hN1 V hRV ((unhide hP0).kb (Kb.of (B := B) bV) hB3))
  refine wp_region_any hmx (wpAny_of_Z (z := 9) (C := fun w' => Box w' X 27 #[.int .i64 12, .int .i64 0, .int .i64 0, .string ⟨#[]⟩, .string ⟨#[]⟩, .string ⟨#[]⟩, .slice none 0 0]) _ _ _ _ ?_)
  rw [← hV']
  clear hV'
  refine wpAnyZ_reads 0 cD (by kernel_rfl) (by kernel_rfl) (by kernel_rfl) (by kernel_rfl) (fun d _ _ _ _ h => by cases d <;> exact h) (fun oi ho K hK => ?_)
  simp only [List.getElem?_toArray, List.getElem?_cons_zero, Option.some.injEq] at ho
  subst ho
  rw [if_pos (by kernel_rfl)]
  refine ⟨.pointer (some ⟨X, 6, none⟩), fun w' hw' => ?_, hK _ ?_⟩
  · obtain ⟨hp0, hp1, hp2, hp3, hp4, hp5, hp6⟩ := hw'.seven
    go_simp
  clear hK K
  refine wpAnyZ_reads 1 cD (by kernel_rfl) (by kernel_rfl) (by kernel_rfl) (by kernel_rfl) (fun d _ _ _ _ h => by cases d <;> exact h) (fun oi ho K hK => ?_)
  simp only [List.getElem?_toArray, List.getElem?_cons_succ, List.getElem?_cons_zero, Option.some.injEq] at ho
  subst ho
  rw [if_pos (by kernel_rfl)]
  refine ⟨.slice none 0 0, fun w' hw' => ?_, hK _ ?_⟩
  · obtain ⟨hp0, hp1, hp2, hp3, hp4, hp5, hp6⟩ := hw'.seven
    go_simp
  clear hK K
  refine wpAnyZ_reads 2 cD (by kernel_rfl) (by kernel_rfl) (by kernel_rfl) (by kernel_rfl) (fun d _ _ _ _ h => by cases d <;> exact h) (fun oi ho K hK => ?_)
  simp only [List.getElem?_toArray, List.getElem?_cons_succ, List.getElem?_cons_zero, Option.some.injEq] at ho
  subst ho
  rw [if_pos (by kernel_rfl)]
  refine ⟨.pointer (some ⟨B, 0, none⟩), fun w' hw' => ?_, hK _ ?_⟩
  · clear hw'
    go_simp
  clear hK K
  refine wpAnyZ_reads 3 cD (by kernel_rfl) (by kernel_rfl) (by kernel_rfl) (by kernel_rfl) (fun d _ _ _ _ h => by cases d <;> exact h) (fun oi ho K hK => ?_)
  simp only [List.getElem?_toArray, List.getElem?_cons_succ, List.getElem?_cons_zero, Option.some.injEq] at ho
  subst ho
  rw [if_pos (by kernel_rfl)]
  refine ⟨.int .i64 d, fun w' hw' => ?_, hK _ ?_⟩
  · clear hw'
    go_simp
  clear hK K
  refine wpAnyZ_reads 4 cD (by kernel_rfl) (by kernel_rfl) (by kernel_rfl) (by kernel_rfl) (fun d _ _ _ _ h => by cases d <;> exact h) (fun oi ho K hK => ?_)
  simp only [List.getElem?_toArray, List.getElem?_cons_succ, List.getElem?_cons_zero, Option.some.injEq] at ho
  subst ho
  rw [if_pos (by kernel_rfl)]
  refine ⟨.int .i64 (d + 1), fun w' hw' => ?_, hK _ ?_⟩
  · clear hw'
    go_simp
  clear hK K
  refine wpAnyZ_calls 5 (by kernel_rfl) (fun oi ho K hK => ?_)
  simp only [List.getElem?_toArray, List.getElem?_cons_succ, List.getElem?_cons_zero, Option.some.injEq] at ho
  subst ho
  go_simp
  refine (unhide cN).mono ?_
  rintro r u1 ⟨vv, rfl, ⟨ka1, kc1, rfl, hl1⟩, h1, k1⟩
  clear cN
  go_simp
  have c1 := k1.box cD hXB
  have ho1 := hide (k1.own (by omega) (unhide hoV))
  have y1 := k1.box yV hne
  refine hK _ _ (.inr c1) ?_
  clear hK K
  refine wpAnyZ_calls 6 (by kernel_rfl) (fun oi ho K hK => ?_)
  simp only [List.getElem?_toArray, List.getElem?_cons_succ, List.getElem?_cons_zero, Option.some.injEq] at ho
  subst ho
  go_simp
  have b2 : Below u1.heap.size u1 (u1.alloc (.cells (t1.dat.cs ka1 t1.kids.length kc1) 27)) := (Below.refl _ _).alloc (Nat.le_refl _) _
  refine hK _ _ (.inr (c1.on b2 c1.lt)) ?_
  clear hK K
  obtain ⟨u, eu⟩ : ∃ u, u = u1.alloc (.cells (t1.dat.cs ka1 t1.kids.length kc1) 27) := ⟨_, rfl⟩
  have hnb : Box u u1.heap.size 27 (t1.dat.cs ka1 t1.kids.length kc1) := by rw [eu]; exact Box.new _ _ _
  rw [← eu] at b2
  have cU := c1.on b2 c1.lt
  have hoU := hide (owns_below (unhide ho1) b2)
  have hU := h1.up b2
  have kU := kkV.trans (k1.up b2)
  have lU := hl1.bel b2 (Nat.le_refl _)
  have yU := y1.on b2 y1.lt
  have hsU := b2.size
  have hs1 := k1.size
  have hsV := kkV.size
  dsimp only [Dat.cs] at eu
  rw [← eu]
  clear eu b2 c1 ho1
  refine wpAnyZ_calls 7 (by kernel_rfl) (fun oi ho K hK => ?_)
  simp only [List.getElem?_toArray, List.getElem?_cons_succ, List.getElem?_cons_zero, Option.some.injEq] at ho
  subst ho
  refine step_own u (by rfl) (.tmp 26) (.tmp 31) 25 (by rfl) (X + 1) 27 i0 zeroX 7 96 Tryz.underlying25 hi0 hz0 hz1 hz2 (by rfl) (by decide) (.slice none 0 0) 0 (newsN []) ?q1 (unhide hoU) ⟨u1.heap.size, 0, none⟩ 1 1 (t1.dat.cs ka1 t1.kids.length kc1).toList ?q2 (by rfl) (news_box hnb) (fun q hq => newsN_one [⟨t1.dat, ka1, t1.kids.length, kc1⟩] q (by simpa [newsN] using hq)) (by unfold maxLen; omega) (by omega) (by omega) ?_
  case q1 => go_simp
  case q2 => go_simp
  intro v5 u5 ho5 hg5 hw5
  rw [show newsN [] ++ (t1.dat.cs ka1 t1.kids.length kc1).toList = newsN ([] ++ [⟨t1.dat, ka1, t1.kids.length, kc1⟩]) by rw [newsN_append]; simp [newsN]] at ho5
  have hrow : ∀ k, Value.ownBlock (.slice none 0 0) = some k → X + 1 ≤ k := fun k e => ((unhide hoV).lt k e).1
  have c5 : Box u5 X 27 #[.int .i64 12, .int .i64 0, .int .i64 0, .string ⟨#[]⟩, .string ⟨#[]⟩, .string ⟨#[]⟩, .slice none 0 0] := (hg5.block _ cU.lt (fun e => by have := hrow _ e.symm; omega)).trans cU
  have h5 := hU.grown hg5 (fun k e => by have := hrow k e; omega)
  have k5 := kU.grown hg5 (fun k e => by have := hrow k e; omega)
  have l5 := lU.grow hg5 hsU (fun k e => .inl ((unhide hoV).lt k e).2)
  have y5 : Box u5 W.heap.size 27 zeroE := (hg5.block _ yU.lt (fun e => by have := hrow _ e.symm; omega)).trans yU
  have hOwn5 : ∀ j, v5.ownBlock = some j → (Value.ownBlock (.slice none 0 0) = some j ∨ j = u.heap.size) := fun j e => by rcases hw5 with e' | e' <;> rw [e'] at e <;> first | exact .inl e | exact .inr (by cases e; rfl)
  obtain ⟨a5, c5', rfl⟩ := owns_form ho5
  replace ho5 := hide ho5
  refine hK _ _ (.inr c5) ?_
  clear hK K
  refine wpAnyZ_calls 8 (by kernel_rfl) (fun oi ho K hK => ?_)
  simp only [List.getElem?_toArray, List.getElem?_cons_succ, List.getElem?_cons_zero, Option.some.injEq] at ho
  subst ho
  go_simp
  refine hK _ _ (.inr c5) ?_
  clear hK K
  obtain ⟨hc0, hc1, hc2, hc3, hc4, hc5, hc6⟩ := c5.seven
  have hf6 := c5.frz 6
  have x6 : Box (u5.setCell ⟨X, 6, none⟩ (.slice a5 1 c5')) X 27 #[.int .i64 12, .int .i64 0, .int .i64 0, .string ⟨#[]⟩, .string ⟨#[]⟩, .string ⟨#[]⟩, .slice a5 1 c5'] := c5.set 6 _
  have hoL := (unhide ho5).lt
  have o6 : (u5.setCell ⟨X, 6, none⟩ (.slice a5 1 c5')).ownsRow (X + 1) 27 7 (.slice a5 1 c5') 1 (newsN ([] ++ [⟨t1.dat, ka1, t1.kids.length, kc1⟩])) := owns_keep (unhide ho5) (fun g hg _ => setCell_block _ _ _ (by have := (hoL g hg).1; show X ≠ g; omega))
  have h6 := h5.put (p := ⟨X, 6, none⟩) (by show n ≤ X; omega) (.slice a5 1 c5')
  have k6 := k5.put (p := ⟨X, 6, none⟩) (by show W.heap.size ≤ X; omega) (.slice a5 1 c5')
  have hs5 := hg5.size
  have hcDl := cD.lt
  have l6 := (l5.mono (n := X + 1) (by omega) (Nat.le_refl _)).kb ((Kb.refl X u5).set 6 (.slice a5 1 c5')) (Nat.lt_succ_self X) (by omega)
  have y6 := y5.other ⟨X, 6, none⟩ (.slice a5 1 c5') (by show X ≠ W.heap.size; omega)
  have s6 : u1.heap.size ≤ (u5.setCell ⟨X, 6, none⟩ (.slice a5 1 c5')).heap.size := by simp; omega
  have hOwn6 : ∀ j, Value.ownBlock (.slice a5 1 c5') = some j → u1.heap.size ≤ j := fun j e => by rcases hOwn5 j e with e' | e' <;> first | (cases e'; done) | (rw [e']; exact hsU)
  refine wpAnyZ_calls 9 (by kernel_rfl) (fun oi ho K hK => ?_)
  simp only [List.getElem?_toArray, List.getElem?_cons_succ, List.getElem?_cons_zero, Option.some.injEq] at ho
  subst ho
  go_simp
  refine hK _ _ (.inl rfl) ?_
  clear hK K hc0 hc1 hc2 hc3 hc4 hc5 hc6 hf6
  refine wpAnyZ_done (by kernel_rfl) ?_ _
  generalize u5.setCell ⟨X, 6, none⟩ (.slice a5 1 c5') = u6 at x6 o6 h6 k6 l6 y6 s6  ⊢
  replace hoV := True.intro
  clear hoV
  have cX := hide x6
  have cO := hide o6
  have cR := hide h6
  have cK := hide k6
  have cL := hide l6
  have cY := hide y6
  have cS := hide s6
  have cOw := hide hOwn6
  have cM2 := hide (must_one n B s3 cB u6 (unhide cR))
  clear x6 o6 h6 k6 l6 y6 s6 hOwn6
  go_wp2_with fail
  refine (unhide cM2).mono ?_
  rintro r W7 ⟨rfl, h7, k7⟩
  clear cM2
  have x7 := k7.box (unhide cX) hXB
  have y7 := k7.box (unhide cY) hne
  have o7 := k7.own (by omega) (unhide cO)
  have kf := (unhide cK).trans k7
  have LL1 := ((unhide cL).kb k7 (by omega) (unhide cS)).mono (l := W7.heap.size) (Nat.le_refl (X + 1)) (Nat.le_trans (unhide cS) k7.size)
  have lF' := lies_nds (m := X + 1) (nds := [⟨t1.dat, ka1, t1.kids.length, kc1⟩]) [t1] (by simpa using o7) (Nat.le_refl _) rfl (by simp) (fun j x hx t ht => by
    match j, hx, ht with
    | 0, hx, ht => simp at hx ht; subst hx ht; exact ⟨rfl, rfl, LL1⟩
    | j + 1, hx, ht => simp at hx)
  obtain ⟨aF, cF, eF, lF⟩ := lF'
  simp only [Value.slice.injEq] at eF
  obtain ⟨rfl, -, rfl⟩ := eF
  obtain ⟨hc0, hc1, hc2, hc3, hc4, hc5, hc6⟩ := x7.seven
  have hf0 := y7.frz 0
  have hf1 := y7.frz 1
  have hf2 := y7.frz 2
  have hf3 := y7.frz 3
  have hf4 := y7.frz 4
  have hf5 := y7.frz 5
  have hf6 := y7.frz 6
  obtain ⟨hr0, hr1, hr2, hr3, hr4, hr5, hr6⟩ := y7.seven
  have YY := hide y7
  have HH := hide h7
  have KK := hide kf
  have LF := hide lF
  have hx7 := x7.lt
  clear o7 y7 x7 h7 kf LL1  lF k7
  go_wp2_with fail
  have kE := (unhide KK).put7 (D := W.heap.size) (Nat.le_refl _) (.int .i64 12) (.int .i64 0) (.int .i64 0) (.string ⟨#[]⟩) (.string ⟨#[]⟩) (.string ⟨#[]⟩) (.slice a5 1 c5')
  have hE := (unhide HH).put7 hnW (.int .i64 12) (.int .i64 0) (.int .i64 0) (.string ⟨#[]⟩) (.string ⟨#[]⟩) (.string ⟨#[]⟩) (.slice a5 1 c5')
  have lE := ((unhide LF).kb (((((((((Kb.refl W.heap.size W7).set 0 (.int .i64 12)).set 1 (.int .i64 0)).set 2 (.int .i64 0)).set 3 (.string ⟨#[]⟩)).set 4 (.string ⟨#[]⟩)).set 5 (.string ⟨#[]⟩)).set 6 (.slice a5 1 c5'))) (by omega) (Nat.le_refl _)).mono (n := W.heap.size) (by omega) (show W7.heap.size ≤ (((((((W7.setCell ⟨W.heap.size, 0, none⟩ (.int .i64 12)).setCell ⟨W.heap.size, 1, none⟩ (.int .i64 0)).setCell ⟨W.heap.size, 2, none⟩ (.int .i64 0)).setCell ⟨W.heap.size, 3, none⟩ (.string ⟨#[]⟩)).setCell ⟨W.heap.size, 4, none⟩ (.string ⟨#[]⟩)).setCell ⟨W.heap.size, 5, none⟩ (.string ⟨#[]⟩)).setCell ⟨W.heap.size, 6, none⟩ (.slice a5 1 c5')).heap.size by simp)
  obtain ⟨q0, q1, q2, q3, q4, q5, q6⟩ := ((unhide YY).put7' (.int .i64 12) (.int .i64 0) (.int .i64 0) (.string ⟨#[]⟩) (.string ⟨#[]⟩) (.string ⟨#[]⟩) (.slice a5 1 c5')).seven
  exact bodyPost_ret (v := Dat.v (dOp 12) a5 1 c5') (by simp [results, Tryz.results80, go_sem, q0, q1, q2, q3, q4, q5, q6]) rfl ⟨_, rfl, ⟨a5, c5', rfl, lE⟩, hE, kE⟩

set_option maxRecDepth 100000 in
set_option maxHeartbeats 8000000 in
theorem inner_op (n B : Nat) (d : Int) (hd1 : 1 ≤ d) (hd5 : d ≤ 5) (s s2 s3 s4 s5 : Ps) (t1 t2 : Tree) (o : Int) (hs2 : must1 s oB = s2) (hN : isW s2.head noB = false) (hN1 : NodeAt n B (d + 1) s2 (t1, s3)) (ho3 : opP s3 = (o, s4)) (hN2 : NodeAt n B (d + 1) s4 (t2, s5)) (W : World) (h : RS n B W s) (hP : PsV W) (hB3 : 3 < B) :
    Calls Tryz.prog 80 #[.pointer (some ⟨B, 0, none⟩), .int .i64 d] W fun r W' => ∃ v, r = .returned v ∧ TreeAt W.heap.size W' v (.mk (dOp o) [t1, t2]) ∧ RS n B W' (must1 s5 cB) ∧ Kb B W W' := by
  have hBl := h.lt
  have hnW := h.1
  have hne : W.heap.size ≠ B := by omega
  have hXB : W.heap.size + 1 ≠ B := by omega
  have hmx : Tryz.prog.follows .mixedOrders = true := by kernel_rfl
  obtain ⟨i0, hi0, hz0, hz1, hz2⟩ := info_parts infoX
  obtain ⟨X, hX⟩ : ∃ X, X = W.heap.size + 1 := ⟨_, rfl⟩
  obtain ⟨W0, hW0⟩ : ∃ W0, W0 = (W.alloc (.cells zeroE 27)).alloc (.cells #[.int .i64 12, .int .i64 0, .int .i64 0, .string ⟨#[]⟩, .string ⟨#[]⟩, .string ⟨#[]⟩, .slice none 0 0] 27) := ⟨_, rfl⟩
  have b0 : Below W.heap.size W W0 := by rw [hW0]; exact ((Below.refl _ _).alloc (Nat.le_refl _) _).alloc (by simp) _
  have y0 : Box W0 W.heap.size 27 zeroE := by rw [hW0]; exact (Box.new _ _ _).alloc _
  have x0 : Box W0 X 27 #[.int .i64 12, .int .i64 0, .int .i64 0, .string ⟨#[]⟩, .string ⟨#[]⟩, .string ⟨#[]⟩, .slice none 0 0] := by rw [hW0, hX]; exact box_next _ _ _ _
  have h0 := h.up b0
  have hP0' := hP.kb (Kb.of (B := B) b0) hB3
  have cM := hide (must_one n B s oB W0 h0)
  have cE := hide (eat_c n B s2 noB)
  have hdw : IntKind.i64.wrap (d + 1) = d + 1 := by rw [IntKind.wrap_i64]; omega
  go_enter Tryz.func80, Tryz.ntmps80
  go_upto_region 2 with fail
  rw [← hW0]
  clear hW0
  rw [← hX] at hXB
  rw [← hX]
  have hXl : W.heap.size < X := by omega
  clear hX
  go_wp2_with fail
  refine (unhide cM).mono ?_
  rintro r W1 ⟨rfl, h1', k1'⟩
  clear cM
  rw [hs2] at h1'
  have x1' := k1'.box x0 hXB
  have y1' := k1'.box y0 hne
  have kA := (Kb.of (B := B) b0).trans k1'
  have cE1 := unhide cE W1 h1'
  clear cE
  rw [show eatP s2 noB = (false, s2) by rw [eatP, hN]; rfl] at cE1
  replace cE1 := hide cE1
  go_wp2_with fail
  refine (unhide cE1).mono ?_
  rintro r V0 ⟨rfl, h2, k2⟩
  clear cE1
  have x2 := k2.box x1' hXB
  have y2 := k2.box y1' hne
  have k02 := kA.trans k2
  have hP2 := hP.kb k02 hB3
  have z2 := x2.lt
  clear x1' y1' kA h1' k1'
  have hx0 := hide x2
  have ho0 := hide (show V0.ownsRow (X + 1) 27 7 (.slice none 0 0) 0 (newsN []) from World.ownsRow_nil _ _ _ _)
  have hR0 := hide h2
  have kk0 := hide k02
  have hP0 := hide hP2
  have Y := hide y2
  clear x2 h2 k02 hP2 y2
  go_upto_region 4 with fail
  obtain ⟨V, hV'⟩ : ∃ V, V = ({ heap := V0.heap, tape := V0.tape, drawn := V0.drawn + 1, os := V0.os, output := V0.output } : World) := ⟨_, rfl⟩
  have bV : Below V0.heap.size V0 V := by rw [hV']; exact (Below.refl _ _).drew
  have cD : Box V X 27 #[.int .i64 12, .int .i64 0, .int .i64 0, .string ⟨#[]⟩, .string ⟨#[]⟩, .string ⟨#[]⟩, .slice none 0 0] := (unhide hx0).on bV (unhide hx0).lt
  have hcDv := cD.lt
  have hRV := (unhide hR0).up bV
  have kkV := (unhide kk0).up bV
  have hoV := hide (owns_below (unhide ho0) bV)
  have yV := (unhide Y).on bV (unhide Y).lt
  have cN := hide (hN1 V hRV ((unhide hP0).kb (Kb.of (B := B) bV) hB3))
  refine wp_region_any hmx (wpAny_of_Z (z := 9) (C := fun w' => Box w' X 27 #[.int .i64 12, .int .i64 0, .int .i64 0, .string ⟨#[]⟩, .string ⟨#[]⟩, .string ⟨#[]⟩, .slice none 0 0]) _ _ _ _ ?_)
  rw [← hV']
  clear hV'
  refine wpAnyZ_reads 0 cD (by kernel_rfl) (by kernel_rfl) (by kernel_rfl) (by kernel_rfl) (fun d _ _ _ _ h => by cases d <;> exact h) (fun oi ho K hK => ?_)
  simp only [List.getElem?_toArray, List.getElem?_cons_zero, Option.some.injEq] at ho
  subst ho
  rw [if_pos (by kernel_rfl)]
  refine ⟨.pointer (some ⟨X, 6, none⟩), fun w' hw' => ?_, hK _ ?_⟩
  · obtain ⟨hp0, hp1, hp2, hp3, hp4, hp5, hp6⟩ := hw'.seven
    go_simp
  clear hK K
  refine wpAnyZ_reads 1 cD (by kernel_rfl) (by kernel_rfl) (by kernel_rfl) (by kernel_rfl) (fun d _ _ _ _ h => by cases d <;> exact h) (fun oi ho K hK => ?_)
  simp only [List.getElem?_toArray, List.getElem?_cons_succ, List.getElem?_cons_zero, Option.some.injEq] at ho
  subst ho
  rw [if_pos (by kernel_rfl)]
  refine ⟨.slice none 0 0, fun w' hw' => ?_, hK _ ?_⟩
  · obtain ⟨hp0, hp1, hp2, hp3, hp4, hp5, hp6⟩ := hw'.seven
    go_simp
  clear hK K
  refine wpAnyZ_reads 2 cD (by kernel_rfl) (by kernel_rfl) (by kernel_rfl) (by kernel_rfl) (fun d _ _ _ _ h => by cases d <;> exact h) (fun oi ho K hK => ?_)
  simp only [List.getElem?_toArray, List.getElem?_cons_succ, List.getElem?_cons_zero, Option.some.injEq] at ho
  subst ho
  rw [if_pos (by kernel_rfl)]
  refine ⟨.pointer (some ⟨B, 0, none⟩), fun w' hw' => ?_, hK _ ?_⟩
  · clear hw'
    go_simp
  clear hK K
  refine wpAnyZ_reads 3 cD (by kernel_rfl) (by kernel_rfl) (by kernel_rfl) (by kernel_rfl) (fun d _ _ _ _ h => by cases d <;> exact h) (fun oi ho K hK => ?_)
  simp only [List.getElem?_toArray, List.getElem?_cons_succ, List.getElem?_cons_zero, Option.some.injEq] at ho
  subst ho
  rw [if_pos (by kernel_rfl)]
  refine ⟨.int .i64 d, fun w' hw' => ?_, hK _ ?_⟩
  · clear hw'
    go_simp
  clear hK K
  refine wpAnyZ_reads 4 cD (by kernel_rfl) (by kernel_rfl) (by kernel_rfl) (by kernel_rfl) (fun d _ _ _ _ h => by cases d <;> exact h) (fun oi ho K hK => ?_)
  simp only [List.getElem?_toArray, List.getElem?_cons_succ, List.getElem?_cons_zero, Option.some.injEq] at ho
  subst ho
  rw [if_pos (by kernel_rfl)]
  refine ⟨.int .i64 (d + 1), fun w' hw' => ?_, hK _ ?_⟩
  · clear hw'
    go_simp
  clear hK K
  refine wpAnyZ_calls 5 (by kernel_rfl) (fun oi ho K hK => ?_)
  simp only [List.getElem?_toArray, List.getElem?_cons_succ, List.getElem?_cons_zero, Option.some.injEq] at ho
  subst ho
  go_simp
  refine (unhide cN).mono ?_
  rintro r u1 ⟨vv, rfl, ⟨ka1, kc1, rfl, hl1⟩, h1, k1⟩
  clear cN
  go_simp
  have c1 := k1.box cD hXB
  have ho1 := hide (k1.own (by omega) (unhide hoV))
  have y1 := k1.box yV hne
  refine hK _ _ (.inr c1) ?_
  clear hK K
  refine wpAnyZ_calls 6 (by kernel_rfl) (fun oi ho K hK => ?_)
  simp only [List.getElem?_toArray, List.getElem?_cons_succ, List.getElem?_cons_zero, Option.some.injEq] at ho
  subst ho
  go_simp
  have b2 : Below u1.heap.size u1 (u1.alloc (.cells (t1.dat.cs ka1 t1.kids.length kc1) 27)) := (Below.refl _ _).alloc (Nat.le_refl _) _
  refine hK _ _ (.inr (c1.on b2 c1.lt)) ?_
  clear hK K
  obtain ⟨u, eu⟩ : ∃ u, u = u1.alloc (.cells (t1.dat.cs ka1 t1.kids.length kc1) 27) := ⟨_, rfl⟩
  have hnb : Box u u1.heap.size 27 (t1.dat.cs ka1 t1.kids.length kc1) := by rw [eu]; exact Box.new _ _ _
  rw [← eu] at b2
  have cU := c1.on b2 c1.lt
  have hoU := hide (owns_below (unhide ho1) b2)
  have hU := h1.up b2
  have kU := kkV.trans (k1.up b2)
  have lU := hl1.bel b2 (Nat.le_refl _)
  have yU := y1.on b2 y1.lt
  have hsU := b2.size
  have hs1 := k1.size
  have hsV := kkV.size
  dsimp only [Dat.cs] at eu
  rw [← eu]
  clear eu b2 c1 ho1
  refine wpAnyZ_calls 7 (by kernel_rfl) (fun oi ho K hK => ?_)
  simp only [List.getElem?_toArray, List.getElem?_cons_succ, List.getElem?_cons_zero, Option.some.injEq] at ho
  subst ho
  refine step_own u (by rfl) (.tmp 14) (.tmp 19) 25 (by rfl) (X + 1) 27 i0 zeroX 7 96 Tryz.underlying25 hi0 hz0 hz1 hz2 (by rfl) (by decide) (.slice none 0 0) 0 (newsN []) ?q1 (unhide hoU) ⟨u1.heap.size, 0, none⟩ 1 1 (t1.dat.cs ka1 t1.kids.length kc1).toList ?q2 (by rfl) (news_box hnb) (fun q hq => newsN_one [⟨t1.dat, ka1, t1.kids.length, kc1⟩] q (by simpa [newsN] using hq)) (by unfold maxLen; omega) (by omega) (by omega) ?_
  case q1 => go_simp
  case q2 => go_simp
  intro v5 u5 ho5 hg5 hw5
  rw [show newsN [] ++ (t1.dat.cs ka1 t1.kids.length kc1).toList = newsN ([] ++ [⟨t1.dat, ka1, t1.kids.length, kc1⟩]) by rw [newsN_append]; simp [newsN]] at ho5
  have hrow : ∀ k, Value.ownBlock (.slice none 0 0) = some k → X + 1 ≤ k := fun k e => ((unhide hoV).lt k e).1
  have c5 : Box u5 X 27 #[.int .i64 12, .int .i64 0, .int .i64 0, .string ⟨#[]⟩, .string ⟨#[]⟩, .string ⟨#[]⟩, .slice none 0 0] := (hg5.block _ cU.lt (fun e => by have := hrow _ e.symm; omega)).trans cU
  have h5 := hU.grown hg5 (fun k e => by have := hrow k e; omega)
  have k5 := kU.grown hg5 (fun k e => by have := hrow k e; omega)
  have l5 := lU.grow hg5 hsU (fun k e => .inl ((unhide hoV).lt k e).2)
  have y5 : Box u5 W.heap.size 27 zeroE := (hg5.block _ yU.lt (fun e => by have := hrow _ e.symm; omega)).trans yU
  have hOwn5 : ∀ j, v5.ownBlock = some j → (Value.ownBlock (.slice none 0 0) = some j ∨ j = u.heap.size) := fun j e => by rcases hw5 with e' | e' <;> rw [e'] at e <;> first | exact .inl e | exact .inr (by cases e; rfl)
  obtain ⟨a5, c5', rfl⟩ := owns_form ho5
  replace ho5 := hide ho5
  refine hK _ _ (.inr c5) ?_
  clear hK K
  refine wpAnyZ_calls 8 (by kernel_rfl) (fun oi ho K hK => ?_)
  simp only [List.getElem?_toArray, List.getElem?_cons_succ, List.getElem?_cons_zero, Option.some.injEq] at ho
  subst ho
  go_simp
  refine hK _ _ (.inr c5) ?_
  clear hK K
  obtain ⟨hc0, hc1, hc2, hc3, hc4, hc5, hc6⟩ := c5.seven
  have hf6 := c5.frz 6
  have x6 : Box (u5.setCell ⟨X, 6, none⟩ (.slice a5 1 c5')) X 27 #[.int .i64 12, .int .i64 0, .int .i64 0, .string ⟨#[]⟩, .string ⟨#[]⟩, .string ⟨#[]⟩, .slice a5 1 c5'] := c5.set 6 _
  have hoL := (unhide ho5).lt
  have o6 : (u5.setCell ⟨X, 6, none⟩ (.slice a5 1 c5')).ownsRow (X + 1) 27 7 (.slice a5 1 c5') 1 (newsN ([] ++ [⟨t1.dat, ka1, t1.kids.length, kc1⟩])) := owns_keep (unhide ho5) (fun g hg _ => setCell_block _ _ _ (by have := (hoL g hg).1; show X ≠ g; omega))
  have h6 := h5.put (p := ⟨X, 6, none⟩) (by show n ≤ X; omega) (.slice a5 1 c5')
  have k6 := k5.put (p := ⟨X, 6, none⟩) (by show W.heap.size ≤ X; omega) (.slice a5 1 c5')
  have hs5 := hg5.size
  have hcDl := cD.lt
  have l6 := (l5.mono (n := X + 1) (by omega) (Nat.le_refl _)).kb ((Kb.refl X u5).set 6 (.slice a5 1 c5')) (Nat.lt_succ_self X) (by omega)
  have y6 := y5.other ⟨X, 6, none⟩ (.slice a5 1 c5') (by show X ≠ W.heap.size; omega)
  have s6 : u1.heap.size ≤ (u5.setCell ⟨X, 6, none⟩ (.slice a5 1 c5')).heap.size := by simp; omega
  have hOwn6 : ∀ j, Value.ownBlock (.slice a5 1 c5') = some j → u1.heap.size ≤ j := fun j e => by rcases hOwn5 j e with e' | e' <;> first | (cases e'; done) | (rw [e']; exact hsU)
  refine wpAnyZ_calls 9 (by kernel_rfl) (fun oi ho K hK => ?_)
  simp only [List.getElem?_toArray, List.getElem?_cons_succ, List.getElem?_cons_zero, Option.some.injEq] at ho
  subst ho
  go_simp
  refine hK _ _ (.inl rfl) ?_
  clear hK K hc0 hc1 hc2 hc3 hc4 hc5 hc6 hf6
  refine wpAnyZ_done (by kernel_rfl) ?_ _
  generalize u5.setCell ⟨X, 6, none⟩ (.slice a5 1 c5') = u6 at x6 o6 h6 k6 l6 y6 s6  ⊢
  replace hoV := True.intro
  clear hoV
  have cX := hide x6
  have cO := hide o6
  have cR := hide h6
  have cK := hide k6
  have cL := hide l6
  have cY := hide y6
  have cS := hide s6
  have cOw := hide hOwn6
  have cP := op_c n B s3 u6 h6 (hP.kb k6 hB3) hB3
  rw [ho3] at cP
  replace cP := hide cP
  clear x6 o6 h6 k6 l6 y6 s6 hOwn6
  go_wp2_with fail
  refine (unhide cP).mono ?_
  rintro r W8 ⟨rfl, h8, k8⟩
  clear cP
  have x8 := k8.box (unhide cX) hXB
  have y8 := k8.box (unhide cY) hne
  have o8 := k8.own (by omega) (unhide cO)
  have l8 := (unhide cL).kb k8 (by omega) (unhide cS)
  have kk8 := (unhide cK).trans k8
  have s8 := Nat.le_trans (unhide cS) k8.size
  obtain ⟨hc0, hc1, hc2, hc3, hc4, hc5, hc6⟩ := x8.seven
  have hf0 := x8.frz 0
  obtain ⟨V9, hV9⟩ : ∃ V9, V9 = W8.setCell ⟨X, 0, none⟩ (.int .i64 o) := ⟨_, rfl⟩
  have x9 : Box V9 X 27 #[.int .i64 o, .int .i64 0, .int .i64 0, .string ⟨#[]⟩, .string ⟨#[]⟩, .string ⟨#[]⟩, .slice a5 1 c5'] := by rw [hV9]; exact x8.set 0 _
  have o9 : V9.ownsRow (X + 1) 27 7 (.slice a5 1 c5') 1 (newsN ([] ++ [⟨t1.dat, ka1, t1.kids.length, kc1⟩])) := by rw [hV9]; exact owns_keep o8 (fun g hg _ => setCell_block _ _ _ (by have := (o8.lt g hg).1; show X ≠ g; omega))
  have h9 := h8.put (p := ⟨X, 0, none⟩) (by show n ≤ X; omega) (.int .i64 o)
  have k9 := kk8.put (p := ⟨X, 0, none⟩) (by show W.heap.size ≤ X; omega) (.int .i64 o)
  have l9 := l8.kb ((Kb.refl X W8).set 0 (.int .i64 o)) (Nat.lt_succ_self X) s8
  have y9 := y8.other ⟨X, 0, none⟩ (.int .i64 o) (by show X ≠ W.heap.size; omega)
  have s9 : u1.heap.size ≤ (W8.setCell ⟨X, 0, none⟩ (.int .i64 o)).heap.size := by simpa using s8
  rw [← hV9] at h9 k9 l9 y9 s9
  have zhx0 := hide x9
  have zho0 := hide o9
  have zhR0 := hide h9
  have zkk0 := hide k9
  have zhP0 := hide (hP.kb k9 hB3)
  have zY := hide y9
  have lA0 := hide l9
  have hkA := hide s9
  have hOwn := cOw
  clear x8 y8 o8 l8 kk8 s8 x9 o9 h9 k9 l9 y9 s9 h8 k8 cX cO cR cK cL cY cS hx0 ho0 hR0 kk0 hP0 Y
  go_upto_region 6 with fail
  rw [← hV9]
  clear hV9 hc0 hc1 hc2 hc3 hc4 hc5 hc6 hf0
  obtain ⟨zV, hV'⟩ : ∃ zV, zV = ({ heap := V9.heap, tape := V9.tape, drawn := V9.drawn + 1, os := V9.os, output := V9.output } : World) := ⟨_, rfl⟩
  have zbV : Below V9.heap.size V9 zV := by rw [hV']; exact (Below.refl _ _).drew
  have zcD : Box zV X 27 #[.int .i64 o, .int .i64 0, .int .i64 0, .string ⟨#[]⟩, .string ⟨#[]⟩, .string ⟨#[]⟩, .slice a5 1 c5'] := (unhide zhx0).on zbV (unhide zhx0).lt
  have zhcDv := zcD.lt
  have zhRV := (unhide zhR0).up zbV
  have zkkV := (unhide zkk0).up zbV
  have zhoV := hide (owns_below (unhide zho0) zbV)
  have zyV := (unhide zY).on zbV (unhide zY).lt
  have zlAV := (unhide lA0).bel zbV (unhide hkA)
  have zcN := hide (hN2 zV zhRV ((unhide zhP0).kb (Kb.of (B := B) zbV) hB3))
  have zbVs := hide (show V9.heap.size ≤ zV.heap.size from zbV.size)
  refine wp_region_any hmx (wpAny_of_Z (z := 9) (C := fun w' => Box w' X 27 #[.int .i64 o, .int .i64 0, .int .i64 0, .string ⟨#[]⟩, .string ⟨#[]⟩, .string ⟨#[]⟩, .slice a5 1 c5']) _ _ _ _ ?_)
  rw [← hV']
  clear hV'
  refine wpAnyZ_reads 0 zcD (by kernel_rfl) (by kernel_rfl) (by kernel_rfl) (by kernel_rfl) (fun d _ _ _ _ h => by cases d <;> exact h) (fun oi ho K hK => ?_)
  simp only [List.getElem?_toArray, List.getElem?_cons_zero, Option.some.injEq] at ho
  subst ho
  rw [if_pos (by kernel_rfl)]
  refine ⟨.pointer (some ⟨X, 6, none⟩), fun w' hw' => ?_, hK _ ?_⟩
  · obtain ⟨hp0, hp1, hp2, hp3, hp4, hp5, hp6⟩ := hw'.seven
    go_simp
  clear hK K
  refine wpAnyZ_reads 1 zcD (by kernel_rfl) (by kernel_rfl) (by kernel_rfl) (by kernel_rfl) (fun d _ _ _ _ h => by cases d <;> exact h) (fun oi ho K hK => ?_)
  simp only [List.getElem?_toArray, List.getElem?_cons_succ, List.getElem?_cons_zero, Option.some.injEq] at ho
  subst ho
  rw [if_pos (by kernel_rfl)]
  refine ⟨.slice a5 1 c5', fun w' hw' => ?_, hK _ ?_⟩
  · obtain ⟨hp0, hp1, hp2, hp3, hp4, hp5, hp6⟩ := hw'.seven
    go_simp
  clear hK K
  refine wpAnyZ_reads 2 zcD (by kernel_rfl) (by kernel_rfl) (by kernel_rfl) (by kernel_rfl) (fun d _ _ _ _ h => by cases d <;> exact h) (fun oi ho K hK => ?_)
  simp only [List.getElem?_toArray, List.getElem?_cons_succ, List.getElem?_cons_zero, Option.some.injEq] at ho
  subst ho
  rw [if_pos (by kernel_rfl)]
  refine ⟨.pointer (some ⟨B, 0, none⟩), fun w' hw' => ?_, hK _ ?_⟩
  · clear hw'
    go_simp
  clear hK K
  refine wpAnyZ_reads 3 zcD (by kernel_rfl) (by kernel_rfl) (by kernel_rfl) (by kernel_rfl) (fun d _ _ _ _ h => by cases d <;> exact h) (fun oi ho K hK => ?_)
  simp only [List.getElem?_toArray, List.getElem?_cons_succ, List.getElem?_cons_zero, Option.some.injEq] at ho
  subst ho
  rw [if_pos (by kernel_rfl)]
  refine ⟨.int .i64 d, fun w' hw' => ?_, hK _ ?_⟩
  · clear hw'
    go_simp
  clear hK K
  refine wpAnyZ_reads 4 zcD (by kernel_rfl) (by kernel_rfl) (by kernel_rfl) (by kernel_rfl) (fun d _ _ _ _ h => by cases d <;> exact h) (fun oi ho K hK => ?_)
  simp only [List.getElem?_toArray, List.getElem?_cons_succ, List.getElem?_cons_zero, Option.some.injEq] at ho
  subst ho
  rw [if_pos (by kernel_rfl)]
  refine ⟨.int .i64 (d + 1), fun w' hw' => ?_, hK _ ?_⟩
  · clear hw'
    go_simp
  clear hK K
  refine wpAnyZ_calls 5 (by kernel_rfl) (fun oi ho K hK => ?_)
  simp only [List.getElem?_toArray, List.getElem?_cons_succ, List.getElem?_cons_zero, Option.some.injEq] at ho
  subst ho
  go_simp
  refine (unhide zcN).mono ?_
  rintro r zu1 ⟨zvv, rfl, ⟨ka2, kc2, rfl, hl2⟩, zh1, zk1⟩
  clear zcN
  go_simp
  have zc1 := zk1.box zcD hXB
  have zho1 := hide (zk1.own (by omega) (unhide zhoV))
  have zy1 := zk1.box zyV hne
  have zlA1 := zlAV.kb zk1 (by omega) (Nat.le_trans (unhide hkA) zbV.size)
  refine hK _ _ (.inr zc1) ?_
  clear hK K
  refine wpAnyZ_calls 6 (by kernel_rfl) (fun oi ho K hK => ?_)
  simp only [List.getElem?_toArray, List.getElem?_cons_succ, List.getElem?_cons_zero, Option.some.injEq] at ho
  subst ho
  go_simp
  have zb2 : Below zu1.heap.size zu1 (zu1.alloc (.cells (t2.dat.cs ka2 t2.kids.length kc2) 27)) := (Below.refl _ _).alloc (Nat.le_refl _) _
  refine hK _ _ (.inr (zc1.on zb2 zc1.lt)) ?_
  clear hK K
  obtain ⟨zu, zeu⟩ : ∃ zu, zu = zu1.alloc (.cells (t2.dat.cs ka2 t2.kids.length kc2) 27) := ⟨_, rfl⟩
  have zhnb : Box zu zu1.heap.size 27 (t2.dat.cs ka2 t2.kids.length kc2) := by rw [zeu]; exact Box.new _ _ _
  rw [← zeu] at zb2
  have zcU := zc1.on zb2 zc1.lt
  have zhoU := hide (owns_below (unhide zho1) zb2)
  have zhU := zh1.up zb2
  have zkU := zkkV.trans (zk1.up zb2)
  have zlU := hl2.bel zb2 (Nat.le_refl _)
  have zyU := zy1.on zb2 zy1.lt
  have zlAU := zlA1.bel zb2 (Nat.le_trans (Nat.le_trans (unhide hkA) zbV.size) zk1.size)
  have zhsU := zb2.size
  have zhs1 := zk1.size
  have zhsV := zkkV.size
  dsimp only [Dat.cs] at zeu
  rw [← zeu]
  clear zeu zb2 zc1 zho1
  refine wpAnyZ_calls 7 (by kernel_rfl) (fun oi ho K hK => ?_)
  simp only [List.getElem?_toArray, List.getElem?_cons_succ, List.getElem?_cons_zero, Option.some.injEq] at ho
  subst ho
  refine step_own zu (by rfl) (.tmp 26) (.tmp 31) 25 (by rfl) (X + 1) 27 i0 zeroX 7 96 Tryz.underlying25 hi0 hz0 hz1 hz2 (by rfl) (by decide) (.slice a5 1 c5') 1 (newsN ([] ++ [⟨t1.dat, ka1, t1.kids.length, kc1⟩])) ?q1 (unhide zhoU) ⟨zu1.heap.size, 0, none⟩ 1 1 (t2.dat.cs ka2 t2.kids.length kc2).toList ?q2 (by rfl) (news_box zhnb) (fun q hq => newsN_one [⟨t2.dat, ka2, t2.kids.length, kc2⟩] q (by simpa [newsN] using hq)) (by unfold maxLen; omega) (by omega) (by omega) ?_
  case q1 => go_simp
  case q2 => go_simp
  intro zv5 zu5 zho5 zhg5 zhw5
  rw [show newsN ([] ++ [⟨t1.dat, ka1, t1.kids.length, kc1⟩]) ++ (t2.dat.cs ka2 t2.kids.length kc2).toList = newsN (([] ++ [⟨t1.dat, ka1, t1.kids.length, kc1⟩]) ++ [⟨t2.dat, ka2, t2.kids.length, kc2⟩]) by rw [newsN_append]; simp [newsN]] at zho5
  have zhrow : ∀ k, Value.ownBlock (.slice a5 1 c5') = some k → X + 1 ≤ k := fun k e => ((unhide zhoV).lt k e).1
  have zc5 : Box zu5 X 27 #[.int .i64 o, .int .i64 0, .int .i64 0, .string ⟨#[]⟩, .string ⟨#[]⟩, .string ⟨#[]⟩, .slice a5 1 c5'] := (zhg5.block _ zcU.lt (fun e => by have := zhrow _ e.symm; omega)).trans zcU
  have zh5 := zhU.grown zhg5 (fun k e => by have := zhrow k e; omega)
  have zk5 := zkU.grown zhg5 (fun k e => by have := zhrow k e; omega)
  have zl5 := zlU.grow zhg5 zhsU (fun k e => .inl ((unhide zhoV).lt k e).2)
  have zy5 : Box zu5 W.heap.size 27 zeroE := (zhg5.block _ zyU.lt (fun e => by have := zhrow _ e.symm; omega)).trans zyU
  have zlA5 := zlAU.grow zhg5 (Nat.le_trans (Nat.le_trans (Nat.le_trans (unhide hkA) zbV.size) zk1.size) zhsU) (fun j e => .inr (unhide hOwn j e))
  have zhOwn5 : ∀ j, zv5.ownBlock = some j → (Value.ownBlock (.slice a5 1 c5') = some j ∨ j = zu.heap.size) := fun j e => by rcases zhw5 with e' | e' <;> rw [e'] at e <;> first | exact .inl e | exact .inr (by cases e; rfl)
  obtain ⟨za5, zc5', rfl⟩ := owns_form zho5
  replace zho5 := hide zho5
  refine hK _ _ (.inr zc5) ?_
  clear hK K
  refine wpAnyZ_calls 8 (by kernel_rfl) (fun oi ho K hK => ?_)
  simp only [List.getElem?_toArray, List.getElem?_cons_succ, List.getElem?_cons_zero, Option.some.injEq] at ho
  subst ho
  go_simp
  refine hK _ _ (.inr zc5) ?_
  clear hK K
  obtain ⟨hc0, hc1, hc2, hc3, hc4, hc5, hc6⟩ := zc5.seven
  have hf6 := zc5.frz 6
  have zx6 : Box (zu5.setCell ⟨X, 6, none⟩ (.slice za5 2 zc5')) X 27 #[.int .i64 o, .int .i64 0, .int .i64 0, .string ⟨#[]⟩, .string ⟨#[]⟩, .string ⟨#[]⟩, .slice za5 2 zc5'] := zc5.set 6 _
  have zhoL := (unhide zho5).lt
  have zo6 : (zu5.setCell ⟨X, 6, none⟩ (.slice za5 2 zc5')).ownsRow (X + 1) 27 7 (.slice za5 2 zc5') 2 (newsN (([] ++ [⟨t1.dat, ka1, t1.kids.length, kc1⟩]) ++ [⟨t2.dat, ka2, t2.kids.length, kc2⟩])) := owns_keep (unhide zho5) (fun g hg _ => setCell_block _ _ _ (by have := (zhoL g hg).1; show X ≠ g; omega))
  have zh6 := zh5.put (p := ⟨X, 6, none⟩) (by show n ≤ X; omega) (.slice za5 2 zc5')
  have zk6 := zk5.put (p := ⟨X, 6, none⟩) (by show W.heap.size ≤ X; omega) (.slice za5 2 zc5')
  have zhs5 := zhg5.size
  have zhcDl := zcD.lt
  have zl6 := (zl5.mono (n := X + 1) (by omega) (Nat.le_refl _)).kb ((Kb.refl X zu5).set 6 (.slice za5 2 zc5')) (Nat.lt_succ_self X) (by omega)
  have zy6 := zy5.other ⟨X, 6, none⟩ (.slice za5 2 zc5') (by show X ≠ W.heap.size; omega)
  have zs6 : zu1.heap.size ≤ (zu5.setCell ⟨X, 6, none⟩ (.slice za5 2 zc5')).heap.size := by simp; omega
  have zlA6 := zlA5.kb ((Kb.refl X zu5).set 6 (.slice za5 2 zc5')) (Nat.lt_succ_self X) (by have := unhide hkA; have := (unhide zbVs); omega)
  have zsA6 : u1.heap.size ≤ (zu5.setCell ⟨X, 6, none⟩ (.slice za5 2 zc5')).heap.size := by have := unhide hkA; have := (unhide zbVs); simp; omega
  refine wpAnyZ_calls 9 (by kernel_rfl) (fun oi ho K hK => ?_)
  simp only [List.getElem?_toArray, List.getElem?_cons_succ, List.getElem?_cons_zero, Option.some.injEq] at ho
  subst ho
  go_simp
  refine hK _ _ (.inl rfl) ?_
  clear hK K hc0 hc1 hc2 hc3 hc4 hc5 hc6 hf6
  refine wpAnyZ_done (by kernel_rfl) ?_ _
  generalize zu5.setCell ⟨X, 6, none⟩ (.slice za5 2 zc5') = zu6 at zx6 zo6 zh6 zk6 zl6 zy6 zs6 zlA6 zsA6 ⊢
  replace zhoV := True.intro
  clear zhoV
  have zcX := hide zx6
  have zcO := hide zo6
  have zcR := hide zh6
  have zcK := hide zk6
  have zcL := hide zl6
  have zcY := hide zy6
  have zcS := hide zs6
  have zcLA := hide zlA6
  have zcSA := hide zsA6
  have cM2 := hide (must_one n B s5 cB zu6 (unhide zcR))
  clear zx6 zo6 zh6 zk6 zl6 zy6 zs6 zlA6 zsA6
  go_wp2_with fail
  refine (unhide cM2).mono ?_
  rintro r W7 ⟨rfl, h7, k7⟩
  clear cM2
  have x7 := k7.box (unhide zcX) hXB
  have y7 := k7.box (unhide zcY) hne
  have o7 := k7.own (by omega) (unhide zcO)
  have kf := (unhide zcK).trans k7
  have LL1 := ((unhide zcLA).kb k7 (by omega) (unhide zcSA)).mono (l := W7.heap.size) (Nat.le_refl (X + 1)) (Nat.le_trans (unhide zcSA) k7.size)
  have LL2 := ((unhide zcL).kb k7 (by omega) (unhide zcS)).mono (l := W7.heap.size) (Nat.le_refl (X + 1)) (Nat.le_trans (unhide zcS) k7.size)
  have lF' := lies_nds (m := X + 1) (nds := [⟨t1.dat, ka1, t1.kids.length, kc1⟩, ⟨t2.dat, ka2, t2.kids.length, kc2⟩]) [t1, t2] (by simpa using o7) (Nat.le_refl _) rfl (by simp) (fun j x hx t ht => by
    match j, hx, ht with
    | 0, hx, ht => simp at hx ht; subst hx ht; exact ⟨rfl, rfl, LL1⟩
    | 1, hx, ht => simp at hx ht; subst hx ht; exact ⟨rfl, rfl, LL2⟩
    | j + 2, hx, ht => simp at hx)
  obtain ⟨aF, cF, eF, lF⟩ := lF'
  simp only [Value.slice.injEq] at eF
  obtain ⟨rfl, -, rfl⟩ := eF
  obtain ⟨hc0, hc1, hc2, hc3, hc4, hc5, hc6⟩ := x7.seven
  have hf0 := y7.frz 0
  have hf1 := y7.frz 1
  have hf2 := y7.frz 2
  have hf3 := y7.frz 3
  have hf4 := y7.frz 4
  have hf5 := y7.frz 5
  have hf6 := y7.frz 6
  obtain ⟨hr0, hr1, hr2, hr3, hr4, hr5, hr6⟩ := y7.seven
  have YY := hide y7
  have HH := hide h7
  have KK := hide kf
  have LF := hide lF
  have hx7 := x7.lt
  clear o7 y7 x7 h7 kf LL1 LL2 lF k7
  go_wp2_with fail
  have kE := (unhide KK).put7 (D := W.heap.size) (Nat.le_refl _) (.int .i64 o) (.int .i64 0) (.int .i64 0) (.string ⟨#[]⟩) (.string ⟨#[]⟩) (.string ⟨#[]⟩) (.slice za5 2 zc5')
  have hE := (unhide HH).put7 hnW (.int .i64 o) (.int .i64 0) (.int .i64 0) (.string ⟨#[]⟩) (.string ⟨#[]⟩) (.string ⟨#[]⟩) (.slice za5 2 zc5')
  have lE := ((unhide LF).kb (((((((((Kb.refl W.heap.size W7).set 0 (.int .i64 o)).set 1 (.int .i64 0)).set 2 (.int .i64 0)).set 3 (.string ⟨#[]⟩)).set 4 (.string ⟨#[]⟩)).set 5 (.string ⟨#[]⟩)).set 6 (.slice za5 2 zc5'))) (by omega) (Nat.le_refl _)).mono (n := W.heap.size) (by omega) (show W7.heap.size ≤ (((((((W7.setCell ⟨W.heap.size, 0, none⟩ (.int .i64 o)).setCell ⟨W.heap.size, 1, none⟩ (.int .i64 0)).setCell ⟨W.heap.size, 2, none⟩ (.int .i64 0)).setCell ⟨W.heap.size, 3, none⟩ (.string ⟨#[]⟩)).setCell ⟨W.heap.size, 4, none⟩ (.string ⟨#[]⟩)).setCell ⟨W.heap.size, 5, none⟩ (.string ⟨#[]⟩)).setCell ⟨W.heap.size, 6, none⟩ (.slice za5 2 zc5')).heap.size by simp)
  obtain ⟨q0, q1, q2, q3, q4, q5, q6⟩ := ((unhide YY).put7' (.int .i64 o) (.int .i64 0) (.int .i64 0) (.string ⟨#[]⟩) (.string ⟨#[]⟩) (.string ⟨#[]⟩) (.slice za5 2 zc5')).seven
  exact bodyPost_ret (v := Dat.v (dOp o) za5 2 zc5') (by simp [results, Tryz.results80, go_sem, q0, q1, q2, q3, q4, q5, q6]) rfl ⟨_, rfl, ⟨za5, zc5', rfl, lE⟩, hE, kE⟩

end Go.Proofs.YtmhpakhnclkenaaGreatDoor
