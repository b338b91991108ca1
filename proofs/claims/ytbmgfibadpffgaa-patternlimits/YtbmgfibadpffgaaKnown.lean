/-
  What known answers: true, in whatever world; nothing that lay is turned.
-/
import Derived.Test.YtbmgfibadpffgaaMade
import Derived.Test.YtbmgfibadpffgaaPatSame
namespace Go.Proofs.Ytbmgfibadpffgaa
open Go.RowKit Go.Shelf

theorem samePt_K : samePt pK pK = true := by kernel_rfl
theorem samePt_0 : samePt pK p0 = false := by kernel_rfl

set_option maxRecDepth 100000 in
set_option maxHeartbeats 8000000 in
theorem known_c (w : World) : Calls Try.prog 7 #[] w fun r w' => r = .returned (.bool true) ∧ Below w.heap.size w w' := by
  have hmx : Try.prog.follows .mixedOrders = true := by kernel_rfl
  have cF := hide (field_c (tx1 97) (tx1 120) w)
  go_enter Try.func7, Try.ntmps7
  go_wp2_with fail
  refine (unhide cF).mono ?_
  rintro r w1 ⟨rfl, hb1⟩
  clear cF
  have cL := hide (lit_c 3 w1)
  go_wp2_with fail
  refine (unhide cL).mono ?_
  rintro r w2 ⟨rfl, hb2⟩
  clear cL
  have cT := hide (two_c 8 (fldD (tx1 97) (tx1 120)) (litD 3) none none [] [] 0 0 w2 (.nil none) (.nil none))
  go_wp2_with fail
  refine (unhide cT).mono ?_
  rintro r w3 ⟨⟨bx, rfl, hL3⟩, hb3⟩
  clear cT
  have b3 : Below w.heap.size w w3 := hb1.trans ((hb2.trans (hb3.mono hb2.size)).mono hb1.size)
  clear hb1 hb2 hb3
  obtain ⟨w4, hw4⟩ : ∃ w4, w4 = w3.alloc (.cells #[.int .i64 8, .int .i64 0, .int .i64 0, .string ⟨#[]⟩, .string ⟨#[]⟩, .string ⟨#[]⟩, .slice bx 2 2] 27) := ⟨_, rfl⟩
  have b4 : Below w3.heap.size w3 w4 := by rw [hw4]; exact (Below.refl _ _).alloc (Nat.le_refl _) _
  have x4 : Box w4 w3.heap.size 27 #[.int .i64 8, .int .i64 0, .int .i64 0, .string ⟨#[]⟩, .string ⟨#[]⟩, .string ⟨#[]⟩, .slice bx 2 2] := by rw [hw4]; exact Box.new _ _ _
  have hL4 := hide (hL3.on b4)
  clear hL3
  simp only [opD]
  go_upto_region 2 with fail
  rw [← hw4]
  clear hw4
  obtain ⟨hc0, hc1, hc2, hc3, hc4, hc5, hc6⟩ := (x4.alloc (.cells #[.string ⟨#[116]⟩] 9)).seven
  obtain ⟨W, hW⟩ : ∃ W, W = ((w4.alloc (.cells #[.string ⟨#[116]⟩] 9)).alloc (.cells (eK.cs ⟨some ⟨w4.heap.size, 0, none⟩, 1, bx, 2⟩) 41)).alloc (.cells (pK.cs (some ⟨w4.heap.size + 1, 0, none⟩) 1) 37) := ⟨_, rfl⟩
  have bW : Below w4.heap.size w4 W := by rw [hW]; exact (((Below.refl _ _).alloc (Nat.le_refl _) _).alloc (by simp) _).alloc (by simp; omega) _
  have xt : Box W w4.heap.size 9 #[.string ⟨#[116]⟩] := by rw [hW]; exact ((Box.new w4 9 _).alloc _).alloc _
  have xe : Box W (w4.heap.size + 1) 41 (eK.cs ⟨some ⟨w4.heap.size, 0, none⟩, 1, bx, 2⟩) := by
    have := (Box.new (w4.alloc (.cells #[.string ⟨#[116]⟩] 9)) 41 (eK.cs ⟨some ⟨w4.heap.size, 0, none⟩, 1, bx, 2⟩)).alloc (.cells (pK.cs (some ⟨w4.heap.size + 1, 0, none⟩) 1) 37)
    simp only [World.size_alloc] at this
    rw [hW]; exact this
  have xp : Box W (w4.heap.size + 1 + 1) 37 (pK.cs (some ⟨w4.heap.size + 1, 0, none⟩) 1) := by
    have := Box.new ((w4.alloc (.cells #[.string ⟨#[116]⟩] 9)).alloc (.cells (eK.cs ⟨some ⟨w4.heap.size, 0, none⟩, 1, bx, 2⟩) 41)) 37 (pK.cs (some ⟨w4.heap.size + 1, 0, none⟩) 1)
    simp only [World.size_alloc] at this
    rw [hW]; exact this
  have hEW : Ems W.heap.size W (some ⟨w4.heap.size + 1, 0, none⟩) [eK] := by
    refine ⟨by decide, .inr ⟨w4.heap.size + 1, 0, fun _ => ⟨some ⟨w4.heap.size, 0, none⟩, 1, bx, 2⟩, rfl, xe.lt, fun j e he => ?_⟩⟩
    match j with
    | 0 =>
      simp at he; subst he
      refine ⟨fun i u hu => by simpa using xe.at i hu, ⟨by decide, .inr ⟨w4.heap.size, 0, rfl, xt.lt, fun j t ht => ?_⟩⟩, (unhide hL4).on bW⟩
      match j with
      | 0 => simp [eK] at ht; subst ht; exact xt.at 0 rfl
      | j + 1 => simp [eK] at ht
    | j + 1 => simp at he
  have hLW := (unhide hL4).on bW
  dsimp only [eK, pK, xK, twoT, opD, Em.cs, Pt.cs, tx1, tx0, Tree.dat, Tree.kids, List.length_cons, List.length_nil, Nat.reduceAdd] at hW
  replace hW := hide hW
  replace hEW := hide hEW
  replace hLW := hide hLW
  go_upto_region 3 with fail
  rw [← unhide hW]
  clear hW hc0 hc1 hc2 hc3 hc4 hc5 hc6
  obtain ⟨V, hV'⟩ : ∃ V, V = ({ heap := W.heap, tape := W.tape, drawn := W.drawn + 1, os := W.os, output := W.output } : World) := ⟨_, rfl⟩
  have bWV : Below W.heap.size W V := by rw [hV']; exact (Below.refl _ _).drew
  have X1 : Box V w3.heap.size 27 ((opD 8).cs bx 2 2) := (x4.on bW x4.lt).on bWV (x4.on bW x4.lt).lt
  have X2 : Box V (w4.heap.size + 1 + 1) 37 (pK.cs (some ⟨w4.heap.size + 1, 0, none⟩) 1) := xp.on bWV xp.lt
  have hLV := (unhide hLW).on bWV
  have hEV := (unhide hEW).on bWV
  have bV : Below w.heap.size w V := b3.trans ((b4.trans ((bW.trans (bWV.mono bW.size)).mono b4.size)).mono b3.size)
  have c0 : Below V.heap.size V V := Below.refl _ _
  refine wp_region_any hmx (wpAny_of_C (C := fun w' => Below V.heap.size V w') _ _ _ _ ?_)
  rw [← hV']
  clear hV' xt xe xp hEW hLW
  obtain ⟨er, her⟩ : ∃ er, er = w4.heap.size + 1 := ⟨_, rfl⟩
  rw [← her] at X2 hEV ⊢
  clear her
  refine wpAnyC_calls 0 (by kernel_rfl) (fun oi ho K hK => ?_)
  simp only [List.getElem?_toArray, List.getElem?_cons_zero, Option.some.injEq] at ho
  subst ho
  go_simp
  refine (kids_c 12 _).mono ?_
  rintro r _ ⟨rfl, rfl⟩
  rw [show kidsN 12 = 1 from rfl]
  go_simp
  refine hK _ _ c0 ?_
  clear hK K
  refine wpAnyC_calls 1 (by kernel_rfl) (fun oi ho K hK => ?_)
  simp only [List.getElem?_toArray, List.getElem?_cons_succ, List.getElem?_cons_zero, Option.some.injEq] at ho
  subst ho
  go_simp
  refine hK _ _ c0 ?_
  clear hK K
  refine wpAnyC_calls 2 (by kernel_rfl) (fun oi ho K hK => ?_)
  simp only [List.getElem?_toArray, List.getElem?_cons_succ, List.getElem?_cons_zero, Option.some.injEq] at ho
  subst ho
  go_simp
  refine hK _ _ c0 ?_
  clear hK K
  refine wpAnyC_calls 3 (by kernel_rfl) (fun oi ho K hK => ?_)
  simp only [List.getElem?_toArray, List.getElem?_cons_succ, List.getElem?_cons_zero, Option.some.injEq] at ho
  subst ho
  go_simp
  refine (kids_c 11 _).mono ?_
  rintro r _ ⟨rfl, rfl⟩
  rw [show kidsN 11 = 2 from rfl]
  go_simp
  refine hK _ _ c0 ?_
  clear hK K
  refine wpAnyC_calls 4 (by kernel_rfl) (fun oi ho K hK => ?_)
  simp only [List.getElem?_toArray, List.getElem?_cons_succ, List.getElem?_cons_zero, Option.some.injEq] at ho
  subst ho
  go_simp
  refine hK _ _ c0 ?_
  clear hK K
  refine wpAnyC_calls 5 (by kernel_rfl) (fun oi ho K hK => ?_)
  simp only [List.getElem?_toArray, List.getElem?_cons_succ, List.getElem?_cons_zero, Option.some.injEq] at ho
  subst ho
  go_simp
  refine hK _ _ c0 ?_
  clear hK K
  refine wpAnyC_calls 6 (by kernel_rfl) (fun oi ho K hK => ?_)
  simp only [List.getElem?_toArray, List.getElem?_cons_succ, List.getElem?_cons_zero, Option.some.injEq] at ho
  subst ho
  go_simp
  refine hK _ _ c0 ?_
  clear hK K
  refine wpAnyC_calls 7 (by kernel_rfl) (fun oi ho K hK => ?_)
  simp only [List.getElem?_toArray, List.getElem?_cons_succ, List.getElem?_cons_zero, Option.some.injEq] at ho
  subst ho
  go_simp
  refine (kids_c 1 _).mono ?_
  rintro r _ ⟨rfl, rfl⟩
  rw [show kidsN 1 = 0 from rfl]
  go_simp
  refine hK _ _ c0 ?_
  clear hK K
  refine wpAnyC_calls 8 (by kernel_rfl) (fun oi ho K hK => ?_)
  simp only [List.getElem?_toArray, List.getElem?_cons_succ, List.getElem?_cons_zero, Option.some.injEq] at ho
  subst ho
  go_simp
  refine hK _ _ c0 ?_
  clear hK K
  refine wpAnyC_calls 9 (by kernel_rfl) (fun oi ho K hK => ?_)
  simp only [List.getElem?_toArray, List.getElem?_cons_succ, List.getElem?_cons_zero, Option.some.injEq] at ho
  subst ho
  go_simp
  refine hK _ _ c0 ?_
  clear hK K
  refine wpAnyC_calls 10 (by kernel_rfl) (fun oi ho K hK => ?_)
  simp only [List.getElem?_toArray, List.getElem?_cons_succ, List.getElem?_cons_zero, Option.some.injEq] at ho
  subst ho
  go_simp
  refine hK _ _ c0 ?_
  clear hK K
  refine wpAnyC_reads 11 c0 (by kernel_rfl) (by kernel_rfl) (by kernel_rfl) (fun d _ _ _ _ h => by cases d <;> exact h) (fun oi ho K hK => ?_)
  simp only [List.getElem?_toArray, List.getElem?_cons_succ, List.getElem?_cons_zero, Option.some.injEq] at ho
  subst ho
  rw [if_pos (by kernel_rfl)]
  refine ⟨.agg #[.int .i64 8, .int .i64 0, .int .i64 0, .string ⟨#[]⟩, .string ⟨#[]⟩, .string ⟨#[]⟩, .slice bx 2 2], fun w' hw' => ?_, hK _ ?_⟩
  · have hu1 := X1.on hw' X1.lt
    have hu2 := X2.on hw' X2.lt
    obtain ⟨hp0, hp1, hp2, hp3, hp4, hp5, hp6⟩ := hu1.seven
    obtain ⟨hq0, hq1, hq2, hq3⟩ := hu2.four
    simp only [opD] at hp0 hp1 hp2 hp3 hp4 hp5 hp6
    simp only [pK] at hq0 hq1 hq2 hq3
    go_simp
  clear hK K
  refine wpAnyC_calls 12 (by kernel_rfl) (fun oi ho K hK => ?_)
  simp only [List.getElem?_toArray, List.getElem?_cons_succ, List.getElem?_cons_zero, Option.some.injEq] at ho
  subst ho
  go_simp
  refine (isT_c (opD 8) bx [fldT (tx1 97) (tx1 120), litT 3] 2 _ (hLV.on c0)).mono ?_
  rintro r u12 ⟨rfl, hb12⟩
  have c12 := Below.trans c0 (hb12.mono (Below.size c0))
  rw [show isT (.mk (opD 8) [fldT (tx1 97) (tx1 120), litT 3]) = true from isT_K]
  go_simp
  refine hK _ _ c12 ?_
  clear hK K
  refine wpAnyC_calls 13 (by kernel_rfl) (fun oi ho K hK => ?_)
  simp only [List.getElem?_toArray, List.getElem?_cons_succ, List.getElem?_cons_zero, Option.some.injEq] at ho
  subst ho
  go_simp
  refine hK _ _ c12 ?_
  clear hK K
  refine wpAnyC_calls 14 (by kernel_rfl) (fun oi ho K hK => ?_)
  simp only [List.getElem?_toArray, List.getElem?_cons_succ, List.getElem?_cons_zero, Option.some.injEq] at ho
  subst ho
  go_simp
  refine hK _ _ c12 ?_
  clear hK K
  refine wpAnyC_calls 15 (by kernel_rfl) (fun oi ho K hK => ?_)
  simp only [List.getElem?_toArray, List.getElem?_cons_succ, List.getElem?_cons_zero, Option.some.injEq] at ho
  subst ho
  go_simp
  refine hK _ _ c12 ?_
  clear hK K
  refine wpAnyC_calls 16 (by kernel_rfl) (fun oi ho K hK => ?_)
  simp only [List.getElem?_toArray, List.getElem?_cons_succ, List.getElem?_cons_zero, Option.some.injEq] at ho
  subst ho
  go_simp
  refine (isT_c d0 none [] 0 _ (.nil none)).mono ?_
  rintro r u16 ⟨rfl, hb16⟩
  have c16 := Below.trans c12 (hb16.mono (Below.size c12))
  rw [isT_0]
  go_simp
  refine hK _ _ c16 ?_
  clear hK K
  refine wpAnyC_calls 17 (by kernel_rfl) (fun oi ho K hK => ?_)
  simp only [List.getElem?_toArray, List.getElem?_cons_succ, List.getElem?_cons_zero, Option.some.injEq] at ho
  subst ho
  go_simp
  refine hK _ _ c16 ?_
  clear hK K
  refine wpAnyC_calls 18 (by kernel_rfl) (fun oi ho K hK => ?_)
  simp only [List.getElem?_toArray, List.getElem?_cons_succ, List.getElem?_cons_zero, Option.some.injEq] at ho
  subst ho
  go_simp
  refine hK _ _ c16 ?_
  clear hK K
  refine wpAnyC_calls 19 (by kernel_rfl) (fun oi ho K hK => ?_)
  simp only [List.getElem?_toArray, List.getElem?_cons_succ, List.getElem?_cons_zero, Option.some.injEq] at ho
  subst ho
  go_simp
  refine hK _ _ c16 ?_
  clear hK K
  refine wpAnyC_reads 20 c16 (by kernel_rfl) (by kernel_rfl) (by kernel_rfl) (fun d _ _ _ _ h => by cases d <;> exact h) (fun oi ho K hK => ?_)
  simp only [List.getElem?_toArray, List.getElem?_cons_succ, List.getElem?_cons_zero, Option.some.injEq] at ho
  subst ho
  rw [if_pos (by kernel_rfl)]
  refine ⟨.agg #[.int .i64 8, .int .i64 0, .int .i64 0, .string ⟨#[]⟩, .string ⟨#[]⟩, .string ⟨#[]⟩, .slice bx 2 2], fun w' hw' => ?_, hK _ ?_⟩
  · have hu1 := X1.on hw' X1.lt
    have hu2 := X2.on hw' X2.lt
    obtain ⟨hp0, hp1, hp2, hp3, hp4, hp5, hp6⟩ := hu1.seven
    obtain ⟨hq0, hq1, hq2, hq3⟩ := hu2.four
    simp only [opD] at hp0 hp1 hp2 hp3 hp4 hp5 hp6
    simp only [pK] at hq0 hq1 hq2 hq3
    go_simp
  clear hK K
  refine wpAnyC_calls 21 (by kernel_rfl) (fun oi ho K hK => ?_)
  simp only [List.getElem?_toArray, List.getElem?_cons_succ, List.getElem?_cons_zero, Option.some.injEq] at ho
  subst ho
  go_simp
  refine (depthT_c (opD 8) bx [fldT (tx1 97) (tx1 120), litT 3] 2 _ (hLV.on c16)).mono ?_
  rintro r u21 ⟨rfl, hb21⟩
  have c21 := Below.trans c16 (hb21.mono (Below.size c16))
  rw [show depthT (.mk (opD 8) [fldT (tx1 97) (tx1 120), litT 3]) = 2 from depth_K]
  go_simp
  refine hK _ _ c21 ?_
  clear hK K
  refine wpAnyC_calls 22 (by kernel_rfl) (fun oi ho K hK => ?_)
  simp only [List.getElem?_toArray, List.getElem?_cons_succ, List.getElem?_cons_zero, Option.some.injEq] at ho
  subst ho
  go_simp
  refine hK _ _ c21 ?_
  clear hK K
  refine wpAnyC_calls 23 (by kernel_rfl) (fun oi ho K hK => ?_)
  simp only [List.getElem?_toArray, List.getElem?_cons_succ, List.getElem?_cons_zero, Option.some.injEq] at ho
  subst ho
  go_simp
  refine hK _ _ c21 ?_
  clear hK K
  refine wpAnyC_calls 24 (by kernel_rfl) (fun oi ho K hK => ?_)
  simp only [List.getElem?_toArray, List.getElem?_cons_succ, List.getElem?_cons_zero, Option.some.injEq] at ho
  subst ho
  go_simp
  refine hK _ _ c21 ?_
  clear hK K
  refine wpAnyC_reads 25 c21 (by kernel_rfl) (by kernel_rfl) (by kernel_rfl) (fun d _ _ _ _ h => by cases d <;> exact h) (fun oi ho K hK => ?_)
  simp only [List.getElem?_toArray, List.getElem?_cons_succ, List.getElem?_cons_zero, Option.some.injEq] at ho
  subst ho
  rw [if_pos (by kernel_rfl)]
  refine ⟨.agg #[.int .i64 8, .int .i64 0, .int .i64 0, .string ⟨#[]⟩, .string ⟨#[]⟩, .string ⟨#[]⟩, .slice bx 2 2], fun w' hw' => ?_, hK _ ?_⟩
  · have hu1 := X1.on hw' X1.lt
    have hu2 := X2.on hw' X2.lt
    obtain ⟨hp0, hp1, hp2, hp3, hp4, hp5, hp6⟩ := hu1.seven
    obtain ⟨hq0, hq1, hq2, hq3⟩ := hu2.four
    simp only [opD] at hp0 hp1 hp2 hp3 hp4 hp5 hp6
    simp only [pK] at hq0 hq1 hq2 hq3
    go_simp
  clear hK K
  refine wpAnyC_calls 26 (by kernel_rfl) (fun oi ho K hK => ?_)
  simp only [List.getElem?_toArray, List.getElem?_cons_succ, List.getElem?_cons_zero, Option.some.injEq] at ho
  subst ho
  go_simp
  refine (nodes_c (opD 8) bx [fldT (tx1 97) (tx1 120), litT 3] 2 (show nodesN xK ≤ 1000000 by rw [nodes_K]; decide) _ (hLV.on c21)).mono ?_
  rintro r u26 ⟨⟨a26, c26', rfl⟩, hb26⟩
  have c26 := Below.trans c21 (hb26.mono (Below.size c21))
  rw [show nodesN (.mk (opD 8) [fldT (tx1 97) (tx1 120), litT 3]) = 3 from nodes_K]
  go_simp
  refine hK _ _ c26 ?_
  clear hK K
  refine wpAnyC_calls 27 (by kernel_rfl) (fun oi ho K hK => ?_)
  simp only [List.getElem?_toArray, List.getElem?_cons_succ, List.getElem?_cons_zero, Option.some.injEq] at ho
  subst ho
  go_simp
  refine hK _ _ c26 ?_
  clear hK K
  refine wpAnyC_calls 28 (by kernel_rfl) (fun oi ho K hK => ?_)
  simp only [List.getElem?_toArray, List.getElem?_cons_succ, List.getElem?_cons_zero, Option.some.injEq] at ho
  subst ho
  go_simp
  refine hK _ _ c26 ?_
  clear hK K
  refine wpAnyC_calls 29 (by kernel_rfl) (fun oi ho K hK => ?_)
  simp only [List.getElem?_toArray, List.getElem?_cons_succ, List.getElem?_cons_zero, Option.some.injEq] at ho
  subst ho
  go_simp
  refine hK _ _ c26 ?_
  clear hK K
  refine wpAnyC_calls 30 (by kernel_rfl) (fun oi ho K hK => ?_)
  simp only [List.getElem?_toArray, List.getElem?_cons_succ, List.getElem?_cons_zero, Option.some.injEq] at ho
  subst ho
  go_simp
  refine hK _ _ c26 ?_
  clear hK K
  refine wpAnyC_reads 31 c26 (by kernel_rfl) (by kernel_rfl) (by kernel_rfl) (fun d _ _ _ _ h => by cases d <;> exact h) (fun oi ho K hK => ?_)
  simp only [List.getElem?_toArray, List.getElem?_cons_succ, List.getElem?_cons_zero, Option.some.injEq] at ho
  subst ho
  rw [if_pos (by kernel_rfl)]
  refine ⟨.agg #[.int .i64 8, .int .i64 0, .int .i64 0, .string ⟨#[]⟩, .string ⟨#[]⟩, .string ⟨#[]⟩, .slice bx 2 2], fun w' hw' => ?_, hK _ ?_⟩
  · have hu1 := X1.on hw' X1.lt
    have hu2 := X2.on hw' X2.lt
    obtain ⟨hp0, hp1, hp2, hp3, hp4, hp5, hp6⟩ := hu1.seven
    obtain ⟨hq0, hq1, hq2, hq3⟩ := hu2.four
    simp only [opD] at hp0 hp1 hp2 hp3 hp4 hp5 hp6
    simp only [pK] at hq0 hq1 hq2 hq3
    go_simp
  clear hK K
  refine wpAnyC_reads 32 c26 (by kernel_rfl) (by kernel_rfl) (by kernel_rfl) (fun d _ _ _ _ h => by cases d <;> exact h) (fun oi ho K hK => ?_)
  simp only [List.getElem?_toArray, List.getElem?_cons_succ, List.getElem?_cons_zero, Option.some.injEq] at ho
  subst ho
  rw [if_pos (by kernel_rfl)]
  refine ⟨.agg #[.int .i64 8, .int .i64 0, .int .i64 0, .string ⟨#[]⟩, .string ⟨#[]⟩, .string ⟨#[]⟩, .slice bx 2 2], fun w' hw' => ?_, hK _ ?_⟩
  · have hu1 := X1.on hw' X1.lt
    have hu2 := X2.on hw' X2.lt
    obtain ⟨hp0, hp1, hp2, hp3, hp4, hp5, hp6⟩ := hu1.seven
    obtain ⟨hq0, hq1, hq2, hq3⟩ := hu2.four
    simp only [opD] at hp0 hp1 hp2 hp3 hp4 hp5 hp6
    simp only [pK] at hq0 hq1 hq2 hq3
    go_simp
  clear hK K
  refine wpAnyC_calls 33 (by kernel_rfl) (fun oi ho K hK => ?_)
  simp only [List.getElem?_toArray, List.getElem?_cons_succ, List.getElem?_cons_zero, Option.some.injEq] at ho
  subst ho
  go_simp
  refine (same_c (opD 8) (opD 8) 2 2 bx bx [fldT (tx1 97) (tx1 120), litT 3] [fldT (tx1 97) (tx1 120), litT 3] _ (hLV.on c26) (hLV.on c26)).mono ?_
  rintro r u33 ⟨rfl, hb33⟩
  have c33 := Below.trans c26 (hb33.mono (Below.size c26))
  rw [show sameT (.mk (opD 8) [fldT (tx1 97) (tx1 120), litT 3]) (.mk (opD 8) [fldT (tx1 97) (tx1 120), litT 3]) = true from same_K]
  go_simp
  refine hK _ _ c33 ?_
  clear hK K
  refine wpAnyC_calls 34 (by kernel_rfl) (fun oi ho K hK => ?_)
  simp only [List.getElem?_toArray, List.getElem?_cons_succ, List.getElem?_cons_zero, Option.some.injEq] at ho
  subst ho
  go_simp
  refine hK _ _ c33 ?_
  clear hK K
  refine wpAnyC_calls 35 (by kernel_rfl) (fun oi ho K hK => ?_)
  simp only [List.getElem?_toArray, List.getElem?_cons_succ, List.getElem?_cons_zero, Option.some.injEq] at ho
  subst ho
  go_simp
  refine hK _ _ c33 ?_
  clear hK K
  refine wpAnyC_reads 36 c33 (by kernel_rfl) (by kernel_rfl) (by kernel_rfl) (fun d _ _ _ _ h => by cases d <;> exact h) (fun oi ho K hK => ?_)
  simp only [List.getElem?_toArray, List.getElem?_cons_succ, List.getElem?_cons_zero, Option.some.injEq] at ho
  subst ho
  rw [if_pos (by kernel_rfl)]
  refine ⟨.agg #[.int .i64 8, .int .i64 0, .int .i64 0, .string ⟨#[]⟩, .string ⟨#[]⟩, .string ⟨#[]⟩, .slice bx 2 2], fun w' hw' => ?_, hK _ ?_⟩
  · have hu1 := X1.on hw' X1.lt
    have hu2 := X2.on hw' X2.lt
    obtain ⟨hp0, hp1, hp2, hp3, hp4, hp5, hp6⟩ := hu1.seven
    obtain ⟨hq0, hq1, hq2, hq3⟩ := hu2.four
    simp only [opD] at hp0 hp1 hp2 hp3 hp4 hp5 hp6
    simp only [pK] at hq0 hq1 hq2 hq3
    go_simp
  clear hK K
  refine wpAnyC_calls 37 (by kernel_rfl) (fun oi ho K hK => ?_)
  simp only [List.getElem?_toArray, List.getElem?_cons_succ, List.getElem?_cons_zero, Option.some.injEq] at ho
  subst ho
  go_simp
  refine (lit_c 3 _).mono ?_
  rintro r u37 ⟨rfl, hb37⟩
  have c37 := Below.trans c33 (hb37.mono (Below.size c33))
  go_simp
  refine hK _ _ c37 ?_
  clear hK K
  refine wpAnyC_calls 38 (by kernel_rfl) (fun oi ho K hK => ?_)
  simp only [List.getElem?_toArray, List.getElem?_cons_succ, List.getElem?_cons_zero, Option.some.injEq] at ho
  subst ho
  go_simp
  refine (same_c (opD 8) (litD 3) 2 0 bx none [fldT (tx1 97) (tx1 120), litT 3] [] _ (hLV.on c37) (.nil none)).mono ?_
  rintro r u38 ⟨rfl, hb38⟩
  have c38 := Below.trans c37 (hb38.mono (Below.size c37))
  rw [show sameT (.mk (opD 8) [fldT (tx1 97) (tx1 120), litT 3]) (.mk (litD 3) []) = false from same_L]
  go_simp
  refine hK _ _ c38 ?_
  clear hK K
  refine wpAnyC_calls 39 (by kernel_rfl) (fun oi ho K hK => ?_)
  simp only [List.getElem?_toArray, List.getElem?_cons_succ, List.getElem?_cons_zero, Option.some.injEq] at ho
  subst ho
  go_simp
  refine hK _ _ c38 ?_
  clear hK K
  refine wpAnyC_calls 40 (by kernel_rfl) (fun oi ho K hK => ?_)
  simp only [List.getElem?_toArray, List.getElem?_cons_succ, List.getElem?_cons_zero, Option.some.injEq] at ho
  subst ho
  go_simp
  refine hK _ _ c38 ?_
  clear hK K
  refine wpAnyC_calls 41 (by kernel_rfl) (fun oi ho K hK => ?_)
  simp only [List.getElem?_toArray, List.getElem?_cons_succ, List.getElem?_cons_zero, Option.some.injEq] at ho
  subst ho
  go_simp
  refine hK _ _ c38 ?_
  clear hK K
  refine wpAnyC_reads 42 c38 (by kernel_rfl) (by kernel_rfl) (by kernel_rfl) (fun d _ _ _ _ h => by cases d <;> exact h) (fun oi ho K hK => ?_)
  simp only [List.getElem?_toArray, List.getElem?_cons_succ, List.getElem?_cons_zero, Option.some.injEq] at ho
  subst ho
  rw [if_pos (by kernel_rfl)]
  refine ⟨.agg #[.slice (some ⟨er, 0, none⟩) 1 1, .int .i64 5, .string ⟨#[]⟩, .bool false], fun w' hw' => ?_, hK _ ?_⟩
  · have hu1 := X1.on hw' X1.lt
    have hu2 := X2.on hw' X2.lt
    obtain ⟨hp0, hp1, hp2, hp3, hp4, hp5, hp6⟩ := hu1.seven
    obtain ⟨hq0, hq1, hq2, hq3⟩ := hu2.four
    simp only [opD] at hp0 hp1 hp2 hp3 hp4 hp5 hp6
    simp only [pK] at hq0 hq1 hq2 hq3
    go_simp
  clear hK K
  refine wpAnyC_calls 43 (by kernel_rfl) (fun oi ho K hK => ?_)
  simp only [List.getElem?_toArray, List.getElem?_cons_succ, List.getElem?_cons_zero, Option.some.injEq] at ho
  subst ho
  go_simp
  refine (pattern_c pK (some ⟨er, 0, none⟩) 1 (Nat.le_refl _) _ (hEV.on c38)).mono ?_
  rintro r u43 ⟨rfl, hb43⟩
  have c43 := Below.trans c38 (hb43.mono (Below.size c38))
  rw [pat_K]
  go_simp
  refine hK _ _ c43 ?_
  clear hK K
  refine wpAnyC_calls 44 (by kernel_rfl) (fun oi ho K hK => ?_)
  simp only [List.getElem?_toArray, List.getElem?_cons_succ, List.getElem?_cons_zero, Option.some.injEq] at ho
  subst ho
  go_simp
  refine hK _ _ c43 ?_
  clear hK K
  refine wpAnyC_calls 45 (by kernel_rfl) (fun oi ho K hK => ?_)
  simp only [List.getElem?_toArray, List.getElem?_cons_succ, List.getElem?_cons_zero, Option.some.injEq] at ho
  subst ho
  go_simp
  refine hK _ _ c43 ?_
  clear hK K
  refine wpAnyC_calls 46 (by kernel_rfl) (fun oi ho K hK => ?_)
  simp only [List.getElem?_toArray, List.getElem?_cons_succ, List.getElem?_cons_zero, Option.some.injEq] at ho
  subst ho
  go_simp
  refine hK _ _ c43 ?_
  clear hK K
  refine wpAnyC_calls 47 (by kernel_rfl) (fun oi ho K hK => ?_)
  simp only [List.getElem?_toArray, List.getElem?_cons_succ, List.getElem?_cons_zero, Option.some.injEq] at ho
  subst ho
  go_simp
  refine (pattern_c p0 none 0 (Nat.le_refl _) _ ⟨by decide, .inl rfl⟩).mono ?_
  rintro r u47 ⟨rfl, hb47⟩
  have c47 := Below.trans c43 (hb47.mono (Below.size c43))
  rw [pat_0]
  go_simp
  refine hK _ _ c47 ?_
  clear hK K
  refine wpAnyC_calls 48 (by kernel_rfl) (fun oi ho K hK => ?_)
  simp only [List.getElem?_toArray, List.getElem?_cons_succ, List.getElem?_cons_zero, Option.some.injEq] at ho
  subst ho
  go_simp
  refine hK _ _ c47 ?_
  clear hK K
  refine wpAnyC_calls 49 (by kernel_rfl) (fun oi ho K hK => ?_)
  simp only [List.getElem?_toArray, List.getElem?_cons_succ, List.getElem?_cons_zero, Option.some.injEq] at ho
  subst ho
  go_simp
  refine hK _ _ c47 ?_
  clear hK K
  refine wpAnyC_calls 50 (by kernel_rfl) (fun oi ho K hK => ?_)
  simp only [List.getElem?_toArray, List.getElem?_cons_succ, List.getElem?_cons_zero, Option.some.injEq] at ho
  subst ho
  go_simp
  refine hK _ _ c47 ?_
  clear hK K
  refine wpAnyC_reads 51 c47 (by kernel_rfl) (by kernel_rfl) (by kernel_rfl) (fun d _ _ _ _ h => by cases d <;> exact h) (fun oi ho K hK => ?_)
  simp only [List.getElem?_toArray, List.getElem?_cons_succ, List.getElem?_cons_zero, Option.some.injEq] at ho
  subst ho
  rw [if_pos (by kernel_rfl)]
  refine ⟨.agg #[.slice (some ⟨er, 0, none⟩) 1 1, .int .i64 5, .string ⟨#[]⟩, .bool false], fun w' hw' => ?_, hK _ ?_⟩
  · have hu1 := X1.on hw' X1.lt
    have hu2 := X2.on hw' X2.lt
    obtain ⟨hp0, hp1, hp2, hp3, hp4, hp5, hp6⟩ := hu1.seven
    obtain ⟨hq0, hq1, hq2, hq3⟩ := hu2.four
    simp only [opD] at hp0 hp1 hp2 hp3 hp4 hp5 hp6
    simp only [pK] at hq0 hq1 hq2 hq3
    go_simp
  clear hK K
  refine wpAnyC_reads 52 c47 (by kernel_rfl) (by kernel_rfl) (by kernel_rfl) (fun d _ _ _ _ h => by cases d <;> exact h) (fun oi ho K hK => ?_)
  simp only [List.getElem?_toArray, List.getElem?_cons_succ, List.getElem?_cons_zero, Option.some.injEq] at ho
  subst ho
  rw [if_pos (by kernel_rfl)]
  refine ⟨.agg #[.slice (some ⟨er, 0, none⟩) 1 1, .int .i64 5, .string ⟨#[]⟩, .bool false], fun w' hw' => ?_, hK _ ?_⟩
  · have hu1 := X1.on hw' X1.lt
    have hu2 := X2.on hw' X2.lt
    obtain ⟨hp0, hp1, hp2, hp3, hp4, hp5, hp6⟩ := hu1.seven
    obtain ⟨hq0, hq1, hq2, hq3⟩ := hu2.four
    simp only [opD] at hp0 hp1 hp2 hp3 hp4 hp5 hp6
    simp only [pK] at hq0 hq1 hq2 hq3
    go_simp
  clear hK K
  refine wpAnyC_calls 53 (by kernel_rfl) (fun oi ho K hK => ?_)
  simp only [List.getElem?_toArray, List.getElem?_cons_succ, List.getElem?_cons_zero, Option.some.injEq] at ho
  subst ho
  go_simp
  refine (samePat_c pK pK (some ⟨er, 0, none⟩) (some ⟨er, 0, none⟩) 1 1 _ (hEV.on c47) (hEV.on c47)).mono ?_
  rintro r u53 ⟨rfl, hb53⟩
  have c53 := Below.trans c47 (hb53.mono (Below.size c47))
  rw [samePt_K]
  go_simp
  refine hK _ _ c53 ?_
  clear hK K
  refine wpAnyC_calls 54 (by kernel_rfl) (fun oi ho K hK => ?_)
  simp only [List.getElem?_toArray, List.getElem?_cons_succ, List.getElem?_cons_zero, Option.some.injEq] at ho
  subst ho
  go_simp
  refine hK _ _ c53 ?_
  clear hK K
  refine wpAnyC_calls 55 (by kernel_rfl) (fun oi ho K hK => ?_)
  simp only [List.getElem?_toArray, List.getElem?_cons_succ, List.getElem?_cons_zero, Option.some.injEq] at ho
  subst ho
  go_simp
  refine hK _ _ c53 ?_
  clear hK K
  refine wpAnyC_reads 56 c53 (by kernel_rfl) (by kernel_rfl) (by kernel_rfl) (fun d _ _ _ _ h => by cases d <;> exact h) (fun oi ho K hK => ?_)
  simp only [List.getElem?_toArray, List.getElem?_cons_succ, List.getElem?_cons_zero, Option.some.injEq] at ho
  subst ho
  rw [if_pos (by kernel_rfl)]
  refine ⟨.agg #[.slice (some ⟨er, 0, none⟩) 1 1, .int .i64 5, .string ⟨#[]⟩, .bool false], fun w' hw' => ?_, hK _ ?_⟩
  · have hu1 := X1.on hw' X1.lt
    have hu2 := X2.on hw' X2.lt
    obtain ⟨hp0, hp1, hp2, hp3, hp4, hp5, hp6⟩ := hu1.seven
    obtain ⟨hq0, hq1, hq2, hq3⟩ := hu2.four
    simp only [opD] at hp0 hp1 hp2 hp3 hp4 hp5 hp6
    simp only [pK] at hq0 hq1 hq2 hq3
    go_simp
  clear hK K
  refine wpAnyC_reads 57 c53 (by kernel_rfl) (by kernel_rfl) (by kernel_rfl) (fun d _ _ _ _ h => by cases d <;> exact h) (fun oi ho K hK => ?_)
  simp only [List.getElem?_toArray, List.getElem?_cons_succ, List.getElem?_cons_zero, Option.some.injEq] at ho
  subst ho
  rw [if_pos (by kernel_rfl)]
  refine ⟨.agg #[.slice none 0 0, .int .i64 0, .string ⟨#[]⟩, .bool false], fun w' hw' => ?_, hK _ ?_⟩
  · have hu1 := X1.on hw' X1.lt
    have hu2 := X2.on hw' X2.lt
    obtain ⟨hp0, hp1, hp2, hp3, hp4, hp5, hp6⟩ := hu1.seven
    obtain ⟨hq0, hq1, hq2, hq3⟩ := hu2.four
    simp only [opD] at hp0 hp1 hp2 hp3 hp4 hp5 hp6
    simp only [pK] at hq0 hq1 hq2 hq3
    go_simp
  clear hK K
  refine wpAnyC_calls 58 (by kernel_rfl) (fun oi ho K hK => ?_)
  simp only [List.getElem?_toArray, List.getElem?_cons_succ, List.getElem?_cons_zero, Option.some.injEq] at ho
  subst ho
  go_simp
  refine (samePat_c pK p0 (some ⟨er, 0, none⟩) none 1 0 _ (hEV.on c53) ⟨by decide, .inl rfl⟩).mono ?_
  rintro r u58 ⟨rfl, hb58⟩
  have c58 := Below.trans c53 (hb58.mono (Below.size c53))
  rw [samePt_0]
  go_simp
  refine hK _ _ c58 ?_
  clear hK K
  refine wpAnyC_calls 59 (by kernel_rfl) (fun oi ho K hK => ?_)
  simp only [List.getElem?_toArray, List.getElem?_cons_succ, List.getElem?_cons_zero, Option.some.injEq] at ho
  subst ho
  go_simp
  refine hK _ _ c58 ?_
  clear hK K
  refine wpAnyC_calls 60 (by kernel_rfl) (fun oi ho K hK => ?_)
  simp only [List.getElem?_toArray, List.getElem?_cons_succ, List.getElem?_cons_zero, Option.some.injEq] at ho
  subst ho
  go_simp
  refine hK _ _ c58 ?_
  clear hK K
  refine wpAnyC_calls 61 (by kernel_rfl) (fun oi ho K hK => ?_)
  simp only [List.getElem?_toArray, List.getElem?_cons_succ, List.getElem?_cons_zero, Option.some.injEq] at ho
  subst ho
  go_simp
  refine hK _ _ c58 ?_
  clear hK K
  refine wpAnyC_done (by kernel_rfl) ?_ _
  go_simp
  go_wp2_with fail
  go_ret
  exact ⟨rfl, bV.trans (c58.mono bV.size)⟩

end Go.Proofs.Ytbmgfibadpffgaa
