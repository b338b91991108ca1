/-
  ExprDeep's walk: for every byte and flag it answers true; nothing that lay is turned.
-/
import Derived.Test.YtbmgfibadpffgaaDeepT
namespace Go.Proofs.Ytbmgfibadpffgaa
open Go.RowKit Go.Shelf

theorem treeK_dat (full : Bool) (j : Nat) : treeK full (j + 2) = .mk (opD 3) [treeK full (j + 1), if full then treeK full (j + 1) else litT 2] := rfl

set_option maxRecDepth 100000 in
set_option maxHeartbeats 8000000 in
theorem deep_walk (n : Int) (full : Bool) (h0 : 0 ≤ n) (h8 : n ≤ 255) (w : World) : Calls Try.prog 3 #[.int .u8 n, .bool full] w fun e w' => e = .returned (.bool true) ∧ Below w.heap.size w w' := by
  have cK := hide (known_c w)
  obtain ⟨m, hm7, hm⟩ : ∃ m : Nat, m ≤ 6 ∧ n % 7 = (m : Int) := ⟨(n % 7).toNat, by omega, by omega⟩
  go_enter Try.func3, Try.ntmps3
  go_wp2_with fail
  refine (unhide cK).mono ?_
  rintro r w1 ⟨rfl, hb1⟩
  clear cK
  have cL := hide (lit_c 1 w1)
  go_wp2_with fail
  refine (unhide cL).mono ?_
  rintro r w2 ⟨rfl, hb2⟩
  clear cL
  obtain ⟨Bx, eBx⟩ : ∃ Bx, Bx = w2.heap.size := ⟨_, rfl⟩
  obtain ⟨w3, hw3⟩ : ∃ w3, w3 = w2.alloc (.cells #[.int .i64 1, .int .i64 1, .int .i64 1, .string ⟨#[]⟩, .string ⟨#[]⟩, .string ⟨#[]⟩, .slice none 0 0] 27) := ⟨_, rfl⟩
  have b3 : Below w2.heap.size w2 w3 := by rw [hw3]; exact (Below.refl _ _).alloc (Nat.le_refl _) _
  have x3 : Box w3 Bx 27 ((litD 1).cs none 0 0) := by rw [hw3, eBx]; exact Box.new _ _ _
  have bw3 : Below w.heap.size w w3 := hb1.trans ((hb2.trans (b3.mono hb2.size)).mono hb1.size)
  have hBx : w.heap.size ≤ Bx := by rw [eBx]; exact Nat.le_trans hb1.size hb2.size
  simp only [litD]
  go_upto_region 5 with fail
  rw [← hw3, ← eBx]
  clear hw3 eBx b3 hb1 hb2
  go_wp2_with fail
  rw [hm]
  clear hm
  go_loopw [7] (fun i wr => ∃ j : Nat, 1 ≤ j ∧ j ≤ m + 1 ∧ i = .int .i64 j ∧ (∃ d a ks cap, Hid (treeK full j = .mk d ks) ∧ Box wr Bx 27 (d.cs a ks.length cap) ∧ Hid (HL Bx wr.heap.size wr a ks)) ∧ Below w.heap.size w wr) (fun i _ => m + 1 - (intOf i).toNat)
  case atStart => exact ⟨1, Nat.le_refl _, by omega, rfl, ⟨litD 1, none, [], 0, hide rfl, x3, hide (HL.nil _ _ _ _)⟩, bw3⟩
  case round =>
    obtain ⟨j, hj1, hjm, rfl, ⟨d, a, ks, cap, ht, hx, hH⟩, hb⟩ := hrel
    obtain ⟨hc0, hc1, hc2, hc3, hc4, hc5, hc6⟩ := hx.seven
    have hf0 := hx.frz 0
    have hf1 := hx.frz 1
    have hf2 := hx.frz 2
    have hf3 := hx.frz 3
    have hf4 := hx.frz 4
    have hf5 := hx.frz 5
    have hf6 := hx.frz 6
    by_cases hlt : j < m + 1
    · have hlt' : (j : Int) < (m : Int) + 1 := by omega
      cases full
      · have hmx : Try.prog.follows .mixedOrders = true := by kernel_rfl
        go_upto_region 10 with fail
        obtain ⟨V, hV'⟩ : ∃ V, V = ({ heap := wr.heap, tape := wr.tape, drawn := wr.drawn + 1, os := wr.os, output := wr.output } : World) := ⟨_, rfl⟩
        have bV : Below wr.heap.size wr V := by rw [hV']; exact (Below.refl _ _).drew
        have cD : Box V Bx 27 (d.cs a ks.length cap) := hx.on bV hx.lt
        refine wp_region_any hmx (wpAny_of_Z (z := 3) (C := fun w' => Box w' Bx 27 (d.cs a ks.length cap)) _ _ _ _ ?_)
        rw [← hV']
        clear hV' hc0 hc1 hc2 hc3 hc4 hc5 hc6 hf0 hf1 hf2 hf3 hf4 hf5 hf6
        refine wpAnyZ_reads 0 cD (by kernel_rfl) (by kernel_rfl) (by kernel_rfl) (by kernel_rfl) (fun d _ _ _ _ h => by cases d <;> exact h) (fun oi ho K hK => ?_)
        simp only [List.getElem?_toArray, List.getElem?_cons_zero, Option.some.injEq] at ho
        subst ho
        rw [if_pos (by kernel_rfl)]
        refine ⟨.agg (d.cs a ks.length cap), fun w' hw' => ?_, hK _ ?_⟩
        · obtain ⟨hp0, hp1, hp2, hp3, hp4, hp5, hp6⟩ := hw'.seven
          go_simp
        clear hK K
        refine wpAnyZ_calls 1 (by kernel_rfl) (fun oi ho K hK => ?_)
        simp only [List.getElem?_toArray, List.getElem?_cons_succ, List.getElem?_cons_zero, Option.some.injEq] at ho
        subst ho
        go_simp
        refine (lit_c 2 V).mono ?_
        rintro r v2 ⟨rfl, hb5⟩
        go_simp
        have cE := cD.on hb5 cD.lt
        refine hK _ _ (.inr cE) ?_
        clear hK K
        refine wpAnyZ_calls 2 (by kernel_rfl) (fun oi ho K hK => ?_)
        simp only [List.getElem?_toArray, List.getElem?_cons_succ, List.getElem?_cons_zero, Option.some.injEq] at ho
        subst ho
        go_simp
        refine (two_b 3 d (litD 2) a none ks [] cap 0 v2).mono ?_
        rintro r w5 ⟨⟨g, rfl, hg, hbx⟩, hb6⟩
        go_simp
        have x5 := cE.on hb6 cE.lt
        refine hK _ _ (.inr x5) ?_
        clear hK K
        have hbb := bV.trans ((hb5.trans (hb6.mono hb5.size)).mono bV.size)
        have h5 := (unhide hH).on hbb
        have h5' := HL.two hbx (fun e => by have := cE.lt; omega) h5 (HL.nil _ _ _ _)
        have bb := hb.trans (hbb.mono hb.size)
        obtain ⟨hc0, hc1, hc2, hc3, hc4, hc5, hc6⟩ := x5.seven
        have hf0 := x5.frz 0
        have hf1 := x5.frz 1
        have hf2 := x5.frz 2
        have hf3 := x5.frz 3
        have hf4 := x5.frz 4
        have hf5 := x5.frz 5
        have hf6 := x5.frz 6
        obtain ⟨w6, hw6⟩ : ∃ w6, w6 = put7 w5 Bx 0 (.int .i64 3) (.int .i64 0) (.int .i64 0) (.string ⟨#[]⟩) (.string ⟨#[]⟩) (.string ⟨#[]⟩) (.slice (some ⟨g, 0, none⟩) 2 2) := ⟨_, rfl⟩
        have x6 : Box w6 Bx 27 ((opD 3).cs (some ⟨g, 0, none⟩) 2 2) := by
          have := ((((((x5.set 0 (.int .i64 3)).set 1 (.int .i64 0)).set 2 (.int .i64 0)).set 3 (.string ⟨#[]⟩)).set 4 (.string ⟨#[]⟩)).set 5 (.string ⟨#[]⟩)).set 6 (.slice (some ⟨g, 0, none⟩) 2 2)
          rw [hw6]; simpa [opD, put7] using this
        have h6 : HL Bx w6.heap.size w6 (some ⟨g, 0, none⟩) [.mk d ks, litT 2] := by
          rw [hw6, put7_size]
          exact ((((((HL.set _ h5').set _).set _).set _).set _).set _).set _
        have b6 : Below w.heap.size w w6 := by rw [hw6]; exact put7_below bb Bx 0 _ _ _ _ _ _ _ hBx
        dsimp only [put7] at hw6
        simp only [Nat.zero_add] at hw6
        have ht' := hide (show treeK false (j + 1) = .mk (opD 3) [.mk d ks, litT 2] by
          obtain ⟨i, rfl⟩ : ∃ i, j = i + 1 := ⟨j - 1, by omega⟩
          rw [treeK_dat, unhide ht]; rfl)
        replace h6 := hide h6
        replace h5' := hide h5'
        replace h5 := hide h5
        refine wpAnyZ_calls 3 (by kernel_rfl) (fun oi ho K hK => ?_)
        simp only [List.getElem?_toArray, List.getElem?_cons_succ, List.getElem?_cons_zero, Option.some.injEq] at ho
        subst ho
        simp only [opD]
        go_simp
        rw [← hw6]
        refine hK _ _ (.inl rfl) ?_
        clear hK K hw6
        refine wpAnyZ_done (by kernel_rfl) ?_ _
        clear hc0 hc1 hc2 hc3 hc4 hc5 hc6 hf0 hf1 hf2 hf3 hf4 hf5 hf6 cD cE x5
        go_wp2_with fail
        go_roundw
        case rel => exact ⟨j + 1, by omega, by omega, by go_num, ⟨opD 3, some ⟨g, 0, none⟩, _, 2, ht', x6, h6⟩, b6⟩
        case measure => simp [intOf]; omega
      · have cT := hide (two_b 3 d d a a ks ks cap cap wr)
        go_wp2_with fail
        refine (unhide cT).mono ?_
        rintro r w5 ⟨⟨g, rfl, hg, hbx⟩, hb5⟩
        clear cT
        have x5 := hx.on hb5 hx.lt
        have h5 := (unhide hH).on hb5
        have h5' := HL.two hbx (fun e => by have := hx.lt; omega) h5 h5
        have bb := hb.trans (hb5.mono hb.size)
        clear hc0 hc1 hc2 hc3 hc4 hc5 hc6 hf0 hf1 hf2 hf3 hf4 hf5 hf6
        obtain ⟨hc0, hc1, hc2, hc3, hc4, hc5, hc6⟩ := x5.seven
        have hf0 := x5.frz 0
        have hf1 := x5.frz 1
        have hf2 := x5.frz 2
        have hf3 := x5.frz 3
        have hf4 := x5.frz 4
        have hf5 := x5.frz 5
        have hf6 := x5.frz 6
        obtain ⟨w6, hw6⟩ : ∃ w6, w6 = put7 w5 Bx 0 (.int .i64 3) (.int .i64 0) (.int .i64 0) (.string ⟨#[]⟩) (.string ⟨#[]⟩) (.string ⟨#[]⟩) (.slice (some ⟨g, 0, none⟩) 2 2) := ⟨_, rfl⟩
        have x6 : Box w6 Bx 27 ((opD 3).cs (some ⟨g, 0, none⟩) 2 2) := by
          have := ((((((x5.set 0 (.int .i64 3)).set 1 (.int .i64 0)).set 2 (.int .i64 0)).set 3 (.string ⟨#[]⟩)).set 4 (.string ⟨#[]⟩)).set 5 (.string ⟨#[]⟩)).set 6 (.slice (some ⟨g, 0, none⟩) 2 2)
          rw [hw6]; simpa [opD, put7] using this
        have h6 : HL Bx w6.heap.size w6 (some ⟨g, 0, none⟩) [.mk d ks, .mk d ks] := by
          rw [hw6, put7_size]
          exact ((((((HL.set _ h5').set _).set _).set _).set _).set _).set _
        have b6 : Below w.heap.size w w6 := by rw [hw6]; exact put7_below bb Bx 0 _ _ _ _ _ _ _ hBx
        dsimp only [put7] at hw6
        simp only [Nat.zero_add] at hw6
        have ht' := hide (show treeK true (j + 1) = .mk (opD 3) [.mk d ks, .mk d ks] by
          obtain ⟨i, rfl⟩ : ∃ i, j = i + 1 := ⟨j - 1, by omega⟩
          rw [treeK_dat, unhide ht]; rfl)
        replace h6 := hide h6
        replace h5' := hide h5'
        replace h5 := hide h5
        replace hw6 := hide hw6
        simp only [opD]
        go_upto_region 7 with fail
        rw [← unhide hw6]
        clear hw6
        go_wp2_with fail
        go_roundw
        case rel => exact ⟨j + 1, by omega, by omega, by go_num, ⟨opD 3, some ⟨g, 0, none⟩, _, 2, ht', x6, h6⟩, b6⟩
        case measure => simp [intOf]; omega
    · have hje : j = m + 1 := by omega
      subst hje
      clear hlt hj1 hjm
      rcases (by omega : m = 0 ∨ m = 1 ∨ m = 2 ∨ m = 3 ∨ m = 4 ∨ m = 5 ∨ m = 6) with rfl | rfl | rfl | rfl | rfl | rfl | rfl
      · clear hm7
        cases full
        · have FI : isT (.mk d ks) = true := by rw [← unhide ht]; kernel_rfl
          have FD : depthT (.mk d ks) = 1 := by rw [← unhide ht]; kernel_rfl
          have FN : nodesN (.mk d ks) = 1 := by rw [← unhide ht]; kernel_rfl
          have cI := hide (isT_c d a ks cap wr (unhide hH).lies)
          go_wp2_with fail
          refine (unhide cI).mono ?_
          rintro r v1 ⟨rfl, hb1⟩
          rw [FI]
          clear hc0 hc1 hc2 hc3 hc4 hc5 hc6 hf0 hf1 hf2 hf3 hf4 hf5 hf6 cI
          have x1 := hx.on hb1 hx.lt
          obtain ⟨hc0, hc1, hc2, hc3, hc4, hc5, hc6⟩ := x1.seven
          have cD := hide (depthT_c d a ks cap v1 ((unhide hH).on hb1).lies)
          go_wp2_with fail
          refine (unhide cD).mono ?_
          rintro r v2 ⟨rfl, hb2⟩
          rw [FD]
          clear hc0 hc1 hc2 hc3 hc4 hc5 hc6 cD
          have x2 := x1.on hb2 x1.lt
          obtain ⟨hc0, hc1, hc2, hc3, hc4, hc5, hc6⟩ := x2.seven
          have hb12 := hb1.trans (hb2.mono hb1.size)
          have cN := hide (nodes_c d a ks cap (by rw [FN]; decide) v2 ((unhide hH).on hb12).lies)
          go_wp2_with fail
          refine (unhide cN).mono ?_
          rintro r v3 ⟨⟨a3, c3, rfl⟩, hb3⟩
          rw [FN]
          clear cN
          have bE := hb.trans ((hb12.trans (hb3.mono hb12.size)).mono hb.size)
          go_wp2_with fail
          go_ret
          exact ⟨rfl, bE⟩
        · have FI : isT (.mk d ks) = true := by rw [← unhide ht]; kernel_rfl
          have FD : depthT (.mk d ks) = 1 := by rw [← unhide ht]; kernel_rfl
          have FN : nodesN (.mk d ks) = 1 := by rw [← unhide ht]; kernel_rfl
          have cI := hide (isT_c d a ks cap wr (unhide hH).lies)
          go_wp2_with fail
          refine (unhide cI).mono ?_
          rintro r v1 ⟨rfl, hb1⟩
          rw [FI]
          clear hc0 hc1 hc2 hc3 hc4 hc5 hc6 hf0 hf1 hf2 hf3 hf4 hf5 hf6 cI
          have x1 := hx.on hb1 hx.lt
          obtain ⟨hc0, hc1, hc2, hc3, hc4, hc5, hc6⟩ := x1.seven
          have cD := hide (depthT_c d a ks cap v1 ((unhide hH).on hb1).lies)
          go_wp2_with fail
          refine (unhide cD).mono ?_
          rintro r v2 ⟨rfl, hb2⟩
          rw [FD]
          clear hc0 hc1 hc2 hc3 hc4 hc5 hc6 cD
          have x2 := x1.on hb2 x1.lt
          obtain ⟨hc0, hc1, hc2, hc3, hc4, hc5, hc6⟩ := x2.seven
          have hb12 := hb1.trans (hb2.mono hb1.size)
          have cN := hide (nodes_c d a ks cap (by rw [FN]; decide) v2 ((unhide hH).on hb12).lies)
          go_wp2_with fail
          refine (unhide cN).mono ?_
          rintro r v3 ⟨⟨a3, c3, rfl⟩, hb3⟩
          rw [FN]
          clear cN
          have bE := hb.trans ((hb12.trans (hb3.mono hb12.size)).mono hb.size)
          go_wp2_with fail
          go_ret
          exact ⟨rfl, bE⟩
      · clear hm7
        cases full
        · have FI : isT (.mk d ks) = true := by rw [← unhide ht]; kernel_rfl
          have FD : depthT (.mk d ks) = 2 := by rw [← unhide ht]; kernel_rfl
          have FN : nodesN (.mk d ks) = 3 := by rw [← unhide ht]; kernel_rfl
          have cI := hide (isT_c d a ks cap wr (unhide hH).lies)
          go_wp2_with fail
          refine (unhide cI).mono ?_
          rintro r v1 ⟨rfl, hb1⟩
          rw [FI]
          clear hc0 hc1 hc2 hc3 hc4 hc5 hc6 hf0 hf1 hf2 hf3 hf4 hf5 hf6 cI
          have x1 := hx.on hb1 hx.lt
          obtain ⟨hc0, hc1, hc2, hc3, hc4, hc5, hc6⟩ := x1.seven
          have cD := hide (depthT_c d a ks cap v1 ((unhide hH).on hb1).lies)
          go_wp2_with fail
          refine (unhide cD).mono ?_
          rintro r v2 ⟨rfl, hb2⟩
          rw [FD]
          clear hc0 hc1 hc2 hc3 hc4 hc5 hc6 cD
          have x2 := x1.on hb2 x1.lt
          obtain ⟨hc0, hc1, hc2, hc3, hc4, hc5, hc6⟩ := x2.seven
          have hb12 := hb1.trans (hb2.mono hb1.size)
          have cN := hide (nodes_c d a ks cap (by rw [FN]; decide) v2 ((unhide hH).on hb12).lies)
          go_wp2_with fail
          refine (unhide cN).mono ?_
          rintro r v3 ⟨⟨a3, c3, rfl⟩, hb3⟩
          rw [FN]
          clear cN
          have bE := hb.trans ((hb12.trans (hb3.mono hb12.size)).mono hb.size)
          go_wp2_with fail
          go_ret
          exact ⟨rfl, bE⟩
        · have FI : isT (.mk d ks) = true := by rw [← unhide ht]; kernel_rfl
          have FD : depthT (.mk d ks) = 2 := by rw [← unhide ht]; kernel_rfl
          have FN : nodesN (.mk d ks) = 3 := by rw [← unhide ht]; kernel_rfl
          have cI := hide (isT_c d a ks cap wr (unhide hH).lies)
          go_wp2_with fail
          refine (unhide cI).mono ?_
          rintro r v1 ⟨rfl, hb1⟩
          rw [FI]
          clear hc0 hc1 hc2 hc3 hc4 hc5 hc6 hf0 hf1 hf2 hf3 hf4 hf5 hf6 cI
          have x1 := hx.on hb1 hx.lt
          obtain ⟨hc0, hc1, hc2, hc3, hc4, hc5, hc6⟩ := x1.seven
          have cD := hide (depthT_c d a ks cap v1 ((unhide hH).on hb1).lies)
          go_wp2_with fail
          refine (unhide cD).mono ?_
          rintro r v2 ⟨rfl, hb2⟩
          rw [FD]
          clear hc0 hc1 hc2 hc3 hc4 hc5 hc6 cD
          have x2 := x1.on hb2 x1.lt
          obtain ⟨hc0, hc1, hc2, hc3, hc4, hc5, hc6⟩ := x2.seven
          have hb12 := hb1.trans (hb2.mono hb1.size)
          have cN := hide (nodes_c d a ks cap (by rw [FN]; decide) v2 ((unhide hH).on hb12).lies)
          go_wp2_with fail
          refine (unhide cN).mono ?_
          rintro r v3 ⟨⟨a3, c3, rfl⟩, hb3⟩
          rw [FN]
          clear cN
          have bE := hb.trans ((hb12.trans (hb3.mono hb12.size)).mono hb.size)
          go_wp2_with fail
          go_ret
          exact ⟨rfl, bE⟩
      · clear hm7
        cases full
        · have FI : isT (.mk d ks) = true := by rw [← unhide ht]; kernel_rfl
          have FD : depthT (.mk d ks) = 3 := by rw [← unhide ht]; kernel_rfl
          have FN : nodesN (.mk d ks) = 5 := by rw [← unhide ht]; kernel_rfl
          have cI := hide (isT_c d a ks cap wr (unhide hH).lies)
          go_wp2_with fail
          refine (unhide cI).mono ?_
          rintro r v1 ⟨rfl, hb1⟩
          rw [FI]
          clear hc0 hc1 hc2 hc3 hc4 hc5 hc6 hf0 hf1 hf2 hf3 hf4 hf5 hf6 cI
          have x1 := hx.on hb1 hx.lt
          obtain ⟨hc0, hc1, hc2, hc3, hc4, hc5, hc6⟩ := x1.seven
          have cD := hide (depthT_c d a ks cap v1 ((unhide hH).on hb1).lies)
          go_wp2_with fail
          refine (unhide cD).mono ?_
          rintro r v2 ⟨rfl, hb2⟩
          rw [FD]
          clear hc0 hc1 hc2 hc3 hc4 hc5 hc6 cD
          have x2 := x1.on hb2 x1.lt
          obtain ⟨hc0, hc1, hc2, hc3, hc4, hc5, hc6⟩ := x2.seven
          have hb12 := hb1.trans (hb2.mono hb1.size)
          have cN := hide (nodes_c d a ks cap (by rw [FN]; decide) v2 ((unhide hH).on hb12).lies)
          go_wp2_with fail
          refine (unhide cN).mono ?_
          rintro r v3 ⟨⟨a3, c3, rfl⟩, hb3⟩
          rw [FN]
          clear cN
          have bE := hb.trans ((hb12.trans (hb3.mono hb12.size)).mono hb.size)
          go_wp2_with fail
          go_ret
          exact ⟨rfl, bE⟩
        · have FI : isT (.mk d ks) = true := by rw [← unhide ht]; kernel_rfl
          have FD : depthT (.mk d ks) = 3 := by rw [← unhide ht]; kernel_rfl
          have FN : nodesN (.mk d ks) = 7 := by rw [← unhide ht]; kernel_rfl
          have cI := hide (isT_c d a ks cap wr (unhide hH).lies)
          go_wp2_with fail
          refine (unhide cI).mono ?_
          rintro r v1 ⟨rfl, hb1⟩
          rw [FI]
          clear hc0 hc1 hc2 hc3 hc4 hc5 hc6 hf0 hf1 hf2 hf3 hf4 hf5 hf6 cI
          have x1 := hx.on hb1 hx.lt
          obtain ⟨hc0, hc1, hc2, hc3, hc4, hc5, hc6⟩ := x1.seven
          have cD := hide (depthT_c d a ks cap v1 ((unhide hH).on hb1).lies)
          go_wp2_with fail
          refine (unhide cD).mono ?_
          rintro r v2 ⟨rfl, hb2⟩
          rw [FD]
          clear hc0 hc1 hc2 hc3 hc4 hc5 hc6 cD
          have x2 := x1.on hb2 x1.lt
          obtain ⟨hc0, hc1, hc2, hc3, hc4, hc5, hc6⟩ := x2.seven
          have hb12 := hb1.trans (hb2.mono hb1.size)
          have cN := hide (nodes_c d a ks cap (by rw [FN]; decide) v2 ((unhide hH).on hb12).lies)
          go_wp2_with fail
          refine (unhide cN).mono ?_
          rintro r v3 ⟨⟨a3, c3, rfl⟩, hb3⟩
          rw [FN]
          clear cN
          have bE := hb.trans ((hb12.trans (hb3.mono hb12.size)).mono hb.size)
          go_wp2_with fail
          go_ret
          exact ⟨rfl, bE⟩
      · clear hm7
        cases full
        · have FI : isT (.mk d ks) = true := by rw [← unhide ht]; kernel_rfl
          have FD : depthT (.mk d ks) = 4 := by rw [← unhide ht]; kernel_rfl
          have FN : nodesN (.mk d ks) = 7 := by rw [← unhide ht]; kernel_rfl
          have cI := hide (isT_c d a ks cap wr (unhide hH).lies)
          go_wp2_with fail
          refine (unhide cI).mono ?_
          rintro r v1 ⟨rfl, hb1⟩
          rw [FI]
          clear hc0 hc1 hc2 hc3 hc4 hc5 hc6 hf0 hf1 hf2 hf3 hf4 hf5 hf6 cI
          have x1 := hx.on hb1 hx.lt
          obtain ⟨hc0, hc1, hc2, hc3, hc4, hc5, hc6⟩ := x1.seven
          have cD := hide (depthT_c d a ks cap v1 ((unhide hH).on hb1).lies)
          go_wp2_with fail
          refine (unhide cD).mono ?_
          rintro r v2 ⟨rfl, hb2⟩
          rw [FD]
          clear hc0 hc1 hc2 hc3 hc4 hc5 hc6 cD
          have x2 := x1.on hb2 x1.lt
          obtain ⟨hc0, hc1, hc2, hc3, hc4, hc5, hc6⟩ := x2.seven
          have hb12 := hb1.trans (hb2.mono hb1.size)
          have cN := hide (nodes_c d a ks cap (by rw [FN]; decide) v2 ((unhide hH).on hb12).lies)
          go_wp2_with fail
          refine (unhide cN).mono ?_
          rintro r v3 ⟨⟨a3, c3, rfl⟩, hb3⟩
          rw [FN]
          clear cN
          have bE := hb.trans ((hb12.trans (hb3.mono hb12.size)).mono hb.size)
          go_wp2_with fail
          go_ret
          exact ⟨rfl, bE⟩
        · have FI : isT (.mk d ks) = true := by rw [← unhide ht]; kernel_rfl
          have FD : depthT (.mk d ks) = 4 := by rw [← unhide ht]; kernel_rfl
          have FN : nodesN (.mk d ks) = 15 := by rw [← unhide ht]; kernel_rfl
          have cI := hide (isT_c d a ks cap wr (unhide hH).lies)
          go_wp2_with fail
          refine (unhide cI).mono ?_
          rintro r v1 ⟨rfl, hb1⟩
          rw [FI]
          clear hc0 hc1 hc2 hc3 hc4 hc5 hc6 hf0 hf1 hf2 hf3 hf4 hf5 hf6 cI
          have x1 := hx.on hb1 hx.lt
          obtain ⟨hc0, hc1, hc2, hc3, hc4, hc5, hc6⟩ := x1.seven
          have cD := hide (depthT_c d a ks cap v1 ((unhide hH).on hb1).lies)
          go_wp2_with fail
          refine (unhide cD).mono ?_
          rintro r v2 ⟨rfl, hb2⟩
          rw [FD]
          clear hc0 hc1 hc2 hc3 hc4 hc5 hc6 cD
          have x2 := x1.on hb2 x1.lt
          obtain ⟨hc0, hc1, hc2, hc3, hc4, hc5, hc6⟩ := x2.seven
          have hb12 := hb1.trans (hb2.mono hb1.size)
          have cN := hide (nodes_c d a ks cap (by rw [FN]; decide) v2 ((unhide hH).on hb12).lies)
          go_wp2_with fail
          refine (unhide cN).mono ?_
          rintro r v3 ⟨⟨a3, c3, rfl⟩, hb3⟩
          rw [FN]
          clear cN
          have bE := hb.trans ((hb12.trans (hb3.mono hb12.size)).mono hb.size)
          go_wp2_with fail
          go_ret
          exact ⟨rfl, bE⟩
      · clear hm7
        cases full
        · have FI : isT (.mk d ks) = true := by rw [← unhide ht]; kernel_rfl
          have FD : depthT (.mk d ks) = 5 := by rw [← unhide ht]; kernel_rfl
          have FN : nodesN (.mk d ks) = 9 := by rw [← unhide ht]; kernel_rfl
          have cI := hide (isT_c d a ks cap wr (unhide hH).lies)
          go_wp2_with fail
          refine (unhide cI).mono ?_
          rintro r v1 ⟨rfl, hb1⟩
          rw [FI]
          clear hc0 hc1 hc2 hc3 hc4 hc5 hc6 hf0 hf1 hf2 hf3 hf4 hf5 hf6 cI
          have x1 := hx.on hb1 hx.lt
          obtain ⟨hc0, hc1, hc2, hc3, hc4, hc5, hc6⟩ := x1.seven
          have cD := hide (depthT_c d a ks cap v1 ((unhide hH).on hb1).lies)
          go_wp2_with fail
          refine (unhide cD).mono ?_
          rintro r v2 ⟨rfl, hb2⟩
          rw [FD]
          clear hc0 hc1 hc2 hc3 hc4 hc5 hc6 cD
          have x2 := x1.on hb2 x1.lt
          obtain ⟨hc0, hc1, hc2, hc3, hc4, hc5, hc6⟩ := x2.seven
          have hb12 := hb1.trans (hb2.mono hb1.size)
          have cN := hide (nodes_c d a ks cap (by rw [FN]; decide) v2 ((unhide hH).on hb12).lies)
          go_wp2_with fail
          refine (unhide cN).mono ?_
          rintro r v3 ⟨⟨a3, c3, rfl⟩, hb3⟩
          rw [FN]
          clear cN
          have bE := hb.trans ((hb12.trans (hb3.mono hb12.size)).mono hb.size)
          go_wp2_with fail
          go_ret
          exact ⟨rfl, bE⟩
        · have FI : isT (.mk d ks) = false := by rw [← unhide ht]; kernel_rfl
          have FD : depthT (.mk d ks) = 5 := by rw [← unhide ht]; kernel_rfl
          have FN : nodesN (.mk d ks) = 31 := by rw [← unhide ht]; kernel_rfl
          have cI := hide (isT_c d a ks cap wr (unhide hH).lies)
          go_wp2_with fail
          refine (unhide cI).mono ?_
          rintro r v1 ⟨rfl, hb1⟩
          rw [FI]
          clear hc0 hc1 hc2 hc3 hc4 hc5 hc6 hf0 hf1 hf2 hf3 hf4 hf5 hf6 cI
          have x1 := hx.on hb1 hx.lt
          obtain ⟨hc0, hc1, hc2, hc3, hc4, hc5, hc6⟩ := x1.seven
          have cD := hide (depthT_c d a ks cap v1 ((unhide hH).on hb1).lies)
          go_wp2_with fail
          refine (unhide cD).mono ?_
          rintro r v2 ⟨rfl, hb2⟩
          rw [FD]
          clear hc0 hc1 hc2 hc3 hc4 hc5 hc6 cD
          have x2 := x1.on hb2 x1.lt
          obtain ⟨hc0, hc1, hc2, hc3, hc4, hc5, hc6⟩ := x2.seven
          have hb12 := hb1.trans (hb2.mono hb1.size)
          have cN := hide (nodes_c d a ks cap (by rw [FN]; decide) v2 ((unhide hH).on hb12).lies)
          go_wp2_with fail
          refine (unhide cN).mono ?_
          rintro r v3 ⟨⟨a3, c3, rfl⟩, hb3⟩
          rw [FN]
          clear cN
          have bE := hb.trans ((hb12.trans (hb3.mono hb12.size)).mono hb.size)
          go_wp2_with fail
          go_ret
          exact ⟨rfl, bE⟩
      · clear hm7
        cases full
        · have FI : isT (.mk d ks) = false := by rw [← unhide ht]; kernel_rfl
          have FD : depthT (.mk d ks) = 6 := by rw [← unhide ht]; kernel_rfl
          have FN : nodesN (.mk d ks) = 11 := by rw [← unhide ht]; kernel_rfl
          have cI := hide (isT_c d a ks cap wr (unhide hH).lies)
          go_wp2_with fail
          refine (unhide cI).mono ?_
          rintro r v1 ⟨rfl, hb1⟩
          rw [FI]
          clear hc0 hc1 hc2 hc3 hc4 hc5 hc6 hf0 hf1 hf2 hf3 hf4 hf5 hf6 cI
          have x1 := hx.on hb1 hx.lt
          obtain ⟨hc0, hc1, hc2, hc3, hc4, hc5, hc6⟩ := x1.seven
          have cD := hide (depthT_c d a ks cap v1 ((unhide hH).on hb1).lies)
          go_wp2_with fail
          refine (unhide cD).mono ?_
          rintro r v2 ⟨rfl, hb2⟩
          rw [FD]
          clear hc0 hc1 hc2 hc3 hc4 hc5 hc6 cD
          have x2 := x1.on hb2 x1.lt
          obtain ⟨hc0, hc1, hc2, hc3, hc4, hc5, hc6⟩ := x2.seven
          have hb12 := hb1.trans (hb2.mono hb1.size)
          have cN := hide (nodes_c d a ks cap (by rw [FN]; decide) v2 ((unhide hH).on hb12).lies)
          go_wp2_with fail
          refine (unhide cN).mono ?_
          rintro r v3 ⟨⟨a3, c3, rfl⟩, hb3⟩
          rw [FN]
          clear cN
          have bE := hb.trans ((hb12.trans (hb3.mono hb12.size)).mono hb.size)
          go_wp2_with fail
          go_ret
          exact ⟨rfl, bE⟩
        · have FI : isT (.mk d ks) = false := by rw [← unhide ht]; kernel_rfl
          have FD : depthT (.mk d ks) = 6 := by rw [← unhide ht]; kernel_rfl
          have FN : nodesN (.mk d ks) = 63 := by rw [← unhide ht]; kernel_rfl
          have cI := hide (isT_c d a ks cap wr (unhide hH).lies)
          go_wp2_with fail
          refine (unhide cI).mono ?_
          rintro r v1 ⟨rfl, hb1⟩
          rw [FI]
          clear hc0 hc1 hc2 hc3 hc4 hc5 hc6 hf0 hf1 hf2 hf3 hf4 hf5 hf6 cI
          have x1 := hx.on hb1 hx.lt
          obtain ⟨hc0, hc1, hc2, hc3, hc4, hc5, hc6⟩ := x1.seven
          have cD := hide (depthT_c d a ks cap v1 ((unhide hH).on hb1).lies)
          go_wp2_with fail
          refine (unhide cD).mono ?_
          rintro r v2 ⟨rfl, hb2⟩
          rw [FD]
          clear hc0 hc1 hc2 hc3 hc4 hc5 hc6 cD
          have x2 := x1.on hb2 x1.lt
          obtain ⟨hc0, hc1, hc2, hc3, hc4, hc5, hc6⟩ := x2.seven
          have hb12 := hb1.trans (hb2.mono hb1.size)
          have cN := hide (nodes_c d a ks cap (by rw [FN]; decide) v2 ((unhide hH).on hb12).lies)
          go_wp2_with fail
          refine (unhide cN).mono ?_
          rintro r v3 ⟨⟨a3, c3, rfl⟩, hb3⟩
          rw [FN]
          clear cN
          have bE := hb.trans ((hb12.trans (hb3.mono hb12.size)).mono hb.size)
          go_wp2_with fail
          go_ret
          exact ⟨rfl, bE⟩
      · clear hm7
        cases full
        · have FI : isT (.mk d ks) = false := by rw [← unhide ht]; kernel_rfl
          have FD : depthT (.mk d ks) = 7 := by rw [← unhide ht]; kernel_rfl
          have FN : nodesN (.mk d ks) = 13 := by rw [← unhide ht]; kernel_rfl
          have cI := hide (isT_c d a ks cap wr (unhide hH).lies)
          go_wp2_with fail
          refine (unhide cI).mono ?_
          rintro r v1 ⟨rfl, hb1⟩
          rw [FI]
          clear hc0 hc1 hc2 hc3 hc4 hc5 hc6 hf0 hf1 hf2 hf3 hf4 hf5 hf6 cI
          have x1 := hx.on hb1 hx.lt
          obtain ⟨hc0, hc1, hc2, hc3, hc4, hc5, hc6⟩ := x1.seven
          have cD := hide (depthT_c d a ks cap v1 ((unhide hH).on hb1).lies)
          go_wp2_with fail
          refine (unhide cD).mono ?_
          rintro r v2 ⟨rfl, hb2⟩
          rw [FD]
          clear hc0 hc1 hc2 hc3 hc4 hc5 hc6 cD
          have x2 := x1.on hb2 x1.lt
          obtain ⟨hc0, hc1, hc2, hc3, hc4, hc5, hc6⟩ := x2.seven
          have hb12 := hb1.trans (hb2.mono hb1.size)
          have cN := hide (nodes_c d a ks cap (by rw [FN]; decide) v2 ((unhide hH).on hb12).lies)
          go_wp2_with fail
          refine (unhide cN).mono ?_
          rintro r v3 ⟨⟨a3, c3, rfl⟩, hb3⟩
          rw [FN]
          clear cN
          have bE := hb.trans ((hb12.trans (hb3.mono hb12.size)).mono hb.size)
          go_wp2_with fail
          go_ret
          exact ⟨rfl, bE⟩
        · have FI : isT (.mk d ks) = false := by rw [← unhide ht]; kernel_rfl
          have FD : depthT (.mk d ks) = 7 := by rw [← unhide ht]; kernel_rfl
          have FN : nodesN (.mk d ks) = 127 := by rw [← unhide ht]; kernel_rfl
          have cI := hide (isT_c d a ks cap wr (unhide hH).lies)
          go_wp2_with fail
          refine (unhide cI).mono ?_
          rintro r v1 ⟨rfl, hb1⟩
          rw [FI]
          clear hc0 hc1 hc2 hc3 hc4 hc5 hc6 hf0 hf1 hf2 hf3 hf4 hf5 hf6 cI
          have x1 := hx.on hb1 hx.lt
          obtain ⟨hc0, hc1, hc2, hc3, hc4, hc5, hc6⟩ := x1.seven
          have cD := hide (depthT_c d a ks cap v1 ((unhide hH).on hb1).lies)
          go_wp2_with fail
          refine (unhide cD).mono ?_
          rintro r v2 ⟨rfl, hb2⟩
          rw [FD]
          clear hc0 hc1 hc2 hc3 hc4 hc5 hc6 cD
          have x2 := x1.on hb2 x1.lt
          obtain ⟨hc0, hc1, hc2, hc3, hc4, hc5, hc6⟩ := x2.seven
          have hb12 := hb1.trans (hb2.mono hb1.size)
          have cN := hide (nodes_c d a ks cap (by rw [FN]; decide) v2 ((unhide hH).on hb12).lies)
          go_wp2_with fail
          refine (unhide cN).mono ?_
          rintro r v3 ⟨⟨a3, c3, rfl⟩, hb3⟩
          rw [FN]
          clear cN
          have bE := hb.trans ((hb12.trans (hb3.mono hb12.size)).mono hb.size)
          go_wp2_with fail
          go_ret
          exact ⟨rfl, bE⟩

end Go.Proofs.Ytbmgfibadpffgaa
