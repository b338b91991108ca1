/-
  What the document's Apply answers to a change of kind 5 (package pasternref1, layer 4): the same as the program's; for every schema that may be and every change, in whatever world; nothing that lay is turned.
  What the document's Apply answers, whatever the change (package pasternref1, layer 4): the same as the program's; for every schema that may be and every change, in whatever world; nothing that lay is turned.
-/
import Derived.Test.YtcjpaldijngnpaaGreatDoorCp
import Derived.Test.YtcjpaldijngnpaaGreatDoorRefApp4
namespace Go.Proofs.YtcjpaldijngnpaaGreatDoor
open Go.RowKit Go.Shelf

set_option maxRecDepth 100000 in
set_option maxHeartbeats 8000000 in
theorem refApply_5 (a : Option Addr) (cap : Nat) (ts : List Ty) (t f o : Txt) (dk dn : Int) (ds : Txt) (hS : Sch ts) (w : World) (hT : Typs w.heap.size w a ts) :
    Calls Tryz.prog 33 #[.agg #[.slice a ts.length cap], (⟨5, t, f, o, dk, dn, ds⟩ : Ch).v] w fun e w' => ∃ a' c', e = .returned (.tuple #[.agg #[.slice a' (appT ts ⟨5, t, f, o, dk, dn, ds⟩).length c'], .int .i64 (refE ts ⟨5, t, f, o, dk, dn, ds⟩)]) ∧ Typs w'.heap.size w' a' (appT ts ⟨5, t, f, o, dk, dn, ds⟩) ∧ Below w.heap.size w w' := by
  have h5 := hS.1
  have hk5 : ∀ k, (ty ts k).2.length ≤ 5 := fun k => by
    by_cases hk : k < ts.length
    · exact (hS.2 k hk).2.2.1
    · simp only [ty, List.getElem?_eq_none (Nat.le_of_not_lt hk), Option.getD_none]
      exact Nat.zero_le _
  obtain ⟨W0, hW0⟩ : ∃ W0, W0 = ((w.alloc (.cells #[.slice a ts.length cap] 24)).alloc (.cells #[.int .i64 5, .string t.1, .string f.1, .string o.1, .int .i64 dk, .int .i64 dn, .string ds.1] 42)).alloc (.cells #[.slice none 0 0] 24) := ⟨_, rfl⟩
  have e0 : W0.heap.size = w.heap.size + 3 := by rw [hW0]; simp
  have b0 : Below w.heap.size w W0 := by rw [hW0]; exact (((Below.refl _ _).alloc (Nat.le_refl _) _).alloc (by simp) _).alloc (by simp; omega) _
  have x2 : Box W0 w.heap.size 24 #[.slice a ts.length cap] := by
    rw [hW0]; exact ((Box.new w 24 #[.slice a ts.length cap]).alloc _).alloc _
  have x3 : Box W0 (w.heap.size + 1) 42 #[.int .i64 5, .string t.1, .string f.1, .string o.1, .int .i64 dk, .int .i64 dn, .string ds.1] := by
    have := Box.new (w.alloc (.cells #[.slice a ts.length cap] 24)) 42 #[.int .i64 5, .string t.1, .string f.1, .string o.1, .int .i64 dk, .int .i64 dn, .string ds.1]
    simp only [World.size_alloc] at this
    rw [hW0]; exact this.alloc _
  have x4 : Box W0 (w.heap.size + 1 + 1) 24 #[.slice none 0 0] := by
    have := Box.new ((w.alloc (.cells #[.slice a ts.length cap] 24)).alloc (.cells #[.int .i64 5, .string t.1, .string f.1, .string o.1, .int .i64 dk, .int .i64 dn, .string ds.1] 42)) 24 #[.slice none 0 0]
    simp only [World.size_alloc] at this
    rw [hW0]; exact this
  have T0 := hT.on b0
  have hW0' := hide hW0
  clear hW0
  obtain ⟨R, hR⟩ : ∃ R, R = refE ts ⟨5, t, f, o, dk, dn, ds⟩ := ⟨_, rfl⟩
  obtain ⟨A, hA⟩ : ∃ A, A = appT ts ⟨5, t, f, o, dk, dn, ds⟩ := ⟨_, rfl⟩
  rw [← hR, ← hA]
  replace hR := hide hR
  replace hA := hide hA
  obtain ⟨FB, hFB⟩ : ∃ FB, FB = formedB ⟨5, t, f, o, dk, dn, ds⟩ := ⟨_, rfl⟩
  have hFB' := hide hFB
  clear hFB
  go_enter Tryz.func33, Tryz.ntmps33
  go_upto_region 1 with fail
  rw [← unhide hW0']
  obtain ⟨hc0, hc1, hc2, hc3, hc4, hc5, hc6⟩ := x3.seven
  go_cut [57] (fun g wx => g = .bool (!FB) ∧ wx = W0)
  case first =>
    clear x2 x4 T0 b0 hT hS
    have cN : Hid (∀ W, Calls Tryz.prog 25 #[.string t.1] W fun e w' => e = .returned (.bool (nameB t.1)) ∧ w' = W) := fun W => refName_c t.1 W t.2
    cases hN : nameB t.1
    · have hf : FB = false := by rw [unhide hFB']; simp [formedB, hN]
      subst hf
      rw [hN] at cN
      go_wp2_with fail
      refine (unhide cN _).mono ?_
      rintro e w1 ⟨rfl, rfl⟩
      go_wp2_with fail
      go_meet
      case rel => exact ⟨rfl, rfl⟩
    · rw [hN] at cN
      obtain ⟨d0, hd0⟩ : ∃ d0, (dk == 0) = d0 := ⟨_, rfl⟩
      obtain ⟨d1, hd1⟩ : ∃ d1, (dn == 0) = d1 := ⟨_, rfl⟩
      all_goals cases d0
      all_goals cases d1
      all_goals
        go_wp2_with fail
        refine (unhide cN _).mono ?_
        rintro e w1 ⟨rfl, rfl⟩
        go_wp2_with fail
      all_goals
        go_meet
        case rel =>
          refine ⟨?_, rfl⟩
          rw [unhide hFB']
          simp_all [formedB, bareB, noD, noT]
  case rest =>
    obtain ⟨rfl, rfl⟩ := hcut
    -- an error: the schema as it was
    have ret := hide (show ∀ (n : Int), refE ts ⟨5, t, f, o, dk, dn, ds⟩ = n → n ≠ 0 → A = ts ∧ R = n from fun n h h0 => by rw [unhide hA, unhide hR]; simp [appT, h, h0])
    cases FB with
    | false =>
      have hr : refE ts ⟨5, t, f, o, dk, dn, ds⟩ = 10 := by simp [refE, ← unhide hFB']
      obtain ⟨eA, eR⟩ := unhide ret 10 hr (by decide)
      clear hr ret hA hR
      replace eA := hide eA
      replace eR := hide eR
      have hs := x2.one.1
      obtain ⟨hp0, hp1⟩ := x4.one
      go_wp2_with fail
      have u4 := (x4.set 0 (.slice a ts.length cap)).one.1
      have bb := b0.setCell (p := ⟨w.heap.size + 1 + 1, 0, none⟩) (by simp only; omega) (.slice a ts.length cap)
      exact bodyPost_ret (v := .tuple #[.agg #[.slice a ts.length cap], .int .i64 10]) (by simp [results, Tryz.results33, go_sem, u4]) rfl ⟨a, cap, by rw [unhide eA, unhide eR], by rw [unhide eA]; exact (hT.below bb).mono bb.size, bb⟩
    | true =>
      have hs0 := hide (Below.refl wc.heap.size wc)
      have hs := x2.one.1
      go_wp2_with fail
      go_loopw [6, 7] (fun p i wr => ∃ q : Nat, q ≤ ts.length ∧ p = .int .i64 (placeI ((tnames ts).take q) t.1) ∧ i = .int .i64 q ∧ Below wc.heap.size wc wr) (fun _ i _ => ts.length - (intOf i).toNat)
      case atStart => exact ⟨0, Nat.zero_le _, rfl, rfl, unhide hs0⟩
      case round =>
        obtain ⟨q, hq, rfl, rfl, hbw⟩ := hrel
        clear hs
        have y2 := x2.on hbw x2.lt
        have hs := y2.one.1
        have hc1' := (x3.on hbw x3.lt).seven.2.1
        by_cases hlt : q < ts.length
        · obtain ⟨b, off, ha, hcn, a1, c1, hcf, -⟩ := (T0.on hbw).at q hlt
          subst ha
          have htk : (tnames ts).take (q + 1) = (tnames ts).take q ++ [(ty ts q).1] := by
            rw [List.take_succ_eq_append_getElem (by rw [tnames_len]; exact hlt)]; simp [tnames, ty, hlt]
          cases hx : eqT t.1 (ty ts q).1
          · have hx' : ((ty ts q).1.1.toList == t.1.toList) = false := hx
            have hsucc := hide (show placeI ((tnames ts).take (q + 1)) t.1 = placeI ((tnames ts).take q) t.1 by
              unfold placeI placeN
              rw [htk, List.findIdx?_append]
              cases List.findIdx? (eqT t.1) ((tnames ts).take q) <;> simp [List.findIdx?_cons, hx])
            clear hx htk
            go_wp2_with fail
            go_quiet (fail)
            go_wp2_with fail
            exact ⟨⟨q + 1, by omega, by rw [unhide hsucc], by go_num, below_dn hbw _⟩, by simp [intOf]; omega⟩
          · have hx' : ((ty ts q).1.1.toList == t.1.toList) = true := hx
            have hsucc := hide (show placeI ((tnames ts).take (q + 1)) t.1 = q by
              have hno : List.findIdx? (eqT t.1) ((tnames ts).take q) = none := by
                rw [List.findIdx?_eq_none_iff]
                intro y hy
                cases hy' : eqT t.1 y
                · rfl
                · exfalso
                  obtain ⟨i, hi, rfl⟩ := List.getElem_of_mem hy
                  simp only [List.length_take, tnames_len] at hi
                  have hp := ((sch_iff ts).1 hS).2.2
                  rw [List.pairwise_iff_getElem] at hp
                  have h1 := hp i q (by omega) hlt (by omega)
                  rw [eqT_iff] at hy' hx
                  simp only [tnames, List.getElem_take, List.getElem_map] at hy'
                  rw [hy', ← hx, show ty ts q = ts[q] by simp [ty, hlt]] at h1
                  exact List.lt_irrefl _ h1
              unfold placeI placeN
              rw [htk, List.findIdx?_append, hno]
              simp [List.findIdx?_cons, hx, tnames_len]
              omega)
            clear hx htk
            go_wp2_with fail
            go_quiet (fail)
            go_wp2_with fail
            exact ⟨⟨q + 1, by omega, by rw [unhide hsucc], by go_num, below_dn hbw _⟩, by simp [intOf]; omega⟩
        · have hqe : q = ts.length := by omega
          have hpl : placeI ((tnames ts).take q) t.1 = placeI (tnames ts) t.1 := by rw [hqe, ← tnames_len ts, List.take_length]
          rw [hpl]
          obtain ⟨P, hP⟩ : ∃ P, P = placeI (tnames ts) t.1 := ⟨_, rfl⟩
          rw [← hP]
          replace hP := hide hP
          clear hpl
          subst hqe
          go_wp2_with fail
          have T1 := T0.on hbw
          have bw := b0.trans (hbw.mono (by omega))
          have z3 := x3.on hbw x3.lt
          have z4 := x4.on hbw x4.lt
          clear hs hc1'
          refine (copied_c a cap ts h5 hk5 _ T1).mono ?_
          rintro e W1 ⟨v, xs, rfl, hxs, hO, hb1, hap⟩
          replace hap := hide hap
          have y2' := y2.on hb1 y2.lt
          have z3' := z3.on hb1 z3.lt
          have z4' := z4.on hb1 z4.lt
          have bw1 := bw.trans (hb1.mono bw.size)
          obtain ⟨hd0, hd1, hd2, hd3, hd4, hd5, hd6⟩ := z3'.seven
          have hs := y2'.one.1
          have hxl : xs.length = ts.length := by rw [← hxs.1, List.length_map]
          obtain ⟨av, cv, rfl⟩ : ∃ av cv, v = .slice av ts.length cv := by
            rcases hO.2 with ⟨rfl, h0⟩ | ⟨g, cap', cur, rfl, -⟩
            · exact ⟨none, 0, by rw [← hxl, h0]⟩
            · exact ⟨_, _, by rw [hxl]⟩
          obtain ⟨W2, hW2⟩ : ∃ W2, W2 = W1.alloc (.cells #[.slice av ts.length cv] 24) := ⟨_, rfl⟩
          have bW : Below W1.heap.size W1 W2 := by rw [hW2]; exact (Below.refl _ _).alloc (Nat.le_refl _) _
          have eW : W2.heap.size = W1.heap.size + 1 := by rw [hW2]; simp
          have v8 : Box W2 W1.heap.size 24 #[.slice av ts.length cv] := by rw [hW2]; exact Box.new W1 24 #[.slice av ts.length cv]
          replace hW2 := hide hW2
          go_upto_region 10 with fail
          rw [← unhide hW2]
          clear hd0 hd1 hd2 hd3 hd4 hd5 hd6 hs
          have v2 := y2'.on bW y2'.lt
          have v3 := z3'.on bW z3'.lt
          have v4 := z4'.on bW z4'.lt
          have bw2 := bw1.trans (bW.mono bw1.size)
          obtain ⟨hd0, hd1, hd2, hd3, hd4, hd5, hd6⟩ := v3.seven
          have hs := v2.one.1
          obtain ⟨hp0, hp1⟩ := v4.one
          have u4 := (v4.set 0 (.slice a ts.length cap)).one.1
          have bb := bw2.setCell (p := ⟨w.heap.size + 1 + 1, 0, none⟩) (by simp only; omega) (.slice a ts.length cap)
          have fin := hide (show ∀ n, A = ts → R = n → ∃ a' c', Ending.returned (.tuple #[.agg #[.slice a ts.length cap], .int .i64 n]) = Ending.returned (.tuple #[.agg #[.slice a' A.length c'], .int .i64 R]) ∧ Typs (W2.setCell ⟨w.heap.size + 1 + 1, 0, none⟩ (.slice a ts.length cap)).heap.size (W2.setCell ⟨w.heap.size + 1 + 1, 0, none⟩ (.slice a ts.length cap)) a' A ∧ Below w.heap.size w (W2.setCell ⟨w.heap.size + 1 + 1, 0, none⟩ (.slice a ts.length cap)) from
            fun n eA eR => ⟨a, cap, by rw [eA, eR], by rw [eA]; exact (hT.below bb).mono bb.size, bb⟩)
          by_cases hP0 : 0 ≤ P
          · have hr : refE ts ⟨5, t, f, o, dk, dn, ds⟩ = 13 := by
              have hp := unhide hP
              unfold placeI at hp
              cases hpn : placeN (tnames ts) t.1 with
              | none => rw [hpn] at hp; simp only at hp; omega
              | some j => simp [refE, ← unhide hFB', hpn]
            obtain ⟨eA, eR⟩ := unhide ret 13 hr (by decide)
            clear hr ret hA hR
            have fin' := hide (unhide fin 13 eA eR)
            clear fin eA eR
            go_wp2_with fail
            exact bodyPost_ret (v := .tuple #[.agg #[.slice a ts.length cap], .int .i64 13]) (by simp [results, Tryz.results33, go_sem, u4]) rfl (unhide fin')
          · have hpn : placeN (tnames ts) t.1 = none := by
              have hp := unhide hP
              unfold placeI at hp
              cases hpn : placeN (tnames ts) t.1 with
              | none => rfl
              | some j => rw [hpn] at hp; simp only at hp; omega
            by_cases hl5 : 5 ≤ ts.length
            · have hr : refE ts ⟨5, t, f, o, dk, dn, ds⟩ = 12 := by simp [refE, ← unhide hFB', hpn, hl5]
              obtain ⟨eA, eR⟩ := unhide ret 12 hr (by decide)
              clear hr ret hA hR
              have fin' := hide (unhide fin 12 eA eR)
              clear fin eA eR hpn
              have hl5' : (5 : Int) ≤ (ts.length : Int) := by omega
              go_wp2_with fail
              exact bodyPost_ret (v := .tuple #[.agg #[.slice a ts.length cap], .int .i64 12]) (by simp [results, Tryz.results33, go_sem, u4]) rfl (by obtain ⟨a', c', h1, h2, h3⟩ := unhide fin'; exact ⟨a', ⟨c', h1⟩, h2, h3⟩)
            · have hr : refE ts ⟨5, t, f, o, dk, dn, ds⟩ = 0 := by simp [refE, ← unhide hFB', hpn, hl5]
              obtain ⟨m, hm, hmT, hmlt, hmge⟩ := tNew_ins ⟨5, t, f, o, dk, dn, ds⟩ ts rfl
              have eA := hide (show A = ts.take m ++ [(t, [])] ++ ts.drop m by rw [unhide hA, appT, if_pos hr]; exact hmT)
              have eR := hide (show R = 0 from (unhide hR).trans hr)
              have hless := hide (show ∀ i, i < m → Op.bytesLess (ty ts i).1.1.toList t.1.toList = true from fun i hi => (less_iff _ _).2 (key_tri (hmge i hi) (placeN_none.1 hpn _ (List.mem_map_of_mem (ty_mem (by omega))))))
              have hnot := hide (show m < ts.length → Op.bytesLess (ty ts m).1.1.toList t.1.toList = false from fun h => by
                have h1 := (lessT_iff _ _).1 (hmlt h)
                cases h2 : Op.bytesLess (ty ts m).1.1.toList t.1.toList
                · rfl
                · exact absurd (List.lt_trans h1 ((less_iff _ _).1 h2)) (List.lt_irrefl _))
              clear hr ret fin hA hR hmT hmlt hmge hpn
              have hmx : Tryz.prog.follows .mixedOrders = true := by kernel_rfl
              have hwr : w.heap.size + 3 ≤ wr.heap.size := by have := hbw.size; omega
              have hszW := hb1.size
              obtain ⟨Wa, ea⟩ : ∃ Wa, Wa = wr := ⟨_, rfl⟩
              subst ea
              have hO' := hO
              rw [hxl] at hO'
              replace hO := hide hO
              replace hO' := hide hO'
              replace hxs := hide hxs
              have hbb := hide (Below.refl W2.heap.size W2)
              clear u4 bb
              go_wp2_with fail
              go_loopw [9] (fun i wr => ∃ q : Nat, q ≤ m ∧ i = .int .i64 q ∧ Below W2.heap.size W2 wr) (fun i _ => m - (intOf i).toNat)
              case atStart => exact ⟨0, Nat.zero_le _, rfl, unhide hbb⟩
              case round =>
                obtain ⟨q, hq, rfl, hbq⟩ := hrel
                clear hs hd0 hd1 hd2 hd3 hd4 hd5 hd6 hp0 hp1
                have p2 := v2.on hbq v2.lt
                have p3 := v3.on hbq v3.lt
                have p4 := v4.on hbq v4.lt
                have p8 := v8.on hbq v8.lt
                have hs := p2.one.1
                have hd1 := p3.seven.2.1
                have hTq := hT.below (bw2.trans (hbq.mono bw2.size))
                by_cases hqm : q < m
                · obtain ⟨b', off', ha, hcn, a2, c2, hcf, -⟩ := hTq.at q (by omega)
                  subst ha
                  have hbl := unhide hless q hqm
                  have hqn : q < ts.length := by omega
                  go_wp2_with fail
                  go_quiet (fail)
                  go_wp2_with fail
                  exact ⟨⟨q + 1, by omega, by go_num, below_dn hbq _⟩, by simp [intOf]; omega⟩
                · obtain rfl : q = m := by omega
                  by_cases hmn : q < ts.length
                  · obtain ⟨b', off', ha, hcn, a2, c2, hcf, -⟩ := hTq.at q hmn
                    subst ha
                    have hbl := unhide hnot hmn
                    go_wp2_with fail
                    go_quiet (fail)
                    go_upto_region 18 with fail
                    obtain ⟨b, eb, hbb', hbl0, hncv, -, hcb, -⟩ := owns_cells (unhide hO') (by omega)
                    subst eb
                    obtain ⟨i0, hi0, hz0, hz1, hz2⟩ := info_parts infoTy
                    obtain ⟨V, hV⟩ : ∃ V, V = ({ heap := (wr.drewN nq).heap, tape := (wr.drewN nq).tape, drawn := (wr.drewN nq).drawn + 1, os := (wr.drewN nq).os, output := (wr.drewN nq).output } : World) := ⟨_, rfl⟩
                    have bV : Below wr.heap.size wr V := by rw [hV]; exact (below_dn (Below.refl _ _) nq).drew
                    have bV2 := hbq.trans (bV.mono hbq.size)
                    have bV1 : Below W1.heap.size W1 V := bW.trans (bV2.mono bW.size)
                    have bwV := bw2.trans (bV2.mono bw2.size)
                    have hsV := bV1.size

                    have hcv := hncv
                    have hw1 : IntKind.i64.wrap (q : Int) = q := by rw [IntKind.wrap_i64]; omega
                    obtain ⟨ad2, had2⟩ : ∃ ad2 : Addr, (if cv = q then some (⟨b, 0, none⟩ : Addr) else some ⟨b, q * 2, none⟩) = some ad2 ∧ (ad2 = ⟨b, q * 2, none⟩ ∨ ts.length = q) := by
                      by_cases h : cv = q
                      · rw [if_pos h]; exact ⟨_, rfl, .inr (by omega)⟩
                      · rw [if_neg h]; exact ⟨_, rfl, .inl rfl⟩
                    have had2' := hide had2.1
                    have lS : Lies V (some ad2) (ts.length - q) (cv - q) 2 (newsT (xs.drop q)) := by
                      refine ⟨by rw [newsT_len, List.length_drop, hxl], .inl ⟨ad2, rfl, fun j u hu => ?_⟩⟩
                      rcases had2.2 with rfl | h
                      · rw [newsT_drop, List.getElem?_drop] at hu
                        have hlt : q * 2 + j < (newsT xs).length := (List.getElem?_eq_some_iff.1 hu).1
                        rw [newsT_len, hxl] at hlt
                        have := hcb (q * 2 + j) hlt
                        rw [hu] at this
                        rw [WideShapes.add_plain]
                        exact ((bV1.cell (p := ⟨b, q * 2 + j, none⟩) hbl0).trans this)
                      · rw [List.drop_of_length_le (by omega)] at hu; simp [newsT] at hu
                    have lP : Lies V (some ⟨b, 0, none⟩) q cv 2 (newsT (xs.take q)) := by
                      refine ⟨by rw [newsT_len, List.length_take, hxl]; congr 1; omega, .inl ⟨_, rfl, fun j u hu => ?_⟩⟩
                      rw [newsT_take, List.getElem?_take] at hu
                      split at hu
                      · have hlt : j < (newsT xs).length := (List.getElem?_eq_some_iff.1 hu).1
                        rw [newsT_len, hxl] at hlt
                        have := hcb j hlt
                        rw [hu] at this
                        rw [WideShapes.add_plain, Nat.zero_add]
                        exact ((bV1.cell (p := ⟨b, j, none⟩) hbl0).trans this)
                      · cases hu
                    replace lS := hide lS
                    replace lP := hide lP
                    clear had2 hcb

                    have cD : Box V W1.heap.size 24 #[.slice (some ⟨b, 0, none⟩) ts.length cv] ∧ Box V (w.heap.size + 1) 42 #[.int .i64 5, .string t.1, .string f.1, .string o.1, .int .i64 dk, .int .i64 dn, .string ds.1] := ⟨v8.on bV2 v8.lt, v3.on bV2 v3.lt⟩
                    have c4 := v4.on bV2 v4.lt
                    have l8 := cD.1.lt
                    have l3 := cD.2.lt
                    refine wp_region_any hmx (wpAny_of_Z (z := 16) (C := fun w' => Box w' W1.heap.size 24 #[.slice (some ⟨b, 0, none⟩) ts.length cv] ∧ Box w' (w.heap.size + 1) 42 #[.int .i64 5, .string t.1, .string f.1, .string o.1, .int .i64 dk, .int .i64 dn, .string ds.1]) _ _ _ _ ?_)
                    rw [← hV]
                    clear hV
                    refine wpAnyZ_reads 0 cD (by kernel_rfl) (by kernel_rfl) (by kernel_rfl) (by kernel_rfl) (fun d _ _ _ _ h => by cases d <;> exact h) (fun oi ho K hK => ?_)
                    simp only [List.getElem?_toArray, List.getElem?_cons_zero, Option.some.injEq] at ho
                    subst ho
                    rw [if_pos (by kernel_rfl)]
                    refine ⟨.pointer (some ⟨W1.heap.size, 0, none⟩), fun w' hw' => ?_, hK _ ?_⟩
                    · obtain ⟨hx8, hx3⟩ := hw'
                      have hx80 := hx8.one.1
                      have hx31 := hx3.seven.2.1
                      go_simp
                    clear hK K
                    refine wpAnyZ_reads 1 cD (by kernel_rfl) (by kernel_rfl) (by kernel_rfl) (by kernel_rfl) (fun d _ _ _ _ h => by cases d <;> exact h) (fun oi ho K hK => ?_)
                    simp only [List.getElem?_toArray, List.getElem?_cons_succ, List.getElem?_cons_zero, Option.some.injEq] at ho
                    subst ho
                    rw [if_pos (by kernel_rfl)]
                    refine ⟨.slice (some ⟨b, 0, none⟩) ts.length cv, fun w' hw' => ?_, hK _ ?_⟩
                    · obtain ⟨hx8, hx3⟩ := hw'
                      have hx80 := hx8.one.1
                      have hx31 := hx3.seven.2.1
                      go_simp
                    clear hK K
                    refine wpAnyZ_reads 2 cD (by kernel_rfl) (by kernel_rfl) (by kernel_rfl) (by kernel_rfl) (fun d _ _ _ _ h => by cases d <;> exact h) (fun oi ho K hK => ?_)
                    simp only [List.getElem?_toArray, List.getElem?_cons_succ, List.getElem?_cons_zero, Option.some.injEq] at ho
                    subst ho
                    rw [if_pos (by kernel_rfl)]
                    refine ⟨.int .i64 q, fun w' hw' => ?_, hK _ ?_⟩
                    · obtain ⟨hx8, hx3⟩ := hw'
                      have hx80 := hx8.one.1
                      have hx31 := hx3.seven.2.1
                      go_simp
                    clear hK K
                    refine wpAnyZ_reads 3 cD (by kernel_rfl) (by kernel_rfl) (by kernel_rfl) (by kernel_rfl) (fun d _ _ _ _ h => by cases d <;> exact h) (fun oi ho K hK => ?_)
                    simp only [List.getElem?_toArray, List.getElem?_cons_succ, List.getElem?_cons_zero, Option.some.injEq] at ho
                    subst ho
                    rw [if_pos (by kernel_rfl)]
                    refine ⟨.slice (some ⟨b, 0, none⟩) q cv, fun w' hw' => ?_, hK _ ?_⟩
                    · obtain ⟨hx8, hx3⟩ := hw'
                      have hx80 := hx8.one.1
                      have hx31 := hx3.seven.2.1
                      go_simp
                      try (intro h; omega)
                    clear hK K
                    refine wpAnyZ_reads 5 cD (by kernel_rfl) (by kernel_rfl) (by kernel_rfl) (by kernel_rfl) (fun d _ _ _ _ h => by cases d <;> exact h) (fun oi ho K hK => ?_)
                    simp only [List.getElem?_toArray, List.getElem?_cons_succ, List.getElem?_cons_zero, Option.some.injEq] at ho
                    subst ho
                    rw [if_pos (by kernel_rfl)]
                    refine ⟨.pointer (some ⟨w.heap.size + 1, 1, none⟩), fun w' hw' => ?_, hK _ ?_⟩
                    · obtain ⟨hx8, hx3⟩ := hw'
                      have hx80 := hx8.one.1
                      have hx31 := hx3.seven.2.1
                      go_simp
                    clear hK K
                    refine wpAnyZ_reads 6 cD (by kernel_rfl) (by kernel_rfl) (by kernel_rfl) (by kernel_rfl) (fun d _ _ _ _ h => by cases d <;> exact h) (fun oi ho K hK => ?_)
                    simp only [List.getElem?_toArray, List.getElem?_cons_succ, List.getElem?_cons_zero, Option.some.injEq] at ho
                    subst ho
                    rw [if_pos (by kernel_rfl)]
                    refine ⟨.string t.1, fun w' hw' => ?_, hK _ ?_⟩
                    · obtain ⟨hx8, hx3⟩ := hw'
                      have hx80 := hx8.one.1
                      have hx31 := hx3.seven.2.1
                      go_simp
                    clear hK K
                    refine wpAnyZ_reads 7 cD (by kernel_rfl) (by kernel_rfl) (by kernel_rfl) (by kernel_rfl) (fun d _ _ _ _ h => by cases d <;> exact h) (fun oi ho K hK => ?_)
                    simp only [List.getElem?_toArray, List.getElem?_cons_succ, List.getElem?_cons_zero, Option.some.injEq] at ho
                    subst ho
                    rw [if_pos (by kernel_rfl)]
                    refine ⟨.agg #[.string t.1, .slice none 0 0], fun w' hw' => ?_, hK _ ?_⟩
                    · obtain ⟨hx8, hx3⟩ := hw'
                      have hx80 := hx8.one.1
                      have hx31 := hx3.seven.2.1
                      go_simp
                    clear hK K
                    refine wpAnyZ_reads 10 cD (by kernel_rfl) (by kernel_rfl) (by kernel_rfl) (by kernel_rfl) (fun d _ _ _ _ h => by cases d <;> exact h) (fun oi ho K hK => ?_)
                    simp only [List.getElem?_toArray, List.getElem?_cons_succ, List.getElem?_cons_zero, Option.some.injEq] at ho
                    subst ho
                    rw [if_pos (by kernel_rfl)]
                    refine ⟨.pointer (some ⟨W1.heap.size, 0, none⟩), fun w' hw' => ?_, hK _ ?_⟩
                    · obtain ⟨hx8, hx3⟩ := hw'
                      have hx80 := hx8.one.1
                      have hx31 := hx3.seven.2.1
                      go_simp
                    clear hK K
                    refine wpAnyZ_reads 11 cD (by kernel_rfl) (by kernel_rfl) (by kernel_rfl) (by kernel_rfl) (fun d _ _ _ _ h => by cases d <;> exact h) (fun oi ho K hK => ?_)
                    simp only [List.getElem?_toArray, List.getElem?_cons_succ, List.getElem?_cons_zero, Option.some.injEq] at ho
                    subst ho
                    rw [if_pos (by kernel_rfl)]
                    refine ⟨.slice (some ⟨b, 0, none⟩) ts.length cv, fun w' hw' => ?_, hK _ ?_⟩
                    · obtain ⟨hx8, hx3⟩ := hw'
                      have hx80 := hx8.one.1
                      have hx31 := hx3.seven.2.1
                      go_simp
                    clear hK K
                    refine wpAnyZ_reads 12 cD (by kernel_rfl) (by kernel_rfl) (by kernel_rfl) (by kernel_rfl) (fun d _ _ _ _ h => by cases d <;> exact h) (fun oi ho K hK => ?_)
                    simp only [List.getElem?_toArray, List.getElem?_cons_succ, List.getElem?_cons_zero, Option.some.injEq] at ho
                    subst ho
                    rw [if_pos (by kernel_rfl)]
                    refine ⟨.int .i64 q, fun w' hw' => ?_, hK _ ?_⟩
                    · obtain ⟨hx8, hx3⟩ := hw'
                      have hx80 := hx8.one.1
                      have hx31 := hx3.seven.2.1
                      go_simp
                    clear hK K
                    refine wpAnyZ_reads 13 cD (by kernel_rfl) (by kernel_rfl) (by kernel_rfl) (by kernel_rfl) (fun d _ _ _ _ h => by cases d <;> exact h) (fun oi ho K hK => ?_)
                    simp only [List.getElem?_toArray, List.getElem?_cons_succ, List.getElem?_cons_zero, Option.some.injEq] at ho
                    subst ho
                    rw [if_pos (by kernel_rfl)]
                    refine ⟨.slice (some ad2) (ts.length - q) (cv - q), fun w' hw' => ?_, hK _ ?_⟩
                    · obtain ⟨hx8, hx3⟩ := hw'
                      have hx80 := hx8.one.1
                      have hx31 := hx3.seven.2.1
                      go_simp
                      first | rw [unhide had2'] | rw [if_pos ⟨by omega, by omega⟩, unhide had2']
                    clear hK K

                    refine wpAnyZ_two 4 8 (by kernel_rfl) (fun oi ho K hK => ?_) (fun oi ho K hK => ?_)
                    · simp only [List.getElem?_toArray, List.getElem?_cons_succ, List.getElem?_cons_zero, Option.some.injEq] at ho
                      subst ho
                      refine step_lies V (by rfl) (.const (.slice none 0 0)) (.tmp 110) 22 (by rfl) V.heap.size 69 i0 (.agg #[.string ⟨#[]⟩, .slice none 0 0]) 2 40 Tryz.underlying22 hi0 hz0 hz1 hz2 (by rfl) (by decide) (.slice none 0 0) 0 [] ?q1 (World.ownsRow_nil _ _ _ _) (some ⟨b, 0, none⟩) q cv (newsT (xs.take q)) ?q2 (unhide lP) (newsT_one _) (by unfold maxLen; omega) (by omega) (Nat.le_refl _) ?_
                      case q1 => go_simp
                      case q2 => go_simp
                      intro v1 w1 ho1 hg1
                      rw [Nat.zero_add, List.nil_append] at ho1
                      have b1 : Below V.heap.size V w1 := (Below.refl _ _).grown hg1 (Nat.le_refl _) (fun j e => by cases e)
                      refine hK _ _ (.inr ⟨cD.1.on b1 l8, cD.2.on b1 l3⟩) ?_
                      clear hK K
                      have bF : Below w1.heap.size w1 (w1.alloc (.cells #[.string t.1, .slice none 0 0] 69)) := (Below.refl _ _).alloc (Nat.le_refl _) _
                      refine wpAnyZ_calls 8 (by kernel_rfl) (fun oi ho K hK => ?_)
                      simp only [List.getElem?_toArray, List.getElem?_cons_succ, List.getElem?_cons_zero, Option.some.injEq] at ho
                      subst ho
                      go_simp
                      obtain ⟨nb, hnb⟩ : ∃ nb, nb = w1.heap.size := ⟨_, rfl⟩
                      have hnw := cell_two_new w1 (.string t.1) (.slice none 0 0) 69
                      have b2 := b1.trans (bF.mono b1.size)
                      have ho2 := owns_below ho1 bF
                      rw [← hnb] at hnw ⊢
                      obtain ⟨V2, hV2⟩ : ∃ V2, V2 = w1.alloc (.cells #[.string t.1, .slice none 0 0] 69) := ⟨_, rfl⟩
                      rw [← hV2] at hnw b2 ho2 ⊢
                      clear ho1 hg1 hV2 bF b1 hnb
                      refine hK _ _ (.inr ⟨cD.1.on b2 l8, cD.2.on b2 l3⟩) ?_
                      clear hK K
                      refine wpAnyZ_calls 9 (by kernel_rfl) (fun oi ho K hK => ?_)
                      simp only [List.getElem?_toArray, List.getElem?_cons_succ, List.getElem?_cons_zero, Option.some.injEq] at ho
                      subst ho
                      refine step_lies V2 (by rfl) (.tmp 111) (.tmp 115) 22 (by rfl) V.heap.size 69 i0 (.agg #[.string ⟨#[]⟩, .slice none 0 0]) 2 40 Tryz.underlying22 hi0 hz0 hz1 hz2 (by rfl) (by decide) v1 q (newsT (xs.take q)) ?q1 ho2 (some ⟨nb, 0, none⟩) 1 1 [.string t.1, .slice none 0 0] ?q2 ⟨rfl, .inl ⟨_, rfl, hnw⟩⟩ (by simp [Value.oneCell']) (by unfold maxLen; omega) (by omega) b2.size ?_
                      case q1 => go_simp
                      case q2 => go_simp
                      intro v2 w2 ho3 hg3
                      have b3 := b2.grown hg3 b2.size (fun j e => (owns_lt ho2 e).1)
                      refine hK _ _ (.inr ⟨cD.1.on b3 l8, cD.2.on b3 l3⟩) ?_
                      clear hK K hg3 ho2 hnw b2
                      refine wpAnyZ_calls 14 (by kernel_rfl) (fun oi ho K hK => ?_)
                      simp only [List.getElem?_toArray, List.getElem?_cons_succ, List.getElem?_cons_zero, Option.some.injEq] at ho
                      subst ho
                      refine step_lies w2 (by rfl) (.tmp 116) (.tmp 120) 22 (by rfl) V.heap.size 69 i0 (.agg #[.string ⟨#[]⟩, .slice none 0 0]) 2 40 Tryz.underlying22 hi0 hz0 hz1 hz2 (by rfl) (by decide) v2 (q + 1) (newsT (xs.take q) ++ [.string t.1, .slice none 0 0]) ?q1 ho3 (some ad2) (ts.length - q) (cv - q) (newsT (xs.drop q)) ?q2 ((unhide lS).on b3) (newsT_one _) (by unfold maxLen; omega) (by omega) b3.size ?_
                      case q1 => go_simp
                      case q2 => go_simp
                      intro v3 w3 ho4 hg4
                      have b4 := b3.grown hg4 b3.size (fun j e => (owns_lt ho3 e).1)
                      have cE : Box w3 W1.heap.size 24 _ ∧ Box w3 (w.heap.size + 1) 42 _ := ⟨cD.1.on b4 l8, cD.2.on b4 l3⟩
                      refine hK _ _ (.inr cE) ?_
                      clear hK K hg4 ho3 b3
                      have hkf := cE.1.frz 0
                      have hk0 := cE.1.one.1
                      obtain ⟨g3, cap3, rfl⟩ : ∃ g3 cap3, v3 = .slice (some ⟨g3, 0, none⟩) (ts.length + 1) cap3 := by
                        rw [show q + 1 + (ts.length - q) = ts.length + 1 by omega] at ho4
                        exact ownsRow_succ ho4
                      rw [show q + 1 + (ts.length - q) = ts.length + 1 by omega] at ho4
                      replace ho4 := hide ho4
                      refine wpAnyZ_reads 15 cE (by kernel_rfl) (by kernel_rfl) (by kernel_rfl) (by kernel_rfl) (fun d _ _ _ _ h => by cases d <;> exact h) (fun oi ho K hK => ?_)
                      simp only [List.getElem?_toArray, List.getElem?_cons_succ, List.getElem?_cons_zero, Option.some.injEq] at ho
                      subst ho
                      rw [if_pos (by kernel_rfl)]
                      refine ⟨.pointer (some ⟨W1.heap.size, 0, none⟩), fun w' hw' => ?_, hK _ ?_⟩
                      · clear hw'
                        go_simp
                      clear hK K
                      refine wpAnyZ_calls 16 (by kernel_rfl) (fun oi ho K hK => ?_)
                      simp only [List.getElem?_toArray, List.getElem?_cons_succ, List.getElem?_cons_zero, Option.some.injEq] at ho
                      subst ho

                      go_simp
                      refine hK _ _ (.inl rfl) ?_
                      clear hK K
                      refine wpAnyZ_done (by kernel_rfl) ?_ _
                      go_upto_region 19 with fail
                      have z8 := cE.1.set 0 (.slice (some ⟨g3, 0, none⟩) (ts.length + 1) cap3)
                      have d4 := c4.on b4 c4.lt
                      have z4 := d4.other ⟨W1.heap.size, 0, none⟩ (.slice (some ⟨g3, 0, none⟩) (ts.length + 1) cap3) (by simp only; omega)
                      have k80 := z8.one.1
                      obtain ⟨k40, k41⟩ := z4.one
                      have r1 := owns_set (owns_set (unhide ho4) ⟨W1.heap.size, 0, none⟩ (.slice (some ⟨g3, 0, none⟩) (ts.length + 1) cap3) l8) ⟨w.heap.size + 1 + 1, 0, none⟩ (.slice (some ⟨g3, 0, none⟩) (ts.length + 1) cap3) (by simp only; omega)
                      have b5 := (bV1.trans (b4.mono bV1.size)).setCell (p := ⟨W1.heap.size, 0, none⟩) (Nat.le_refl _) (.slice (some ⟨g3, 0, none⟩) (ts.length + 1) cap3)
                      have bz := ((bwV.trans (b4.mono bwV.size)).setCell (p := ⟨W1.heap.size, 0, none⟩) (by simp only; omega) (.slice (some ⟨g3, 0, none⟩) (ts.length + 1) cap3)).setCell (p := ⟨w.heap.size + 1 + 1, 0, none⟩) (by simp only; omega) (.slice (some ⟨g3, 0, none⟩) (ts.length + 1) cap3)
                      have hxl' : (xs.take q ++ [((t, []), none, 0)] ++ xs.drop q).length = ts.length + 1 := by simp [hxl] <;> omega
                      obtain ⟨a9, c9, e9, T9⟩ := typs_of_owns (xs := xs.take q ++ [((t, []), none, 0)] ++ xs.drop q) (base' := Wa.heap.size) (by rw [hxl']; simpa [newsT, List.append_assoc] using r1) (fun x hx => by
                        refine owns_set (p := ⟨w.heap.size + 1 + 1, 0, none⟩) (u := .slice (some ⟨g3, 0, none⟩) (ts.length + 1) cap3) (hp := by simp only; omega) ?_
                        rcases List.mem_append.1 hx with hx | hx
                        · rcases List.mem_append.1 hx with hx | hx
                          · exact owns_below ((unhide hxs).2 x (List.mem_of_mem_take hx)) b5
                          · simp only [List.mem_singleton] at hx
                            subst hx
                            exact World.ownsRow_nil _ _ _ _
                        · exact owns_below ((unhide hxs).2 x (List.mem_of_mem_drop hx)) b5) (fun x hx => by
                        have h0 : ∀ x ∈ xs, x.1.2.length ≤ 5 := fun x hx => by
                          obtain ⟨i, hi, rfl⟩ := List.getElem_of_mem hx
                          have := hk5 i
                          rwa [show ty ts i = xs[i].1 by simp [ty, ← (unhide hxs).1, hi]] at this
                        rcases List.mem_append.1 hx with hx | hx
                        · rcases List.mem_append.1 hx with hx | hx
                          · exact Nat.le_trans (h0 x (List.mem_of_mem_take hx)) (by decide)
                          · simp only [List.mem_singleton] at hx
                            subst hx
                            exact Nat.zero_le _
                        · exact Nat.le_trans (h0 x (List.mem_of_mem_drop hx)) (by decide))
                      simp only [Value.slice.injEq] at e9
                      obtain ⟨rfl, -, -⟩ := e9
                      rw [List.map_append, List.map_append, List.map_take, List.map_drop, (unhide hxs).1] at T9
                      have hAl : A.length = ts.length + 1 := by rw [unhide eA]; simp <;> omega
                      replace T9 := hide T9
                      replace r1 := hide r1
                      go_wp2_with fail
                      have u4 := (z4.set 0 (.slice (some ⟨g3, 0, none⟩) (ts.length + 1) cap3)).one.1
                      have fE : ∃ a' c', Ending.returned (.tuple #[.agg #[.slice (some ⟨g3, 0, none⟩) (ts.length + 1) cap3], .int .i64 0]) = Ending.returned (.tuple #[.agg #[.slice a' A.length c'], .int .i64 R]) ∧ Typs ((w3.setCell ⟨W1.heap.size, 0, none⟩ (.slice (some ⟨g3, 0, none⟩) (ts.length + 1) cap3)).setCell ⟨w.heap.size + 1 + 1, 0, none⟩ (.slice (some ⟨g3, 0, none⟩) (ts.length + 1) cap3)).heap.size ((w3.setCell ⟨W1.heap.size, 0, none⟩ (.slice (some ⟨g3, 0, none⟩) (ts.length + 1) cap3)).setCell ⟨w.heap.size + 1 + 1, 0, none⟩ (.slice (some ⟨g3, 0, none⟩) (ts.length + 1) cap3)) a' A ∧ Below w.heap.size w ((w3.setCell ⟨W1.heap.size, 0, none⟩ (.slice (some ⟨g3, 0, none⟩) (ts.length + 1) cap3)).setCell ⟨w.heap.size + 1 + 1, 0, none⟩ (.slice (some ⟨g3, 0, none⟩) (ts.length + 1) cap3)) :=
                        ⟨some ⟨g3, 0, none⟩, cap3, by rw [unhide eR, hAl], by rw [unhide eA]; exact unhide T9, bz⟩
                      exact bodyPost_ret (v := .tuple #[.agg #[.slice (some ⟨g3, 0, none⟩) (ts.length + 1) cap3], .int .i64 0]) (by simp [results, Tryz.results33, go_sem, u4]) rfl (by obtain ⟨a', c', h1, h2, h3⟩ := fE; first | exact ⟨a', ⟨c', h1⟩, h2, h3⟩ | exact ⟨a', c', h1, h2, h3⟩)
                    · simp only [List.getElem?_toArray, List.getElem?_cons_succ, List.getElem?_cons_zero, Option.some.injEq] at ho
                      subst ho
                      have bF : Below V.heap.size V (V.alloc (.cells #[.string t.1, .slice none 0 0] 69)) := (Below.refl _ _).alloc (Nat.le_refl _) _
                      go_simp
                      refine hK _ _ (.inr ⟨cD.1.on bF l8, cD.2.on bF l3⟩) ?_
                      clear hK K
                      obtain ⟨nb, hnb⟩ : ∃ nb, nb = V.heap.size := ⟨_, rfl⟩
                      have hnw0 := cell_two_new V (.string t.1) (.slice none 0 0) 69
                      rw [← hnb] at hnw0 ⊢
                      obtain ⟨w1, hw1'⟩ : ∃ w1, w1 = V.alloc (.cells #[.string t.1, .slice none 0 0] 69) := ⟨_, rfl⟩
                      have hs1 : V.heap.size ≤ w1.heap.size := by rw [hw1']; simp
                      have hnlt : nb < w1.heap.size := by rw [hw1', hnb]; simp
                      rw [← hw1'] at hnw0 bF ⊢
                      clear hw1'
                      refine wpAnyZ_calls 4 (by kernel_rfl) (fun oi ho K hK => ?_)
                      simp only [List.getElem?_toArray, List.getElem?_cons_succ, List.getElem?_cons_zero, Option.some.injEq] at ho
                      subst ho
                      refine step_lies w1 (by rfl) (.const (.slice none 0 0)) (.tmp 110) 22 (by rfl) V.heap.size 69 i0 (.agg #[.string ⟨#[]⟩, .slice none 0 0]) 2 40 Tryz.underlying22 hi0 hz0 hz1 hz2 (by rfl) (by decide) (.slice none 0 0) 0 [] ?q1 (World.ownsRow_nil _ _ _ _) (some ⟨b, 0, none⟩) q cv (newsT (xs.take q)) ?q2 ((unhide lP).on bF) (newsT_one _) (by unfold maxLen; omega) (by omega) hs1 ?_
                      case q1 => go_simp
                      case q2 => go_simp
                      intro v1 V2 ho2 hg1
                      rw [Nat.zero_add, List.nil_append] at ho2
                      have b1 : Below w1.heap.size w1 V2 := (Below.refl _ _).grown hg1 (Nat.le_refl _) (fun j e => by cases e)
                      have b2 := bF.trans (b1.mono bF.size)
                      have hnw : ∀ j u, [Value.string t.1, .slice none 0 0][j]? = some u → V2.cell? ((⟨nb, 0, none⟩ : Addr).add j) = some u := fun j u hu => (b1.cell (by rw [WideShapes.add_plain]; exact hnlt)).trans (hnw0 j u hu)
                      clear hg1 b1 bF hnw0 hnb hnlt hs1
                      refine hK _ _ (.inr ⟨cD.1.on b2 l8, cD.2.on b2 l3⟩) ?_
                      clear hK K
                      refine wpAnyZ_calls 9 (by kernel_rfl) (fun oi ho K hK => ?_)
                      simp only [List.getElem?_toArray, List.getElem?_cons_succ, List.getElem?_cons_zero, Option.some.injEq] at ho
                      subst ho
                      refine step_lies V2 (by rfl) (.tmp 111) (.tmp 115) 22 (by rfl) V.heap.size 69 i0 (.agg #[.string ⟨#[]⟩, .slice none 0 0]) 2 40 Tryz.underlying22 hi0 hz0 hz1 hz2 (by rfl) (by decide) v1 q (newsT (xs.take q)) ?q1 ho2 (some ⟨nb, 0, none⟩) 1 1 [.string t.1, .slice none 0 0] ?q2 ⟨rfl, .inl ⟨_, rfl, hnw⟩⟩ (by simp [Value.oneCell']) (by unfold maxLen; omega) (by omega) b2.size ?_
                      case q1 => go_simp
                      case q2 => go_simp
                      intro v2 w2 ho3 hg3
                      have b3 := b2.grown hg3 b2.size (fun j e => (owns_lt ho2 e).1)
                      refine hK _ _ (.inr ⟨cD.1.on b3 l8, cD.2.on b3 l3⟩) ?_
                      clear hK K hg3 ho2 hnw b2
                      refine wpAnyZ_calls 14 (by kernel_rfl) (fun oi ho K hK => ?_)
                      simp only [List.getElem?_toArray, List.getElem?_cons_succ, List.getElem?_cons_zero, Option.some.injEq] at ho
                      subst ho
                      refine step_lies w2 (by rfl) (.tmp 116) (.tmp 120) 22 (by rfl) V.heap.size 69 i0 (.agg #[.string ⟨#[]⟩, .slice none 0 0]) 2 40 Tryz.underlying22 hi0 hz0 hz1 hz2 (by rfl) (by decide) v2 (q + 1) (newsT (xs.take q) ++ [.string t.1, .slice none 0 0]) ?q1 ho3 (some ad2) (ts.length - q) (cv - q) (newsT (xs.drop q)) ?q2 ((unhide lS).on b3) (newsT_one _) (by unfold maxLen; omega) (by omega) b3.size ?_
                      case q1 => go_simp
                      case q2 => go_simp
                      intro v3 w3 ho4 hg4
                      have b4 := b3.grown hg4 b3.size (fun j e => (owns_lt ho3 e).1)
                      have cE : Box w3 W1.heap.size 24 _ ∧ Box w3 (w.heap.size + 1) 42 _ := ⟨cD.1.on b4 l8, cD.2.on b4 l3⟩
                      refine hK _ _ (.inr cE) ?_
                      clear hK K hg4 ho3 b3
                      have hkf := cE.1.frz 0
                      have hk0 := cE.1.one.1
                      obtain ⟨g3, cap3, rfl⟩ : ∃ g3 cap3, v3 = .slice (some ⟨g3, 0, none⟩) (ts.length + 1) cap3 := by
                        rw [show q + 1 + (ts.length - q) = ts.length + 1 by omega] at ho4
                        exact ownsRow_succ ho4
                      rw [show q + 1 + (ts.length - q) = ts.length + 1 by omega] at ho4
                      replace ho4 := hide ho4
                      refine wpAnyZ_reads 15 cE (by kernel_rfl) (by kernel_rfl) (by kernel_rfl) (by kernel_rfl) (fun d _ _ _ _ h => by cases d <;> exact h) (fun oi ho K hK => ?_)
                      simp only [List.getElem?_toArray, List.getElem?_cons_succ, List.getElem?_cons_zero, Option.some.injEq] at ho
                      subst ho
                      rw [if_pos (by kernel_rfl)]
                      refine ⟨.pointer (some ⟨W1.heap.size, 0, none⟩), fun w' hw' => ?_, hK _ ?_⟩
                      · clear hw'
                        go_simp
                      clear hK K
                      refine wpAnyZ_calls 16 (by kernel_rfl) (fun oi ho K hK => ?_)
                      simp only [List.getElem?_toArray, List.getElem?_cons_succ, List.getElem?_cons_zero, Option.some.injEq] at ho
                      subst ho

                      go_simp
                      refine hK _ _ (.inl rfl) ?_
                      clear hK K
                      refine wpAnyZ_done (by kernel_rfl) ?_ _
                      go_upto_region 19 with fail
                      have z8 := cE.1.set 0 (.slice (some ⟨g3, 0, none⟩) (ts.length + 1) cap3)
                      have d4 := c4.on b4 c4.lt
                      have z4 := d4.other ⟨W1.heap.size, 0, none⟩ (.slice (some ⟨g3, 0, none⟩) (ts.length + 1) cap3) (by simp only; omega)
                      have k80 := z8.one.1
                      obtain ⟨k40, k41⟩ := z4.one
                      have r1 := owns_set (owns_set (unhide ho4) ⟨W1.heap.size, 0, none⟩ (.slice (some ⟨g3, 0, none⟩) (ts.length + 1) cap3) l8) ⟨w.heap.size + 1 + 1, 0, none⟩ (.slice (some ⟨g3, 0, none⟩) (ts.length + 1) cap3) (by simp only; omega)
                      have b5 := (bV1.trans (b4.mono bV1.size)).setCell (p := ⟨W1.heap.size, 0, none⟩) (Nat.le_refl _) (.slice (some ⟨g3, 0, none⟩) (ts.length + 1) cap3)
                      have bz := ((bwV.trans (b4.mono bwV.size)).setCell (p := ⟨W1.heap.size, 0, none⟩) (by simp only; omega) (.slice (some ⟨g3, 0, none⟩) (ts.length + 1) cap3)).setCell (p := ⟨w.heap.size + 1 + 1, 0, none⟩) (by simp only; omega) (.slice (some ⟨g3, 0, none⟩) (ts.length + 1) cap3)
                      have hxl' : (xs.take q ++ [((t, []), none, 0)] ++ xs.drop q).length = ts.length + 1 := by simp [hxl] <;> omega
                      obtain ⟨a9, c9, e9, T9⟩ := typs_of_owns (xs := xs.take q ++ [((t, []), none, 0)] ++ xs.drop q) (base' := Wa.heap.size) (by rw [hxl']; simpa [newsT, List.append_assoc] using r1) (fun x hx => by
                        refine owns_set (p := ⟨w.heap.size + 1 + 1, 0, none⟩) (u := .slice (some ⟨g3, 0, none⟩) (ts.length + 1) cap3) (hp := by simp only; omega) ?_
                        rcases List.mem_append.1 hx with hx | hx
                        · rcases List.mem_append.1 hx with hx | hx
                          · exact owns_below ((unhide hxs).2 x (List.mem_of_mem_take hx)) b5
                          · simp only [List.mem_singleton] at hx
                            subst hx
                            exact World.ownsRow_nil _ _ _ _
                        · exact owns_below ((unhide hxs).2 x (List.mem_of_mem_drop hx)) b5) (fun x hx => by
                        have h0 : ∀ x ∈ xs, x.1.2.length ≤ 5 := fun x hx => by
                          obtain ⟨i, hi, rfl⟩ := List.getElem_of_mem hx
                          have := hk5 i
                          rwa [show ty ts i = xs[i].1 by simp [ty, ← (unhide hxs).1, hi]] at this
                        rcases List.mem_append.1 hx with hx | hx
                        · rcases List.mem_append.1 hx with hx | hx
                          · exact Nat.le_trans (h0 x (List.mem_of_mem_take hx)) (by decide)
                          · simp only [List.mem_singleton] at hx
                            subst hx
                            exact Nat.zero_le _
                        · exact Nat.le_trans (h0 x (List.mem_of_mem_drop hx)) (by decide))
                      simp only [Value.slice.injEq] at e9
                      obtain ⟨rfl, -, -⟩ := e9
                      rw [List.map_append, List.map_append, List.map_take, List.map_drop, (unhide hxs).1] at T9
                      have hAl : A.length = ts.length + 1 := by rw [unhide eA]; simp <;> omega
                      replace T9 := hide T9
                      replace r1 := hide r1
                      go_wp2_with fail
                      have u4 := (z4.set 0 (.slice (some ⟨g3, 0, none⟩) (ts.length + 1) cap3)).one.1
                      have fE : ∃ a' c', Ending.returned (.tuple #[.agg #[.slice (some ⟨g3, 0, none⟩) (ts.length + 1) cap3], .int .i64 0]) = Ending.returned (.tuple #[.agg #[.slice a' A.length c'], .int .i64 R]) ∧ Typs ((w3.setCell ⟨W1.heap.size, 0, none⟩ (.slice (some ⟨g3, 0, none⟩) (ts.length + 1) cap3)).setCell ⟨w.heap.size + 1 + 1, 0, none⟩ (.slice (some ⟨g3, 0, none⟩) (ts.length + 1) cap3)).heap.size ((w3.setCell ⟨W1.heap.size, 0, none⟩ (.slice (some ⟨g3, 0, none⟩) (ts.length + 1) cap3)).setCell ⟨w.heap.size + 1 + 1, 0, none⟩ (.slice (some ⟨g3, 0, none⟩) (ts.length + 1) cap3)) a' A ∧ Below w.heap.size w ((w3.setCell ⟨W1.heap.size, 0, none⟩ (.slice (some ⟨g3, 0, none⟩) (ts.length + 1) cap3)).setCell ⟨w.heap.size + 1 + 1, 0, none⟩ (.slice (some ⟨g3, 0, none⟩) (ts.length + 1) cap3)) :=
                        ⟨some ⟨g3, 0, none⟩, cap3, by rw [unhide eR, hAl], by rw [unhide eA]; exact unhide T9, bz⟩
                      exact bodyPost_ret (v := .tuple #[.agg #[.slice (some ⟨g3, 0, none⟩) (ts.length + 1) cap3], .int .i64 0]) (by simp [results, Tryz.results33, go_sem, u4]) rfl (by obtain ⟨a', c', h1, h2, h3⟩ := fE; first | exact ⟨a', ⟨c', h1⟩, h2, h3⟩ | exact ⟨a', c', h1, h2, h3⟩)
                  · obtain rfl : q = ts.length := by omega
                    go_wp2_with fail
                    go_quiet (fail)
                    go_upto_region 18 with fail
                    rcases owns_shape (unhide hO') with ⟨rfl, h0, rfl⟩ | ⟨b, eb, hbl0, hncv, hcb⟩
                    · have ht0 : ts = [] := List.length_eq_zero_iff.1 h0
                      subst ht0
                      simp only [List.length_nil] at *
                      obtain ⟨i0, hi0, hz0, hz1, hz2⟩ := info_parts infoTy
                      obtain ⟨V, hV⟩ : ∃ V, V = ({ heap := (wr.drewN nq).heap, tape := (wr.drewN nq).tape, drawn := (wr.drewN nq).drawn + 1, os := (wr.drewN nq).os, output := (wr.drewN nq).output } : World) := ⟨_, rfl⟩
                      have bV : Below wr.heap.size wr V := by rw [hV]; exact (below_dn (Below.refl _ _) nq).drew
                      have bV2 := hbq.trans (bV.mono hbq.size)
                      have bV1 : Below W1.heap.size W1 V := bW.trans (bV2.mono bW.size)
                      have bwV := bw2.trans (bV2.mono bw2.size)
                      have hsV := bV1.size

                      have lS := hide (show Lies V none 0 0 2 (newsT (xs.drop 0)) from ⟨by rw [newsT_len, List.length_drop, hxl] <;> omega, .inr ⟨rfl, rfl⟩⟩)
                      have lP := hide (show Lies V none 0 0 2 (newsT (xs.take 0)) from ⟨by rw [newsT_len, List.length_take, hxl] <;> omega, .inr ⟨rfl, rfl⟩⟩)

                      have cD : Box V W1.heap.size 24 #[.slice none 0 0] ∧ Box V (w.heap.size + 1) 42 #[.int .i64 5, .string t.1, .string f.1, .string o.1, .int .i64 dk, .int .i64 dn, .string ds.1] := ⟨v8.on bV2 v8.lt, v3.on bV2 v3.lt⟩
                      have c4 := v4.on bV2 v4.lt
                      have l8 := cD.1.lt
                      have l3 := cD.2.lt
                      refine wp_region_any hmx (wpAny_of_Z (z := 16) (C := fun w' => Box w' W1.heap.size 24 #[.slice none 0 0] ∧ Box w' (w.heap.size + 1) 42 #[.int .i64 5, .string t.1, .string f.1, .string o.1, .int .i64 dk, .int .i64 dn, .string ds.1]) _ _ _ _ ?_)
                      rw [← hV]
                      clear hV
                      refine wpAnyZ_reads 0 cD (by kernel_rfl) (by kernel_rfl) (by kernel_rfl) (by kernel_rfl) (fun d _ _ _ _ h => by cases d <;> exact h) (fun oi ho K hK => ?_)
                      simp only [List.getElem?_toArray, List.getElem?_cons_zero, Option.some.injEq] at ho
                      subst ho
                      rw [if_pos (by kernel_rfl)]
                      refine ⟨.pointer (some ⟨W1.heap.size, 0, none⟩), fun w' hw' => ?_, hK _ ?_⟩
                      · obtain ⟨hx8, hx3⟩ := hw'
                        have hx80 := hx8.one.1
                        have hx31 := hx3.seven.2.1
                        go_simp
                      clear hK K
                      refine wpAnyZ_reads 1 cD (by kernel_rfl) (by kernel_rfl) (by kernel_rfl) (by kernel_rfl) (fun d _ _ _ _ h => by cases d <;> exact h) (fun oi ho K hK => ?_)
                      simp only [List.getElem?_toArray, List.getElem?_cons_succ, List.getElem?_cons_zero, Option.some.injEq] at ho
                      subst ho
                      rw [if_pos (by kernel_rfl)]
                      refine ⟨.slice none 0 0, fun w' hw' => ?_, hK _ ?_⟩
                      · obtain ⟨hx8, hx3⟩ := hw'
                        have hx80 := hx8.one.1
                        have hx31 := hx3.seven.2.1
                        go_simp
                      clear hK K
                      refine wpAnyZ_reads 2 cD (by kernel_rfl) (by kernel_rfl) (by kernel_rfl) (by kernel_rfl) (fun d _ _ _ _ h => by cases d <;> exact h) (fun oi ho K hK => ?_)
                      simp only [List.getElem?_toArray, List.getElem?_cons_succ, List.getElem?_cons_zero, Option.some.injEq] at ho
                      subst ho
                      rw [if_pos (by kernel_rfl)]
                      refine ⟨.int .i64 0, fun w' hw' => ?_, hK _ ?_⟩
                      · obtain ⟨hx8, hx3⟩ := hw'
                        have hx80 := hx8.one.1
                        have hx31 := hx3.seven.2.1
                        go_simp
                      clear hK K
                      refine wpAnyZ_reads 3 cD (by kernel_rfl) (by kernel_rfl) (by kernel_rfl) (by kernel_rfl) (fun d _ _ _ _ h => by cases d <;> exact h) (fun oi ho K hK => ?_)
                      simp only [List.getElem?_toArray, List.getElem?_cons_succ, List.getElem?_cons_zero, Option.some.injEq] at ho
                      subst ho
                      rw [if_pos (by kernel_rfl)]
                      refine ⟨.slice none 0 0, fun w' hw' => ?_, hK _ ?_⟩
                      · obtain ⟨hx8, hx3⟩ := hw'
                        have hx80 := hx8.one.1
                        have hx31 := hx3.seven.2.1
                        go_simp
                      clear hK K
                      refine wpAnyZ_reads 5 cD (by kernel_rfl) (by kernel_rfl) (by kernel_rfl) (by kernel_rfl) (fun d _ _ _ _ h => by cases d <;> exact h) (fun oi ho K hK => ?_)
                      simp only [List.getElem?_toArray, List.getElem?_cons_succ, List.getElem?_cons_zero, Option.some.injEq] at ho
                      subst ho
                      rw [if_pos (by kernel_rfl)]
                      refine ⟨.pointer (some ⟨w.heap.size + 1, 1, none⟩), fun w' hw' => ?_, hK _ ?_⟩
                      · obtain ⟨hx8, hx3⟩ := hw'
                        have hx80 := hx8.one.1
                        have hx31 := hx3.seven.2.1
                        go_simp
                      clear hK K
                      refine wpAnyZ_reads 6 cD (by kernel_rfl) (by kernel_rfl) (by kernel_rfl) (by kernel_rfl) (fun d _ _ _ _ h => by cases d <;> exact h) (fun oi ho K hK => ?_)
                      simp only [List.getElem?_toArray, List.getElem?_cons_succ, List.getElem?_cons_zero, Option.some.injEq] at ho
                      subst ho
                      rw [if_pos (by kernel_rfl)]
                      refine ⟨.string t.1, fun w' hw' => ?_, hK _ ?_⟩
                      · obtain ⟨hx8, hx3⟩ := hw'
                        have hx80 := hx8.one.1
                        have hx31 := hx3.seven.2.1
                        go_simp
                      clear hK K
                      refine wpAnyZ_reads 7 cD (by kernel_rfl) (by kernel_rfl) (by kernel_rfl) (by kernel_rfl) (fun d _ _ _ _ h => by cases d <;> exact h) (fun oi ho K hK => ?_)
                      simp only [List.getElem?_toArray, List.getElem?_cons_succ, List.getElem?_cons_zero, Option.some.injEq] at ho
                      subst ho
                      rw [if_pos (by kernel_rfl)]
                      refine ⟨.agg #[.string t.1, .slice none 0 0], fun w' hw' => ?_, hK _ ?_⟩
                      · obtain ⟨hx8, hx3⟩ := hw'
                        have hx80 := hx8.one.1
                        have hx31 := hx3.seven.2.1
                        go_simp
                      clear hK K
                      refine wpAnyZ_reads 10 cD (by kernel_rfl) (by kernel_rfl) (by kernel_rfl) (by kernel_rfl) (fun d _ _ _ _ h => by cases d <;> exact h) (fun oi ho K hK => ?_)
                      simp only [List.getElem?_toArray, List.getElem?_cons_succ, List.getElem?_cons_zero, Option.some.injEq] at ho
                      subst ho
                      rw [if_pos (by kernel_rfl)]
                      refine ⟨.pointer (some ⟨W1.heap.size, 0, none⟩), fun w' hw' => ?_, hK _ ?_⟩
                      · obtain ⟨hx8, hx3⟩ := hw'
                        have hx80 := hx8.one.1
                        have hx31 := hx3.seven.2.1
                        go_simp
                      clear hK K
                      refine wpAnyZ_reads 11 cD (by kernel_rfl) (by kernel_rfl) (by kernel_rfl) (by kernel_rfl) (fun d _ _ _ _ h => by cases d <;> exact h) (fun oi ho K hK => ?_)
                      simp only [List.getElem?_toArray, List.getElem?_cons_succ, List.getElem?_cons_zero, Option.some.injEq] at ho
                      subst ho
                      rw [if_pos (by kernel_rfl)]
                      refine ⟨.slice none 0 0, fun w' hw' => ?_, hK _ ?_⟩
                      · obtain ⟨hx8, hx3⟩ := hw'
                        have hx80 := hx8.one.1
                        have hx31 := hx3.seven.2.1
                        go_simp
                      clear hK K
                      refine wpAnyZ_reads 12 cD (by kernel_rfl) (by kernel_rfl) (by kernel_rfl) (by kernel_rfl) (fun d _ _ _ _ h => by cases d <;> exact h) (fun oi ho K hK => ?_)
                      simp only [List.getElem?_toArray, List.getElem?_cons_succ, List.getElem?_cons_zero, Option.some.injEq] at ho
                      subst ho
                      rw [if_pos (by kernel_rfl)]
                      refine ⟨.int .i64 0, fun w' hw' => ?_, hK _ ?_⟩
                      · obtain ⟨hx8, hx3⟩ := hw'
                        have hx80 := hx8.one.1
                        have hx31 := hx3.seven.2.1
                        go_simp
                      clear hK K
                      refine wpAnyZ_reads 13 cD (by kernel_rfl) (by kernel_rfl) (by kernel_rfl) (by kernel_rfl) (fun d _ _ _ _ h => by cases d <;> exact h) (fun oi ho K hK => ?_)
                      simp only [List.getElem?_toArray, List.getElem?_cons_succ, List.getElem?_cons_zero, Option.some.injEq] at ho
                      subst ho
                      rw [if_pos (by kernel_rfl)]
                      refine ⟨.slice none 0 0, fun w' hw' => ?_, hK _ ?_⟩
                      · obtain ⟨hx8, hx3⟩ := hw'
                        have hx80 := hx8.one.1
                        have hx31 := hx3.seven.2.1
                        go_simp
                      clear hK K

                      refine wpAnyZ_two 4 8 (by kernel_rfl) (fun oi ho K hK => ?_) (fun oi ho K hK => ?_)
                      · simp only [List.getElem?_toArray, List.getElem?_cons_succ, List.getElem?_cons_zero, Option.some.injEq] at ho
                        subst ho
                        refine step_lies V (by rfl) (.const (.slice none 0 0)) (.tmp 110) 22 (by rfl) V.heap.size 69 i0 (.agg #[.string ⟨#[]⟩, .slice none 0 0]) 2 40 Tryz.underlying22 hi0 hz0 hz1 hz2 (by rfl) (by decide) (.slice none 0 0) 0 [] ?q1 (World.ownsRow_nil _ _ _ _) none 0 0 (newsT (xs.take 0)) ?q2 (unhide lP) (newsT_one _) (by unfold maxLen; omega) (by omega) (Nat.le_refl _) ?_
                        case q1 => go_simp
                        case q2 => go_simp
                        intro v1 w1 ho1 hg1
                        rw [Nat.zero_add, List.nil_append] at ho1
                        have b1 : Below V.heap.size V w1 := (Below.refl _ _).grown hg1 (Nat.le_refl _) (fun j e => by cases e)
                        refine hK _ _ (.inr ⟨cD.1.on b1 l8, cD.2.on b1 l3⟩) ?_
                        clear hK K
                        have bF : Below w1.heap.size w1 (w1.alloc (.cells #[.string t.1, .slice none 0 0] 69)) := (Below.refl _ _).alloc (Nat.le_refl _) _
                        refine wpAnyZ_calls 8 (by kernel_rfl) (fun oi ho K hK => ?_)
                        simp only [List.getElem?_toArray, List.getElem?_cons_succ, List.getElem?_cons_zero, Option.some.injEq] at ho
                        subst ho
                        go_simp
                        obtain ⟨nb, hnb⟩ : ∃ nb, nb = w1.heap.size := ⟨_, rfl⟩
                        have hnw := cell_two_new w1 (.string t.1) (.slice none 0 0) 69
                        have b2 := b1.trans (bF.mono b1.size)
                        have ho2 := owns_below ho1 bF
                        rw [← hnb] at hnw ⊢
                        obtain ⟨V2, hV2⟩ : ∃ V2, V2 = w1.alloc (.cells #[.string t.1, .slice none 0 0] 69) := ⟨_, rfl⟩
                        rw [← hV2] at hnw b2 ho2 ⊢
                        clear ho1 hg1 hV2 bF b1 hnb
                        refine hK _ _ (.inr ⟨cD.1.on b2 l8, cD.2.on b2 l3⟩) ?_
                        clear hK K
                        refine wpAnyZ_calls 9 (by kernel_rfl) (fun oi ho K hK => ?_)
                        simp only [List.getElem?_toArray, List.getElem?_cons_succ, List.getElem?_cons_zero, Option.some.injEq] at ho
                        subst ho
                        refine step_lies V2 (by rfl) (.tmp 111) (.tmp 115) 22 (by rfl) V.heap.size 69 i0 (.agg #[.string ⟨#[]⟩, .slice none 0 0]) 2 40 Tryz.underlying22 hi0 hz0 hz1 hz2 (by rfl) (by decide) v1 0 (newsT (xs.take 0)) ?q1 ho2 (some ⟨nb, 0, none⟩) 1 1 [.string t.1, .slice none 0 0] ?q2 ⟨rfl, .inl ⟨_, rfl, hnw⟩⟩ (by simp [Value.oneCell']) (by unfold maxLen; omega) (by omega) b2.size ?_
                        case q1 => go_simp
                        case q2 => go_simp
                        intro v2 w2 ho3 hg3
                        have b3 := b2.grown hg3 b2.size (fun j e => (owns_lt ho2 e).1)
                        refine hK _ _ (.inr ⟨cD.1.on b3 l8, cD.2.on b3 l3⟩) ?_
                        clear hK K hg3 ho2 hnw b2
                        refine wpAnyZ_calls 14 (by kernel_rfl) (fun oi ho K hK => ?_)
                        simp only [List.getElem?_toArray, List.getElem?_cons_succ, List.getElem?_cons_zero, Option.some.injEq] at ho
                        subst ho
                        refine step_lies w2 (by rfl) (.tmp 116) (.tmp 120) 22 (by rfl) V.heap.size 69 i0 (.agg #[.string ⟨#[]⟩, .slice none 0 0]) 2 40 Tryz.underlying22 hi0 hz0 hz1 hz2 (by rfl) (by decide) v2 (0 + 1) (newsT (xs.take 0) ++ [.string t.1, .slice none 0 0]) ?q1 ho3 none 0 0 (newsT (xs.drop 0)) ?q2 ((unhide lS).on b3) (newsT_one _) (by unfold maxLen; omega) (by omega) b3.size ?_
                        case q1 => go_simp
                        case q2 => go_simp
                        intro v3 w3 ho4 hg4
                        have b4 := b3.grown hg4 b3.size (fun j e => (owns_lt ho3 e).1)
                        have cE : Box w3 W1.heap.size 24 _ ∧ Box w3 (w.heap.size + 1) 42 _ := ⟨cD.1.on b4 l8, cD.2.on b4 l3⟩
                        refine hK _ _ (.inr cE) ?_
                        clear hK K hg4 ho3 b3
                        have hkf := cE.1.frz 0
                        have hk0 := cE.1.one.1
                        obtain ⟨g3, cap3, rfl⟩ : ∃ g3 cap3, v3 = .slice (some ⟨g3, 0, none⟩) (0 + 1) cap3 := by
                          rw [show 0 + 1 + (0 - 0) = 0 + 1 by omega] at ho4
                          exact ownsRow_succ ho4
                        rw [show 0 + 1 + (0 - 0) = 0 + 1 by omega] at ho4
                        replace ho4 := hide ho4
                        refine wpAnyZ_reads 15 cE (by kernel_rfl) (by kernel_rfl) (by kernel_rfl) (by kernel_rfl) (fun d _ _ _ _ h => by cases d <;> exact h) (fun oi ho K hK => ?_)
                        simp only [List.getElem?_toArray, List.getElem?_cons_succ, List.getElem?_cons_zero, Option.some.injEq] at ho
                        subst ho
                        rw [if_pos (by kernel_rfl)]
                        refine ⟨.pointer (some ⟨W1.heap.size, 0, none⟩), fun w' hw' => ?_, hK _ ?_⟩
                        · clear hw'
                          go_simp
                        clear hK K
                        refine wpAnyZ_calls 16 (by kernel_rfl) (fun oi ho K hK => ?_)
                        simp only [List.getElem?_toArray, List.getElem?_cons_succ, List.getElem?_cons_zero, Option.some.injEq] at ho
                        subst ho

                        go_simp
                        refine hK _ _ (.inl rfl) ?_
                        clear hK K
                        refine wpAnyZ_done (by kernel_rfl) ?_ _
                        go_upto_region 19 with fail
                        have z8 := cE.1.set 0 (.slice (some ⟨g3, 0, none⟩) (0 + 1) cap3)
                        have d4 := c4.on b4 c4.lt
                        have z4 := d4.other ⟨W1.heap.size, 0, none⟩ (.slice (some ⟨g3, 0, none⟩) (0 + 1) cap3) (by simp only; omega)
                        have k80 := z8.one.1
                        obtain ⟨k40, k41⟩ := z4.one
                        have r1 := owns_set (owns_set (unhide ho4) ⟨W1.heap.size, 0, none⟩ (.slice (some ⟨g3, 0, none⟩) (0 + 1) cap3) l8) ⟨w.heap.size + 1 + 1, 0, none⟩ (.slice (some ⟨g3, 0, none⟩) (0 + 1) cap3) (by simp only; omega)
                        have b5 := (bV1.trans (b4.mono bV1.size)).setCell (p := ⟨W1.heap.size, 0, none⟩) (Nat.le_refl _) (.slice (some ⟨g3, 0, none⟩) (0 + 1) cap3)
                        have bz := ((bwV.trans (b4.mono bwV.size)).setCell (p := ⟨W1.heap.size, 0, none⟩) (by simp only; omega) (.slice (some ⟨g3, 0, none⟩) (0 + 1) cap3)).setCell (p := ⟨w.heap.size + 1 + 1, 0, none⟩) (by simp only; omega) (.slice (some ⟨g3, 0, none⟩) (0 + 1) cap3)
                        have hxl' : (xs.take 0 ++ [((t, []), none, 0)] ++ xs.drop 0).length = 0 + 1 := by simp [hxl] <;> omega
                        obtain ⟨a9, c9, e9, T9⟩ := typs_of_owns (xs := xs.take 0 ++ [((t, []), none, 0)] ++ xs.drop 0) (base' := Wa.heap.size) (by rw [hxl']; simpa [newsT, List.append_assoc] using r1) (fun x hx => by
                          refine owns_set (p := ⟨w.heap.size + 1 + 1, 0, none⟩) (u := .slice (some ⟨g3, 0, none⟩) (0 + 1) cap3) (hp := by simp only; omega) ?_
                          rcases List.mem_append.1 hx with hx | hx
                          · rcases List.mem_append.1 hx with hx | hx
                            · exact owns_below ((unhide hxs).2 x (List.mem_of_mem_take hx)) b5
                            · simp only [List.mem_singleton] at hx
                              subst hx
                              exact World.ownsRow_nil _ _ _ _
                          · exact owns_below ((unhide hxs).2 x (List.mem_of_mem_drop hx)) b5) (fun x hx => by
                          have h0 : ∀ x ∈ xs, x.1.2.length ≤ 5 := fun x hx => by
                            obtain ⟨i, hi, rfl⟩ := List.getElem_of_mem hx
                            have := hk5 i
                            rwa [show ty [] i = xs[i].1 by simp [ty, ← (unhide hxs).1, hi]] at this
                          rcases List.mem_append.1 hx with hx | hx
                          · rcases List.mem_append.1 hx with hx | hx
                            · exact Nat.le_trans (h0 x (List.mem_of_mem_take hx)) (by decide)
                            · simp only [List.mem_singleton] at hx
                              subst hx
                              exact Nat.zero_le _
                          · exact Nat.le_trans (h0 x (List.mem_of_mem_drop hx)) (by decide))
                        simp only [Value.slice.injEq] at e9
                        obtain ⟨rfl, -, -⟩ := e9
                        rw [List.map_append, List.map_append, List.map_take, List.map_drop, (unhide hxs).1] at T9
                        have hAl : A.length = 0 + 1 := by rw [unhide eA]; simp <;> omega
                        replace T9 := hide T9
                        replace r1 := hide r1
                        go_wp2_with fail
                        have u4 := (z4.set 0 (.slice (some ⟨g3, 0, none⟩) (0 + 1) cap3)).one.1
                        have fE : ∃ a' c', Ending.returned (.tuple #[.agg #[.slice (some ⟨g3, 0, none⟩) (0 + 1) cap3], .int .i64 0]) = Ending.returned (.tuple #[.agg #[.slice a' A.length c'], .int .i64 R]) ∧ Typs ((w3.setCell ⟨W1.heap.size, 0, none⟩ (.slice (some ⟨g3, 0, none⟩) (0 + 1) cap3)).setCell ⟨w.heap.size + 1 + 1, 0, none⟩ (.slice (some ⟨g3, 0, none⟩) (0 + 1) cap3)).heap.size ((w3.setCell ⟨W1.heap.size, 0, none⟩ (.slice (some ⟨g3, 0, none⟩) (0 + 1) cap3)).setCell ⟨w.heap.size + 1 + 1, 0, none⟩ (.slice (some ⟨g3, 0, none⟩) (0 + 1) cap3)) a' A ∧ Below w.heap.size w ((w3.setCell ⟨W1.heap.size, 0, none⟩ (.slice (some ⟨g3, 0, none⟩) (0 + 1) cap3)).setCell ⟨w.heap.size + 1 + 1, 0, none⟩ (.slice (some ⟨g3, 0, none⟩) (0 + 1) cap3)) :=
                          ⟨some ⟨g3, 0, none⟩, cap3, by rw [unhide eR, hAl], by rw [unhide eA]; exact unhide T9, bz⟩
                        exact bodyPost_ret (v := .tuple #[.agg #[.slice (some ⟨g3, 0, none⟩) (0 + 1) cap3], .int .i64 0]) (by simp [results, Tryz.results33, go_sem, u4]) rfl (by obtain ⟨a', c', h1, h2, h3⟩ := fE; first | exact ⟨a', ⟨c', h1⟩, h2, h3⟩ | exact ⟨a', c', h1, h2, h3⟩)
                      · simp only [List.getElem?_toArray, List.getElem?_cons_succ, List.getElem?_cons_zero, Option.some.injEq] at ho
                        subst ho
                        have bF : Below V.heap.size V (V.alloc (.cells #[.string t.1, .slice none 0 0] 69)) := (Below.refl _ _).alloc (Nat.le_refl _) _
                        go_simp
                        refine hK _ _ (.inr ⟨cD.1.on bF l8, cD.2.on bF l3⟩) ?_
                        clear hK K
                        obtain ⟨nb, hnb⟩ : ∃ nb, nb = V.heap.size := ⟨_, rfl⟩
                        have hnw0 := cell_two_new V (.string t.1) (.slice none 0 0) 69
                        rw [← hnb] at hnw0 ⊢
                        obtain ⟨w1, hw1'⟩ : ∃ w1, w1 = V.alloc (.cells #[.string t.1, .slice none 0 0] 69) := ⟨_, rfl⟩
                        have hs1 : V.heap.size ≤ w1.heap.size := by rw [hw1']; simp
                        have hnlt : nb < w1.heap.size := by rw [hw1', hnb]; simp
                        rw [← hw1'] at hnw0 bF ⊢
                        clear hw1'
                        refine wpAnyZ_calls 4 (by kernel_rfl) (fun oi ho K hK => ?_)
                        simp only [List.getElem?_toArray, List.getElem?_cons_succ, List.getElem?_cons_zero, Option.some.injEq] at ho
                        subst ho
                        refine step_lies w1 (by rfl) (.const (.slice none 0 0)) (.tmp 110) 22 (by rfl) V.heap.size 69 i0 (.agg #[.string ⟨#[]⟩, .slice none 0 0]) 2 40 Tryz.underlying22 hi0 hz0 hz1 hz2 (by rfl) (by decide) (.slice none 0 0) 0 [] ?q1 (World.ownsRow_nil _ _ _ _) none 0 0 (newsT (xs.take 0)) ?q2 ((unhide lP).on bF) (newsT_one _) (by unfold maxLen; omega) (by omega) hs1 ?_
                        case q1 => go_simp
                        case q2 => go_simp
                        intro v1 V2 ho2 hg1
                        rw [Nat.zero_add, List.nil_append] at ho2
                        have b1 : Below w1.heap.size w1 V2 := (Below.refl _ _).grown hg1 (Nat.le_refl _) (fun j e => by cases e)
                        have b2 := bF.trans (b1.mono bF.size)
                        have hnw : ∀ j u, [Value.string t.1, .slice none 0 0][j]? = some u → V2.cell? ((⟨nb, 0, none⟩ : Addr).add j) = some u := fun j u hu => (b1.cell (by rw [WideShapes.add_plain]; exact hnlt)).trans (hnw0 j u hu)
                        clear hg1 b1 bF hnw0 hnb hnlt hs1
                        refine hK _ _ (.inr ⟨cD.1.on b2 l8, cD.2.on b2 l3⟩) ?_
                        clear hK K
                        refine wpAnyZ_calls 9 (by kernel_rfl) (fun oi ho K hK => ?_)
                        simp only [List.getElem?_toArray, List.getElem?_cons_succ, List.getElem?_cons_zero, Option.some.injEq] at ho
                        subst ho
                        refine step_lies V2 (by rfl) (.tmp 111) (.tmp 115) 22 (by rfl) V.heap.size 69 i0 (.agg #[.string ⟨#[]⟩, .slice none 0 0]) 2 40 Tryz.underlying22 hi0 hz0 hz1 hz2 (by rfl) (by decide) v1 0 (newsT (xs.take 0)) ?q1 ho2 (some ⟨nb, 0, none⟩) 1 1 [.string t.1, .slice none 0 0] ?q2 ⟨rfl, .inl ⟨_, rfl, hnw⟩⟩ (by simp [Value.oneCell']) (by unfold maxLen; omega) (by omega) b2.size ?_
                        case q1 => go_simp
                        case q2 => go_simp
                        intro v2 w2 ho3 hg3
                        have b3 := b2.grown hg3 b2.size (fun j e => (owns_lt ho2 e).1)
                        refine hK _ _ (.inr ⟨cD.1.on b3 l8, cD.2.on b3 l3⟩) ?_
                        clear hK K hg3 ho2 hnw b2
                        refine wpAnyZ_calls 14 (by kernel_rfl) (fun oi ho K hK => ?_)
                        simp only [List.getElem?_toArray, List.getElem?_cons_succ, List.getElem?_cons_zero, Option.some.injEq] at ho
                        subst ho
                        refine step_lies w2 (by rfl) (.tmp 116) (.tmp 120) 22 (by rfl) V.heap.size 69 i0 (.agg #[.string ⟨#[]⟩, .slice none 0 0]) 2 40 Tryz.underlying22 hi0 hz0 hz1 hz2 (by rfl) (by decide) v2 (0 + 1) (newsT (xs.take 0) ++ [.string t.1, .slice none 0 0]) ?q1 ho3 none 0 0 (newsT (xs.drop 0)) ?q2 ((unhide lS).on b3) (newsT_one _) (by unfold maxLen; omega) (by omega) b3.size ?_
                        case q1 => go_simp
                        case q2 => go_simp
                        intro v3 w3 ho4 hg4
                        have b4 := b3.grown hg4 b3.size (fun j e => (owns_lt ho3 e).1)
                        have cE : Box w3 W1.heap.size 24 _ ∧ Box w3 (w.heap.size + 1) 42 _ := ⟨cD.1.on b4 l8, cD.2.on b4 l3⟩
                        refine hK _ _ (.inr cE) ?_
                        clear hK K hg4 ho3 b3
                        have hkf := cE.1.frz 0
                        have hk0 := cE.1.one.1
                        obtain ⟨g3, cap3, rfl⟩ : ∃ g3 cap3, v3 = .slice (some ⟨g3, 0, none⟩) (0 + 1) cap3 := by
                          rw [show 0 + 1 + (0 - 0) = 0 + 1 by omega] at ho4
                          exact ownsRow_succ ho4
                        rw [show 0 + 1 + (0 - 0) = 0 + 1 by omega] at ho4
                        replace ho4 := hide ho4
                        refine wpAnyZ_reads 15 cE (by kernel_rfl) (by kernel_rfl) (by kernel_rfl) (by kernel_rfl) (fun d _ _ _ _ h => by cases d <;> exact h) (fun oi ho K hK => ?_)
                        simp only [List.getElem?_toArray, List.getElem?_cons_succ, List.getElem?_cons_zero, Option.some.injEq] at ho
                        subst ho
                        rw [if_pos (by kernel_rfl)]
                        refine ⟨.pointer (some ⟨W1.heap.size, 0, none⟩), fun w' hw' => ?_, hK _ ?_⟩
                        · clear hw'
                          go_simp
                        clear hK K
                        refine wpAnyZ_calls 16 (by kernel_rfl) (fun oi ho K hK => ?_)
                        simp only [List.getElem?_toArray, List.getElem?_cons_succ, List.getElem?_cons_zero, Option.some.injEq] at ho
                        subst ho

                        go_simp
                        refine hK _ _ (.inl rfl) ?_
                        clear hK K
                        refine wpAnyZ_done (by kernel_rfl) ?_ _
                        go_upto_region 19 with fail
                        have z8 := cE.1.set 0 (.slice (some ⟨g3, 0, none⟩) (0 + 1) cap3)
                        have d4 := c4.on b4 c4.lt
                        have z4 := d4.other ⟨W1.heap.size, 0, none⟩ (.slice (some ⟨g3, 0, none⟩) (0 + 1) cap3) (by simp only; omega)
                        have k80 := z8.one.1
                        obtain ⟨k40, k41⟩ := z4.one
                        have r1 := owns_set (owns_set (unhide ho4) ⟨W1.heap.size, 0, none⟩ (.slice (some ⟨g3, 0, none⟩) (0 + 1) cap3) l8) ⟨w.heap.size + 1 + 1, 0, none⟩ (.slice (some ⟨g3, 0, none⟩) (0 + 1) cap3) (by simp only; omega)
                        have b5 := (bV1.trans (b4.mono bV1.size)).setCell (p := ⟨W1.heap.size, 0, none⟩) (Nat.le_refl _) (.slice (some ⟨g3, 0, none⟩) (0 + 1) cap3)
                        have bz := ((bwV.trans (b4.mono bwV.size)).setCell (p := ⟨W1.heap.size, 0, none⟩) (by simp only; omega) (.slice (some ⟨g3, 0, none⟩) (0 + 1) cap3)).setCell (p := ⟨w.heap.size + 1 + 1, 0, none⟩) (by simp only; omega) (.slice (some ⟨g3, 0, none⟩) (0 + 1) cap3)
                        have hxl' : (xs.take 0 ++ [((t, []), none, 0)] ++ xs.drop 0).length = 0 + 1 := by simp [hxl] <;> omega
                        obtain ⟨a9, c9, e9, T9⟩ := typs_of_owns (xs := xs.take 0 ++ [((t, []), none, 0)] ++ xs.drop 0) (base' := Wa.heap.size) (by rw [hxl']; simpa [newsT, List.append_assoc] using r1) (fun x hx => by
                          refine owns_set (p := ⟨w.heap.size + 1 + 1, 0, none⟩) (u := .slice (some ⟨g3, 0, none⟩) (0 + 1) cap3) (hp := by simp only; omega) ?_
                          rcases List.mem_append.1 hx with hx | hx
                          · rcases List.mem_append.1 hx with hx | hx
                            · exact owns_below ((unhide hxs).2 x (List.mem_of_mem_take hx)) b5
                            · simp only [List.mem_singleton] at hx
                              subst hx
                              exact World.ownsRow_nil _ _ _ _
                          · exact owns_below ((unhide hxs).2 x (List.mem_of_mem_drop hx)) b5) (fun x hx => by
                          have h0 : ∀ x ∈ xs, x.1.2.length ≤ 5 := fun x hx => by
                            obtain ⟨i, hi, rfl⟩ := List.getElem_of_mem hx
                            have := hk5 i
                            rwa [show ty [] i = xs[i].1 by simp [ty, ← (unhide hxs).1, hi]] at this
                          rcases List.mem_append.1 hx with hx | hx
                          · rcases List.mem_append.1 hx with hx | hx
                            · exact Nat.le_trans (h0 x (List.mem_of_mem_take hx)) (by decide)
                            · simp only [List.mem_singleton] at hx
                              subst hx
                              exact Nat.zero_le _
                          · exact Nat.le_trans (h0 x (List.mem_of_mem_drop hx)) (by decide))
                        simp only [Value.slice.injEq] at e9
                        obtain ⟨rfl, -, -⟩ := e9
                        rw [List.map_append, List.map_append, List.map_take, List.map_drop, (unhide hxs).1] at T9
                        have hAl : A.length = 0 + 1 := by rw [unhide eA]; simp <;> omega
                        replace T9 := hide T9
                        replace r1 := hide r1
                        go_wp2_with fail
                        have u4 := (z4.set 0 (.slice (some ⟨g3, 0, none⟩) (0 + 1) cap3)).one.1
                        have fE : ∃ a' c', Ending.returned (.tuple #[.agg #[.slice (some ⟨g3, 0, none⟩) (0 + 1) cap3], .int .i64 0]) = Ending.returned (.tuple #[.agg #[.slice a' A.length c'], .int .i64 R]) ∧ Typs ((w3.setCell ⟨W1.heap.size, 0, none⟩ (.slice (some ⟨g3, 0, none⟩) (0 + 1) cap3)).setCell ⟨w.heap.size + 1 + 1, 0, none⟩ (.slice (some ⟨g3, 0, none⟩) (0 + 1) cap3)).heap.size ((w3.setCell ⟨W1.heap.size, 0, none⟩ (.slice (some ⟨g3, 0, none⟩) (0 + 1) cap3)).setCell ⟨w.heap.size + 1 + 1, 0, none⟩ (.slice (some ⟨g3, 0, none⟩) (0 + 1) cap3)) a' A ∧ Below w.heap.size w ((w3.setCell ⟨W1.heap.size, 0, none⟩ (.slice (some ⟨g3, 0, none⟩) (0 + 1) cap3)).setCell ⟨w.heap.size + 1 + 1, 0, none⟩ (.slice (some ⟨g3, 0, none⟩) (0 + 1) cap3)) :=
                          ⟨some ⟨g3, 0, none⟩, cap3, by rw [unhide eR, hAl], by rw [unhide eA]; exact unhide T9, bz⟩
                        exact bodyPost_ret (v := .tuple #[.agg #[.slice (some ⟨g3, 0, none⟩) (0 + 1) cap3], .int .i64 0]) (by simp [results, Tryz.results33, go_sem, u4]) rfl (by obtain ⟨a', c', h1, h2, h3⟩ := fE; first | exact ⟨a', ⟨c', h1⟩, h2, h3⟩ | exact ⟨a', c', h1, h2, h3⟩)
                    · subst eb
                      obtain ⟨i0, hi0, hz0, hz1, hz2⟩ := info_parts infoTy
                      obtain ⟨V, hV⟩ : ∃ V, V = ({ heap := (wr.drewN nq).heap, tape := (wr.drewN nq).tape, drawn := (wr.drewN nq).drawn + 1, os := (wr.drewN nq).os, output := (wr.drewN nq).output } : World) := ⟨_, rfl⟩
                      have bV : Below wr.heap.size wr V := by rw [hV]; exact (below_dn (Below.refl _ _) nq).drew
                      have bV2 := hbq.trans (bV.mono hbq.size)
                      have bV1 : Below W1.heap.size W1 V := bW.trans (bV2.mono bW.size)
                      have bwV := bw2.trans (bV2.mono bw2.size)
                      have hsV := bV1.size

                      have hcv := hncv
                      have hw1 : IntKind.i64.wrap (ts.length : Int) = ts.length := by rw [IntKind.wrap_i64]; omega
                      obtain ⟨ad2, had2⟩ : ∃ ad2 : Addr, (if cv = ts.length then some (⟨b, 0, none⟩ : Addr) else some ⟨b, ts.length * 2, none⟩) = some ad2 ∧ (ad2 = ⟨b, ts.length * 2, none⟩ ∨ ts.length = ts.length) := by
                        by_cases h : cv = ts.length
                        · rw [if_pos h]; exact ⟨_, rfl, .inr (by omega)⟩
                        · rw [if_neg h]; exact ⟨_, rfl, .inl rfl⟩
                      have had2' := hide had2.1
                      have lS : Lies V (some ad2) (ts.length - ts.length) (cv - ts.length) 2 (newsT (xs.drop ts.length)) := by
                        refine ⟨by rw [newsT_len, List.length_drop, hxl], .inl ⟨ad2, rfl, fun j u hu => ?_⟩⟩
                        rcases had2.2 with rfl | h
                        · rw [newsT_drop, List.getElem?_drop] at hu
                          have hlt : ts.length * 2 + j < (newsT xs).length := (List.getElem?_eq_some_iff.1 hu).1
                          rw [newsT_len, hxl] at hlt
                          have := hcb (ts.length * 2 + j) hlt
                          rw [hu] at this
                          rw [WideShapes.add_plain]
                          exact ((bV1.cell (p := ⟨b, ts.length * 2 + j, none⟩) hbl0).trans this)
                        · rw [List.drop_of_length_le (by omega)] at hu; simp [newsT] at hu
                      have lP : Lies V (some ⟨b, 0, none⟩) ts.length cv 2 (newsT (xs.take ts.length)) := by
                        refine ⟨by rw [newsT_len, List.length_take, hxl]; congr 1; omega, .inl ⟨_, rfl, fun j u hu => ?_⟩⟩
                        rw [newsT_take, List.getElem?_take] at hu
                        split at hu
                        · have hlt : j < (newsT xs).length := (List.getElem?_eq_some_iff.1 hu).1
                          rw [newsT_len, hxl] at hlt
                          have := hcb j hlt
                          rw [hu] at this
                          rw [WideShapes.add_plain, Nat.zero_add]
                          exact ((bV1.cell (p := ⟨b, j, none⟩) hbl0).trans this)
                        · cases hu
                      replace lS := hide lS
                      replace lP := hide lP
                      clear had2 hcb

                      have cD : Box V W1.heap.size 24 #[.slice (some ⟨b, 0, none⟩) ts.length cv] ∧ Box V (w.heap.size + 1) 42 #[.int .i64 5, .string t.1, .string f.1, .string o.1, .int .i64 dk, .int .i64 dn, .string ds.1] := ⟨v8.on bV2 v8.lt, v3.on bV2 v3.lt⟩
                      have c4 := v4.on bV2 v4.lt
                      have l8 := cD.1.lt
                      have l3 := cD.2.lt
                      refine wp_region_any hmx (wpAny_of_Z (z := 16) (C := fun w' => Box w' W1.heap.size 24 #[.slice (some ⟨b, 0, none⟩) ts.length cv] ∧ Box w' (w.heap.size + 1) 42 #[.int .i64 5, .string t.1, .string f.1, .string o.1, .int .i64 dk, .int .i64 dn, .string ds.1]) _ _ _ _ ?_)
                      rw [← hV]
                      clear hV
                      refine wpAnyZ_reads 0 cD (by kernel_rfl) (by kernel_rfl) (by kernel_rfl) (by kernel_rfl) (fun d _ _ _ _ h => by cases d <;> exact h) (fun oi ho K hK => ?_)
                      simp only [List.getElem?_toArray, List.getElem?_cons_zero, Option.some.injEq] at ho
                      subst ho
                      rw [if_pos (by kernel_rfl)]
                      refine ⟨.pointer (some ⟨W1.heap.size, 0, none⟩), fun w' hw' => ?_, hK _ ?_⟩
                      · obtain ⟨hx8, hx3⟩ := hw'
                        have hx80 := hx8.one.1
                        have hx31 := hx3.seven.2.1
                        go_simp
                      clear hK K
                      refine wpAnyZ_reads 1 cD (by kernel_rfl) (by kernel_rfl) (by kernel_rfl) (by kernel_rfl) (fun d _ _ _ _ h => by cases d <;> exact h) (fun oi ho K hK => ?_)
                      simp only [List.getElem?_toArray, List.getElem?_cons_succ, List.getElem?_cons_zero, Option.some.injEq] at ho
                      subst ho
                      rw [if_pos (by kernel_rfl)]
                      refine ⟨.slice (some ⟨b, 0, none⟩) ts.length cv, fun w' hw' => ?_, hK _ ?_⟩
                      · obtain ⟨hx8, hx3⟩ := hw'
                        have hx80 := hx8.one.1
                        have hx31 := hx3.seven.2.1
                        go_simp
                      clear hK K
                      refine wpAnyZ_reads 2 cD (by kernel_rfl) (by kernel_rfl) (by kernel_rfl) (by kernel_rfl) (fun d _ _ _ _ h => by cases d <;> exact h) (fun oi ho K hK => ?_)
                      simp only [List.getElem?_toArray, List.getElem?_cons_succ, List.getElem?_cons_zero, Option.some.injEq] at ho
                      subst ho
                      rw [if_pos (by kernel_rfl)]
                      refine ⟨.int .i64 ts.length, fun w' hw' => ?_, hK _ ?_⟩
                      · obtain ⟨hx8, hx3⟩ := hw'
                        have hx80 := hx8.one.1
                        have hx31 := hx3.seven.2.1
                        go_simp
                      clear hK K
                      refine wpAnyZ_reads 3 cD (by kernel_rfl) (by kernel_rfl) (by kernel_rfl) (by kernel_rfl) (fun d _ _ _ _ h => by cases d <;> exact h) (fun oi ho K hK => ?_)
                      simp only [List.getElem?_toArray, List.getElem?_cons_succ, List.getElem?_cons_zero, Option.some.injEq] at ho
                      subst ho
                      rw [if_pos (by kernel_rfl)]
                      refine ⟨.slice (some ⟨b, 0, none⟩) ts.length cv, fun w' hw' => ?_, hK _ ?_⟩
                      · obtain ⟨hx8, hx3⟩ := hw'
                        have hx80 := hx8.one.1
                        have hx31 := hx3.seven.2.1
                        go_simp
                        try (intro h; omega)
                      clear hK K
                      refine wpAnyZ_reads 5 cD (by kernel_rfl) (by kernel_rfl) (by kernel_rfl) (by kernel_rfl) (fun d _ _ _ _ h => by cases d <;> exact h) (fun oi ho K hK => ?_)
                      simp only [List.getElem?_toArray, List.getElem?_cons_succ, List.getElem?_cons_zero, Option.some.injEq] at ho
                      subst ho
                      rw [if_pos (by kernel_rfl)]
                      refine ⟨.pointer (some ⟨w.heap.size + 1, 1, none⟩), fun w' hw' => ?_, hK _ ?_⟩
                      · obtain ⟨hx8, hx3⟩ := hw'
                        have hx80 := hx8.one.1
                        have hx31 := hx3.seven.2.1
                        go_simp
                      clear hK K
                      refine wpAnyZ_reads 6 cD (by kernel_rfl) (by kernel_rfl) (by kernel_rfl) (by kernel_rfl) (fun d _ _ _ _ h => by cases d <;> exact h) (fun oi ho K hK => ?_)
                      simp only [List.getElem?_toArray, List.getElem?_cons_succ, List.getElem?_cons_zero, Option.some.injEq] at ho
                      subst ho
                      rw [if_pos (by kernel_rfl)]
                      refine ⟨.string t.1, fun w' hw' => ?_, hK _ ?_⟩
                      · obtain ⟨hx8, hx3⟩ := hw'
                        have hx80 := hx8.one.1
                        have hx31 := hx3.seven.2.1
                        go_simp
                      clear hK K
                      refine wpAnyZ_reads 7 cD (by kernel_rfl) (by kernel_rfl) (by kernel_rfl) (by kernel_rfl) (fun d _ _ _ _ h => by cases d <;> exact h) (fun oi ho K hK => ?_)
                      simp only [List.getElem?_toArray, List.getElem?_cons_succ, List.getElem?_cons_zero, Option.some.injEq] at ho
                      subst ho
                      rw [if_pos (by kernel_rfl)]
                      refine ⟨.agg #[.string t.1, .slice none 0 0], fun w' hw' => ?_, hK _ ?_⟩
                      · obtain ⟨hx8, hx3⟩ := hw'
                        have hx80 := hx8.one.1
                        have hx31 := hx3.seven.2.1
                        go_simp
                      clear hK K
                      refine wpAnyZ_reads 10 cD (by kernel_rfl) (by kernel_rfl) (by kernel_rfl) (by kernel_rfl) (fun d _ _ _ _ h => by cases d <;> exact h) (fun oi ho K hK => ?_)
                      simp only [List.getElem?_toArray, List.getElem?_cons_succ, List.getElem?_cons_zero, Option.some.injEq] at ho
                      subst ho
                      rw [if_pos (by kernel_rfl)]
                      refine ⟨.pointer (some ⟨W1.heap.size, 0, none⟩), fun w' hw' => ?_, hK _ ?_⟩
                      · obtain ⟨hx8, hx3⟩ := hw'
                        have hx80 := hx8.one.1
                        have hx31 := hx3.seven.2.1
                        go_simp
                      clear hK K
                      refine wpAnyZ_reads 11 cD (by kernel_rfl) (by kernel_rfl) (by kernel_rfl) (by kernel_rfl) (fun d _ _ _ _ h => by cases d <;> exact h) (fun oi ho K hK => ?_)
                      simp only [List.getElem?_toArray, List.getElem?_cons_succ, List.getElem?_cons_zero, Option.some.injEq] at ho
                      subst ho
                      rw [if_pos (by kernel_rfl)]
                      refine ⟨.slice (some ⟨b, 0, none⟩) ts.length cv, fun w' hw' => ?_, hK _ ?_⟩
                      · obtain ⟨hx8, hx3⟩ := hw'
                        have hx80 := hx8.one.1
                        have hx31 := hx3.seven.2.1
                        go_simp
                      clear hK K
                      refine wpAnyZ_reads 12 cD (by kernel_rfl) (by kernel_rfl) (by kernel_rfl) (by kernel_rfl) (fun d _ _ _ _ h => by cases d <;> exact h) (fun oi ho K hK => ?_)
                      simp only [List.getElem?_toArray, List.getElem?_cons_succ, List.getElem?_cons_zero, Option.some.injEq] at ho
                      subst ho
                      rw [if_pos (by kernel_rfl)]
                      refine ⟨.int .i64 ts.length, fun w' hw' => ?_, hK _ ?_⟩
                      · obtain ⟨hx8, hx3⟩ := hw'
                        have hx80 := hx8.one.1
                        have hx31 := hx3.seven.2.1
                        go_simp
                      clear hK K
                      refine wpAnyZ_reads 13 cD (by kernel_rfl) (by kernel_rfl) (by kernel_rfl) (by kernel_rfl) (fun d _ _ _ _ h => by cases d <;> exact h) (fun oi ho K hK => ?_)
                      simp only [List.getElem?_toArray, List.getElem?_cons_succ, List.getElem?_cons_zero, Option.some.injEq] at ho
                      subst ho
                      rw [if_pos (by kernel_rfl)]
                      refine ⟨.slice (some ad2) (ts.length - ts.length) (cv - ts.length), fun w' hw' => ?_, hK _ ?_⟩
                      · obtain ⟨hx8, hx3⟩ := hw'
                        have hx80 := hx8.one.1
                        have hx31 := hx3.seven.2.1
                        go_simp
                        first | rw [unhide had2'] | rw [if_pos ⟨by omega, by omega⟩, unhide had2']
                      clear hK K

                      refine wpAnyZ_two 4 8 (by kernel_rfl) (fun oi ho K hK => ?_) (fun oi ho K hK => ?_)
                      · simp only [List.getElem?_toArray, List.getElem?_cons_succ, List.getElem?_cons_zero, Option.some.injEq] at ho
                        subst ho
                        refine step_lies V (by rfl) (.const (.slice none 0 0)) (.tmp 110) 22 (by rfl) V.heap.size 69 i0 (.agg #[.string ⟨#[]⟩, .slice none 0 0]) 2 40 Tryz.underlying22 hi0 hz0 hz1 hz2 (by rfl) (by decide) (.slice none 0 0) 0 [] ?q1 (World.ownsRow_nil _ _ _ _) (some ⟨b, 0, none⟩) ts.length cv (newsT (xs.take ts.length)) ?q2 (unhide lP) (newsT_one _) (by unfold maxLen; omega) (by omega) (Nat.le_refl _) ?_
                        case q1 => go_simp
                        case q2 => go_simp
                        intro v1 w1 ho1 hg1
                        rw [Nat.zero_add, List.nil_append] at ho1
                        have b1 : Below V.heap.size V w1 := (Below.refl _ _).grown hg1 (Nat.le_refl _) (fun j e => by cases e)
                        refine hK _ _ (.inr ⟨cD.1.on b1 l8, cD.2.on b1 l3⟩) ?_
                        clear hK K
                        have bF : Below w1.heap.size w1 (w1.alloc (.cells #[.string t.1, .slice none 0 0] 69)) := (Below.refl _ _).alloc (Nat.le_refl _) _
                        refine wpAnyZ_calls 8 (by kernel_rfl) (fun oi ho K hK => ?_)
                        simp only [List.getElem?_toArray, List.getElem?_cons_succ, List.getElem?_cons_zero, Option.some.injEq] at ho
                        subst ho
                        go_simp
                        obtain ⟨nb, hnb⟩ : ∃ nb, nb = w1.heap.size := ⟨_, rfl⟩
                        have hnw := cell_two_new w1 (.string t.1) (.slice none 0 0) 69
                        have b2 := b1.trans (bF.mono b1.size)
                        have ho2 := owns_below ho1 bF
                        rw [← hnb] at hnw ⊢
                        obtain ⟨V2, hV2⟩ : ∃ V2, V2 = w1.alloc (.cells #[.string t.1, .slice none 0 0] 69) := ⟨_, rfl⟩
                        rw [← hV2] at hnw b2 ho2 ⊢
                        clear ho1 hg1 hV2 bF b1 hnb
                        refine hK _ _ (.inr ⟨cD.1.on b2 l8, cD.2.on b2 l3⟩) ?_
                        clear hK K
                        refine wpAnyZ_calls 9 (by kernel_rfl) (fun oi ho K hK => ?_)
                        simp only [List.getElem?_toArray, List.getElem?_cons_succ, List.getElem?_cons_zero, Option.some.injEq] at ho
                        subst ho
                        refine step_lies V2 (by rfl) (.tmp 111) (.tmp 115) 22 (by rfl) V.heap.size 69 i0 (.agg #[.string ⟨#[]⟩, .slice none 0 0]) 2 40 Tryz.underlying22 hi0 hz0 hz1 hz2 (by rfl) (by decide) v1 ts.length (newsT (xs.take ts.length)) ?q1 ho2 (some ⟨nb, 0, none⟩) 1 1 [.string t.1, .slice none 0 0] ?q2 ⟨rfl, .inl ⟨_, rfl, hnw⟩⟩ (by simp [Value.oneCell']) (by unfold maxLen; omega) (by omega) b2.size ?_
                        case q1 => go_simp
                        case q2 => go_simp
                        intro v2 w2 ho3 hg3
                        have b3 := b2.grown hg3 b2.size (fun j e => (owns_lt ho2 e).1)
                        refine hK _ _ (.inr ⟨cD.1.on b3 l8, cD.2.on b3 l3⟩) ?_
                        clear hK K hg3 ho2 hnw b2
                        refine wpAnyZ_calls 14 (by kernel_rfl) (fun oi ho K hK => ?_)
                        simp only [List.getElem?_toArray, List.getElem?_cons_succ, List.getElem?_cons_zero, Option.some.injEq] at ho
                        subst ho
                        refine step_lies w2 (by rfl) (.tmp 116) (.tmp 120) 22 (by rfl) V.heap.size 69 i0 (.agg #[.string ⟨#[]⟩, .slice none 0 0]) 2 40 Tryz.underlying22 hi0 hz0 hz1 hz2 (by rfl) (by decide) v2 (ts.length + 1) (newsT (xs.take ts.length) ++ [.string t.1, .slice none 0 0]) ?q1 ho3 (some ad2) (ts.length - ts.length) (cv - ts.length) (newsT (xs.drop ts.length)) ?q2 ((unhide lS).on b3) (newsT_one _) (by unfold maxLen; omega) (by omega) b3.size ?_
                        case q1 => go_simp
                        case q2 => go_simp
                        intro v3 w3 ho4 hg4
                        have b4 := b3.grown hg4 b3.size (fun j e => (owns_lt ho3 e).1)
                        have cE : Box w3 W1.heap.size 24 _ ∧ Box w3 (w.heap.size + 1) 42 _ := ⟨cD.1.on b4 l8, cD.2.on b4 l3⟩
                        refine hK _ _ (.inr cE) ?_
                        clear hK K hg4 ho3 b3
                        have hkf := cE.1.frz 0
                        have hk0 := cE.1.one.1
                        obtain ⟨g3, cap3, rfl⟩ : ∃ g3 cap3, v3 = .slice (some ⟨g3, 0, none⟩) (ts.length + 1) cap3 := by
                          rw [show ts.length + 1 + (ts.length - ts.length) = ts.length + 1 by omega] at ho4
                          exact ownsRow_succ ho4
                        rw [show ts.length + 1 + (ts.length - ts.length) = ts.length + 1 by omega] at ho4
                        replace ho4 := hide ho4
                        refine wpAnyZ_reads 15 cE (by kernel_rfl) (by kernel_rfl) (by kernel_rfl) (by kernel_rfl) (fun d _ _ _ _ h => by cases d <;> exact h) (fun oi ho K hK => ?_)
                        simp only [List.getElem?_toArray, List.getElem?_cons_succ, List.getElem?_cons_zero, Option.some.injEq] at ho
                        subst ho
                        rw [if_pos (by kernel_rfl)]
                        refine ⟨.pointer (some ⟨W1.heap.size, 0, none⟩), fun w' hw' => ?_, hK _ ?_⟩
                        · clear hw'
                          go_simp
                        clear hK K
                        refine wpAnyZ_calls 16 (by kernel_rfl) (fun oi ho K hK => ?_)
                        simp only [List.getElem?_toArray, List.getElem?_cons_succ, List.getElem?_cons_zero, Option.some.injEq] at ho
                        subst ho

                        go_simp
                        refine hK _ _ (.inl rfl) ?_
                        clear hK K
                        refine wpAnyZ_done (by kernel_rfl) ?_ _
                        go_upto_region 19 with fail
                        have z8 := cE.1.set 0 (.slice (some ⟨g3, 0, none⟩) (ts.length + 1) cap3)
                        have d4 := c4.on b4 c4.lt
                        have z4 := d4.other ⟨W1.heap.size, 0, none⟩ (.slice (some ⟨g3, 0, none⟩) (ts.length + 1) cap3) (by simp only; omega)
                        have k80 := z8.one.1
                        obtain ⟨k40, k41⟩ := z4.one
                        have r1 := owns_set (owns_set (unhide ho4) ⟨W1.heap.size, 0, none⟩ (.slice (some ⟨g3, 0, none⟩) (ts.length + 1) cap3) l8) ⟨w.heap.size + 1 + 1, 0, none⟩ (.slice (some ⟨g3, 0, none⟩) (ts.length + 1) cap3) (by simp only; omega)
                        have b5 := (bV1.trans (b4.mono bV1.size)).setCell (p := ⟨W1.heap.size, 0, none⟩) (Nat.le_refl _) (.slice (some ⟨g3, 0, none⟩) (ts.length + 1) cap3)
                        have bz := ((bwV.trans (b4.mono bwV.size)).setCell (p := ⟨W1.heap.size, 0, none⟩) (by simp only; omega) (.slice (some ⟨g3, 0, none⟩) (ts.length + 1) cap3)).setCell (p := ⟨w.heap.size + 1 + 1, 0, none⟩) (by simp only; omega) (.slice (some ⟨g3, 0, none⟩) (ts.length + 1) cap3)
                        have hxl' : (xs.take ts.length ++ [((t, []), none, 0)] ++ xs.drop ts.length).length = ts.length + 1 := by simp [hxl] <;> omega
                        obtain ⟨a9, c9, e9, T9⟩ := typs_of_owns (xs := xs.take ts.length ++ [((t, []), none, 0)] ++ xs.drop ts.length) (base' := Wa.heap.size) (by rw [hxl']; simpa [newsT, List.append_assoc] using r1) (fun x hx => by
                          refine owns_set (p := ⟨w.heap.size + 1 + 1, 0, none⟩) (u := .slice (some ⟨g3, 0, none⟩) (ts.length + 1) cap3) (hp := by simp only; omega) ?_
                          rcases List.mem_append.1 hx with hx | hx
                          · rcases List.mem_append.1 hx with hx | hx
                            · exact owns_below ((unhide hxs).2 x (List.mem_of_mem_take hx)) b5
                            · simp only [List.mem_singleton] at hx
                              subst hx
                              exact World.ownsRow_nil _ _ _ _
                          · exact owns_below ((unhide hxs).2 x (List.mem_of_mem_drop hx)) b5) (fun x hx => by
                          have h0 : ∀ x ∈ xs, x.1.2.length ≤ 5 := fun x hx => by
                            obtain ⟨i, hi, rfl⟩ := List.getElem_of_mem hx
                            have := hk5 i
                            rwa [show ty ts i = xs[i].1 by simp [ty, ← (unhide hxs).1, hi]] at this
                          rcases List.mem_append.1 hx with hx | hx
                          · rcases List.mem_append.1 hx with hx | hx
                            · exact Nat.le_trans (h0 x (List.mem_of_mem_take hx)) (by decide)
                            · simp only [List.mem_singleton] at hx
                              subst hx
                              exact Nat.zero_le _
                          · exact Nat.le_trans (h0 x (List.mem_of_mem_drop hx)) (by decide))
                        simp only [Value.slice.injEq] at e9
                        obtain ⟨rfl, -, -⟩ := e9
                        rw [List.map_append, List.map_append, List.map_take, List.map_drop, (unhide hxs).1] at T9
                        have hAl : A.length = ts.length + 1 := by rw [unhide eA]; simp <;> omega
                        replace T9 := hide T9
                        replace r1 := hide r1
                        go_wp2_with fail
                        have u4 := (z4.set 0 (.slice (some ⟨g3, 0, none⟩) (ts.length + 1) cap3)).one.1
                        have fE : ∃ a' c', Ending.returned (.tuple #[.agg #[.slice (some ⟨g3, 0, none⟩) (ts.length + 1) cap3], .int .i64 0]) = Ending.returned (.tuple #[.agg #[.slice a' A.length c'], .int .i64 R]) ∧ Typs ((w3.setCell ⟨W1.heap.size, 0, none⟩ (.slice (some ⟨g3, 0, none⟩) (ts.length + 1) cap3)).setCell ⟨w.heap.size + 1 + 1, 0, none⟩ (.slice (some ⟨g3, 0, none⟩) (ts.length + 1) cap3)).heap.size ((w3.setCell ⟨W1.heap.size, 0, none⟩ (.slice (some ⟨g3, 0, none⟩) (ts.length + 1) cap3)).setCell ⟨w.heap.size + 1 + 1, 0, none⟩ (.slice (some ⟨g3, 0, none⟩) (ts.length + 1) cap3)) a' A ∧ Below w.heap.size w ((w3.setCell ⟨W1.heap.size, 0, none⟩ (.slice (some ⟨g3, 0, none⟩) (ts.length + 1) cap3)).setCell ⟨w.heap.size + 1 + 1, 0, none⟩ (.slice (some ⟨g3, 0, none⟩) (ts.length + 1) cap3)) :=
                          ⟨some ⟨g3, 0, none⟩, cap3, by rw [unhide eR, hAl], by rw [unhide eA]; exact unhide T9, bz⟩
                        exact bodyPost_ret (v := .tuple #[.agg #[.slice (some ⟨g3, 0, none⟩) (ts.length + 1) cap3], .int .i64 0]) (by simp [results, Tryz.results33, go_sem, u4]) rfl (by obtain ⟨a', c', h1, h2, h3⟩ := fE; first | exact ⟨a', ⟨c', h1⟩, h2, h3⟩ | exact ⟨a', c', h1, h2, h3⟩)
                      · simp only [List.getElem?_toArray, List.getElem?_cons_succ, List.getElem?_cons_zero, Option.some.injEq] at ho
                        subst ho
                        have bF : Below V.heap.size V (V.alloc (.cells #[.string t.1, .slice none 0 0] 69)) := (Below.refl _ _).alloc (Nat.le_refl _) _
                        go_simp
                        refine hK _ _ (.inr ⟨cD.1.on bF l8, cD.2.on bF l3⟩) ?_
                        clear hK K
                        obtain ⟨nb, hnb⟩ : ∃ nb, nb = V.heap.size := ⟨_, rfl⟩
                        have hnw0 := cell_two_new V (.string t.1) (.slice none 0 0) 69
                        rw [← hnb] at hnw0 ⊢
                        obtain ⟨w1, hw1'⟩ : ∃ w1, w1 = V.alloc (.cells #[.string t.1, .slice none 0 0] 69) := ⟨_, rfl⟩
                        have hs1 : V.heap.size ≤ w1.heap.size := by rw [hw1']; simp
                        have hnlt : nb < w1.heap.size := by rw [hw1', hnb]; simp
                        rw [← hw1'] at hnw0 bF ⊢
                        clear hw1'
                        refine wpAnyZ_calls 4 (by kernel_rfl) (fun oi ho K hK => ?_)
                        simp only [List.getElem?_toArray, List.getElem?_cons_succ, List.getElem?_cons_zero, Option.some.injEq] at ho
                        subst ho
                        refine step_lies w1 (by rfl) (.const (.slice none 0 0)) (.tmp 110) 22 (by rfl) V.heap.size 69 i0 (.agg #[.string ⟨#[]⟩, .slice none 0 0]) 2 40 Tryz.underlying22 hi0 hz0 hz1 hz2 (by rfl) (by decide) (.slice none 0 0) 0 [] ?q1 (World.ownsRow_nil _ _ _ _) (some ⟨b, 0, none⟩) ts.length cv (newsT (xs.take ts.length)) ?q2 ((unhide lP).on bF) (newsT_one _) (by unfold maxLen; omega) (by omega) hs1 ?_
                        case q1 => go_simp
                        case q2 => go_simp
                        intro v1 V2 ho2 hg1
                        rw [Nat.zero_add, List.nil_append] at ho2
                        have b1 : Below w1.heap.size w1 V2 := (Below.refl _ _).grown hg1 (Nat.le_refl _) (fun j e => by cases e)
                        have b2 := bF.trans (b1.mono bF.size)
                        have hnw : ∀ j u, [Value.string t.1, .slice none 0 0][j]? = some u → V2.cell? ((⟨nb, 0, none⟩ : Addr).add j) = some u := fun j u hu => (b1.cell (by rw [WideShapes.add_plain]; exact hnlt)).trans (hnw0 j u hu)
                        clear hg1 b1 bF hnw0 hnb hnlt hs1
                        refine hK _ _ (.inr ⟨cD.1.on b2 l8, cD.2.on b2 l3⟩) ?_
                        clear hK K
                        refine wpAnyZ_calls 9 (by kernel_rfl) (fun oi ho K hK => ?_)
                        simp only [List.getElem?_toArray, List.getElem?_cons_succ, List.getElem?_cons_zero, Option.some.injEq] at ho
                        subst ho
                        refine step_lies V2 (by rfl) (.tmp 111) (.tmp 115) 22 (by rfl) V.heap.size 69 i0 (.agg #[.string ⟨#[]⟩, .slice none 0 0]) 2 40 Tryz.underlying22 hi0 hz0 hz1 hz2 (by rfl) (by decide) v1 ts.length (newsT (xs.take ts.length)) ?q1 ho2 (some ⟨nb, 0, none⟩) 1 1 [.string t.1, .slice none 0 0] ?q2 ⟨rfl, .inl ⟨_, rfl, hnw⟩⟩ (by simp [Value.oneCell']) (by unfold maxLen; omega) (by omega) b2.size ?_
                        case q1 => go_simp
                        case q2 => go_simp
                        intro v2 w2 ho3 hg3
                        have b3 := b2.grown hg3 b2.size (fun j e => (owns_lt ho2 e).1)
                        refine hK _ _ (.inr ⟨cD.1.on b3 l8, cD.2.on b3 l3⟩) ?_
                        clear hK K hg3 ho2 hnw b2
                        refine wpAnyZ_calls 14 (by kernel_rfl) (fun oi ho K hK => ?_)
                        simp only [List.getElem?_toArray, List.getElem?_cons_succ, List.getElem?_cons_zero, Option.some.injEq] at ho
                        subst ho
                        refine step_lies w2 (by rfl) (.tmp 116) (.tmp 120) 22 (by rfl) V.heap.size 69 i0 (.agg #[.string ⟨#[]⟩, .slice none 0 0]) 2 40 Tryz.underlying22 hi0 hz0 hz1 hz2 (by rfl) (by decide) v2 (ts.length + 1) (newsT (xs.take ts.length) ++ [.string t.1, .slice none 0 0]) ?q1 ho3 (some ad2) (ts.length - ts.length) (cv - ts.length) (newsT (xs.drop ts.length)) ?q2 ((unhide lS).on b3) (newsT_one _) (by unfold maxLen; omega) (by omega) b3.size ?_
                        case q1 => go_simp
                        case q2 => go_simp
                        intro v3 w3 ho4 hg4
                        have b4 := b3.grown hg4 b3.size (fun j e => (owns_lt ho3 e).1)
                        have cE : Box w3 W1.heap.size 24 _ ∧ Box w3 (w.heap.size + 1) 42 _ := ⟨cD.1.on b4 l8, cD.2.on b4 l3⟩
                        refine hK _ _ (.inr cE) ?_
                        clear hK K hg4 ho3 b3
                        have hkf := cE.1.frz 0
                        have hk0 := cE.1.one.1
                        obtain ⟨g3, cap3, rfl⟩ : ∃ g3 cap3, v3 = .slice (some ⟨g3, 0, none⟩) (ts.length + 1) cap3 := by
                          rw [show ts.length + 1 + (ts.length - ts.length) = ts.length + 1 by omega] at ho4
                          exact ownsRow_succ ho4
                        rw [show ts.length + 1 + (ts.length - ts.length) = ts.length + 1 by omega] at ho4
                        replace ho4 := hide ho4
                        refine wpAnyZ_reads 15 cE (by kernel_rfl) (by kernel_rfl) (by kernel_rfl) (by kernel_rfl) (fun d _ _ _ _ h => by cases d <;> exact h) (fun oi ho K hK => ?_)
                        simp only [List.getElem?_toArray, List.getElem?_cons_succ, List.getElem?_cons_zero, Option.some.injEq] at ho
                        subst ho
                        rw [if_pos (by kernel_rfl)]
                        refine ⟨.pointer (some ⟨W1.heap.size, 0, none⟩), fun w' hw' => ?_, hK _ ?_⟩
                        · clear hw'
                          go_simp
                        clear hK K
                        refine wpAnyZ_calls 16 (by kernel_rfl) (fun oi ho K hK => ?_)
                        simp only [List.getElem?_toArray, List.getElem?_cons_succ, List.getElem?_cons_zero, Option.some.injEq] at ho
                        subst ho

                        go_simp
                        refine hK _ _ (.inl rfl) ?_
                        clear hK K
                        refine wpAnyZ_done (by kernel_rfl) ?_ _
                        go_upto_region 19 with fail
                        have z8 := cE.1.set 0 (.slice (some ⟨g3, 0, none⟩) (ts.length + 1) cap3)
                        have d4 := c4.on b4 c4.lt
                        have z4 := d4.other ⟨W1.heap.size, 0, none⟩ (.slice (some ⟨g3, 0, none⟩) (ts.length + 1) cap3) (by simp only; omega)
                        have k80 := z8.one.1
                        obtain ⟨k40, k41⟩ := z4.one
                        have r1 := owns_set (owns_set (unhide ho4) ⟨W1.heap.size, 0, none⟩ (.slice (some ⟨g3, 0, none⟩) (ts.length + 1) cap3) l8) ⟨w.heap.size + 1 + 1, 0, none⟩ (.slice (some ⟨g3, 0, none⟩) (ts.length + 1) cap3) (by simp only; omega)
                        have b5 := (bV1.trans (b4.mono bV1.size)).setCell (p := ⟨W1.heap.size, 0, none⟩) (Nat.le_refl _) (.slice (some ⟨g3, 0, none⟩) (ts.length + 1) cap3)
                        have bz := ((bwV.trans (b4.mono bwV.size)).setCell (p := ⟨W1.heap.size, 0, none⟩) (by simp only; omega) (.slice (some ⟨g3, 0, none⟩) (ts.length + 1) cap3)).setCell (p := ⟨w.heap.size + 1 + 1, 0, none⟩) (by simp only; omega) (.slice (some ⟨g3, 0, none⟩) (ts.length + 1) cap3)
                        have hxl' : (xs.take ts.length ++ [((t, []), none, 0)] ++ xs.drop ts.length).length = ts.length + 1 := by simp [hxl] <;> omega
                        obtain ⟨a9, c9, e9, T9⟩ := typs_of_owns (xs := xs.take ts.length ++ [((t, []), none, 0)] ++ xs.drop ts.length) (base' := Wa.heap.size) (by rw [hxl']; simpa [newsT, List.append_assoc] using r1) (fun x hx => by
                          refine owns_set (p := ⟨w.heap.size + 1 + 1, 0, none⟩) (u := .slice (some ⟨g3, 0, none⟩) (ts.length + 1) cap3) (hp := by simp only; omega) ?_
                          rcases List.mem_append.1 hx with hx | hx
                          · rcases List.mem_append.1 hx with hx | hx
                            · exact owns_below ((unhide hxs).2 x (List.mem_of_mem_take hx)) b5
                            · simp only [List.mem_singleton] at hx
                              subst hx
                              exact World.ownsRow_nil _ _ _ _
                          · exact owns_below ((unhide hxs).2 x (List.mem_of_mem_drop hx)) b5) (fun x hx => by
                          have h0 : ∀ x ∈ xs, x.1.2.length ≤ 5 := fun x hx => by
                            obtain ⟨i, hi, rfl⟩ := List.getElem_of_mem hx
                            have := hk5 i
                            rwa [show ty ts i = xs[i].1 by simp [ty, ← (unhide hxs).1, hi]] at this
                          rcases List.mem_append.1 hx with hx | hx
                          · rcases List.mem_append.1 hx with hx | hx
                            · exact Nat.le_trans (h0 x (List.mem_of_mem_take hx)) (by decide)
                            · simp only [List.mem_singleton] at hx
                              subst hx
                              exact Nat.zero_le _
                          · exact Nat.le_trans (h0 x (List.mem_of_mem_drop hx)) (by decide))
                        simp only [Value.slice.injEq] at e9
                        obtain ⟨rfl, -, -⟩ := e9
                        rw [List.map_append, List.map_append, List.map_take, List.map_drop, (unhide hxs).1] at T9
                        have hAl : A.length = ts.length + 1 := by rw [unhide eA]; simp <;> omega
                        replace T9 := hide T9
                        replace r1 := hide r1
                        go_wp2_with fail
                        have u4 := (z4.set 0 (.slice (some ⟨g3, 0, none⟩) (ts.length + 1) cap3)).one.1
                        have fE : ∃ a' c', Ending.returned (.tuple #[.agg #[.slice (some ⟨g3, 0, none⟩) (ts.length + 1) cap3], .int .i64 0]) = Ending.returned (.tuple #[.agg #[.slice a' A.length c'], .int .i64 R]) ∧ Typs ((w3.setCell ⟨W1.heap.size, 0, none⟩ (.slice (some ⟨g3, 0, none⟩) (ts.length + 1) cap3)).setCell ⟨w.heap.size + 1 + 1, 0, none⟩ (.slice (some ⟨g3, 0, none⟩) (ts.length + 1) cap3)).heap.size ((w3.setCell ⟨W1.heap.size, 0, none⟩ (.slice (some ⟨g3, 0, none⟩) (ts.length + 1) cap3)).setCell ⟨w.heap.size + 1 + 1, 0, none⟩ (.slice (some ⟨g3, 0, none⟩) (ts.length + 1) cap3)) a' A ∧ Below w.heap.size w ((w3.setCell ⟨W1.heap.size, 0, none⟩ (.slice (some ⟨g3, 0, none⟩) (ts.length + 1) cap3)).setCell ⟨w.heap.size + 1 + 1, 0, none⟩ (.slice (some ⟨g3, 0, none⟩) (ts.length + 1) cap3)) :=
                          ⟨some ⟨g3, 0, none⟩, cap3, by rw [unhide eR, hAl], by rw [unhide eA]; exact unhide T9, bz⟩
                        exact bodyPost_ret (v := .tuple #[.agg #[.slice (some ⟨g3, 0, none⟩) (ts.length + 1) cap3], .int .i64 0]) (by simp [results, Tryz.results33, go_sem, u4]) rfl (by obtain ⟨a', c', h1, h2, h3⟩ := fE; first | exact ⟨a', ⟨c', h1⟩, h2, h3⟩ | exact ⟨a', c', h1, h2, h3⟩)

end Go.Proofs.YtcjpaldijngnpaaGreatDoor

namespace Go.Proofs.YtcjpaldijngnpaaGreatDoor
open Go.RowKit Go.Shelf

set_option maxRecDepth 100000 in
set_option maxHeartbeats 8000000 in
theorem refApply_0 (a : Option Addr) (cap : Nat) (ts : List Ty) (k : Int) (t f o : Txt) (dk dn : Int) (ds : Txt) (hkk : k < 1 ∨ 5 < k) (hS : Sch ts) (w : World) (hT : Typs w.heap.size w a ts) :
    Calls Tryz.prog 33 #[.agg #[.slice a ts.length cap], (⟨k, t, f, o, dk, dn, ds⟩ : Ch).v] w fun e w' => ∃ a' c', e = .returned (.tuple #[.agg #[.slice a' (appT ts ⟨k, t, f, o, dk, dn, ds⟩).length c'], .int .i64 (refE ts ⟨k, t, f, o, dk, dn, ds⟩)]) ∧ Typs w'.heap.size w' a' (appT ts ⟨k, t, f, o, dk, dn, ds⟩) ∧ Below w.heap.size w w' := by
  have h5 := hS.1
  have hk5 : ∀ k, (ty ts k).2.length ≤ 5 := fun k => by
    by_cases hk : k < ts.length
    · exact (hS.2 k hk).2.2.1
    · simp only [ty, List.getElem?_eq_none (Nat.le_of_not_lt hk), Option.getD_none]
      exact Nat.zero_le _
  obtain ⟨W0, hW0⟩ : ∃ W0, W0 = ((w.alloc (.cells #[.slice a ts.length cap] 24)).alloc (.cells #[.int .i64 k, .string t.1, .string f.1, .string o.1, .int .i64 dk, .int .i64 dn, .string ds.1] 42)).alloc (.cells #[.slice none 0 0] 24) := ⟨_, rfl⟩
  have e0 : W0.heap.size = w.heap.size + 3 := by rw [hW0]; simp
  have b0 : Below w.heap.size w W0 := by rw [hW0]; exact (((Below.refl _ _).alloc (Nat.le_refl _) _).alloc (by simp) _).alloc (by simp; omega) _
  have x2 : Box W0 w.heap.size 24 #[.slice a ts.length cap] := by
    rw [hW0]; exact ((Box.new w 24 #[.slice a ts.length cap]).alloc _).alloc _
  have x3 : Box W0 (w.heap.size + 1) 42 #[.int .i64 k, .string t.1, .string f.1, .string o.1, .int .i64 dk, .int .i64 dn, .string ds.1] := by
    have := Box.new (w.alloc (.cells #[.slice a ts.length cap] 24)) 42 #[.int .i64 k, .string t.1, .string f.1, .string o.1, .int .i64 dk, .int .i64 dn, .string ds.1]
    simp only [World.size_alloc] at this
    rw [hW0]; exact this.alloc _
  have x4 : Box W0 (w.heap.size + 1 + 1) 24 #[.slice none 0 0] := by
    have := Box.new ((w.alloc (.cells #[.slice a ts.length cap] 24)).alloc (.cells #[.int .i64 k, .string t.1, .string f.1, .string o.1, .int .i64 dk, .int .i64 dn, .string ds.1] 42)) 24 #[.slice none 0 0]
    simp only [World.size_alloc] at this
    rw [hW0]; exact this
  have T0 := hT.on b0
  have hW0' := hide hW0
  clear hW0
  obtain ⟨R, hR⟩ : ∃ R, R = refE ts ⟨k, t, f, o, dk, dn, ds⟩ := ⟨_, rfl⟩
  obtain ⟨A, hA⟩ : ∃ A, A = appT ts ⟨k, t, f, o, dk, dn, ds⟩ := ⟨_, rfl⟩
  rw [← hR, ← hA]
  replace hR := hide hR
  replace hA := hide hA
  obtain ⟨FB, hFB⟩ : ∃ FB, FB = formedB ⟨k, t, f, o, dk, dn, ds⟩ := ⟨_, rfl⟩
  have hf0 : FB = false := by rw [hFB]; simp [formedB, bareB, show k ≠ 1 by omega, show k ≠ 2 by omega, show k ≠ 3 by omega, show k ≠ 4 by omega, show k ≠ 5 by omega]
  have hFB' := hide hFB
  clear hFB
  go_enter Tryz.func33, Tryz.ntmps33
  go_upto_region 1 with fail
  rw [← unhide hW0']
  obtain ⟨hc0, hc1, hc2, hc3, hc4, hc5, hc6⟩ := x3.seven
  go_cut [57] (fun g wx => g = .bool (!FB) ∧ wx = W0)
  case first =>
    clear x2 x4 T0 b0 hT hS
    have cN : Hid (∀ W, Calls Tryz.prog 25 #[.string t.1] W fun e w' => e = .returned (.bool (nameB t.1)) ∧ w' = W) := fun W => refName_c t.1 W t.2
    by_cases hk1 : k < 1
    · have hf : FB = false := by rw [unhide hFB']; simp [formedB, bareB, show k ≠ 1 by omega, show k ≠ 2 by omega, show k ≠ 3 by omega, show k ≠ 4 by omega, show k ≠ 5 by omega]
      subst hf
      go_wp2_with fail
      go_meet
      case rel => exact ⟨rfl, rfl⟩
    by_cases hk5 : 5 < k
    · have hf : FB = false := by rw [unhide hFB']; simp [formedB, bareB, show k ≠ 1 by omega, show k ≠ 2 by omega, show k ≠ 3 by omega, show k ≠ 4 by omega, show k ≠ 5 by omega]
      subst hf
      go_wp2_with fail
      go_meet
      case rel => exact ⟨rfl, rfl⟩
    exfalso
    omega
  case rest =>
    obtain ⟨rfl, rfl⟩ := hcut
    -- an error: the schema as it was
    have ret := hide (show ∀ (n : Int), refE ts ⟨k, t, f, o, dk, dn, ds⟩ = n → n ≠ 0 → A = ts ∧ R = n from fun n h h0 => by rw [unhide hA, unhide hR]; simp [appT, h, h0])
    cases FB with
    | false =>
      have hr : refE ts ⟨k, t, f, o, dk, dn, ds⟩ = 10 := by simp [refE, ← unhide hFB']
      obtain ⟨eA, eR⟩ := unhide ret 10 hr (by decide)
      clear hr ret hA hR
      replace eA := hide eA
      replace eR := hide eR
      have hs := x2.one.1
      obtain ⟨hp0, hp1⟩ := x4.one
      go_wp2_with fail
      have u4 := (x4.set 0 (.slice a ts.length cap)).one.1
      have bb := b0.setCell (p := ⟨w.heap.size + 1 + 1, 0, none⟩) (by simp only; omega) (.slice a ts.length cap)
      exact bodyPost_ret (v := .tuple #[.agg #[.slice a ts.length cap], .int .i64 10]) (by simp [results, Tryz.results33, go_sem, u4]) rfl ⟨a, ⟨cap, by rw [unhide eA, unhide eR]⟩, by rw [unhide eA]; exact (hT.below bb).mono bb.size, bb⟩
    | true => cases hf0

theorem refApply_c (a : Option Addr) (cap : Nat) (ts : List Ty) (c : Ch) (hS : Sch ts) (w : World) (hT : Typs w.heap.size w a ts) :
    Calls Tryz.prog 33 #[.agg #[.slice a ts.length cap], c.v] w fun e w' => ∃ a' c', e = .returned (.tuple #[.agg #[.slice a' (appT ts c).length c'], .int .i64 (refE ts c)]) ∧ Typs w'.heap.size w' a' (appT ts c) ∧ Below w.heap.size w w' := by
  obtain ⟨k, t, f, o, dk, dn, ds⟩ := c
  by_cases h : k < 1 ∨ 5 < k
  · exact refApply_0 a cap ts k t f o dk dn ds h hS w hT
  · have hk : k = 1 ∨ k = 2 ∨ k = 3 ∨ k = 4 ∨ k = 5 := by omega
    rcases hk with rfl | rfl | rfl | rfl | rfl
    · exact refApply_1 a cap ts t f o dk dn ds hS w hT
    · exact refApply_2 a cap ts t f o dk dn ds hS w hT
    · exact refApply_3 a cap ts t f o dk dn ds hS w hT
    · exact refApply_4 a cap ts t f o dk dn ds hS w hT
    · exact refApply_5 a cap ts t f o dk dn ds hS w hT

end Go.Proofs.YtcjpaldijngnpaaGreatDoor
