/-
  What the document's Apply answers to a change of kind 1 (package pasternref1, layer 4): the same as the program's; for every schema that may be and every change, in whatever world; nothing that lay is turned.
  What the document's Apply answers to a change of kind 2 (package pasternref1, layer 4): the same as the program's; for every schema that may be and every change, in whatever world; nothing that lay is turned.
  What the document's Apply answers to a change of kind 3 (package pasternref1, layer 4): the same as the program's; for every schema that may be and every change, in whatever world; nothing that lay is turned.
  What the document's Apply answers to a change of kind 4 (package pasternref1, layer 4): the same as the program's; for every schema that may be and every change, in whatever world; nothing that lay is turned.
-/
import Derived.Test.YtcjpaldijngnpaaGreatDoorCp
namespace Go.Proofs.YtcjpaldijngnpaaGreatDoor
open Go.RowKit Go.Shelf

set_option maxRecDepth 100000 in
set_option maxHeartbeats 8000000 in
theorem refApply_1 (a : Option Addr) (cap : Nat) (ts : List Ty) (t f o : Txt) (dk dn : Int) (ds : Txt) (hS : Sch ts) (w : World) (hT : Typs w.heap.size w a ts) :
    Calls Tryz.prog 33 #[.agg #[.slice a ts.length cap], (⟨1, t, f, o, dk, dn, ds⟩ : Ch).v] w fun e w' => ∃ a' c', e = .returned (.tuple #[.agg #[.slice a' (appT ts ⟨1, t, f, o, dk, dn, ds⟩).length c'], .int .i64 (refE ts ⟨1, t, f, o, dk, dn, ds⟩)]) ∧ Typs w'.heap.size w' a' (appT ts ⟨1, t, f, o, dk, dn, ds⟩) ∧ Below w.heap.size w w' := by
  have h5 := hS.1
  have hk5 : ∀ k, (ty ts k).2.length ≤ 5 := fun k => by
    by_cases hk : k < ts.length
    · exact (hS.2 k hk).2.2.1
    · simp only [ty, List.getElem?_eq_none (Nat.le_of_not_lt hk), Option.getD_none]
      exact Nat.zero_le _
  obtain ⟨W0, hW0⟩ : ∃ W0, W0 = ((w.alloc (.cells #[.slice a ts.length cap] 24)).alloc (.cells #[.int .i64 1, .string t.1, .string f.1, .string o.1, .int .i64 dk, .int .i64 dn, .string ds.1] 42)).alloc (.cells #[.slice none 0 0] 24) := ⟨_, rfl⟩
  have e0 : W0.heap.size = w.heap.size + 3 := by rw [hW0]; simp
  have b0 : Below w.heap.size w W0 := by rw [hW0]; exact (((Below.refl _ _).alloc (Nat.le_refl _) _).alloc (by simp) _).alloc (by simp; omega) _
  have x2 : Box W0 w.heap.size 24 #[.slice a ts.length cap] := by
    rw [hW0]; exact ((Box.new w 24 #[.slice a ts.length cap]).alloc _).alloc _
  have x3 : Box W0 (w.heap.size + 1) 42 #[.int .i64 1, .string t.1, .string f.1, .string o.1, .int .i64 dk, .int .i64 dn, .string ds.1] := by
    have := Box.new (w.alloc (.cells #[.slice a ts.length cap] 24)) 42 #[.int .i64 1, .string t.1, .string f.1, .string o.1, .int .i64 dk, .int .i64 dn, .string ds.1]
    simp only [World.size_alloc] at this
    rw [hW0]; exact this.alloc _
  have x4 : Box W0 (w.heap.size + 1 + 1) 24 #[.slice none 0 0] := by
    have := Box.new ((w.alloc (.cells #[.slice a ts.length cap] 24)).alloc (.cells #[.int .i64 1, .string t.1, .string f.1, .string o.1, .int .i64 dk, .int .i64 dn, .string ds.1] 42)) 24 #[.slice none 0 0]
    simp only [World.size_alloc] at this
    rw [hW0]; exact this
  have T0 := hT.on b0
  have hW0' := hide hW0
  clear hW0
  obtain ⟨R, hR⟩ : ∃ R, R = refE ts ⟨1, t, f, o, dk, dn, ds⟩ := ⟨_, rfl⟩
  obtain ⟨A, hA⟩ : ∃ A, A = appT ts ⟨1, t, f, o, dk, dn, ds⟩ := ⟨_, rfl⟩
  rw [← hR, ← hA]
  replace hR := hide hR
  replace hA := hide hA
  obtain ⟨FB, hFB⟩ : ∃ FB, FB = formedB ⟨1, t, f, o, dk, dn, ds⟩ := ⟨_, rfl⟩
  have hFB' := hide hFB
  clear hFB
  go_enter Tryz.func33, Tryz.ntmps33
  go_upto_region 1 with fail
  rw [← unhide hW0']
  obtain ⟨hc0, hc1, hc2, hc3, hc4, hc5, hc6⟩ := x3.seven
  go_cut [57] (fun g wx => g = .bool (!FB) ∧ wx = W0)
  case first =>
    clear x2 x4 T0 b0 hT hS
    have cN : Hid (∀ W, Calls Tryz.prog 25 #[.string t.1] W fun e w' => e = .returned (.bool (nameB t.1)) ∧ w' = W) := fun W => refName_c t.1 W t.2
    cases hN : nameB t.1
    · have hf : FB = false := by rw [unhide hFB']; simp [formedB, hN]
      subst hf
      rw [hN] at cN
      go_wp2_with fail
      refine (unhide cN _).mono ?_
      rintro e w1 ⟨rfl, rfl⟩
      go_wp2_with fail
      go_meet
      case rel => exact ⟨rfl, rfl⟩
    · rw [hN] at cN
      obtain ⟨d0, hd0⟩ : ∃ d0, (dk == 0) = d0 := ⟨_, rfl⟩
      obtain ⟨d1, hd1⟩ : ∃ d1, (dn == 0) = d1 := ⟨_, rfl⟩
      all_goals cases d0
      all_goals cases d1
      all_goals
        go_wp2_with fail
        refine (unhide cN _).mono ?_
        rintro e w1 ⟨rfl, rfl⟩
        go_wp2_with fail
      all_goals
        go_meet
        case rel =>
          refine ⟨?_, rfl⟩
          rw [unhide hFB']
          simp_all [formedB, bareB, noT]
  case rest =>
    obtain ⟨rfl, rfl⟩ := hcut
    -- an error: the schema as it was
    have ret := hide (show ∀ (n : Int), refE ts ⟨1, t, f, o, dk, dn, ds⟩ = n → n ≠ 0 → A = ts ∧ R = n from fun n h h0 => by rw [unhide hA, unhide hR]; simp [appT, h, h0])
    cases FB with
    | false =>
      have hr : refE ts ⟨1, t, f, o, dk, dn, ds⟩ = 10 := by simp [refE, ← unhide hFB']
      obtain ⟨eA, eR⟩ := unhide ret 10 hr (by decide)
      clear hr ret hA hR
      replace eA := hide eA
      replace eR := hide eR
      have hs := x2.one.1
      obtain ⟨hp0, hp1⟩ := x4.one
      go_wp2_with fail
      have u4 := (x4.set 0 (.slice a ts.length cap)).one.1
      have bb := b0.setCell (p := ⟨w.heap.size + 1 + 1, 0, none⟩) (by simp only; omega) (.slice a ts.length cap)
      exact bodyPost_ret (v := .tuple #[.agg #[.slice a ts.length cap], .int .i64 10]) (by simp [results, Tryz.results33, go_sem, u4]) rfl ⟨a, cap, by rw [unhide eA, unhide eR], by rw [unhide eA]; exact (hT.below bb).mono bb.size, bb⟩
    | true =>
      have hs0 := hide (Below.refl wc.heap.size wc)
      have hs := x2.one.1
      go_wp2_with fail
      go_loopw [6, 7] (fun p i wr => ∃ q : Nat, q ≤ ts.length ∧ p = .int .i64 (placeI ((tnames ts).take q) t.1) ∧ i = .int .i64 q ∧ Below wc.heap.size wc wr) (fun _ i _ => ts.length - (intOf i).toNat)
      case atStart => exact ⟨0, Nat.zero_le _, rfl, rfl, unhide hs0⟩
      case round =>
        obtain ⟨q, hq, rfl, rfl, hbw⟩ := hrel
        clear hs
        have y2 := x2.on hbw x2.lt
        have hs := y2.one.1
        have hc1' := (x3.on hbw x3.lt).seven.2.1
        by_cases hlt : q < ts.length
        · obtain ⟨b, off, ha, hcn, a1, c1, hcf, -⟩ := (T0.on hbw).at q hlt
          subst ha
          have htk : (tnames ts).take (q + 1) = (tnames ts).take q ++ [(ty ts q).1] := by
            rw [List.take_succ_eq_append_getElem (by rw [tnames_len]; exact hlt)]; simp [tnames, ty, hlt]
          cases hx : eqT t.1 (ty ts q).1
          · have hx' : ((ty ts q).1.1.toList == t.1.toList) = false := hx
            have hsucc := hide (show placeI ((tnames ts).take (q + 1)) t.1 = placeI ((tnames ts).take q) t.1 by
              unfold placeI placeN
              rw [htk, List.findIdx?_append]
              cases List.findIdx? (eqT t.1) ((tnames ts).take q) <;> simp [List.findIdx?_cons, hx])
            clear hx htk
            go_wp2_with fail
            go_quiet (fail)
            go_wp2_with fail
            exact ⟨⟨q + 1, by omega, by rw [unhide hsucc], by go_num, below_dn hbw _⟩, by simp [intOf]; omega⟩
          · have hx' : ((ty ts q).1.1.toList == t.1.toList) = true := hx
            have hsucc := hide (show placeI ((tnames ts).take (q + 1)) t.1 = q by
              have hno : List.findIdx? (eqT t.1) ((tnames ts).take q) = none := by
                rw [List.findIdx?_eq_none_iff]
                intro y hy
                cases hy' : eqT t.1 y
                · rfl
                · exfalso
                  obtain ⟨i, hi, rfl⟩ := List.getElem_of_mem hy
                  simp only [List.length_take, tnames_len] at hi
                  have hp := ((sch_iff ts).1 hS).2.2
                  rw [List.pairwise_iff_getElem] at hp
                  have h1 := hp i q (by omega) hlt (by omega)
                  rw [eqT_iff] at hy' hx
                  simp only [tnames, List.getElem_take, List.getElem_map] at hy'
                  rw [hy', ← hx, show ty ts q = ts[q] by simp [ty, hlt]] at h1
                  exact List.lt_irrefl _ h1
              unfold placeI placeN
              rw [htk, List.findIdx?_append, hno]
              simp [List.findIdx?_cons, hx, tnames_len]
              omega)
            clear hx htk
            go_wp2_with fail
            go_quiet (fail)
            go_wp2_with fail
            exact ⟨⟨q + 1, by omega, by rw [unhide hsucc], by go_num, below_dn hbw _⟩, by simp [intOf]; omega⟩
        · have hqe : q = ts.length := by omega
          have hpl : placeI ((tnames ts).take q) t.1 = placeI (tnames ts) t.1 := by rw [hqe, ← tnames_len ts, List.take_length]
          rw [hpl]
          obtain ⟨P, hP⟩ : ∃ P, P = placeI (tnames ts) t.1 := ⟨_, rfl⟩
          rw [← hP]
          replace hP := hide hP
          clear hpl
          subst hqe
          go_wp2_with fail
          have T1 := T0.on hbw
          have bw := b0.trans (hbw.mono (by omega))
          have z3 := x3.on hbw x3.lt
          have z4 := x4.on hbw x4.lt
          clear hs hc1'
          refine (copied_c a cap ts h5 hk5 _ T1).mono ?_
          rintro e W1 ⟨v, xs, rfl, hxs, hO, hb1, hap⟩
          replace hap := hide hap
          have y2' := y2.on hb1 y2.lt
          have z3' := z3.on hb1 z3.lt
          have z4' := z4.on hb1 z4.lt
          have bw1 := bw.trans (hb1.mono bw.size)
          obtain ⟨hd0, hd1, hd2, hd3, hd4, hd5, hd6⟩ := z3'.seven
          have hs := y2'.one.1
          have hxl : xs.length = ts.length := by rw [← hxs.1, List.length_map]
          obtain ⟨av, cv, rfl⟩ : ∃ av cv, v = .slice av ts.length cv := by
            rcases hO.2 with ⟨rfl, h0⟩ | ⟨g, cap', cur, rfl, -⟩
            · exact ⟨none, 0, by rw [← hxl, h0]⟩
            · exact ⟨_, _, by rw [hxl]⟩
          obtain ⟨W2, hW2⟩ : ∃ W2, W2 = W1.alloc (.cells #[.slice av ts.length cv] 24) := ⟨_, rfl⟩
          have bW : Below W1.heap.size W1 W2 := by rw [hW2]; exact (Below.refl _ _).alloc (Nat.le_refl _) _
          have eW : W2.heap.size = W1.heap.size + 1 := by rw [hW2]; simp
          have v8 : Box W2 W1.heap.size 24 #[.slice av ts.length cv] := by rw [hW2]; exact Box.new W1 24 #[.slice av ts.length cv]
          replace hW2 := hide hW2
          go_upto_region 10 with fail
          rw [← unhide hW2]
          clear hd0 hd1 hd2 hd3 hd4 hd5 hd6 hs
          have v2 := y2'.on bW y2'.lt
          have v3 := z3'.on bW z3'.lt
          have v4 := z4'.on bW z4'.lt
          have bw2 := bw1.trans (bW.mono bw1.size)
          obtain ⟨hd0, hd1, hd2, hd3, hd4, hd5, hd6⟩ := v3.seven
          have hs := v2.one.1
          obtain ⟨hp0, hp1⟩ := v4.one
          have u4 := (v4.set 0 (.slice a ts.length cap)).one.1
          have bb := bw2.setCell (p := ⟨w.heap.size + 1 + 1, 0, none⟩) (by simp only; omega) (.slice a ts.length cap)
          have fin := hide (show ∀ n, A = ts → R = n → ∃ a' c', Ending.returned (.tuple #[.agg #[.slice a ts.length cap], .int .i64 n]) = Ending.returned (.tuple #[.agg #[.slice a' A.length c'], .int .i64 R]) ∧ Typs (W2.setCell ⟨w.heap.size + 1 + 1, 0, none⟩ (.slice a ts.length cap)).heap.size (W2.setCell ⟨w.heap.size + 1 + 1, 0, none⟩ (.slice a ts.length cap)) a' A ∧ Below w.heap.size w (W2.setCell ⟨w.heap.size + 1 + 1, 0, none⟩ (.slice a ts.length cap)) from
            fun n eA eR => ⟨a, cap, by rw [eA, eR], by rw [eA]; exact (hT.below bb).mono bb.size, bb⟩)
          have hk : (1 : Int) ≠ 5 := by decide
          by_cases hP0 : 0 ≤ P
          · obtain ⟨j, hPj, hpn, hj⟩ : ∃ j : Nat, P = j ∧ placeN (tnames ts) t.1 = some j ∧ j < ts.length := by
              have hp := unhide hP
              unfold placeI at hp
              cases hpn : placeN (tnames ts) t.1 with
              | none => rw [hpn] at hp; simp only at hp; omega
              | some j =>
                rw [hpn] at hp
                refine ⟨j, hp, rfl, ?_⟩
                have h1 := (List.findIdx?_eq_some_iff_getElem.1 hpn).1
                rwa [tnames_len] at h1
            subst hPj
            have hpn' := hide hpn
            clear hpn
            have hO' := hO
            rw [hxl] at hO'
            obtain ⟨b, eb, hbb, hbl, -⟩ := owns_cells hO' (by omega)
            subst eb
            have hwr : w.heap.size + 3 ≤ wr.heap.size := by have := hbw.size; omega
            have hC2 := hide ((Cp.mk hxs.1 hO' hxs.2 (unhide hap)).on bW)
            obtain ⟨a1, c1, hx0, hcn, hcf, hfz, hOF⟩ := (unhide hC2).at hj
            replace hx0 := hide hx0
            replace hOF := hide hOF
            obtain ⟨_, _, e1, hF, -⟩ := flds_of_owns (unhide hOF)
            cases e1
            clear hfz hO' hO hxs
            have hv8 := v8.one.1
            go_upto_region 23 with fail
            obtain ⟨W3, hW3⟩ : ∃ W3, W3 = W2.alloc (.cells #[.string (ty ts j).1.1, .slice a1 (ty ts j).2.length c1] 69) := ⟨_, rfl⟩
            have bW3 : Below W2.heap.size W2 W3 := by rw [hW3]; exact (Below.refl _ _).alloc (Nat.le_refl _) _
            have v10 : Box W3 (W1.heap.size + 1) 69 #[.string (ty ts j).1.1, .slice a1 (ty ts j).2.length c1] := by rw [hW3, ← eW]; exact Box.new W2 69 #[.string (ty ts j).1.1, .slice a1 (ty ts j).2.length c1]
            rw [← hW3]
            replace hW3 := hide hW3
            clear hd0 hd1 hd2 hd3 hd4 hd5 hd6 hs hp0 hp1 hv8 hcn hcf u4 fin
            have F3 := hF.on bW3
            have hc5f := hk5 j
            obtain ⟨hd0, hd1, hd2, hd3, hd4, hd5, hd6⟩ := (v3.on bW3 v3.lt).seven
            obtain ⟨ht0, ht1⟩ := v10.two
            go_wp2_with fail
            refine (refField_c _ f.1 a1 c1 (ty ts j).2 hc5f W3 F3).mono ?_
            rintro e W4 ⟨rfl, hb4⟩
            clear hd0 hd1 hd2 hd3 hd4 hd5 hd6 ht0 ht1
            have bW4 := bW3.trans (hb4.mono bW3.size)
            have q2 := v2.on bW4 v2.lt
            have q3 := v3.on bW4 v3.lt
            have q4 := v4.on bW4 v4.lt
            have q8 := v8.on bW4 v8.lt
            have q10 := v10.on hb4 v10.lt
            have F4 := F3.on hb4
            have bw4 := bw2.trans (bW4.mono bw2.size)
            obtain ⟨hd0, hd1, hd2, hd3, hd4, hd5, hd6⟩ := q3.seven
            have hs := q2.one.1
            obtain ⟨hp0, hp1⟩ := q4.one
            have u4 := (q4.set 0 (.slice a ts.length cap)).one.1
            have fin := hide (show ∀ (W : World) (n : Int), Below w.heap.size w W → A = ts ∧ R = n → ∃ a' c', Ending.returned (.tuple #[.agg #[.slice a ts.length cap], .int .i64 n]) = Ending.returned (.tuple #[.agg #[.slice a' A.length c'], .int .i64 R]) ∧ Typs (W.setCell ⟨w.heap.size + 1 + 1, 0, none⟩ (.slice a ts.length cap)).heap.size (W.setCell ⟨w.heap.size + 1 + 1, 0, none⟩ (.slice a ts.length cap)) a' A ∧ Below w.heap.size w (W.setCell ⟨w.heap.size + 1 + 1, 0, none⟩ (.slice a ts.length cap)) from by
              rintro W n bW ⟨eA, eR⟩
              have bb := bW.setCell (p := ⟨w.heap.size + 1 + 1, 0, none⟩) (by simp only; omega) (.slice a ts.length cap)
              exact ⟨a, cap, by rw [eA, eR], by rw [eA]; exact (hT.below bb).mono bb.size, bb⟩)
            obtain ⟨Fp, hFp⟩ : ∃ Fp, Fp = placeI (fnames (ty ts j).2) f.1 := ⟨_, rfl⟩
            rw [← hFp]
            replace hFp := hide hFp
            go_upto_region 25 with fail
            clear hk
            -- a field more
            obtain ⟨E, hE⟩ : ∃ E, E = addE (ty ts j).2 ⟨1, t, f, o, dk, dn, ds⟩ := ⟨_, rfl⟩
            have cA : Calls Tryz.prog 66 #[.agg #[.string (ty ts j).1.1, .slice a1 (ty ts j).2.length c1], (⟨1, t, f, o, dk, dn, ds⟩ : Ch).v, .int .i64 Fp] W4 fun e w' => e = .returned (.int .i64 E) ∧ Below W4.heap.size W4 w' := by
              rw [unhide hFp, hE]; exact refAdd_c (ty ts j).1.1 a1 c1 (ty ts j).2 ⟨1, t, f, o, dk, dn, ds⟩ hc5f W4
            have hr : refE ts ⟨1, t, f, o, dk, dn, ds⟩ = E := by simp [refE, ← unhide hFB', unhide hpn', hE]
            replace hr := hide hr
            replace hE := hide hE
            replace cA := hide cA
            obtain ⟨ht0, ht1⟩ := q10.two
            go_wp2_with fail
            refine (unhide cA).mono ?_
            rintro e W5 ⟨rfl, hb5⟩
            clear cA hd0 hd1 hd2 hd3 hd4 hd5 hd6 hs hp0 hp1 u4 ht0 ht1
            by_cases hE0 : E = 0
            · subst hE0
              have hl5 : (ty ts j).2.length < 5 := by
                have h := unhide hE
                unfold addE at h
                split at h
                · split at h
                  · cases h
                  · split at h
                    · cases h
                    · omega
                · cases h
              have eA := hide (show A = ts.set j ((ty ts j).1, (ty ts j).2 ++ [(f, dk)]) by
                rw [unhide hA, app_set hS (unhide hr) (by simp) (unhide hpn'), fNew_one (place_key (unhide hpn')).2 rfl])
              have eR := hide (show R = 0 from (unhide hR).trans (unhide hr))
              clear hr hE ret fin hA hR
              have b5 := bw4.trans (hb5.mono bw4.size)
              have hC5 := hide (((unhide hC2).on bW4).on hb5)
              have q8' := q8.on hb5 q8.lt
              have q4' := q4.on hb5 q4.lt
              have q10' := q10.on hb5 q10.lt
              have q3' := q3.on hb5 q3.lt
              have OF5 := owns_below (owns_below (unhide hOF) bW4) hb5
              obtain ⟨j0, hj0, hy0, hy1, hy2⟩ := info_parts infoFd
              obtain ⟨hd0, hd1, hd2, hd3, hd4, hd5, hd6⟩ := q3'.seven
              obtain ⟨ht0, ht1⟩ := q10'.two
              have hs5 := hb5.size
              have hs4 := bW4.size
              have hszW := hb1.size
              have hbsz : wr.heap.size ≤ W5.heap.size := by omega
              replace OF5 := hide OF5
              have nv : ∀ q, some q = (Value.slice a1 (ty ts j).2.length c1).ownBlock → ∃ cur, W5.heap[q]? = some (.cells cur 66 (0, 0)) := fun q hq => (owns_lt (unhide OF5) hq.symm).2
              have n10 : some (W1.heap.size + 1) ≠ (Value.slice a1 (ty ts j).2.length c1).ownBlock := fun e => by obtain ⟨cur, h⟩ := nv _ e; exact box_ne q10' h (by decide) rfl
              have n8 : some W1.heap.size ≠ (Value.slice a1 (ty ts j).2.length c1).ownBlock := fun e => by obtain ⟨cur, h⟩ := nv _ e; exact box_ne q8' h (by decide) rfl
              have n4 : some (w.heap.size + 1 + 1) ≠ (Value.slice a1 (ty ts j).2.length c1).ownBlock := fun e => by obtain ⟨cur, h⟩ := nv _ e; exact box_ne q4' h (by decide) rfl
              have nb : some b ≠ (Value.slice a1 (ty ts j).2.length c1).ownBlock := fun e => by obtain ⟨cur, h⟩ := nv _ e; exact box_ne (B := b) (t := 69) (owns_lt (unhide hC5).row rfl).2.choose_spec h (by decide) rfl
              have lo : ∀ q, (Value.slice a1 (ty ts j).2.length c1).ownBlock = some q → wr.heap.size ≤ q := fun q hq => (owns_lt (unhide OF5) hq).1
              have l10 := q10'.lt
              have l8 := q8'.lt
              have l4 := q4'.lt
              replace nv := hide nv
              replace n10 := hide n10
              replace n8 := hide n8
              replace n4 := hide n4
              replace nb := hide nb
              replace lo := hide lo
              go_upto_region 48 with (at_builtin; go_must (refine wpList_append_own _ rfl _ _ 67 rfl wr.heap.size 66 j0 (.agg #[.string ⟨#[]⟩, .int .i64 0]) 2 24 Tryz.underlying67 hj0 hy0 hy1 hy2 rfl (by decide) (.slice a1 (ty ts j).2.length c1) (ty ts j).2.length (newsF (ty ts j).2) rfl (owns_below (unhide OF5) ((Below.refl _ _).alloc (Nat.le_refl _) (.cells #[.string f.1, .int .i64 dk] 66))) ⟨W5.heap.size, 0, none⟩ 1 1 [.string f.1, .int .i64 dk] rfl rfl (cell_two_new _ _ _ _) (by simp [Value.oneCell']) (by unfold maxLen; omega) (by omega) (by simp; omega) ?_); intro v' w2 hown hgrow _; obtain ⟨g2, cap2, rfl⟩ := ownsRow_succ hown; have y10 : Box w2 (W1.heap.size + 1) 69 #[.string (ty ts j).1.1, .slice a1 (ty ts j).2.length c1] := (hgrow.block _ (by simp; omega) (unhide n10)).trans (q10'.alloc _); obtain ⟨hk0, hk1⟩ := y10.two; have hkf := y10.frz 1; replace hown := hide hown; replace hgrow := hide hgrow)
              replace hown := unhide hown
              replace hgrow := unhide hgrow
              obtain ⟨fs', hfs'⟩ : ∃ fs', fs' = (ty ts j).2 ++ [(f, dk)] := ⟨_, rfl⟩
              have hl6 : (ty ts j).2.length + 1 = fs'.length := by rw [hfs']; simp
              have hf6 := hide (show fs'.length ≤ 6 by omega)
              have hn6 : newsF (ty ts j).2 ++ [.string f.1, .int .i64 dk] = newsF fs' := by rw [hfs', newsF_append]; rfl
              rw [hn6, hl6] at hown
              rw [hl6]
              rw [← hfs'] at eA
              have y8 : Box w2 W1.heap.size 24 _ := (hgrow.block _ (by simp; omega) (unhide n8)).trans (q8'.alloc _)
              have y4 : Box w2 (w.heap.size + 1 + 1) 24 _ := (hgrow.block _ (by simp; omega) (unhide n4)).trans (q4'.alloc _)
              have r8 := y8.other ⟨W1.heap.size + 1, 1, none⟩ (.slice (some ⟨g2, 0, none⟩) fs'.length cap2) (by simp only; omega)
              have r4 := y4.other ⟨W1.heap.size + 1, 1, none⟩ (.slice (some ⟨g2, 0, none⟩) fs'.length cap2) (by simp only; omega)
              have r10 : Box (w2.setCell ⟨W1.heap.size + 1, 1, none⟩ (.slice (some ⟨g2, 0, none⟩) fs'.length cap2)) (W1.heap.size + 1) 69 #[.string (ty ts j).1.1, .slice (some ⟨g2, 0, none⟩) fs'.length cap2] := y10.set 1 _
              have b6 := (((b5.alloc (by omega) (.cells #[.string f.1, .int .i64 dk] 66)).grown hgrow (by simp; omega) (fun q e => Nat.le_trans (by omega) (unhide lo q e))).setCell (p := ⟨W1.heap.size + 1, 1, none⟩) (by simp only; omega) (.slice (some ⟨g2, 0, none⟩) fs'.length cap2))
              have own6 := set_other (i := 1) hown y10 (by decide) (.slice (some ⟨g2, 0, none⟩) fs'.length cap2)
              have sm : ∀ q, q < W5.heap.size → some q ≠ (Value.slice a1 (ty ts j).2.length c1).ownBlock → q ≠ W1.heap.size + 1 → (w2.setCell ⟨W1.heap.size + 1, 1, none⟩ (.slice (some ⟨g2, 0, none⟩) fs'.length cap2)).heap[q]? = W5.heap[q]? := fun q hq hn hne => (setCell_block _ _ _ (by simp only; omega)).trans ((hgrow.block q (by simp; omega) hn).trans (Below.heap_alloc _ _ _ hq))
              have hs6 : ∀ q, q < W5.heap.size → some q ≠ (Value.slice a1 (ty ts j).2.length c1).ownBlock → (∀ cs, ¬ (W5.heap[q]? = some (.cells cs 69 (0, 0)) ∧ q ≠ b)) → (w2.setCell ⟨W1.heap.size + 1, 1, none⟩ (.slice (some ⟨g2, 0, none⟩) fs'.length cap2)).heap[q]? = W5.heap[q]? := fun q hq hn hc => sm q hq hn (fun e => by subst e; exact hc _ ⟨q10', by omega⟩)
              have cb6 : (w2.setCell ⟨W1.heap.size + 1, 1, none⟩ (.slice (some ⟨g2, 0, none⟩) fs'.length cap2)).cell? ⟨b, j * 2, none⟩ = some (.string (ty ts j).1.1) ∧ (w2.setCell ⟨W1.heap.size + 1, 1, none⟩ (.slice (some ⟨g2, 0, none⟩) fs'.length cap2)).cell? ⟨b, j * 2 + 1, none⟩ = some (.slice a1 (ty ts j).2.length c1) := by
                obtain ⟨_, _, ⟨_, hz⟩, z1, z2, _, _⟩ := (unhide hC5).at hj
                obtain ⟨_, hz'⟩ := unhide hx0
                rw [hz'] at hz
                cases hz
                exact ⟨(World.cell?_of_block (a := ⟨b, j * 2, none⟩) (sm b (by omega) (unhide nb) (by omega))).trans z1, (World.cell?_of_block (a := ⟨b, j * 2 + 1, none⟩) (sm b (by omega) (unhide nb) (by omega))).trans z2⟩
              have fz6 : ∀ i, (w2.setCell ⟨W1.heap.size + 1, 1, none⟩ (.slice (some ⟨g2, 0, none⟩) fs'.length cap2)).frozen? ⟨b, i, none⟩ = false := fun i => by
                obtain ⟨_, _, _, _, _, z, _⟩ := (unhide hC5).at hj
                exact (World.frozen?_of_block (a := ⟨b, i, none⟩) (sm b (by omega) (unhide nb) (by omega))).trans (z i)
              obtain ⟨W6, hW6⟩ : ∃ W6, W6 = w2.setCell ⟨W1.heap.size + 1, 1, none⟩ (.slice (some ⟨g2, 0, none⟩) fs'.length cap2) := ⟨_, rfl⟩
              rw [← hW6] at r8 r4 r10 b6 own6 hs6 cb6 fz6 ⊢
              replace own6 := hide own6
              replace hs6 := hide hs6
              replace cb6 := hide cb6
              replace fz6 := hide fz6
              clear hW6 hl6 hfs' hn6 hown hgrow sm y8 y4 y10 hk0 hk1 hkf

              have fin6 := hide (Cp.final (unhide hC5) hj (unhide hx0) (unhide hs6) (unhide own6) hk5 (unhide hf6) (S := w.heap.size + 1 + 1) (by omega) (.slice (some ⟨b, 0, none⟩) ts.length cv))
              obtain ⟨w80, w81⟩ := r8.one
              obtain ⟨wt0, wt1⟩ := r10.two
              obtain ⟨wb0, wb1⟩ := unhide cb6
              have wf0 := unhide fz6 (j * 2)
              have wf1 := unhide fz6 (j * 2 + 1)
              clear hd0 hd1 hd2 hd3 hd4 hd5 hd6 ht0 ht1
              go_upto_region 51 with fail
              have z8 := (r8.other ⟨b, j * 2, none⟩ (.string (ty ts j).1.1) (by simp only; omega)).other ⟨b, j * 2 + 1, none⟩ (.slice (some ⟨g2, 0, none⟩) fs'.length cap2) (by simp only; omega)
              have z4 := (r4.other ⟨b, j * 2, none⟩ (.string (ty ts j).1.1) (by simp only; omega)).other ⟨b, j * 2 + 1, none⟩ (.slice (some ⟨g2, 0, none⟩) fs'.length cap2) (by simp only; omega)
              have bz := (b6.setCell (p := ⟨b, j * 2, none⟩) (by simp only; omega) (.string (ty ts j).1.1)).setCell (p := ⟨b, j * 2 + 1, none⟩) (by simp only; omega) (.slice (some ⟨g2, 0, none⟩) fs'.length cap2)
              obtain ⟨W7, hW7⟩ : ∃ W7, W7 = (W6.setCell ⟨b, j * 2, none⟩ (.string (ty ts j).1.1)).setCell ⟨b, j * 2 + 1, none⟩ (.slice (some ⟨g2, 0, none⟩) fs'.length cap2) := ⟨_, rfl⟩
              rw [← hW7] at z8 z4 bz fin6 ⊢
              clear hW7 wb0 wb1 wf0 wf1 w80 w81 wt0 wt1
              have k80 := z8.one.1
              obtain ⟨k40, k41⟩ := z4.one
              go_wp2_with fail
              have u4 := (z4.set 0 (.slice (some ⟨b, 0, none⟩) ts.length cv)).one.1
              have fE : ∃ a' c', Ending.returned (.tuple #[.agg #[.slice (some ⟨b, 0, none⟩) ts.length cv], .int .i64 0]) = Ending.returned (.tuple #[.agg #[.slice a' A.length c'], .int .i64 R]) ∧ Typs (W7.setCell ⟨w.heap.size + 1 + 1, 0, none⟩ (.slice (some ⟨b, 0, none⟩) ts.length cv)).heap.size (W7.setCell ⟨w.heap.size + 1 + 1, 0, none⟩ (.slice (some ⟨b, 0, none⟩) ts.length cv)) a' A ∧ Below w.heap.size w (W7.setCell ⟨w.heap.size + 1 + 1, 0, none⟩ (.slice (some ⟨b, 0, none⟩) ts.length cv)) :=
                ⟨some ⟨b, 0, none⟩, cv, by rw [unhide eR, unhide eA, List.length_set], by rw [unhide eA]; exact unhide fin6, bz.setCell (p := ⟨w.heap.size + 1 + 1, 0, none⟩) (by simp only; omega) _⟩
              exact bodyPost_ret (v := .tuple #[.agg #[.slice (some ⟨b, 0, none⟩) ts.length cv], .int .i64 0]) (by simp [results, Tryz.results33, go_sem, u4]) rfl (by obtain ⟨a', c', h1, h2, h3⟩ := fE; first | exact ⟨a', ⟨c', h1⟩, h2, h3⟩ | exact ⟨a', c', h1, h2, h3⟩)
            · have fin' := hide (unhide fin W5 E (bw4.trans (hb5.mono bw4.size)) (unhide ret E (unhide hr) hE0))
              have hs := (q2.on hb5 q2.lt).one.1
              have q4' := q4.on hb5 q4.lt
              obtain ⟨hp0, hp1⟩ := q4'.one
              have u4 := (q4'.set 0 (.slice a ts.length cap)).one.1
              clear fin ret hA hR
              go_wp2_with fail
              exact bodyPost_ret (v := .tuple #[.agg #[.slice a ts.length cap], .int .i64 E]) (by simp [results, Tryz.results33, go_sem, u4]) rfl (by obtain ⟨a', c', h1, h2, h3⟩ := unhide fin'; first | exact ⟨a', ⟨c', h1⟩, h2, h3⟩ | exact ⟨a', c', h1, h2, h3⟩)
          · have hpn : placeN (tnames ts) t.1 = none := by
              have hp := unhide hP
              unfold placeI at hp
              cases hpn : placeN (tnames ts) t.1 with
              | none => rfl
              | some j => rw [hpn] at hp; simp only at hp; omega
            have hr : refE ts ⟨1, t, f, o, dk, dn, ds⟩ = 13 := by simp [refE, ← unhide hFB', hpn, hk]
            obtain ⟨eA, eR⟩ := unhide ret 13 hr (by decide)
            clear hr ret hA hR
            have fin' := hide (unhide fin 13 eA eR)
            clear fin eA eR hpn
            go_wp2_with fail
            exact bodyPost_ret (v := .tuple #[.agg #[.slice a ts.length cap], .int .i64 13]) (by simp [results, Tryz.results33, go_sem, u4]) rfl (by obtain ⟨a', c', h1, h2, h3⟩ := unhide fin'; exact ⟨a', ⟨c', h1⟩, h2, h3⟩)

end Go.Proofs.YtcjpaldijngnpaaGreatDoor

namespace Go.Proofs.YtcjpaldijngnpaaGreatDoor
open Go.RowKit Go.Shelf

set_option maxRecDepth 100000 in
set_option maxHeartbeats 8000000 in
theorem refApply_2 (a : Option Addr) (cap : Nat) (ts : List Ty) (t f o : Txt) (dk dn : Int) (ds : Txt) (hS : Sch ts) (w : World) (hT : Typs w.heap.size w a ts) :
    Calls Tryz.prog 33 #[.agg #[.slice a ts.length cap], (⟨2, t, f, o, dk, dn, ds⟩ : Ch).v] w fun e w' => ∃ a' c', e = .returned (.tuple #[.agg #[.slice a' (appT ts ⟨2, t, f, o, dk, dn, ds⟩).length c'], .int .i64 (refE ts ⟨2, t, f, o, dk, dn, ds⟩)]) ∧ Typs w'.heap.size w' a' (appT ts ⟨2, t, f, o, dk, dn, ds⟩) ∧ Below w.heap.size w w' := by
  have h5 := hS.1
  have hk5 : ∀ k, (ty ts k).2.length ≤ 5 := fun k => by
    by_cases hk : k < ts.length
    · exact (hS.2 k hk).2.2.1
    · simp only [ty, List.getElem?_eq_none (Nat.le_of_not_lt hk), Option.getD_none]
      exact Nat.zero_le _
  obtain ⟨W0, hW0⟩ : ∃ W0, W0 = ((w.alloc (.cells #[.slice a ts.length cap] 24)).alloc (.cells #[.int .i64 2, .string t.1, .string f.1, .string o.1, .int .i64 dk, .int .i64 dn, .string ds.1] 42)).alloc (.cells #[.slice none 0 0] 24) := ⟨_, rfl⟩
  have e0 : W0.heap.size = w.heap.size + 3 := by rw [hW0]; simp
  have b0 : Below w.heap.size w W0 := by rw [hW0]; exact (((Below.refl _ _).alloc (Nat.le_refl _) _).alloc (by simp) _).alloc (by simp; omega) _
  have x2 : Box W0 w.heap.size 24 #[.slice a ts.length cap] := by
    rw [hW0]; exact ((Box.new w 24 #[.slice a ts.length cap]).alloc _).alloc _
  have x3 : Box W0 (w.heap.size + 1) 42 #[.int .i64 2, .string t.1, .string f.1, .string o.1, .int .i64 dk, .int .i64 dn, .string ds.1] := by
    have := Box.new (w.alloc (.cells #[.slice a ts.length cap] 24)) 42 #[.int .i64 2, .string t.1, .string f.1, .string o.1, .int .i64 dk, .int .i64 dn, .string ds.1]
    simp only [World.size_alloc] at this
    rw [hW0]; exact this.alloc _
  have x4 : Box W0 (w.heap.size + 1 + 1) 24 #[.slice none 0 0] := by
    have := Box.new ((w.alloc (.cells #[.slice a ts.length cap] 24)).alloc (.cells #[.int .i64 2, .string t.1, .string f.1, .string o.1, .int .i64 dk, .int .i64 dn, .string ds.1] 42)) 24 #[.slice none 0 0]
    simp only [World.size_alloc] at this
    rw [hW0]; exact this
  have T0 := hT.on b0
  have hW0' := hide hW0
  clear hW0
  obtain ⟨R, hR⟩ : ∃ R, R = refE ts ⟨2, t, f, o, dk, dn, ds⟩ := ⟨_, rfl⟩
  obtain ⟨A, hA⟩ : ∃ A, A = appT ts ⟨2, t, f, o, dk, dn, ds⟩ := ⟨_, rfl⟩
  rw [← hR, ← hA]
  replace hR := hide hR
  replace hA := hide hA
  obtain ⟨FB, hFB⟩ : ∃ FB, FB = formedB ⟨2, t, f, o, dk, dn, ds⟩ := ⟨_, rfl⟩
  have hFB' := hide hFB
  clear hFB
  go_enter Tryz.func33, Tryz.ntmps33
  go_upto_region 1 with fail
  rw [← unhide hW0']
  obtain ⟨hc0, hc1, hc2, hc3, hc4, hc5, hc6⟩ := x3.seven
  go_cut [57] (fun g wx => g = .bool (!FB) ∧ wx = W0)
  case first =>
    clear x2 x4 T0 b0 hT hS
    have cN : Hid (∀ W, Calls Tryz.prog 25 #[.string t.1] W fun e w' => e = .returned (.bool (nameB t.1)) ∧ w' = W) := fun W => refName_c t.1 W t.2
    cases hN : nameB t.1
    · have hf : FB = false := by rw [unhide hFB']; simp [formedB, hN]
      subst hf
      rw [hN] at cN
      go_wp2_with fail
      refine (unhide cN _).mono ?_
      rintro e w1 ⟨rfl, rfl⟩
      go_wp2_with fail
      go_meet
      case rel => exact ⟨rfl, rfl⟩
    · rw [hN] at cN
      obtain ⟨d0, hd0⟩ : ∃ d0, (dk == 0) = d0 := ⟨_, rfl⟩
      obtain ⟨d1, hd1⟩ : ∃ d1, (dn == 0) = d1 := ⟨_, rfl⟩
      all_goals cases d0
      all_goals cases d1
      all_goals
        go_wp2_with fail
        refine (unhide cN _).mono ?_
        rintro e w1 ⟨rfl, rfl⟩
        go_wp2_with fail
      all_goals
        go_meet
        case rel =>
          refine ⟨?_, rfl⟩
          rw [unhide hFB']
          simp_all [formedB, bareB, noD, noT]
  case rest =>
    obtain ⟨rfl, rfl⟩ := hcut
    -- an error: the schema as it was
    have ret := hide (show ∀ (n : Int), refE ts ⟨2, t, f, o, dk, dn, ds⟩ = n → n ≠ 0 → A = ts ∧ R = n from fun n h h0 => by rw [unhide hA, unhide hR]; simp [appT, h, h0])
    cases FB with
    | false =>
      have hr : refE ts ⟨2, t, f, o, dk, dn, ds⟩ = 10 := by simp [refE, ← unhide hFB']
      obtain ⟨eA, eR⟩ := unhide ret 10 hr (by decide)
      clear hr ret hA hR
      replace eA := hide eA
      replace eR := hide eR
      have hs := x2.one.1
      obtain ⟨hp0, hp1⟩ := x4.one
      go_wp2_with fail
      have u4 := (x4.set 0 (.slice a ts.length cap)).one.1
      have bb := b0.setCell (p := ⟨w.heap.size + 1 + 1, 0, none⟩) (by simp only; omega) (.slice a ts.length cap)
      exact bodyPost_ret (v := .tuple #[.agg #[.slice a ts.length cap], .int .i64 10]) (by simp [results, Tryz.results33, go_sem, u4]) rfl ⟨a, cap, by rw [unhide eA, unhide eR], by rw [unhide eA]; exact (hT.below bb).mono bb.size, bb⟩
    | true =>
      have hs0 := hide (Below.refl wc.heap.size wc)
      have hs := x2.one.1
      go_wp2_with fail
      go_loopw [6, 7] (fun p i wr => ∃ q : Nat, q ≤ ts.length ∧ p = .int .i64 (placeI ((tnames ts).take q) t.1) ∧ i = .int .i64 q ∧ Below wc.heap.size wc wr) (fun _ i _ => ts.length - (intOf i).toNat)
      case atStart => exact ⟨0, Nat.zero_le _, rfl, rfl, unhide hs0⟩
      case round =>
        obtain ⟨q, hq, rfl, rfl, hbw⟩ := hrel
        clear hs
        have y2 := x2.on hbw x2.lt
        have hs := y2.one.1
        have hc1' := (x3.on hbw x3.lt).seven.2.1
        by_cases hlt : q < ts.length
        · obtain ⟨b, off, ha, hcn, a1, c1, hcf, -⟩ := (T0.on hbw).at q hlt
          subst ha
          have htk : (tnames ts).take (q + 1) = (tnames ts).take q ++ [(ty ts q).1] := by
            rw [List.take_succ_eq_append_getElem (by rw [tnames_len]; exact hlt)]; simp [tnames, ty, hlt]
          cases hx : eqT t.1 (ty ts q).1
          · have hx' : ((ty ts q).1.1.toList == t.1.toList) = false := hx
            have hsucc := hide (show placeI ((tnames ts).take (q + 1)) t.1 = placeI ((tnames ts).take q) t.1 by
              unfold placeI placeN
              rw [htk, List.findIdx?_append]
              cases List.findIdx? (eqT t.1) ((tnames ts).take q) <;> simp [List.findIdx?_cons, hx])
            clear hx htk
            go_wp2_with fail
            go_quiet (fail)
            go_wp2_with fail
            exact ⟨⟨q + 1, by omega, by rw [unhide hsucc], by go_num, below_dn hbw _⟩, by simp [intOf]; omega⟩
          · have hx' : ((ty ts q).1.1.toList == t.1.toList) = true := hx
            have hsucc := hide (show placeI ((tnames ts).take (q + 1)) t.1 = q by
              have hno : List.findIdx? (eqT t.1) ((tnames ts).take q) = none := by
                rw [List.findIdx?_eq_none_iff]
                intro y hy
                cases hy' : eqT t.1 y
                · rfl
                · exfalso
                  obtain ⟨i, hi, rfl⟩ := List.getElem_of_mem hy
                  simp only [List.length_take, tnames_len] at hi
                  have hp := ((sch_iff ts).1 hS).2.2
                  rw [List.pairwise_iff_getElem] at hp
                  have h1 := hp i q (by omega) hlt (by omega)
                  rw [eqT_iff] at hy' hx
                  simp only [tnames, List.getElem_take, List.getElem_map] at hy'
                  rw [hy', ← hx, show ty ts q = ts[q] by simp [ty, hlt]] at h1
                  exact List.lt_irrefl _ h1
              unfold placeI placeN
              rw [htk, List.findIdx?_append, hno]
              simp [List.findIdx?_cons, hx, tnames_len]
              omega)
            clear hx htk
            go_wp2_with fail
            go_quiet (fail)
            go_wp2_with fail
            exact ⟨⟨q + 1, by omega, by rw [unhide hsucc], by go_num, below_dn hbw _⟩, by simp [intOf]; omega⟩
        · have hqe : q = ts.length := by omega
          have hpl : placeI ((tnames ts).take q) t.1 = placeI (tnames ts) t.1 := by rw [hqe, ← tnames_len ts, List.take_length]
          rw [hpl]
          obtain ⟨P, hP⟩ : ∃ P, P = placeI (tnames ts) t.1 := ⟨_, rfl⟩
          rw [← hP]
          replace hP := hide hP
          clear hpl
          subst hqe
          go_wp2_with fail
          have T1 := T0.on hbw
          have bw := b0.trans (hbw.mono (by omega))
          have z3 := x3.on hbw x3.lt
          have z4 := x4.on hbw x4.lt
          clear hs hc1'
          refine (copied_c a cap ts h5 hk5 _ T1).mono ?_
          rintro e W1 ⟨v, xs, rfl, hxs, hO, hb1, hap⟩
          replace hap := hide hap
          have y2' := y2.on hb1 y2.lt
          have z3' := z3.on hb1 z3.lt
          have z4' := z4.on hb1 z4.lt
          have bw1 := bw.trans (hb1.mono bw.size)
          obtain ⟨hd0, hd1, hd2, hd3, hd4, hd5, hd6⟩ := z3'.seven
          have hs := y2'.one.1
          have hxl : xs.length = ts.length := by rw [← hxs.1, List.length_map]
          obtain ⟨av, cv, rfl⟩ : ∃ av cv, v = .slice av ts.length cv := by
            rcases hO.2 with ⟨rfl, h0⟩ | ⟨g, cap', cur, rfl, -⟩
            · exact ⟨none, 0, by rw [← hxl, h0]⟩
            · exact ⟨_, _, by rw [hxl]⟩
          obtain ⟨W2, hW2⟩ : ∃ W2, W2 = W1.alloc (.cells #[.slice av ts.length cv] 24) := ⟨_, rfl⟩
          have bW : Below W1.heap.size W1 W2 := by rw [hW2]; exact (Below.refl _ _).alloc (Nat.le_refl _) _
          have eW : W2.heap.size = W1.heap.size + 1 := by rw [hW2]; simp
          have v8 : Box W2 W1.heap.size 24 #[.slice av ts.length cv] := by rw [hW2]; exact Box.new W1 24 #[.slice av ts.length cv]
          replace hW2 := hide hW2
          go_upto_region 10 with fail
          rw [← unhide hW2]
          clear hd0 hd1 hd2 hd3 hd4 hd5 hd6 hs
          have v2 := y2'.on bW y2'.lt
          have v3 := z3'.on bW z3'.lt
          have v4 := z4'.on bW z4'.lt
          have bw2 := bw1.trans (bW.mono bw1.size)
          obtain ⟨hd0, hd1, hd2, hd3, hd4, hd5, hd6⟩ := v3.seven
          have hs := v2.one.1
          obtain ⟨hp0, hp1⟩ := v4.one
          have u4 := (v4.set 0 (.slice a ts.length cap)).one.1
          have bb := bw2.setCell (p := ⟨w.heap.size + 1 + 1, 0, none⟩) (by simp only; omega) (.slice a ts.length cap)
          have fin := hide (show ∀ n, A = ts → R = n → ∃ a' c', Ending.returned (.tuple #[.agg #[.slice a ts.length cap], .int .i64 n]) = Ending.returned (.tuple #[.agg #[.slice a' A.length c'], .int .i64 R]) ∧ Typs (W2.setCell ⟨w.heap.size + 1 + 1, 0, none⟩ (.slice a ts.length cap)).heap.size (W2.setCell ⟨w.heap.size + 1 + 1, 0, none⟩ (.slice a ts.length cap)) a' A ∧ Below w.heap.size w (W2.setCell ⟨w.heap.size + 1 + 1, 0, none⟩ (.slice a ts.length cap)) from
            fun n eA eR => ⟨a, cap, by rw [eA, eR], by rw [eA]; exact (hT.below bb).mono bb.size, bb⟩)
          have hk : (2 : Int) ≠ 5 := by decide
          by_cases hP0 : 0 ≤ P
          · obtain ⟨j, hPj, hpn, hj⟩ : ∃ j : Nat, P = j ∧ placeN (tnames ts) t.1 = some j ∧ j < ts.length := by
              have hp := unhide hP
              unfold placeI at hp
              cases hpn : placeN (tnames ts) t.1 with
              | none => rw [hpn] at hp; simp only at hp; omega
              | some j =>
                rw [hpn] at hp
                refine ⟨j, hp, rfl, ?_⟩
                have h1 := (List.findIdx?_eq_some_iff_getElem.1 hpn).1
                rwa [tnames_len] at h1
            subst hPj
            have hpn' := hide hpn
            clear hpn
            have hO' := hO
            rw [hxl] at hO'
            obtain ⟨b, eb, hbb, hbl, -⟩ := owns_cells hO' (by omega)
            subst eb
            have hwr : w.heap.size + 3 ≤ wr.heap.size := by have := hbw.size; omega
            have hC2 := hide ((Cp.mk hxs.1 hO' hxs.2 (unhide hap)).on bW)
            obtain ⟨a1, c1, hx0, hcn, hcf, hfz, hOF⟩ := (unhide hC2).at hj
            replace hx0 := hide hx0
            replace hOF := hide hOF
            obtain ⟨_, _, e1, hF, -⟩ := flds_of_owns (unhide hOF)
            cases e1
            clear hfz hO' hO hxs
            have hv8 := v8.one.1
            go_upto_region 23 with fail
            obtain ⟨W3, hW3⟩ : ∃ W3, W3 = W2.alloc (.cells #[.string (ty ts j).1.1, .slice a1 (ty ts j).2.length c1] 69) := ⟨_, rfl⟩
            have bW3 : Below W2.heap.size W2 W3 := by rw [hW3]; exact (Below.refl _ _).alloc (Nat.le_refl _) _
            have v10 : Box W3 (W1.heap.size + 1) 69 #[.string (ty ts j).1.1, .slice a1 (ty ts j).2.length c1] := by rw [hW3, ← eW]; exact Box.new W2 69 #[.string (ty ts j).1.1, .slice a1 (ty ts j).2.length c1]
            rw [← hW3]
            replace hW3 := hide hW3
            clear hd0 hd1 hd2 hd3 hd4 hd5 hd6 hs hp0 hp1 hv8 hcn hcf u4 fin
            have F3 := hF.on bW3
            have hc5f := hk5 j
            obtain ⟨hd0, hd1, hd2, hd3, hd4, hd5, hd6⟩ := (v3.on bW3 v3.lt).seven
            obtain ⟨ht0, ht1⟩ := v10.two
            go_wp2_with fail
            refine (refField_c _ f.1 a1 c1 (ty ts j).2 hc5f W3 F3).mono ?_
            rintro e W4 ⟨rfl, hb4⟩
            clear hd0 hd1 hd2 hd3 hd4 hd5 hd6 ht0 ht1
            have bW4 := bW3.trans (hb4.mono bW3.size)
            have q2 := v2.on bW4 v2.lt
            have q3 := v3.on bW4 v3.lt
            have q4 := v4.on bW4 v4.lt
            have q8 := v8.on bW4 v8.lt
            have q10 := v10.on hb4 v10.lt
            have F4 := F3.on hb4
            have bw4 := bw2.trans (bW4.mono bw2.size)
            obtain ⟨hd0, hd1, hd2, hd3, hd4, hd5, hd6⟩ := q3.seven
            have hs := q2.one.1
            obtain ⟨hp0, hp1⟩ := q4.one
            have u4 := (q4.set 0 (.slice a ts.length cap)).one.1
            have fin := hide (show ∀ (W : World) (n : Int), Below w.heap.size w W → A = ts ∧ R = n → ∃ a' c', Ending.returned (.tuple #[.agg #[.slice a ts.length cap], .int .i64 n]) = Ending.returned (.tuple #[.agg #[.slice a' A.length c'], .int .i64 R]) ∧ Typs (W.setCell ⟨w.heap.size + 1 + 1, 0, none⟩ (.slice a ts.length cap)).heap.size (W.setCell ⟨w.heap.size + 1 + 1, 0, none⟩ (.slice a ts.length cap)) a' A ∧ Below w.heap.size w (W.setCell ⟨w.heap.size + 1 + 1, 0, none⟩ (.slice a ts.length cap)) from by
              rintro W n bW ⟨eA, eR⟩
              have bb := bW.setCell (p := ⟨w.heap.size + 1 + 1, 0, none⟩) (by simp only; omega) (.slice a ts.length cap)
              exact ⟨a, cap, by rw [eA, eR], by rw [eA]; exact (hT.below bb).mono bb.size, bb⟩)
            obtain ⟨Fp, hFp⟩ : ∃ Fp, Fp = placeI (fnames (ty ts j).2) f.1 := ⟨_, rfl⟩
            rw [← hFp]
            replace hFp := hide hFp
            go_upto_region 25 with fail
            clear hk
            -- a field less
            by_cases hF0 : Fp < 0
            · have hr : refE ts ⟨2, t, f, o, dk, dn, ds⟩ = 13 := by
                have h0 : placeN (fnames (ty ts j).2) f.1 = none := by
                  have hp := unhide hFp
                  unfold placeI at hp
                  cases hpn : placeN (fnames (ty ts j).2) f.1 with
                  | none => rfl
                  | some j => rw [hpn] at hp; simp only at hp; omega
                simp [refE, ← unhide hFB', unhide hpn', atE, h0]
              have fin' := hide (unhide fin W4 13 bw4 (unhide ret 13 hr (by decide)))
              clear fin ret hA hR hr
              go_wp2_with fail
              exact bodyPost_ret (v := .tuple #[.agg #[.slice a ts.length cap], .int .i64 13]) (by simp [results, Tryz.results33, go_sem, u4]) rfl (by obtain ⟨a', c', h1, h2, h3⟩ := unhide fin'; first | exact ⟨a', ⟨c', h1⟩, h2, h3⟩ | exact ⟨a', c', h1, h2, h3⟩)
            obtain ⟨p, hFq, hfp, hp⟩ : ∃ p : Nat, Fp = p ∧ placeN (fnames (ty ts j).2) f.1 = some p ∧ p < (ty ts j).2.length := by
              have hp := unhide hFp
              unfold placeI at hp
              cases hpn : placeN (fnames (ty ts j).2) f.1 with
              | none => rw [hpn] at hp; simp only at hp; omega
              | some p =>
                rw [hpn] at hp
                refine ⟨p, hp, rfl, ?_⟩
                have h1 := (List.findIdx?_eq_some_iff_getElem.1 hpn).1
                simpa [fnames] using h1
            subst hFq
            replace hfp := hide hfp
            have hr : refE ts ⟨2, t, f, o, dk, dn, ds⟩ = 0 := by simp [refE, ← unhide hFB', unhide hpn', atE, unhide hfp]
            have eA := hide (show A = ts.set j ((ty ts j).1, (ty ts j).2.take p ++ (ty ts j).2.drop (p + 1)) by
              rw [unhide hA, app_set hS hr (by simp) (unhide hpn'), fNew_two (hS.2 j hj).2.2 (unhide hfp) (place_key (unhide hpn')).2 rfl])
            have eR := hide (show R = 0 from (unhide hR).trans hr)
            clear hr ret fin hA hR
            have hmx : Tryz.prog.follows .mixedOrders = true := by kernel_rfl
            obtain ⟨j0, hj0, hy0, hy1, hy2⟩ := info_parts infoFd
            have hC5 := hide ((unhide hC2).on bW4)
            have OF5 := owns_below (unhide hOF) bW4
            obtain ⟨g1, e1, hg1b, hg1l, hnc, ⟨cur1, hg1⟩, hcell, hfrz⟩ := owns_cells OF5 (by omega)
            subst e1
            have ne8 := box_ne q8 hg1 (by decide)
            have ne10 := box_ne q10 hg1 (by decide)
            have neb := box_ne (B := b) (t := 69) (owns_lt (unhide hC5).row rfl).2.choose_spec hg1 (by decide)
            have l10 := q10.lt
            have l8 := q8.lt
            have l4 := q4.lt
            have hs4 := bW4.size
            clear hcell hfrz
            replace OF5 := hide OF5
            have cD := q10.drew
            have hw1 : IntKind.i64.wrap ((p : Int) + 1) = p + 1 := by rw [IntKind.wrap_i64]; omega
            obtain ⟨ad2, had2⟩ : ∃ ad2 : Addr, (if c1 = p + 1 then some (⟨g1, 0, none⟩ : Addr) else some ⟨g1, (p + 1) * 2, none⟩) = some ad2 ∧ (ad2 = ⟨g1, (p + 1) * 2, none⟩ ∨ (ty ts j).2.length = p + 1) := by
              by_cases h : c1 = p + 1
              · rw [if_pos h]; exact ⟨_, rfl, .inr (by omega)⟩
              · rw [if_neg h]; exact ⟨_, rfl, .inl rfl⟩
            replace had2 := hide had2
            go_upto_region 33 with fail
            refine wp_region_any hmx (wpAny_of_Z (z := 11) (C := fun w' => Box w' (W1.heap.size + 1) 69 #[.string (ty ts j).1.1, .slice (some ⟨g1, 0, none⟩) (ty ts j).2.length c1]) _ _ _ _ ?_)
            refine wpAnyZ_reads 0 cD (by kernel_rfl) (by kernel_rfl) (by kernel_rfl) (by kernel_rfl) (fun d _ _ _ _ h => by cases d <;> exact h) (fun oi ho K hK => ?_)
            simp only [List.getElem?_toArray, List.getElem?_cons_zero, Option.some.injEq] at ho
            subst ho
            rw [if_pos (by kernel_rfl)]
            refine ⟨.pointer (some ⟨W1.heap.size + 1, 1, none⟩), fun w' hw' => ?_, hK _ ?_⟩
            · have hx10 := hw'.two.1
              have hx11 := hw'.two.2
              go_simp
            clear hK K
            refine wpAnyZ_reads 1 cD (by kernel_rfl) (by kernel_rfl) (by kernel_rfl) (by kernel_rfl) (fun d _ _ _ _ h => by cases d <;> exact h) (fun oi ho K hK => ?_)
            simp only [List.getElem?_toArray, List.getElem?_cons_succ, List.getElem?_cons_zero, Option.some.injEq] at ho
            subst ho
            rw [if_pos (by kernel_rfl)]
            refine ⟨.slice (some ⟨g1, 0, none⟩) (ty ts j).2.length c1, fun w' hw' => ?_, hK _ ?_⟩
            · have hx10 := hw'.two.1
              have hx11 := hw'.two.2
              go_simp
            clear hK K
            refine wpAnyZ_reads 2 cD (by kernel_rfl) (by kernel_rfl) (by kernel_rfl) (by kernel_rfl) (fun d _ _ _ _ h => by cases d <;> exact h) (fun oi ho K hK => ?_)
            simp only [List.getElem?_toArray, List.getElem?_cons_succ, List.getElem?_cons_zero, Option.some.injEq] at ho
            subst ho
            rw [if_pos (by kernel_rfl)]
            refine ⟨.int .i64 p, fun w' hw' => ?_, hK _ ?_⟩
            · have hx10 := hw'.two.1
              have hx11 := hw'.two.2
              go_simp
            clear hK K
            refine wpAnyZ_reads 3 cD (by kernel_rfl) (by kernel_rfl) (by kernel_rfl) (by kernel_rfl) (fun d _ _ _ _ h => by cases d <;> exact h) (fun oi ho K hK => ?_)
            simp only [List.getElem?_toArray, List.getElem?_cons_succ, List.getElem?_cons_zero, Option.some.injEq] at ho
            subst ho
            rw [if_pos (by kernel_rfl)]
            refine ⟨.slice (some ⟨g1, 0, none⟩) p c1, fun w' hw' => ?_, hK _ ?_⟩
            · have hx10 := hw'.two.1
              have hx11 := hw'.two.2
              go_simp
              intro h; omega
            clear hK K
            refine wpAnyZ_reads 4 cD (by kernel_rfl) (by kernel_rfl) (by kernel_rfl) (by kernel_rfl) (fun d _ _ _ _ h => by cases d <;> exact h) (fun oi ho K hK => ?_)
            simp only [List.getElem?_toArray, List.getElem?_cons_succ, List.getElem?_cons_zero, Option.some.injEq] at ho
            subst ho
            rw [if_pos (by kernel_rfl)]
            refine ⟨.pointer (some ⟨W1.heap.size + 1, 1, none⟩), fun w' hw' => ?_, hK _ ?_⟩
            · have hx10 := hw'.two.1
              have hx11 := hw'.two.2
              go_simp
            clear hK K
            refine wpAnyZ_reads 5 cD (by kernel_rfl) (by kernel_rfl) (by kernel_rfl) (by kernel_rfl) (fun d _ _ _ _ h => by cases d <;> exact h) (fun oi ho K hK => ?_)
            simp only [List.getElem?_toArray, List.getElem?_cons_succ, List.getElem?_cons_zero, Option.some.injEq] at ho
            subst ho
            rw [if_pos (by kernel_rfl)]
            refine ⟨.slice (some ⟨g1, 0, none⟩) (ty ts j).2.length c1, fun w' hw' => ?_, hK _ ?_⟩
            · have hx10 := hw'.two.1
              have hx11 := hw'.two.2
              go_simp
            clear hK K
            refine wpAnyZ_reads 6 cD (by kernel_rfl) (by kernel_rfl) (by kernel_rfl) (by kernel_rfl) (fun d _ _ _ _ h => by cases d <;> exact h) (fun oi ho K hK => ?_)
            simp only [List.getElem?_toArray, List.getElem?_cons_succ, List.getElem?_cons_zero, Option.some.injEq] at ho
            subst ho
            rw [if_pos (by kernel_rfl)]
            refine ⟨.int .i64 p, fun w' hw' => ?_, hK _ ?_⟩
            · have hx10 := hw'.two.1
              have hx11 := hw'.two.2
              go_simp
            clear hK K
            refine wpAnyZ_reads 7 cD (by kernel_rfl) (by kernel_rfl) (by kernel_rfl) (by kernel_rfl) (fun d _ _ _ _ h => by cases d <;> exact h) (fun oi ho K hK => ?_)
            simp only [List.getElem?_toArray, List.getElem?_cons_succ, List.getElem?_cons_zero, Option.some.injEq] at ho
            subst ho
            rw [if_pos (by kernel_rfl)]
            refine ⟨.int .i64 ((p : Int) + 1), fun w' hw' => ?_, hK _ ?_⟩
            · have hx10 := hw'.two.1
              have hx11 := hw'.two.2
              go_simp
            clear hK K
            refine wpAnyZ_reads 8 cD (by kernel_rfl) (by kernel_rfl) (by kernel_rfl) (by kernel_rfl) (fun d _ _ _ _ h => by cases d <;> exact h) (fun oi ho K hK => ?_)
            simp only [List.getElem?_toArray, List.getElem?_cons_succ, List.getElem?_cons_zero, Option.some.injEq] at ho
            subst ho
            rw [if_pos (by kernel_rfl)]
            refine ⟨.slice (some ad2) ((ty ts j).2.length - (p + 1)) (c1 - (p + 1)), fun w' hw' => ?_, hK _ ?_⟩
            · have hx10 := hw'.two.1
              have hx11 := hw'.two.2
              go_simp
              rw [if_pos ⟨by omega, by omega⟩, (unhide had2).1]
            clear hK K
            refine wpAnyZ_calls 9 (by kernel_rfl) (fun oi ho K hK => ?_)
            simp only [List.getElem?_toArray, List.getElem?_cons_succ, List.getElem?_cons_zero, Option.some.injEq] at ho
            subst ho

            refine step_shift W4.drew (by rfl) (.tmp 165) (.tmp 170) 67 (by rfl) wr.heap.size 66 j0 2 Tryz.underlying67 hj0 hy1 g1 (ty ts j).2.length c1 (newsF (ty ts j).2) (owns_below (unhide OF5) (Below.refl _ _).drew) p hp ad2 (unhide had2).2 (c1 - (p + 1)) (newsF_one _) ?q1 ?q2 ?_
            case q1 => go_simp
            case q2 => go_simp
            intro w2 hown hgrow
            have y10 : Box w2 (W1.heap.size + 1) 69 #[.string (ty ts j).1.1, .slice (some ⟨g1, 0, none⟩) (ty ts j).2.length c1] := (hgrow.block _ (by simp; omega) (fun e => by cases e; omega)).trans cD
            refine hK _ _ (.inr y10) ?_
            clear hK K
            obtain ⟨fs', hfs'⟩ : ∃ fs', fs' = (ty ts j).2.take p ++ (ty ts j).2.drop (p + 1) := ⟨_, rfl⟩
            have hl6 : (ty ts j).2.length - 1 = fs'.length := by rw [hfs']; simp; omega
            have hf6 := hide (show fs'.length ≤ 6 by omega)
            have hn6 : (newsF (ty ts j).2).take (p * 2) ++ (newsF (ty ts j).2).drop ((p + 1) * 2) = newsF fs' := by rw [hfs', newsF_append, newsF_take, newsF_drop]
            rw [hn6, hl6] at hown
            rw [hl6]
            rw [← hfs'] at eA
            replace hown := hide hown
            replace hgrow := hide hgrow
            clear hfs' hn6
            have hkf := y10.frz 1
            obtain ⟨hk0, hk1⟩ := y10.two
            refine wpAnyZ_reads 10 y10 (by kernel_rfl) (by kernel_rfl) (by kernel_rfl) (by kernel_rfl) (fun d _ _ _ _ h => by cases d <;> exact h) (fun oi ho K hK => ?_)
            simp only [List.getElem?_toArray, List.getElem?_cons_succ, List.getElem?_cons_zero, Option.some.injEq] at ho
            subst ho
            rw [if_pos (by kernel_rfl)]
            refine ⟨.pointer (some ⟨W1.heap.size + 1, 1, none⟩), fun w' hw' => ?_, hK _ ?_⟩
            · clear hw'
              go_simp
            clear hK K
            refine wpAnyZ_calls 11 (by kernel_rfl) (fun oi ho K hK => ?_)
            simp only [List.getElem?_toArray, List.getElem?_cons_succ, List.getElem?_cons_zero, Option.some.injEq] at ho
            subst ho

            go_simp
            refine hK _ _ (.inl rfl) ?_
            clear hK K
            refine wpAnyZ_done (by kernel_rfl) ?_ _
            go_upto_region 48 with fail
            replace hown := unhide hown
            replace hgrow := unhide hgrow
            have y8 : Box w2 W1.heap.size 24 _ := (hgrow.block _ (by simp; omega) (fun e => by cases e; omega)).trans q8.drew
            have y4 : Box w2 (w.heap.size + 1 + 1) 24 _ := (hgrow.block _ (by simp; omega) (fun e => by cases e; omega)).trans q4.drew
            have r8 := y8.other ⟨W1.heap.size + 1, 1, none⟩ (.slice (some ⟨g1, 0, none⟩) fs'.length c1) (by simp only; omega)
            have r4 := y4.other ⟨W1.heap.size + 1, 1, none⟩ (.slice (some ⟨g1, 0, none⟩) fs'.length c1) (by simp only; omega)
            have r10 : Box (w2.setCell ⟨W1.heap.size + 1, 1, none⟩ (.slice (some ⟨g1, 0, none⟩) fs'.length c1)) (W1.heap.size + 1) 69 #[.string (ty ts j).1.1, .slice (some ⟨g1, 0, none⟩) fs'.length c1] := y10.set 1 _
            have b6 := ((bw4.drew.grown hgrow (by simp; omega) (fun q e => by cases e; omega)).setCell (p := ⟨W1.heap.size + 1, 1, none⟩) (by simp only; omega) (.slice (some ⟨g1, 0, none⟩) fs'.length c1))
            have own6 := set_other (i := 1) hown y10 (by decide) (.slice (some ⟨g1, 0, none⟩) fs'.length c1)
            have sm : ∀ q, q < W4.heap.size → some q ≠ (Value.slice (some ⟨g1, 0, none⟩) (ty ts j).2.length c1).ownBlock → q ≠ W1.heap.size + 1 → (w2.setCell ⟨W1.heap.size + 1, 1, none⟩ (.slice (some ⟨g1, 0, none⟩) fs'.length c1)).heap[q]? = W4.heap[q]? := fun q hq hn hne => (setCell_block _ _ _ (by simp only; omega)).trans (hgrow.block q (by simp; omega) (fun e => hn e))
            have hs6 : ∀ q, q < W4.heap.size → some q ≠ (Value.slice (some ⟨g1, 0, none⟩) (ty ts j).2.length c1).ownBlock → (∀ cs, ¬ (W4.heap[q]? = some (.cells cs 69 (0, 0)) ∧ q ≠ b)) → (w2.setCell ⟨W1.heap.size + 1, 1, none⟩ (.slice (some ⟨g1, 0, none⟩) fs'.length c1)).heap[q]? = W4.heap[q]? := fun q hq hn hc => sm q hq hn (fun e => by subst e; exact hc _ ⟨q10, by omega⟩)
            have nb : some b ≠ (Value.slice (some ⟨g1, 0, none⟩) (ty ts j).2.length c1).ownBlock := fun e => by cases e; exact neb rfl
            have cb6 : (w2.setCell ⟨W1.heap.size + 1, 1, none⟩ (.slice (some ⟨g1, 0, none⟩) fs'.length c1)).cell? ⟨b, j * 2, none⟩ = some (.string (ty ts j).1.1) ∧ (w2.setCell ⟨W1.heap.size + 1, 1, none⟩ (.slice (some ⟨g1, 0, none⟩) fs'.length c1)).cell? ⟨b, j * 2 + 1, none⟩ = some (.slice (some ⟨g1, 0, none⟩) (ty ts j).2.length c1) := by
              obtain ⟨_, _, ⟨_, hz⟩, z1, z2, _, _⟩ := (unhide hC5).at hj
              obtain ⟨_, hz'⟩ := unhide hx0
              rw [hz'] at hz
              cases hz
              exact ⟨(World.cell?_of_block (a := ⟨b, j * 2, none⟩) (sm b (by omega) nb (by omega))).trans z1, (World.cell?_of_block (a := ⟨b, j * 2 + 1, none⟩) (sm b (by omega) nb (by omega))).trans z2⟩
            have fz6 : ∀ i, (w2.setCell ⟨W1.heap.size + 1, 1, none⟩ (.slice (some ⟨g1, 0, none⟩) fs'.length c1)).frozen? ⟨b, i, none⟩ = false := fun i => by
              obtain ⟨_, _, _, _, _, z, _⟩ := (unhide hC5).at hj
              exact (World.frozen?_of_block (a := ⟨b, i, none⟩) (sm b (by omega) nb (by omega))).trans (z i)
            obtain ⟨W6, hW6⟩ : ∃ W6, W6 = w2.setCell ⟨W1.heap.size + 1, 1, none⟩ (.slice (some ⟨g1, 0, none⟩) fs'.length c1) := ⟨_, rfl⟩
            rw [← hW6] at r8 r4 r10 b6 own6 hs6 cb6 fz6 ⊢
            replace own6 := hide own6
            replace hs6 := hide hs6
            replace cb6 := hide cb6
            replace fz6 := hide fz6
            clear hW6 hl6 hown hgrow sm y8 y4 y10 hk0 hk1 hkf cD

            have fin6 := hide (Cp.final (unhide hC5) hj (unhide hx0) (unhide hs6) (unhide own6) hk5 (unhide hf6) (S := w.heap.size + 1 + 1) (by omega) (.slice (some ⟨b, 0, none⟩) ts.length cv))
            obtain ⟨w80, w81⟩ := r8.one
            obtain ⟨wt0, wt1⟩ := r10.two
            obtain ⟨wb0, wb1⟩ := unhide cb6
            have wf0 := unhide fz6 (j * 2)
            have wf1 := unhide fz6 (j * 2 + 1)
            clear hd0 hd1 hd2 hd3 hd4 hd5 hd6
            go_upto_region 51 with fail
            have z8 := (r8.other ⟨b, j * 2, none⟩ (.string (ty ts j).1.1) (by simp only; omega)).other ⟨b, j * 2 + 1, none⟩ (.slice (some ⟨g1, 0, none⟩) fs'.length c1) (by simp only; omega)
            have z4 := (r4.other ⟨b, j * 2, none⟩ (.string (ty ts j).1.1) (by simp only; omega)).other ⟨b, j * 2 + 1, none⟩ (.slice (some ⟨g1, 0, none⟩) fs'.length c1) (by simp only; omega)
            have bz := (b6.setCell (p := ⟨b, j * 2, none⟩) (by simp only; omega) (.string (ty ts j).1.1)).setCell (p := ⟨b, j * 2 + 1, none⟩) (by simp only; omega) (.slice (some ⟨g1, 0, none⟩) fs'.length c1)
            obtain ⟨W7, hW7⟩ : ∃ W7, W7 = (W6.setCell ⟨b, j * 2, none⟩ (.string (ty ts j).1.1)).setCell ⟨b, j * 2 + 1, none⟩ (.slice (some ⟨g1, 0, none⟩) fs'.length c1) := ⟨_, rfl⟩
            rw [← hW7] at z8 z4 bz fin6 ⊢
            clear hW7 wb0 wb1 wf0 wf1 w80 w81 wt0 wt1
            have k80 := z8.one.1
            obtain ⟨k40, k41⟩ := z4.one
            go_wp2_with fail
            have u4 := (z4.set 0 (.slice (some ⟨b, 0, none⟩) ts.length cv)).one.1
            have fE : ∃ a' c', Ending.returned (.tuple #[.agg #[.slice (some ⟨b, 0, none⟩) ts.length cv], .int .i64 0]) = Ending.returned (.tuple #[.agg #[.slice a' A.length c'], .int .i64 R]) ∧ Typs (W7.setCell ⟨w.heap.size + 1 + 1, 0, none⟩ (.slice (some ⟨b, 0, none⟩) ts.length cv)).heap.size (W7.setCell ⟨w.heap.size + 1 + 1, 0, none⟩ (.slice (some ⟨b, 0, none⟩) ts.length cv)) a' A ∧ Below w.heap.size w (W7.setCell ⟨w.heap.size + 1 + 1, 0, none⟩ (.slice (some ⟨b, 0, none⟩) ts.length cv)) :=
              ⟨some ⟨b, 0, none⟩, cv, by rw [unhide eR, unhide eA, List.length_set], by rw [unhide eA]; exact unhide fin6, bz.setCell (p := ⟨w.heap.size + 1 + 1, 0, none⟩) (by simp only; omega) _⟩
            exact bodyPost_ret (v := .tuple #[.agg #[.slice (some ⟨b, 0, none⟩) ts.length cv], .int .i64 0]) (by simp [results, Tryz.results33, go_sem, u4]) rfl (by obtain ⟨a', c', h1, h2, h3⟩ := fE; first | exact ⟨a', ⟨c', h1⟩, h2, h3⟩ | exact ⟨a', c', h1, h2, h3⟩)
          · have hpn : placeN (tnames ts) t.1 = none := by
              have hp := unhide hP
              unfold placeI at hp
              cases hpn : placeN (tnames ts) t.1 with
              | none => rfl
              | some j => rw [hpn] at hp; simp only at hp; omega
            have hr : refE ts ⟨2, t, f, o, dk, dn, ds⟩ = 13 := by simp [refE, ← unhide hFB', hpn, hk]
            obtain ⟨eA, eR⟩ := unhide ret 13 hr (by decide)
            clear hr ret hA hR
            have fin' := hide (unhide fin 13 eA eR)
            clear fin eA eR hpn
            go_wp2_with fail
            exact bodyPost_ret (v := .tuple #[.agg #[.slice a ts.length cap], .int .i64 13]) (by simp [results, Tryz.results33, go_sem, u4]) rfl (by obtain ⟨a', c', h1, h2, h3⟩ := unhide fin'; exact ⟨a', ⟨c', h1⟩, h2, h3⟩)

end Go.Proofs.YtcjpaldijngnpaaGreatDoor

namespace Go.Proofs.YtcjpaldijngnpaaGreatDoor
open Go.RowKit Go.Shelf

set_option maxRecDepth 100000 in
set_option maxHeartbeats 8000000 in
theorem refApply_3 (a : Option Addr) (cap : Nat) (ts : List Ty) (t f o : Txt) (dk dn : Int) (ds : Txt) (hS : Sch ts) (w : World) (hT : Typs w.heap.size w a ts) :
    Calls Tryz.prog 33 #[.agg #[.slice a ts.length cap], (⟨3, t, f, o, dk, dn, ds⟩ : Ch).v] w fun e w' => ∃ a' c', e = .returned (.tuple #[.agg #[.slice a' (appT ts ⟨3, t, f, o, dk, dn, ds⟩).length c'], .int .i64 (refE ts ⟨3, t, f, o, dk, dn, ds⟩)]) ∧ Typs w'.heap.size w' a' (appT ts ⟨3, t, f, o, dk, dn, ds⟩) ∧ Below w.heap.size w w' := by
  have h5 := hS.1
  have hk5 : ∀ k, (ty ts k).2.length ≤ 5 := fun k => by
    by_cases hk : k < ts.length
    · exact (hS.2 k hk).2.2.1
    · simp only [ty, List.getElem?_eq_none (Nat.le_of_not_lt hk), Option.getD_none]
      exact Nat.zero_le _
  obtain ⟨W0, hW0⟩ : ∃ W0, W0 = ((w.alloc (.cells #[.slice a ts.length cap] 24)).alloc (.cells #[.int .i64 3, .string t.1, .string f.1, .string o.1, .int .i64 dk, .int .i64 dn, .string ds.1] 42)).alloc (.cells #[.slice none 0 0] 24) := ⟨_, rfl⟩
  have e0 : W0.heap.size = w.heap.size + 3 := by rw [hW0]; simp
  have b0 : Below w.heap.size w W0 := by rw [hW0]; exact (((Below.refl _ _).alloc (Nat.le_refl _) _).alloc (by simp) _).alloc (by simp; omega) _
  have x2 : Box W0 w.heap.size 24 #[.slice a ts.length cap] := by
    rw [hW0]; exact ((Box.new w 24 #[.slice a ts.length cap]).alloc _).alloc _
  have x3 : Box W0 (w.heap.size + 1) 42 #[.int .i64 3, .string t.1, .string f.1, .string o.1, .int .i64 dk, .int .i64 dn, .string ds.1] := by
    have := Box.new (w.alloc (.cells #[.slice a ts.length cap] 24)) 42 #[.int .i64 3, .string t.1, .string f.1, .string o.1, .int .i64 dk, .int .i64 dn, .string ds.1]
    simp only [World.size_alloc] at this
    rw [hW0]; exact this.alloc _
  have x4 : Box W0 (w.heap.size + 1 + 1) 24 #[.slice none 0 0] := by
    have := Box.new ((w.alloc (.cells #[.slice a ts.length cap] 24)).alloc (.cells #[.int .i64 3, .string t.1, .string f.1, .string o.1, .int .i64 dk, .int .i64 dn, .string ds.1] 42)) 24 #[.slice none 0 0]
    simp only [World.size_alloc] at this
    rw [hW0]; exact this
  have T0 := hT.on b0
  have hW0' := hide hW0
  clear hW0
  obtain ⟨R, hR⟩ : ∃ R, R = refE ts ⟨3, t, f, o, dk, dn, ds⟩ := ⟨_, rfl⟩
  obtain ⟨A, hA⟩ : ∃ A, A = appT ts ⟨3, t, f, o, dk, dn, ds⟩ := ⟨_, rfl⟩
  rw [← hR, ← hA]
  replace hR := hide hR
  replace hA := hide hA
  obtain ⟨FB, hFB⟩ : ∃ FB, FB = formedB ⟨3, t, f, o, dk, dn, ds⟩ := ⟨_, rfl⟩
  have hFB' := hide hFB
  clear hFB
  go_enter Tryz.func33, Tryz.ntmps33
  go_upto_region 1 with fail
  rw [← unhide hW0']
  obtain ⟨hc0, hc1, hc2, hc3, hc4, hc5, hc6⟩ := x3.seven
  go_cut [57] (fun g wx => g = .bool (!FB) ∧ wx = W0)
  case first =>
    clear x2 x4 T0 b0 hT hS
    have cN : Hid (∀ W, Calls Tryz.prog 25 #[.string t.1] W fun e w' => e = .returned (.bool (nameB t.1)) ∧ w' = W) := fun W => refName_c t.1 W t.2
    cases hN : nameB t.1
    · have hf : FB = false := by rw [unhide hFB']; simp [formedB, hN]
      subst hf
      rw [hN] at cN
      go_wp2_with fail
      refine (unhide cN _).mono ?_
      rintro e w1 ⟨rfl, rfl⟩
      go_wp2_with fail
      go_meet
      case rel => exact ⟨rfl, rfl⟩
    · rw [hN] at cN
      obtain ⟨d0, hd0⟩ : ∃ d0, (dk == 0) = d0 := ⟨_, rfl⟩
      obtain ⟨d1, hd1⟩ : ∃ d1, (dn == 0) = d1 := ⟨_, rfl⟩
      all_goals cases d0
      all_goals cases d1
      all_goals
        go_wp2_with fail
        refine (unhide cN _).mono ?_
        rintro e w1 ⟨rfl, rfl⟩
        go_wp2_with fail
      all_goals
        go_meet
        case rel =>
          refine ⟨?_, rfl⟩
          rw [unhide hFB']
          simp_all [formedB, bareB, noD, noT]
  case rest =>
    obtain ⟨rfl, rfl⟩ := hcut
    -- an error: the schema as it was
    have ret := hide (show ∀ (n : Int), refE ts ⟨3, t, f, o, dk, dn, ds⟩ = n → n ≠ 0 → A = ts ∧ R = n from fun n h h0 => by rw [unhide hA, unhide hR]; simp [appT, h, h0])
    cases FB with
    | false =>
      have hr : refE ts ⟨3, t, f, o, dk, dn, ds⟩ = 10 := by simp [refE, ← unhide hFB']
      obtain ⟨eA, eR⟩ := unhide ret 10 hr (by decide)
      clear hr ret hA hR
      replace eA := hide eA
      replace eR := hide eR
      have hs := x2.one.1
      obtain ⟨hp0, hp1⟩ := x4.one
      go_wp2_with fail
      have u4 := (x4.set 0 (.slice a ts.length cap)).one.1
      have bb := b0.setCell (p := ⟨w.heap.size + 1 + 1, 0, none⟩) (by simp only; omega) (.slice a ts.length cap)
      exact bodyPost_ret (v := .tuple #[.agg #[.slice a ts.length cap], .int .i64 10]) (by simp [results, Tryz.results33, go_sem, u4]) rfl ⟨a, cap, by rw [unhide eA, unhide eR], by rw [unhide eA]; exact (hT.below bb).mono bb.size, bb⟩
    | true =>
      have hs0 := hide (Below.refl wc.heap.size wc)
      have hs := x2.one.1
      go_wp2_with fail
      go_loopw [6, 7] (fun p i wr => ∃ q : Nat, q ≤ ts.length ∧ p = .int .i64 (placeI ((tnames ts).take q) t.1) ∧ i = .int .i64 q ∧ Below wc.heap.size wc wr) (fun _ i _ => ts.length - (intOf i).toNat)
      case atStart => exact ⟨0, Nat.zero_le _, rfl, rfl, unhide hs0⟩
      case round =>
        obtain ⟨q, hq, rfl, rfl, hbw⟩ := hrel
        clear hs
        have y2 := x2.on hbw x2.lt
        have hs := y2.one.1
        have hc1' := (x3.on hbw x3.lt).seven.2.1
        by_cases hlt : q < ts.length
        · obtain ⟨b, off, ha, hcn, a1, c1, hcf, -⟩ := (T0.on hbw).at q hlt
          subst ha
          have htk : (tnames ts).take (q + 1) = (tnames ts).take q ++ [(ty ts q).1] := by
            rw [List.take_succ_eq_append_getElem (by rw [tnames_len]; exact hlt)]; simp [tnames, ty, hlt]
          cases hx : eqT t.1 (ty ts q).1
          · have hx' : ((ty ts q).1.1.toList == t.1.toList) = false := hx
            have hsucc := hide (show placeI ((tnames ts).take (q + 1)) t.1 = placeI ((tnames ts).take q) t.1 by
              unfold placeI placeN
              rw [htk, List.findIdx?_append]
              cases List.findIdx? (eqT t.1) ((tnames ts).take q) <;> simp [List.findIdx?_cons, hx])
            clear hx htk
            go_wp2_with fail
            go_quiet (fail)
            go_wp2_with fail
            exact ⟨⟨q + 1, by omega, by rw [unhide hsucc], by go_num, below_dn hbw _⟩, by simp [intOf]; omega⟩
          · have hx' : ((ty ts q).1.1.toList == t.1.toList) = true := hx
            have hsucc := hide (show placeI ((tnames ts).take (q + 1)) t.1 = q by
              have hno : List.findIdx? (eqT t.1) ((tnames ts).take q) = none := by
                rw [List.findIdx?_eq_none_iff]
                intro y hy
                cases hy' : eqT t.1 y
                · rfl
                · exfalso
                  obtain ⟨i, hi, rfl⟩ := List.getElem_of_mem hy
                  simp only [List.length_take, tnames_len] at hi
                  have hp := ((sch_iff ts).1 hS).2.2
                  rw [List.pairwise_iff_getElem] at hp
                  have h1 := hp i q (by omega) hlt (by omega)
                  rw [eqT_iff] at hy' hx
                  simp only [tnames, List.getElem_take, List.getElem_map] at hy'
                  rw [hy', ← hx, show ty ts q = ts[q] by simp [ty, hlt]] at h1
                  exact List.lt_irrefl _ h1
              unfold placeI placeN
              rw [htk, List.findIdx?_append, hno]
              simp [List.findIdx?_cons, hx, tnames_len]
              omega)
            clear hx htk
            go_wp2_with fail
            go_quiet (fail)
            go_wp2_with fail
            exact ⟨⟨q + 1, by omega, by rw [unhide hsucc], by go_num, below_dn hbw _⟩, by simp [intOf]; omega⟩
        · have hqe : q = ts.length := by omega
          have hpl : placeI ((tnames ts).take q) t.1 = placeI (tnames ts) t.1 := by rw [hqe, ← tnames_len ts, List.take_length]
          rw [hpl]
          obtain ⟨P, hP⟩ : ∃ P, P = placeI (tnames ts) t.1 := ⟨_, rfl⟩
          rw [← hP]
          replace hP := hide hP
          clear hpl
          subst hqe
          go_wp2_with fail
          have T1 := T0.on hbw
          have bw := b0.trans (hbw.mono (by omega))
          have z3 := x3.on hbw x3.lt
          have z4 := x4.on hbw x4.lt
          clear hs hc1'
          refine (copied_c a cap ts h5 hk5 _ T1).mono ?_
          rintro e W1 ⟨v, xs, rfl, hxs, hO, hb1, hap⟩
          replace hap := hide hap
          have y2' := y2.on hb1 y2.lt
          have z3' := z3.on hb1 z3.lt
          have z4' := z4.on hb1 z4.lt
          have bw1 := bw.trans (hb1.mono bw.size)
          obtain ⟨hd0, hd1, hd2, hd3, hd4, hd5, hd6⟩ := z3'.seven
          have hs := y2'.one.1
          have hxl : xs.length = ts.length := by rw [← hxs.1, List.length_map]
          obtain ⟨av, cv, rfl⟩ : ∃ av cv, v = .slice av ts.length cv := by
            rcases hO.2 with ⟨rfl, h0⟩ | ⟨g, cap', cur, rfl, -⟩
            · exact ⟨none, 0, by rw [← hxl, h0]⟩
            · exact ⟨_, _, by rw [hxl]⟩
          obtain ⟨W2, hW2⟩ : ∃ W2, W2 = W1.alloc (.cells #[.slice av ts.length cv] 24) := ⟨_, rfl⟩
          have bW : Below W1.heap.size W1 W2 := by rw [hW2]; exact (Below.refl _ _).alloc (Nat.le_refl _) _
          have eW : W2.heap.size = W1.heap.size + 1 := by rw [hW2]; simp
          have v8 : Box W2 W1.heap.size 24 #[.slice av ts.length cv] := by rw [hW2]; exact Box.new W1 24 #[.slice av ts.length cv]
          replace hW2 := hide hW2
          go_upto_region 10 with fail
          rw [← unhide hW2]
          clear hd0 hd1 hd2 hd3 hd4 hd5 hd6 hs
          have v2 := y2'.on bW y2'.lt
          have v3 := z3'.on bW z3'.lt
          have v4 := z4'.on bW z4'.lt
          have bw2 := bw1.trans (bW.mono bw1.size)
          obtain ⟨hd0, hd1, hd2, hd3, hd4, hd5, hd6⟩ := v3.seven
          have hs := v2.one.1
          obtain ⟨hp0, hp1⟩ := v4.one
          have u4 := (v4.set 0 (.slice a ts.length cap)).one.1
          have bb := bw2.setCell (p := ⟨w.heap.size + 1 + 1, 0, none⟩) (by simp only; omega) (.slice a ts.length cap)
          have fin := hide (show ∀ n, A = ts → R = n → ∃ a' c', Ending.returned (.tuple #[.agg #[.slice a ts.length cap], .int .i64 n]) = Ending.returned (.tuple #[.agg #[.slice a' A.length c'], .int .i64 R]) ∧ Typs (W2.setCell ⟨w.heap.size + 1 + 1, 0, none⟩ (.slice a ts.length cap)).heap.size (W2.setCell ⟨w.heap.size + 1 + 1, 0, none⟩ (.slice a ts.length cap)) a' A ∧ Below w.heap.size w (W2.setCell ⟨w.heap.size + 1 + 1, 0, none⟩ (.slice a ts.length cap)) from
            fun n eA eR => ⟨a, cap, by rw [eA, eR], by rw [eA]; exact (hT.below bb).mono bb.size, bb⟩)
          have hk : (3 : Int) ≠ 5 := by decide
          by_cases hP0 : 0 ≤ P
          · obtain ⟨j, hPj, hpn, hj⟩ : ∃ j : Nat, P = j ∧ placeN (tnames ts) t.1 = some j ∧ j < ts.length := by
              have hp := unhide hP
              unfold placeI at hp
              cases hpn : placeN (tnames ts) t.1 with
              | none => rw [hpn] at hp; simp only at hp; omega
              | some j =>
                rw [hpn] at hp
                refine ⟨j, hp, rfl, ?_⟩
                have h1 := (List.findIdx?_eq_some_iff_getElem.1 hpn).1
                rwa [tnames_len] at h1
            subst hPj
            have hpn' := hide hpn
            clear hpn
            have hO' := hO
            rw [hxl] at hO'
            obtain ⟨b, eb, hbb, hbl, -⟩ := owns_cells hO' (by omega)
            subst eb
            have hwr : w.heap.size + 3 ≤ wr.heap.size := by have := hbw.size; omega
            have hC2 := hide ((Cp.mk hxs.1 hO' hxs.2 (unhide hap)).on bW)
            obtain ⟨a1, c1, hx0, hcn, hcf, hfz, hOF⟩ := (unhide hC2).at hj
            replace hx0 := hide hx0
            replace hOF := hide hOF
            obtain ⟨_, _, e1, hF, -⟩ := flds_of_owns (unhide hOF)
            cases e1
            clear hfz hO' hO hxs
            have hv8 := v8.one.1
            go_upto_region 23 with fail
            obtain ⟨W3, hW3⟩ : ∃ W3, W3 = W2.alloc (.cells #[.string (ty ts j).1.1, .slice a1 (ty ts j).2.length c1] 69) := ⟨_, rfl⟩
            have bW3 : Below W2.heap.size W2 W3 := by rw [hW3]; exact (Below.refl _ _).alloc (Nat.le_refl _) _
            have v10 : Box W3 (W1.heap.size + 1) 69 #[.string (ty ts j).1.1, .slice a1 (ty ts j).2.length c1] := by rw [hW3, ← eW]; exact Box.new W2 69 #[.string (ty ts j).1.1, .slice a1 (ty ts j).2.length c1]
            rw [← hW3]
            replace hW3 := hide hW3
            clear hd0 hd1 hd2 hd3 hd4 hd5 hd6 hs hp0 hp1 hv8 hcn hcf u4 fin
            have F3 := hF.on bW3
            have hc5f := hk5 j
            obtain ⟨hd0, hd1, hd2, hd3, hd4, hd5, hd6⟩ := (v3.on bW3 v3.lt).seven
            obtain ⟨ht0, ht1⟩ := v10.two
            go_wp2_with fail
            refine (refField_c _ f.1 a1 c1 (ty ts j).2 hc5f W3 F3).mono ?_
            rintro e W4 ⟨rfl, hb4⟩
            clear hd0 hd1 hd2 hd3 hd4 hd5 hd6 ht0 ht1
            have bW4 := bW3.trans (hb4.mono bW3.size)
            have q2 := v2.on bW4 v2.lt
            have q3 := v3.on bW4 v3.lt
            have q4 := v4.on bW4 v4.lt
            have q8 := v8.on bW4 v8.lt
            have q10 := v10.on hb4 v10.lt
            have F4 := F3.on hb4
            have bw4 := bw2.trans (bW4.mono bw2.size)
            obtain ⟨hd0, hd1, hd2, hd3, hd4, hd5, hd6⟩ := q3.seven
            have hs := q2.one.1
            obtain ⟨hp0, hp1⟩ := q4.one
            have u4 := (q4.set 0 (.slice a ts.length cap)).one.1
            have fin := hide (show ∀ (W : World) (n : Int), Below w.heap.size w W → A = ts ∧ R = n → ∃ a' c', Ending.returned (.tuple #[.agg #[.slice a ts.length cap], .int .i64 n]) = Ending.returned (.tuple #[.agg #[.slice a' A.length c'], .int .i64 R]) ∧ Typs (W.setCell ⟨w.heap.size + 1 + 1, 0, none⟩ (.slice a ts.length cap)).heap.size (W.setCell ⟨w.heap.size + 1 + 1, 0, none⟩ (.slice a ts.length cap)) a' A ∧ Below w.heap.size w (W.setCell ⟨w.heap.size + 1 + 1, 0, none⟩ (.slice a ts.length cap)) from by
              rintro W n bW ⟨eA, eR⟩
              have bb := bW.setCell (p := ⟨w.heap.size + 1 + 1, 0, none⟩) (by simp only; omega) (.slice a ts.length cap)
              exact ⟨a, cap, by rw [eA, eR], by rw [eA]; exact (hT.below bb).mono bb.size, bb⟩)
            obtain ⟨Fp, hFp⟩ : ∃ Fp, Fp = placeI (fnames (ty ts j).2) f.1 := ⟨_, rfl⟩
            rw [← hFp]
            replace hFp := hide hFp
            go_upto_region 25 with fail
            clear hk
            -- a field's new name
            by_cases hF0 : Fp < 0
            · have hr : refE ts ⟨3, t, f, o, dk, dn, ds⟩ = 13 := by
                have h0 : placeN (fnames (ty ts j).2) f.1 = none := by
                  have hp := unhide hFp
                  unfold placeI at hp
                  cases hpn : placeN (fnames (ty ts j).2) f.1 with
                  | none => rfl
                  | some j => rw [hpn] at hp; simp only at hp; omega
                simp [refE, ← unhide hFB', unhide hpn', atE, h0]
              have fin' := hide (unhide fin W4 13 bw4 (unhide ret 13 hr (by decide)))
              clear fin ret hA hR hr
              go_wp2_with fail
              exact bodyPost_ret (v := .tuple #[.agg #[.slice a ts.length cap], .int .i64 13]) (by simp [results, Tryz.results33, go_sem, u4]) rfl (by obtain ⟨a', c', h1, h2, h3⟩ := unhide fin'; first | exact ⟨a', ⟨c', h1⟩, h2, h3⟩ | exact ⟨a', c', h1, h2, h3⟩)
            obtain ⟨p, hFq, hfp, hp⟩ : ∃ p : Nat, Fp = p ∧ placeN (fnames (ty ts j).2) f.1 = some p ∧ p < (ty ts j).2.length := by
              have hp := unhide hFp
              unfold placeI at hp
              cases hpn : placeN (fnames (ty ts j).2) f.1 with
              | none => rw [hpn] at hp; simp only at hp; omega
              | some p =>
                rw [hpn] at hp
                refine ⟨p, hp, rfl, ?_⟩
                have h1 := (List.findIdx?_eq_some_iff_getElem.1 hpn).1
                simpa [fnames] using h1
            subst hFq
            replace hfp := hide hfp
            have cN : Hid (∀ W, Calls Tryz.prog 25 #[.string o.1] W fun e w' => e = .returned (.bool (nameB o.1)) ∧ w' = W) := fun W => refName_c o.1 W o.2
            cases hN : nameB o.1
            · have hr : refE ts ⟨3, t, f, o, dk, dn, ds⟩ = 10 := by simp [refE, ← unhide hFB', unhide hpn', atE, unhide hfp, hN]
              have fin' := hide (unhide fin W4 10 bw4 (unhide ret 10 hr (by decide)))
              rw [hN] at cN
              clear fin ret hA hR hr
              go_wp2_with fail
              refine (unhide cN _).mono ?_
              rintro e w1 ⟨rfl, rfl⟩
              go_wp2_with fail
              exact bodyPost_ret (v := .tuple #[.agg #[.slice a ts.length cap], .int .i64 10]) (by simp [results, Tryz.results33, go_sem, u4]) rfl (by obtain ⟨a', c', h1, h2, h3⟩ := unhide fin'; first | exact ⟨a', ⟨c', h1⟩, h2, h3⟩ | exact ⟨a', c', h1, h2, h3⟩)
            · rw [hN] at cN
              obtain ⟨Op, hOp⟩ : ∃ Op, Op = placeI (fnames (ty ts j).2) o.1 := ⟨_, rfl⟩
              have cF : Hid (Calls Tryz.prog 26 #[.agg #[.string (ty ts j).1.1, .slice a1 (ty ts j).2.length c1], .string o.1] W4 fun e w' => e = .returned (.int .i64 Op) ∧ Below W4.heap.size W4 w') := by
                rw [hOp]; exact refField_c _ o.1 a1 c1 (ty ts j).2 hc5f W4 F4
              replace hOp := hide hOp
              obtain ⟨ht0, ht1⟩ := q10.two
              go_wp2_with fail
              refine (unhide cN _).mono ?_
              rintro e w1 ⟨rfl, rfl⟩
              go_wp2_with fail
              refine (unhide cF).mono ?_
              rintro e W5 ⟨rfl, hb5⟩
              clear cF cN hd0 hd1 hd2 hd3 hd4 hd5 hd6 hs hp0 hp1 u4 ht0 ht1
              by_cases hO0 : 0 ≤ Op
              · have hr : refE ts ⟨3, t, f, o, dk, dn, ds⟩ = 13 := by
                  have h0 : hasB (ty ts j).2 o.1 = true := by
                    have hp := unhide hOp
                    unfold placeI at hp
                    unfold hasB
                    cases hpn : placeN (fnames (ty ts j).2) o.1 with
                    | none => rw [hpn] at hp; simp only at hp; omega
                    | some j => rfl
                  simp [refE, ← unhide hFB', unhide hpn', atE, unhide hfp, hN, h0]
                have fin' := hide (unhide fin W5 13 (bw4.trans (hb5.mono bw4.size)) (unhide ret 13 hr (by decide)))
                have hs := (q2.on hb5 q2.lt).one.1
                have q4' := q4.on hb5 q4.lt
                obtain ⟨hp0, hp1⟩ := q4'.one
                have u4 := (q4'.set 0 (.slice a ts.length cap)).one.1
                clear fin ret hA hR hr
                go_wp2_with fail
                exact bodyPost_ret (v := .tuple #[.agg #[.slice a ts.length cap], .int .i64 13]) (by simp [results, Tryz.results33, go_sem, u4]) rfl (by obtain ⟨a', c', h1, h2, h3⟩ := unhide fin'; first | exact ⟨a', ⟨c', h1⟩, h2, h3⟩ | exact ⟨a', c', h1, h2, h3⟩)
              · have hr : refE ts ⟨3, t, f, o, dk, dn, ds⟩ = 0 := by
                  have h0 : hasB (ty ts j).2 o.1 = false := by
                    have hp := unhide hOp
                    unfold placeI at hp
                    unfold hasB
                    cases hpn : placeN (fnames (ty ts j).2) o.1 with
                    | none => rfl
                    | some j => rw [hpn] at hp; simp only at hp; omega
                  simp [refE, ← unhide hFB', unhide hpn', atE, unhide hfp, hN, h0]
                have eA := hide (show A = ts.set j ((ty ts j).1, (ty ts j).2.set p (o, (fd (ty ts j).2 p).2)) by
                  rw [unhide hA, app_set hS hr (by simp) (unhide hpn'), fNew_three (hS.2 j hj).2.2 (unhide hfp) (place_key (unhide hpn')).2 rfl])
                have eR := hide (show R = 0 from (unhide hR).trans hr)
                clear hr ret fin hA hR
                have b5 := bw4.trans (hb5.mono bw4.size)
                have hC5 := hide (((unhide hC2).on bW4).on hb5)
                have q8' := q8.on hb5 q8.lt
                have q4' := q4.on hb5 q4.lt
                have q10' := q10.on hb5 q10.lt
                have q3' := q3.on hb5 q3.lt
                have OF5 := owns_below (owns_below (unhide hOF) bW4) hb5
                obtain ⟨g1, e1, hg1b, hg1l, -, ⟨cur1, hg1⟩, hcell, hfrz⟩ := owns_cells OF5 (by omega)
                subst e1
                have ef0 := hcell (p * 2) (by omega)
                rw [(newsF_at _ p hp).1] at ef0
                have ff0 := hfrz (p * 2)
                have ne8 := box_ne q8' hg1 (by decide)
                have ne10 := box_ne q10' hg1 (by decide)
                have neb := box_ne (B := b) (t := 69) (owns_lt (unhide hC5).row rfl).2.choose_spec hg1 (by decide)
                obtain ⟨hd0, hd1, hd2, hd3, hd4, hd5, hd6⟩ := q3'.seven
                obtain ⟨ht0, ht1⟩ := q10'.two
                replace hcell := hide hcell
                replace hfrz := hide hfrz
                replace OF5 := hide OF5
                go_upto_region 48 with fail
                have r8 := q8'.other ⟨g1, p * 2, none⟩ (.string o.1) ne8
                have r4 := q4'.other ⟨g1, p * 2, none⟩ (.string o.1) (by simp only; omega)
                have r10 := q10'.other ⟨g1, p * 2, none⟩ (.string o.1) ne10
                have b6 := b5.setCell (p := ⟨g1, p * 2, none⟩) (by simp only; omega) (.string o.1)
                have own6 := owns_putR (unhide OF5) (p * 2) (by omega) (.string o.1)
                rw [← newsF_name (ty ts j).2 p hp o] at own6
                have hs6 : ∀ q, q < W5.heap.size → some q ≠ (Value.slice (some ⟨g1, 0, none⟩) (ty ts j).2.length c1).ownBlock → (∀ cs, ¬ (W5.heap[q]? = some (.cells cs 69 (0, 0)) ∧ q ≠ b)) → (W5.setCell ⟨g1, p * 2, none⟩ (.string o.1)).heap[q]? = W5.heap[q]? := fun q _ hq _ => setCell_block _ _ _ (fun e => hq (by simp only at e; rw [← e]; rfl))
                have cb6 : (W5.setCell ⟨g1, p * 2, none⟩ (.string o.1)).cell? ⟨b, j * 2, none⟩ = some (.string (ty ts j).1.1) ∧ (W5.setCell ⟨g1, p * 2, none⟩ (.string o.1)).cell? ⟨b, j * 2 + 1, none⟩ = some (.slice (some ⟨g1, 0, none⟩) (ty ts j).2.length c1) := by
                  obtain ⟨_, _, ⟨_, hz⟩, z1, z2, _, _⟩ := (unhide hC5).at hj
                  obtain ⟨_, hz'⟩ := unhide hx0
                  rw [hz'] at hz
                  cases hz
                  exact ⟨(World.cell?_of_block (a := ⟨b, j * 2, none⟩) (setCell_block _ _ _ neb)).trans z1, (World.cell?_of_block (a := ⟨b, j * 2 + 1, none⟩) (setCell_block _ _ _ neb)).trans z2⟩
                have fz6 : ∀ i, (W5.setCell ⟨g1, p * 2, none⟩ (.string o.1)).frozen? ⟨b, i, none⟩ = false := fun i => by
                  obtain ⟨_, _, _, _, _, z, _⟩ := (unhide hC5).at hj
                  exact (World.frozen?_of_block (a := ⟨b, i, none⟩) (setCell_block _ _ _ neb)).trans (z i)
                obtain ⟨fs', hfs'⟩ : ∃ fs', fs' = (ty ts j).2.set p (o, (fd (ty ts j).2 p).2) := ⟨_, rfl⟩
                have hl6 : (ty ts j).2.length = fs'.length := by rw [hfs', List.length_set]
                have hf6 := hide (show fs'.length ≤ 6 by omega)
                obtain ⟨W6, hW6⟩ : ∃ W6, W6 = W5.setCell ⟨g1, p * 2, none⟩ (.string o.1) := ⟨_, rfl⟩
                rw [← hW6] at r8 r4 r10 b6 own6 hs6 cb6 fz6 ⊢
                rw [← hfs', hl6] at own6
                rw [hl6] at r10
                rw [← hfs'] at eA
                have h10 := hide hl6
                replace own6 := hide own6
                replace hs6 := hide hs6
                replace cb6 := hide cb6
                replace fz6 := hide fz6
                clear hW6 hl6 ef0 ff0 hfs'

                have fin6 := hide (Cp.final (unhide hC5) hj (unhide hx0) (unhide hs6) (unhide own6) hk5 (unhide hf6) (S := w.heap.size + 1 + 1) (by omega) (.slice (some ⟨b, 0, none⟩) ts.length cv))
                obtain ⟨w80, w81⟩ := r8.one
                obtain ⟨wt0, wt1⟩ := r10.two
                obtain ⟨wb0, wb1⟩ := unhide cb6
                have wf0 := unhide fz6 (j * 2)
                have wf1 := unhide fz6 (j * 2 + 1)
                clear hd0 hd1 hd2 hd3 hd4 hd5 hd6 ht0 ht1
                go_upto_region 51 with fail
                have z8 := (r8.other ⟨b, j * 2, none⟩ (.string (ty ts j).1.1) (by simp only; omega)).other ⟨b, j * 2 + 1, none⟩ (.slice (some ⟨g1, 0, none⟩) fs'.length c1) (by simp only; omega)
                have z4 := (r4.other ⟨b, j * 2, none⟩ (.string (ty ts j).1.1) (by simp only; omega)).other ⟨b, j * 2 + 1, none⟩ (.slice (some ⟨g1, 0, none⟩) fs'.length c1) (by simp only; omega)
                have bz := (b6.setCell (p := ⟨b, j * 2, none⟩) (by simp only; omega) (.string (ty ts j).1.1)).setCell (p := ⟨b, j * 2 + 1, none⟩) (by simp only; omega) (.slice (some ⟨g1, 0, none⟩) fs'.length c1)
                obtain ⟨W7, hW7⟩ : ∃ W7, W7 = (W6.setCell ⟨b, j * 2, none⟩ (.string (ty ts j).1.1)).setCell ⟨b, j * 2 + 1, none⟩ (.slice (some ⟨g1, 0, none⟩) fs'.length c1) := ⟨_, rfl⟩
                rw [← hW7] at z8 z4 bz fin6 ⊢
                clear hW7 wb0 wb1 wf0 wf1 w80 w81 wt0 wt1
                have k80 := z8.one.1
                obtain ⟨k40, k41⟩ := z4.one
                go_wp2_with fail
                have u4 := (z4.set 0 (.slice (some ⟨b, 0, none⟩) ts.length cv)).one.1
                have fE : ∃ a' c', Ending.returned (.tuple #[.agg #[.slice (some ⟨b, 0, none⟩) ts.length cv], .int .i64 0]) = Ending.returned (.tuple #[.agg #[.slice a' A.length c'], .int .i64 R]) ∧ Typs (W7.setCell ⟨w.heap.size + 1 + 1, 0, none⟩ (.slice (some ⟨b, 0, none⟩) ts.length cv)).heap.size (W7.setCell ⟨w.heap.size + 1 + 1, 0, none⟩ (.slice (some ⟨b, 0, none⟩) ts.length cv)) a' A ∧ Below w.heap.size w (W7.setCell ⟨w.heap.size + 1 + 1, 0, none⟩ (.slice (some ⟨b, 0, none⟩) ts.length cv)) :=
                  ⟨some ⟨b, 0, none⟩, cv, by rw [unhide eR, unhide eA, List.length_set], by rw [unhide eA]; exact unhide fin6, bz.setCell (p := ⟨w.heap.size + 1 + 1, 0, none⟩) (by simp only; omega) _⟩
                exact bodyPost_ret (v := .tuple #[.agg #[.slice (some ⟨b, 0, none⟩) ts.length cv], .int .i64 0]) (by simp [results, Tryz.results33, go_sem, u4]) rfl (by obtain ⟨a', c', h1, h2, h3⟩ := fE; first | exact ⟨a', ⟨c', h1⟩, h2, h3⟩ | exact ⟨a', c', h1, h2, h3⟩)
          · have hpn : placeN (tnames ts) t.1 = none := by
              have hp := unhide hP
              unfold placeI at hp
              cases hpn : placeN (tnames ts) t.1 with
              | none => rfl
              | some j => rw [hpn] at hp; simp only at hp; omega
            have hr : refE ts ⟨3, t, f, o, dk, dn, ds⟩ = 13 := by simp [refE, ← unhide hFB', hpn, hk]
            obtain ⟨eA, eR⟩ := unhide ret 13 hr (by decide)
            clear hr ret hA hR
            have fin' := hide (unhide fin 13 eA eR)
            clear fin eA eR hpn
            go_wp2_with fail
            exact bodyPost_ret (v := .tuple #[.agg #[.slice a ts.length cap], .int .i64 13]) (by simp [results, Tryz.results33, go_sem, u4]) rfl (by obtain ⟨a', c', h1, h2, h3⟩ := unhide fin'; exact ⟨a', ⟨c', h1⟩, h2, h3⟩)

end Go.Proofs.YtcjpaldijngnpaaGreatDoor

namespace Go.Proofs.YtcjpaldijngnpaaGreatDoor
open Go.RowKit Go.Shelf

set_option maxRecDepth 100000 in
set_option maxHeartbeats 8000000 in
theorem refApply_4 (a : Option Addr) (cap : Nat) (ts : List Ty) (t f o : Txt) (dk dn : Int) (ds : Txt) (hS : Sch ts) (w : World) (hT : Typs w.heap.size w a ts) :
    Calls Tryz.prog 33 #[.agg #[.slice a ts.length cap], (⟨4, t, f, o, dk, dn, ds⟩ : Ch).v] w fun e w' => ∃ a' c', e = .returned (.tuple #[.agg #[.slice a' (appT ts ⟨4, t, f, o, dk, dn, ds⟩).length c'], .int .i64 (refE ts ⟨4, t, f, o, dk, dn, ds⟩)]) ∧ Typs w'.heap.size w' a' (appT ts ⟨4, t, f, o, dk, dn, ds⟩) ∧ Below w.heap.size w w' := by
  have h5 := hS.1
  have hk5 : ∀ k, (ty ts k).2.length ≤ 5 := fun k => by
    by_cases hk : k < ts.length
    · exact (hS.2 k hk).2.2.1
    · simp only [ty, List.getElem?_eq_none (Nat.le_of_not_lt hk), Option.getD_none]
      exact Nat.zero_le _
  obtain ⟨W0, hW0⟩ : ∃ W0, W0 = ((w.alloc (.cells #[.slice a ts.length cap] 24)).alloc (.cells #[.int .i64 4, .string t.1, .string f.1, .string o.1, .int .i64 dk, .int .i64 dn, .string ds.1] 42)).alloc (.cells #[.slice none 0 0] 24) := ⟨_, rfl⟩
  have e0 : W0.heap.size = w.heap.size + 3 := by rw [hW0]; simp
  have b0 : Below w.heap.size w W0 := by rw [hW0]; exact (((Below.refl _ _).alloc (Nat.le_refl _) _).alloc (by simp) _).alloc (by simp; omega) _
  have x2 : Box W0 w.heap.size 24 #[.slice a ts.length cap] := by
    rw [hW0]; exact ((Box.new w 24 #[.slice a ts.length cap]).alloc _).alloc _
  have x3 : Box W0 (w.heap.size + 1) 42 #[.int .i64 4, .string t.1, .string f.1, .string o.1, .int .i64 dk, .int .i64 dn, .string ds.1] := by
    have := Box.new (w.alloc (.cells #[.slice a ts.length cap] 24)) 42 #[.int .i64 4, .string t.1, .string f.1, .string o.1, .int .i64 dk, .int .i64 dn, .string ds.1]
    simp only [World.size_alloc] at this
    rw [hW0]; exact this.alloc _
  have x4 : Box W0 (w.heap.size + 1 + 1) 24 #[.slice none 0 0] := by
    have := Box.new ((w.alloc (.cells #[.slice a ts.length cap] 24)).alloc (.cells #[.int .i64 4, .string t.1, .string f.1, .string o.1, .int .i64 dk, .int .i64 dn, .string ds.1] 42)) 24 #[.slice none 0 0]
    simp only [World.size_alloc] at this
    rw [hW0]; exact this
  have T0 := hT.on b0
  have hW0' := hide hW0
  clear hW0
  obtain ⟨R, hR⟩ : ∃ R, R = refE ts ⟨4, t, f, o, dk, dn, ds⟩ := ⟨_, rfl⟩
  obtain ⟨A, hA⟩ : ∃ A, A = appT ts ⟨4, t, f, o, dk, dn, ds⟩ := ⟨_, rfl⟩
  rw [← hR, ← hA]
  replace hR := hide hR
  replace hA := hide hA
  obtain ⟨FB, hFB⟩ : ∃ FB, FB = formedB ⟨4, t, f, o, dk, dn, ds⟩ := ⟨_, rfl⟩
  have hFB' := hide hFB
  clear hFB
  go_enter Tryz.func33, Tryz.ntmps33
  go_upto_region 1 with fail
  rw [← unhide hW0']
  obtain ⟨hc0, hc1, hc2, hc3, hc4, hc5, hc6⟩ := x3.seven
  go_cut [57] (fun g wx => g = .bool (!FB) ∧ wx = W0)
  case first =>
    clear x2 x4 T0 b0 hT hS
    have cN : Hid (∀ W, Calls Tryz.prog 25 #[.string t.1] W fun e w' => e = .returned (.bool (nameB t.1)) ∧ w' = W) := fun W => refName_c t.1 W t.2
    cases hN : nameB t.1
    · have hf : FB = false := by rw [unhide hFB']; simp [formedB, hN]
      subst hf
      rw [hN] at cN
      go_wp2_with fail
      refine (unhide cN _).mono ?_
      rintro e w1 ⟨rfl, rfl⟩
      go_wp2_with fail
      go_meet
      case rel => exact ⟨rfl, rfl⟩
    · rw [hN] at cN
      obtain ⟨d0, hd0⟩ : ∃ d0, (dk == 0) = d0 := ⟨_, rfl⟩
      obtain ⟨d1, hd1⟩ : ∃ d1, (dn == 0) = d1 := ⟨_, rfl⟩
      all_goals cases d0
      all_goals cases d1
      all_goals
        go_wp2_with fail
        refine (unhide cN _).mono ?_
        rintro e w1 ⟨rfl, rfl⟩
        go_wp2_with fail
      all_goals
        go_meet
        case rel =>
          refine ⟨?_, rfl⟩
          rw [unhide hFB']
          simp_all [formedB, bareB, noD, noT]
  case rest =>
    obtain ⟨rfl, rfl⟩ := hcut
    -- an error: the schema as it was
    have ret := hide (show ∀ (n : Int), refE ts ⟨4, t, f, o, dk, dn, ds⟩ = n → n ≠ 0 → A = ts ∧ R = n from fun n h h0 => by rw [unhide hA, unhide hR]; simp [appT, h, h0])
    cases FB with
    | false =>
      have hr : refE ts ⟨4, t, f, o, dk, dn, ds⟩ = 10 := by simp [refE, ← unhide hFB']
      obtain ⟨eA, eR⟩ := unhide ret 10 hr (by decide)
      clear hr ret hA hR
      replace eA := hide eA
      replace eR := hide eR
      have hs := x2.one.1
      obtain ⟨hp0, hp1⟩ := x4.one
      go_wp2_with fail
      have u4 := (x4.set 0 (.slice a ts.length cap)).one.1
      have bb := b0.setCell (p := ⟨w.heap.size + 1 + 1, 0, none⟩) (by simp only; omega) (.slice a ts.length cap)
      exact bodyPost_ret (v := .tuple #[.agg #[.slice a ts.length cap], .int .i64 10]) (by simp [results, Tryz.results33, go_sem, u4]) rfl ⟨a, cap, by rw [unhide eA, unhide eR], by rw [unhide eA]; exact (hT.below bb).mono bb.size, bb⟩
    | true =>
      have hs0 := hide (Below.refl wc.heap.size wc)
      have hs := x2.one.1
      go_wp2_with fail
      go_loopw [6, 7] (fun p i wr => ∃ q : Nat, q ≤ ts.length ∧ p = .int .i64 (placeI ((tnames ts).take q) t.1) ∧ i = .int .i64 q ∧ Below wc.heap.size wc wr) (fun _ i _ => ts.length - (intOf i).toNat)
      case atStart => exact ⟨0, Nat.zero_le _, rfl, rfl, unhide hs0⟩
      case round =>
        obtain ⟨q, hq, rfl, rfl, hbw⟩ := hrel
        clear hs
        have y2 := x2.on hbw x2.lt
        have hs := y2.one.1
        have hc1' := (x3.on hbw x3.lt).seven.2.1
        by_cases hlt : q < ts.length
        · obtain ⟨b, off, ha, hcn, a1, c1, hcf, -⟩ := (T0.on hbw).at q hlt
          subst ha
          have htk : (tnames ts).take (q + 1) = (tnames ts).take q ++ [(ty ts q).1] := by
            rw [List.take_succ_eq_append_getElem (by rw [tnames_len]; exact hlt)]; simp [tnames, ty, hlt]
          cases hx : eqT t.1 (ty ts q).1
          · have hx' : ((ty ts q).1.1.toList == t.1.toList) = false := hx
            have hsucc := hide (show placeI ((tnames ts).take (q + 1)) t.1 = placeI ((tnames ts).take q) t.1 by
              unfold placeI placeN
              rw [htk, List.findIdx?_append]
              cases List.findIdx? (eqT t.1) ((tnames ts).take q) <;> simp [List.findIdx?_cons, hx])
            clear hx htk
            go_wp2_with fail
            go_quiet (fail)
            go_wp2_with fail
            exact ⟨⟨q + 1, by omega, by rw [unhide hsucc], by go_num, below_dn hbw _⟩, by simp [intOf]; omega⟩
          · have hx' : ((ty ts q).1.1.toList == t.1.toList) = true := hx
            have hsucc := hide (show placeI ((tnames ts).take (q + 1)) t.1 = q by
              have hno : List.findIdx? (eqT t.1) ((tnames ts).take q) = none := by
                rw [List.findIdx?_eq_none_iff]
                intro y hy
                cases hy' : eqT t.1 y
                · rfl
                · exfalso
                  obtain ⟨i, hi, rfl⟩ := List.getElem_of_mem hy
                  simp only [List.length_take, tnames_len] at hi
                  have hp := ((sch_iff ts).1 hS).2.2
                  rw [List.pairwise_iff_getElem] at hp
                  have h1 := hp i q (by omega) hlt (by omega)
                  rw [eqT_iff] at hy' hx
                  simp only [tnames, List.getElem_take, List.getElem_map] at hy'
                  rw [hy', ← hx, show ty ts q = ts[q] by simp [ty, hlt]] at h1
                  exact List.lt_irrefl _ h1
              unfold placeI placeN
              rw [htk, List.findIdx?_append, hno]
              simp [List.findIdx?_cons, hx, tnames_len]
              omega)
            clear hx htk
            go_wp2_with fail
            go_quiet (fail)
            go_wp2_with fail
            exact ⟨⟨q + 1, by omega, by rw [unhide hsucc], by go_num, below_dn hbw _⟩, by simp [intOf]; omega⟩
        · have hqe : q = ts.length := by omega
          have hpl : placeI ((tnames ts).take q) t.1 = placeI (tnames ts) t.1 := by rw [hqe, ← tnames_len ts, List.take_length]
          rw [hpl]
          obtain ⟨P, hP⟩ : ∃ P, P = placeI (tnames ts) t.1 := ⟨_, rfl⟩
          rw [← hP]
          replace hP := hide hP
          clear hpl
          subst hqe
          go_wp2_with fail
          have T1 := T0.on hbw
          have bw := b0.trans (hbw.mono (by omega))
          have z3 := x3.on hbw x3.lt
          have z4 := x4.on hbw x4.lt
          clear hs hc1'
          refine (copied_c a cap ts h5 hk5 _ T1).mono ?_
          rintro e W1 ⟨v, xs, rfl, hxs, hO, hb1, hap⟩
          replace hap := hide hap
          have y2' := y2.on hb1 y2.lt
          have z3' := z3.on hb1 z3.lt
          have z4' := z4.on hb1 z4.lt
          have bw1 := bw.trans (hb1.mono bw.size)
          obtain ⟨hd0, hd1, hd2, hd3, hd4, hd5, hd6⟩ := z3'.seven
          have hs := y2'.one.1
          have hxl : xs.length = ts.length := by rw [← hxs.1, List.length_map]
          obtain ⟨av, cv, rfl⟩ : ∃ av cv, v = .slice av ts.length cv := by
            rcases hO.2 with ⟨rfl, h0⟩ | ⟨g, cap', cur, rfl, -⟩
            · exact ⟨none, 0, by rw [← hxl, h0]⟩
            · exact ⟨_, _, by rw [hxl]⟩
          obtain ⟨W2, hW2⟩ : ∃ W2, W2 = W1.alloc (.cells #[.slice av ts.length cv] 24) := ⟨_, rfl⟩
          have bW : Below W1.heap.size W1 W2 := by rw [hW2]; exact (Below.refl _ _).alloc (Nat.le_refl _) _
          have eW : W2.heap.size = W1.heap.size + 1 := by rw [hW2]; simp
          have v8 : Box W2 W1.heap.size 24 #[.slice av ts.length cv] := by rw [hW2]; exact Box.new W1 24 #[.slice av ts.length cv]
          replace hW2 := hide hW2
          go_upto_region 10 with fail
          rw [← unhide hW2]
          clear hd0 hd1 hd2 hd3 hd4 hd5 hd6 hs
          have v2 := y2'.on bW y2'.lt
          have v3 := z3'.on bW z3'.lt
          have v4 := z4'.on bW z4'.lt
          have bw2 := bw1.trans (bW.mono bw1.size)
          obtain ⟨hd0, hd1, hd2, hd3, hd4, hd5, hd6⟩ := v3.seven
          have hs := v2.one.1
          obtain ⟨hp0, hp1⟩ := v4.one
          have u4 := (v4.set 0 (.slice a ts.length cap)).one.1
          have bb := bw2.setCell (p := ⟨w.heap.size + 1 + 1, 0, none⟩) (by simp only; omega) (.slice a ts.length cap)
          have fin := hide (show ∀ n, A = ts → R = n → ∃ a' c', Ending.returned (.tuple #[.agg #[.slice a ts.length cap], .int .i64 n]) = Ending.returned (.tuple #[.agg #[.slice a' A.length c'], .int .i64 R]) ∧ Typs (W2.setCell ⟨w.heap.size + 1 + 1, 0, none⟩ (.slice a ts.length cap)).heap.size (W2.setCell ⟨w.heap.size + 1 + 1, 0, none⟩ (.slice a ts.length cap)) a' A ∧ Below w.heap.size w (W2.setCell ⟨w.heap.size + 1 + 1, 0, none⟩ (.slice a ts.length cap)) from
            fun n eA eR => ⟨a, cap, by rw [eA, eR], by rw [eA]; exact (hT.below bb).mono bb.size, bb⟩)
          have hk : (4 : Int) ≠ 5 := by decide
          by_cases hP0 : 0 ≤ P
          · obtain ⟨j, hPj, hpn, hj⟩ : ∃ j : Nat, P = j ∧ placeN (tnames ts) t.1 = some j ∧ j < ts.length := by
              have hp := unhide hP
              unfold placeI at hp
              cases hpn : placeN (tnames ts) t.1 with
              | none => rw [hpn] at hp; simp only at hp; omega
              | some j =>
                rw [hpn] at hp
                refine ⟨j, hp, rfl, ?_⟩
                have h1 := (List.findIdx?_eq_some_iff_getElem.1 hpn).1
                rwa [tnames_len] at h1
            subst hPj
            have hpn' := hide hpn
            clear hpn
            have hO' := hO
            rw [hxl] at hO'
            obtain ⟨b, eb, hbb, hbl, -⟩ := owns_cells hO' (by omega)
            subst eb
            have hwr : w.heap.size + 3 ≤ wr.heap.size := by have := hbw.size; omega
            have hC2 := hide ((Cp.mk hxs.1 hO' hxs.2 (unhide hap)).on bW)
            obtain ⟨a1, c1, hx0, hcn, hcf, hfz, hOF⟩ := (unhide hC2).at hj
            replace hx0 := hide hx0
            replace hOF := hide hOF
            obtain ⟨_, _, e1, hF, -⟩ := flds_of_owns (unhide hOF)
            cases e1
            clear hfz hO' hO hxs
            have hv8 := v8.one.1
            go_upto_region 23 with fail
            obtain ⟨W3, hW3⟩ : ∃ W3, W3 = W2.alloc (.cells #[.string (ty ts j).1.1, .slice a1 (ty ts j).2.length c1] 69) := ⟨_, rfl⟩
            have bW3 : Below W2.heap.size W2 W3 := by rw [hW3]; exact (Below.refl _ _).alloc (Nat.le_refl _) _
            have v10 : Box W3 (W1.heap.size + 1) 69 #[.string (ty ts j).1.1, .slice a1 (ty ts j).2.length c1] := by rw [hW3, ← eW]; exact Box.new W2 69 #[.string (ty ts j).1.1, .slice a1 (ty ts j).2.length c1]
            rw [← hW3]
            replace hW3 := hide hW3
            clear hd0 hd1 hd2 hd3 hd4 hd5 hd6 hs hp0 hp1 hv8 hcn hcf u4 fin
            have F3 := hF.on bW3
            have hc5f := hk5 j
            obtain ⟨hd0, hd1, hd2, hd3, hd4, hd5, hd6⟩ := (v3.on bW3 v3.lt).seven
            obtain ⟨ht0, ht1⟩ := v10.two
            go_wp2_with fail
            refine (refField_c _ f.1 a1 c1 (ty ts j).2 hc5f W3 F3).mono ?_
            rintro e W4 ⟨rfl, hb4⟩
            clear hd0 hd1 hd2 hd3 hd4 hd5 hd6 ht0 ht1
            have bW4 := bW3.trans (hb4.mono bW3.size)
            have q2 := v2.on bW4 v2.lt
            have q3 := v3.on bW4 v3.lt
            have q4 := v4.on bW4 v4.lt
            have q8 := v8.on bW4 v8.lt
            have q10 := v10.on hb4 v10.lt
            have F4 := F3.on hb4
            have bw4 := bw2.trans (bW4.mono bw2.size)
            obtain ⟨hd0, hd1, hd2, hd3, hd4, hd5, hd6⟩ := q3.seven
            have hs := q2.one.1
            obtain ⟨hp0, hp1⟩ := q4.one
            have u4 := (q4.set 0 (.slice a ts.length cap)).one.1
            have fin := hide (show ∀ (W : World) (n : Int), Below w.heap.size w W → A = ts ∧ R = n → ∃ a' c', Ending.returned (.tuple #[.agg #[.slice a ts.length cap], .int .i64 n]) = Ending.returned (.tuple #[.agg #[.slice a' A.length c'], .int .i64 R]) ∧ Typs (W.setCell ⟨w.heap.size + 1 + 1, 0, none⟩ (.slice a ts.length cap)).heap.size (W.setCell ⟨w.heap.size + 1 + 1, 0, none⟩ (.slice a ts.length cap)) a' A ∧ Below w.heap.size w (W.setCell ⟨w.heap.size + 1 + 1, 0, none⟩ (.slice a ts.length cap)) from by
              rintro W n bW ⟨eA, eR⟩
              have bb := bW.setCell (p := ⟨w.heap.size + 1 + 1, 0, none⟩) (by simp only; omega) (.slice a ts.length cap)
              exact ⟨a, cap, by rw [eA, eR], by rw [eA]; exact (hT.below bb).mono bb.size, bb⟩)
            obtain ⟨Fp, hFp⟩ : ∃ Fp, Fp = placeI (fnames (ty ts j).2) f.1 := ⟨_, rfl⟩
            rw [← hFp]
            replace hFp := hide hFp
            go_upto_region 25 with fail
            clear hk
            -- a flag to a number
            by_cases hF0 : Fp < 0
            · have hr : refE ts ⟨4, t, f, o, dk, dn, ds⟩ = 13 := by
                have h0 : placeN (fnames (ty ts j).2) f.1 = none := by
                  have hp := unhide hFp
                  unfold placeI at hp
                  cases hpn : placeN (fnames (ty ts j).2) f.1 with
                  | none => rfl
                  | some j => rw [hpn] at hp; simp only at hp; omega
                simp [refE, ← unhide hFB', unhide hpn', atE, h0]
              have fin' := hide (unhide fin W4 13 bw4 (unhide ret 13 hr (by decide)))
              clear fin ret hA hR hr
              go_wp2_with fail
              exact bodyPost_ret (v := .tuple #[.agg #[.slice a ts.length cap], .int .i64 13]) (by simp [results, Tryz.results33, go_sem, u4]) rfl (by obtain ⟨a', c', h1, h2, h3⟩ := unhide fin'; first | exact ⟨a', ⟨c', h1⟩, h2, h3⟩ | exact ⟨a', c', h1, h2, h3⟩)
            obtain ⟨p, hFq, hfp, hp⟩ : ∃ p : Nat, Fp = p ∧ placeN (fnames (ty ts j).2) f.1 = some p ∧ p < (ty ts j).2.length := by
              have hp := unhide hFp
              unfold placeI at hp
              cases hpn : placeN (fnames (ty ts j).2) f.1 with
              | none => rw [hpn] at hp; simp only at hp; omega
              | some p =>
                rw [hpn] at hp
                refine ⟨p, hp, rfl, ?_⟩
                have h1 := (List.findIdx?_eq_some_iff_getElem.1 hpn).1
                simpa [fnames] using h1
            subst hFq
            replace hfp := hide hfp
            obtain ⟨KD, hKD⟩ : ∃ KD, KD = (fd (ty ts j).2 p).2 := ⟨_, rfl⟩
            have OF5 := owns_below (unhide hOF) bW4
            obtain ⟨g1, e1, hg1b, hg1l, -, ⟨cur1, hg1⟩, hcell, hfrz⟩ := owns_cells OF5 (by omega)
            subst e1
            have ef1 := hcell (p * 2 + 1) (by omega)
            rw [(newsF_at _ p hp).2, ← hKD] at ef1
            have ff1 := hfrz (p * 2 + 1)
            obtain ⟨ht0, ht1⟩ := q10.two
            replace hcell := hide hcell
            replace hfrz := hide hfrz
            replace OF5 := hide OF5
            by_cases h3 : KD = 3
            · subst h3
              have hr : refE ts ⟨4, t, f, o, dk, dn, ds⟩ = 0 := by simp [refE, ← unhide hFB', unhide hpn', atE, unhide hfp, ← hKD]
              have eA := hide (show A = ts.set j ((ty ts j).1, (ty ts j).2.set p ((fd (ty ts j).2 p).1, 1)) by
                rw [unhide hA, app_set hS hr (by simp) (unhide hpn'), fNew_four (hS.2 j hj).2.2 (unhide hfp) (place_key (unhide hpn')).2 rfl])
              have eR := hide (show R = 0 from (unhide hR).trans hr)
              clear hr ret fin hA hR hKD
              have hC5 := hide ((unhide hC2).on bW4)
              have ne8 := box_ne q8 hg1 (by decide)
              have ne10 := box_ne q10 hg1 (by decide)
              have neb := box_ne (B := b) (t := 69) (owns_lt (unhide hC5).row rfl).2.choose_spec hg1 (by decide)
              go_upto_region 48 with fail
              have r8 := q8.other ⟨g1, p * 2 + 1, none⟩ (.int .i64 1) ne8
              have r4 := q4.other ⟨g1, p * 2 + 1, none⟩ (.int .i64 1) (by simp only; omega)
              have r10 := q10.other ⟨g1, p * 2 + 1, none⟩ (.int .i64 1) ne10
              have b6 := bw4.setCell (p := ⟨g1, p * 2 + 1, none⟩) (by simp only; omega) (.int .i64 1)
              have own6 := owns_putR (unhide OF5) (p * 2 + 1) (by omega) (.int .i64 1)
              rw [← newsF_kind (ty ts j).2 p hp 1] at own6
              have hs6 : ∀ q, q < W4.heap.size → some q ≠ (Value.slice (some ⟨g1, 0, none⟩) (ty ts j).2.length c1).ownBlock → (∀ cs, ¬ (W4.heap[q]? = some (.cells cs 69 (0, 0)) ∧ q ≠ b)) → (W4.setCell ⟨g1, p * 2 + 1, none⟩ (.int .i64 1)).heap[q]? = W4.heap[q]? := fun q _ hq _ => setCell_block _ _ _ (fun e => hq (by simp only at e; rw [← e]; rfl))
              have cb6 : (W4.setCell ⟨g1, p * 2 + 1, none⟩ (.int .i64 1)).cell? ⟨b, j * 2, none⟩ = some (.string (ty ts j).1.1) ∧ (W4.setCell ⟨g1, p * 2 + 1, none⟩ (.int .i64 1)).cell? ⟨b, j * 2 + 1, none⟩ = some (.slice (some ⟨g1, 0, none⟩) (ty ts j).2.length c1) := by
                obtain ⟨_, _, ⟨_, hz⟩, z1, z2, _, _⟩ := (unhide hC5).at hj
                obtain ⟨_, hz'⟩ := unhide hx0
                rw [hz'] at hz
                cases hz
                exact ⟨(World.cell?_of_block (a := ⟨b, j * 2, none⟩) (setCell_block _ _ _ neb)).trans z1, (World.cell?_of_block (a := ⟨b, j * 2 + 1, none⟩) (setCell_block _ _ _ neb)).trans z2⟩
              have fz6 : ∀ i, (W4.setCell ⟨g1, p * 2 + 1, none⟩ (.int .i64 1)).frozen? ⟨b, i, none⟩ = false := fun i => by
                obtain ⟨_, _, _, _, _, z, _⟩ := (unhide hC5).at hj
                exact (World.frozen?_of_block (a := ⟨b, i, none⟩) (setCell_block _ _ _ neb)).trans (z i)
              obtain ⟨fs', hfs'⟩ : ∃ fs', fs' = (ty ts j).2.set p ((fd (ty ts j).2 p).1, 1) := ⟨_, rfl⟩
              have hl6 : (ty ts j).2.length = fs'.length := by rw [hfs', List.length_set]
              have hf6 := hide (show fs'.length ≤ 6 by omega)
              obtain ⟨W6, hW6⟩ : ∃ W6, W6 = W4.setCell ⟨g1, p * 2 + 1, none⟩ (.int .i64 1) := ⟨_, rfl⟩
              rw [← hW6] at r8 r4 r10 b6 own6 hs6 cb6 fz6 ⊢
              rw [← hfs', hl6] at own6
              rw [hl6] at r10
              rw [← hfs'] at eA
              have h10 := hide hl6
              replace own6 := hide own6
              replace hs6 := hide hs6
              replace cb6 := hide cb6
              replace fz6 := hide fz6
              clear hW6 hl6 ef1 ff1 hfs'
              have fin6 := hide (Cp.final (unhide hC5) hj (unhide hx0) (unhide hs6) (unhide own6) hk5 (unhide hf6) (S := w.heap.size + 1 + 1) (by omega) (.slice (some ⟨b, 0, none⟩) ts.length cv))
              obtain ⟨w80, w81⟩ := r8.one
              obtain ⟨wt0, wt1⟩ := r10.two
              obtain ⟨wb0, wb1⟩ := unhide cb6
              have wf0 := unhide fz6 (j * 2)
              have wf1 := unhide fz6 (j * 2 + 1)
              clear hd0 hd1 hd2 hd3 hd4 hd5 hd6 ht0 ht1
              go_upto_region 51 with fail
              have z8 := (r8.other ⟨b, j * 2, none⟩ (.string (ty ts j).1.1) (by simp only; omega)).other ⟨b, j * 2 + 1, none⟩ (.slice (some ⟨g1, 0, none⟩) fs'.length c1) (by simp only; omega)
              have z4 := (r4.other ⟨b, j * 2, none⟩ (.string (ty ts j).1.1) (by simp only; omega)).other ⟨b, j * 2 + 1, none⟩ (.slice (some ⟨g1, 0, none⟩) fs'.length c1) (by simp only; omega)
              have bz := (b6.setCell (p := ⟨b, j * 2, none⟩) (by simp only; omega) (.string (ty ts j).1.1)).setCell (p := ⟨b, j * 2 + 1, none⟩) (by simp only; omega) (.slice (some ⟨g1, 0, none⟩) fs'.length c1)
              obtain ⟨W7, hW7⟩ : ∃ W7, W7 = (W6.setCell ⟨b, j * 2, none⟩ (.string (ty ts j).1.1)).setCell ⟨b, j * 2 + 1, none⟩ (.slice (some ⟨g1, 0, none⟩) fs'.length c1) := ⟨_, rfl⟩
              rw [← hW7] at z8 z4 bz fin6 ⊢
              clear hW7 wb0 wb1 wf0 wf1 w80 w81 wt0 wt1
              have k80 := z8.one.1
              obtain ⟨k40, k41⟩ := z4.one
              go_wp2_with fail
              have u4 := (z4.set 0 (.slice (some ⟨b, 0, none⟩) ts.length cv)).one.1
              have fE : ∃ a' c', Ending.returned (.tuple #[.agg #[.slice (some ⟨b, 0, none⟩) ts.length cv], .int .i64 0]) = Ending.returned (.tuple #[.agg #[.slice a' A.length c'], .int .i64 R]) ∧ Typs (W7.setCell ⟨w.heap.size + 1 + 1, 0, none⟩ (.slice (some ⟨b, 0, none⟩) ts.length cv)).heap.size (W7.setCell ⟨w.heap.size + 1 + 1, 0, none⟩ (.slice (some ⟨b, 0, none⟩) ts.length cv)) a' A ∧ Below w.heap.size w (W7.setCell ⟨w.heap.size + 1 + 1, 0, none⟩ (.slice (some ⟨b, 0, none⟩) ts.length cv)) :=
                ⟨some ⟨b, 0, none⟩, cv, by rw [unhide eR, unhide eA, List.length_set], by rw [unhide eA]; exact unhide fin6, bz.setCell (p := ⟨w.heap.size + 1 + 1, 0, none⟩) (by simp only; omega) _⟩
              exact bodyPost_ret (v := .tuple #[.agg #[.slice (some ⟨b, 0, none⟩) ts.length cv], .int .i64 0]) (by simp [results, Tryz.results33, go_sem, u4]) rfl (by obtain ⟨a', c', h1, h2, h3⟩ := fE; first | exact ⟨a', ⟨c', h1⟩, h2, h3⟩ | exact ⟨a', c', h1, h2, h3⟩)
            · have hr : refE ts ⟨4, t, f, o, dk, dn, ds⟩ = 14 := by simp [refE, ← unhide hFB', unhide hpn', atE, unhide hfp, ← hKD, h3]
              have fin' := hide (unhide fin W4 14 bw4 (unhide ret 14 hr (by decide)))
              have h3' : (KD != 3) = true := by simp [h3]
              clear fin ret hA hR hr hKD h3
              go_wp2_with fail
              exact bodyPost_ret (v := .tuple #[.agg #[.slice a ts.length cap], .int .i64 14]) (by simp [results, Tryz.results33, go_sem, u4]) rfl (by obtain ⟨a', c', h1, h2, h3⟩ := unhide fin'; first | exact ⟨a', ⟨c', h1⟩, h2, h3⟩ | exact ⟨a', c', h1, h2, h3⟩)
          · have hpn : placeN (tnames ts) t.1 = none := by
              have hp := unhide hP
              unfold placeI at hp
              cases hpn : placeN (tnames ts) t.1 with
              | none => rfl
              | some j => rw [hpn] at hp; simp only at hp; omega
            have hr : refE ts ⟨4, t, f, o, dk, dn, ds⟩ = 13 := by simp [refE, ← unhide hFB', hpn, hk]
            obtain ⟨eA, eR⟩ := unhide ret 13 hr (by decide)
            clear hr ret hA hR
            have fin' := hide (unhide fin 13 eA eR)
            clear fin eA eR hpn
            go_wp2_with fail
            exact bodyPost_ret (v := .tuple #[.agg #[.slice a ts.length cap], .int .i64 13]) (by simp [results, Tryz.results33, go_sem, u4]) rfl (by obtain ⟨a', c', h1, h2, h3⟩ := unhide fin'; exact ⟨a', ⟨c', h1⟩, h2, h3⟩)

end Go.Proofs.YtcjpaldijngnpaaGreatDoor
