/-
  What the document's Move makes of an event (package pasternref1, layer 4): the same as the program's; for every schema that may be, every change, every event of at most 20 values, in whatever world; nothing that lay is turned.
-/
import Derived.Test.YtnfmhcddfjgcmaaDoorCp
import Derived.Test.YtnfmhcddfjgcmaaDoorRefApply
import Derived.Test.YtnfmhcddfjgcmaaDoorRefIs
import Derived.Test.YtnfmhcddfjgcmaaDoorShift
namespace Go.Proofs.YtnfmhcddfjgcmaaDoor
open Go.RowKit Go.Shelf

set_option maxRecDepth 100000 in
set_option maxHeartbeats 8000000 in
theorem refMove_c (a av : Option Addr) (cap cv : Nat) (ts : List Ty) (c : Ch) (x : Ev) (hS : Sch ts) (h20 : x.vs.length ≤ 20) (w : World) (hT : Typs w.heap.size w a ts) (hV : Vals w.heap.size w av x.vs) :
    Calls Tryd.prog 15 #[.agg #[.slice a ts.length cap], c.v, .agg #[.string x.ty.1, .int .i64 x.ts, .slice av x.vs.length cv]] w fun e w' => ∃ a' c', e = .returned (.agg #[.string x.ty.1, .int .i64 x.ts, .slice a' (movE ts c x).vs.length c']) ∧ Vals w'.heap.size w' a' (movE ts c x).vs ∧ Below w.heap.size w w' := by
  obtain ⟨t, tm, vs⟩ := x
  obtain ⟨k, ct, f, o, dk, dn, ds⟩ := c
  simp only at h20 hV ⊢
  have h5 := hS.1
  have hk5 : ∀ k, (ty ts k).2.length ≤ 5 := fun k => by
    by_cases hk : k < ts.length
    · exact (hS.2 k hk).2.2.1
    · simp only [ty, List.getElem?_eq_none (Nat.le_of_not_lt hk), Option.getD_none]
      exact Nat.zero_le _
  obtain ⟨W0, hW0⟩ : ∃ W0, W0 = ((((w.alloc (.cells #[.slice a ts.length cap] 24)).alloc (.cells #[.int .i64 k, .string ct.1, .string f.1, .string o.1, .int .i64 dk, .int .i64 dn, .string ds.1] 28)).alloc (.cells #[.string t.1, .int .i64 tm, .slice av vs.length cv] 31)).alloc (.cells #[.string ⟨#[]⟩, .int .i64 0, .slice none 0 0] 31)) := ⟨_, rfl⟩
  have e0 : W0.heap.size = w.heap.size + 4 := by rw [hW0]; simp
  have b0 : Below w.heap.size w W0 := by rw [hW0]; exact ((((Below.refl _ _).alloc (Nat.le_refl _) _).alloc (by simp) _).alloc (by simp; omega) _).alloc (by simp; omega) _
  have x3 : Box W0 w.heap.size 24 #[.slice a ts.length cap] := by
    rw [hW0]; exact (((Box.new w 24 #[.slice a ts.length cap]).alloc _).alloc _).alloc _
  have x4 : Box W0 (w.heap.size + 1) 28 #[.int .i64 k, .string ct.1, .string f.1, .string o.1, .int .i64 dk, .int .i64 dn, .string ds.1] := by
    have := Box.new (w.alloc (.cells #[.slice a ts.length cap] 24)) 28 #[.int .i64 k, .string ct.1, .string f.1, .string o.1, .int .i64 dk, .int .i64 dn, .string ds.1]
    simp only [World.size_alloc] at this
    rw [hW0]; exact (this.alloc _).alloc _
  have x5 : Box W0 (w.heap.size + 1 + 1) 31 #[.string t.1, .int .i64 tm, .slice av vs.length cv] := by
    have := Box.new ((w.alloc (.cells #[.slice a ts.length cap] 24)).alloc (.cells #[.int .i64 k, .string ct.1, .string f.1, .string o.1, .int .i64 dk, .int .i64 dn, .string ds.1] 28)) 31 #[.string t.1, .int .i64 tm, .slice av vs.length cv]
    simp only [World.size_alloc] at this
    rw [hW0]; exact this.alloc _
  have x6 : Box W0 (w.heap.size + 1 + 1 + 1) 31 #[.string ⟨#[]⟩, .int .i64 0, .slice none 0 0] := by
    have := Box.new (((w.alloc (.cells #[.slice a ts.length cap] 24)).alloc (.cells #[.int .i64 k, .string ct.1, .string f.1, .string o.1, .int .i64 dk, .int .i64 dn, .string ds.1] 28)).alloc (.cells #[.string t.1, .int .i64 tm, .slice av vs.length cv] 31)) 31 #[.string ⟨#[]⟩, .int .i64 0, .slice none 0 0]
    simp only [World.size_alloc] at this
    rw [hW0]; exact this
  have T0 := hT.on b0
  have V0 := hV.on b0
  have hW0' := hide hW0
  clear hW0
  obtain ⟨N, hN⟩ : ∃ N, N = (movE ts ⟨k, ct, f, o, dk, dn, ds⟩ ⟨t, tm, vs⟩).vs := ⟨_, rfl⟩
  rw [← hN]
  replace hN := hide hN
  obtain ⟨R, hR⟩ : ∃ R, R = refE ts ⟨k, ct, f, o, dk, dn, ds⟩ := ⟨_, rfl⟩
  have cA := hide (refApply_c a cap ts ⟨k, ct, f, o, dk, dn, ds⟩ hS)
  rw [← hR] at cA
  replace hR := hide hR
  go_enter Tryd.func15, Tryd.ntmps15
  go_upto_region 1 with fail
  rw [← unhide hW0']
  have hs := x3.one.1
  obtain ⟨he0, he1, he2⟩ := x5.three
  go_wp2_with fail
  refine (refFind_c a cap ts t.1 h5 _ T0).mono ?_
  rintro e W1 ⟨hb1, hF⟩
  clear hs he0 he1 he2
  -- the event as it came
  have fin := hide (show ∀ W, Below W0.heap.size W0 W → N = vs → ∃ a' c', Ending.returned (.agg #[.string t.1, .int .i64 tm, .slice av vs.length cv]) = Ending.returned (.agg #[.string t.1, .int .i64 tm, .slice a' N.length c']) ∧ Vals (((W.setCell ⟨w.heap.size + 1 + 1 + 1, 0, none⟩ (.string t.1)).setCell ⟨w.heap.size + 1 + 1 + 1, 1, none⟩ (.int .i64 tm)).setCell ⟨w.heap.size + 1 + 1 + 1, 2, none⟩ (.slice av vs.length cv)).heap.size (((W.setCell ⟨w.heap.size + 1 + 1 + 1, 0, none⟩ (.string t.1)).setCell ⟨w.heap.size + 1 + 1 + 1, 1, none⟩ (.int .i64 tm)).setCell ⟨w.heap.size + 1 + 1 + 1, 2, none⟩ (.slice av vs.length cv)) a' N ∧ Below w.heap.size w (((W.setCell ⟨w.heap.size + 1 + 1 + 1, 0, none⟩ (.string t.1)).setCell ⟨w.heap.size + 1 + 1 + 1, 1, none⟩ (.int .i64 tm)).setCell ⟨w.heap.size + 1 + 1 + 1, 2, none⟩ (.slice av vs.length cv)) from by
    rintro W hb rfl
    have bw := (((b0.trans (hb.mono b0.size)).setCell (p := ⟨w.heap.size + 1 + 1 + 1, 0, none⟩) (by simp only; omega) (.string t.1)).setCell (p := ⟨w.heap.size + 1 + 1 + 1, 1, none⟩) (by simp only; omega) (.int .i64 tm)).setCell (p := ⟨w.heap.size + 1 + 1 + 1, 2, none⟩) (by simp only; omega) (.slice av N.length cv)
    exact ⟨av, cv, rfl, (hV.below bw).mono bw.size, bw⟩)
  have cE := hide (fun (W : World) (hb : Below W0.heap.size W0 W) => refIsE_c a av cap cv ts ⟨t, tm, vs⟩ h5 hk5 h20 W (T0.on hb) (V0.on hb))
  rcases unhide hF with ⟨hpn, rfl⟩ | ⟨i, a1, c1, hpn, hi, rfl, hF1⟩
  · have hv : N = vs := by rw [unhide hN]; simp [movE, hpn]
    replace hv := hide hv
    clear hpn hF
    have y3 := x3.on hb1 x3.lt
    have y4 := x4.on hb1 x4.lt
    obtain ⟨W2, hW2⟩ : ∃ W2, W2 = W1.alloc (.cells #[.string ⟨#[]⟩, .slice none 0 0] 51) := ⟨_, rfl⟩
    have b2 : Below W1.heap.size W1 W2 := by rw [hW2]; exact (Below.refl _ _).alloc (Nat.le_refl _) _
    go_upto_region 2 with fail
    rw [← hW2]
    clear hW2
    have hb2 := hb1.trans (b2.mono hb1.size)
    have hs := (x3.on hb2 x3.lt).one.1
    obtain ⟨hc0, hc1, hc2, hc3, hc4, hc5, hc6⟩ := (x4.on hb2 x4.lt).seven
    go_wp2_with fail
    refine (unhide cA W2 (T0.on hb2)).mono ?_
    rintro e W3 ⟨a2, c2, rfl, -, hb3⟩
    obtain ⟨n2, hn2⟩ : ∃ n2, n2 = (appT ts ⟨k, ct, f, o, dk, dn, ds⟩).length := ⟨_, rfl⟩
    rw [← hn2]
    clear hn2 hs hc0 hc1 hc2 hc3 hc4 hc5 hc6
    obtain ⟨W4, hW4⟩ : ∃ W4, W4 = W3.alloc (.cells #[.slice a2 n2 c2] 24) := ⟨_, rfl⟩
    have b4 : Below W3.heap.size W3 W4 := by rw [hW4]; exact (Below.refl _ _).alloc (Nat.le_refl _) _
    have hb4 := (hb2.trans (hb3.mono hb2.size)).trans (b4.mono (hb2.trans (hb3.mono hb2.size)).size)
    go_upto_region 3 with fail
    rw [← hW4]
    clear hW4
    have q5 := x5.on hb4 x5.lt
    have q6 := x6.on hb4 x6.lt
    obtain ⟨he0, he1, he2⟩ := q5.three
    obtain ⟨hr0, hr1, hr2⟩ := q6.three
    have hf0 := q6.frz 0
    have hf1 := q6.frz 1
    have hf2 := q6.frz 2
    obtain ⟨u0, u1, u2⟩ := three_set (v0 := .string t.1) (v1 := .int .i64 tm) (v2 := .slice av vs.length cv) hr0 hr1 hr2
    have fin' := hide (unhide fin W4 hb4 (unhide hv))
    clear fin
    go_wp2_with fail
    exact bodyPost_ret (v := .agg #[.string t.1, .int .i64 tm, .slice av vs.length cv]) (by simp [results, Tryd.results15, go_sem, u0, u1, u2]) rfl (by obtain ⟨a', c', h1, h2, h3⟩ := unhide fin'; first | exact ⟨a', ⟨c', h1⟩, h2, h3⟩ | exact ⟨a', c', h1, h2, h3⟩)
  · clear hF
    have hpn' := hide hpn
    clear hpn
    obtain ⟨W2, hW2⟩ : ∃ W2, W2 = W1.alloc (.cells #[.string (ty ts i).1.1, .slice a1 (ty ts i).2.length c1] 51) := ⟨_, rfl⟩
    have b2 : Below W1.heap.size W1 W2 := by rw [hW2]; exact (Below.refl _ _).alloc (Nat.le_refl _) _
    have v7 : Box W2 W1.heap.size 51 #[.string (ty ts i).1.1, .slice a1 (ty ts i).2.length c1] := by rw [hW2]; exact Box.new _ _ _
    go_upto_region 2 with fail
    rw [← hW2]
    clear hW2
    have hb2 := hb1.trans (b2.mono hb1.size)
    have F2 := hF1.on b2
    have hs := (x3.on hb2 x3.lt).one.1
    obtain ⟨hc0, hc1, hc2, hc3, hc4, hc5, hc6⟩ := (x4.on hb2 x4.lt).seven
    go_wp2_with fail
    refine (unhide cA W2 (T0.on hb2)).mono ?_
    rintro e W3 ⟨a2, c2, rfl, -, hb3⟩
    obtain ⟨n2, hn2⟩ : ∃ n2, n2 = (appT ts ⟨k, ct, f, o, dk, dn, ds⟩).length := ⟨_, rfl⟩
    rw [← hn2]
    clear hn2 hs hc0 hc1 hc2 hc3 hc4 hc5 hc6
    obtain ⟨W4, hW4⟩ : ∃ W4, W4 = W3.alloc (.cells #[.slice a2 n2 c2] 24) := ⟨_, rfl⟩
    have b4 : Below W3.heap.size W3 W4 := by rw [hW4]; exact (Below.refl _ _).alloc (Nat.le_refl _) _
    have b24 := hb3.trans (b4.mono hb3.size)
    have hb4 := hb2.trans (b24.mono hb2.size)
    go_upto_region 3 with fail
    rw [← hW4]
    clear hW4
    have F4 := F2.on b24
    have q7 := v7.on b24 v7.lt
    have q3 := x3.on hb4 x3.lt
    have q4 := x4.on hb4 x4.lt
    have q5 := x5.on hb4 x5.lt
    have q6 := x6.on hb4 x6.lt
    have hs := q3.one.1
    obtain ⟨he0, he1, he2⟩ := q5.three
    obtain ⟨hr0, hr1, hr2⟩ := q6.three
    have hf0 := q6.frz 0
    have hf1 := q6.frz 1
    have hf2 := q6.frz 2
    obtain ⟨hc0, hc1, hc2, hc3, hc4, hc5, hc6⟩ := q4.seven
    by_cases hR0 : R = 0
    · subst hR0
      have hR' : refE ts ⟨k, ct, f, o, dk, dn, ds⟩ = 0 := (unhide hR).symm
      by_cases hty : t.1.toList = ct.1.toList
      · have hty' : (t.1.toList == ct.1.toList) = true := by simp [hty]
        obtain ⟨E, hE⟩ : ∃ E, E = isE ts ⟨t, tm, vs⟩ := ⟨_, rfl⟩
        have cE4 := unhide cE W4 hb4
        rw [← hE] at cE4
        replace cE4 := hide cE4
        replace hty := hide hty
        go_wp2_with fail
        refine (unhide cE4).mono ?_
        rintro e W5 ⟨rfl, hb5⟩
        clear cE4 cE
        clear hs he0 he1 he2 hr0 hr1 hr2 hf0 hf1 hf2 hc0 hc1 hc2 hc3 hc4 hc5 hc6
        have hb05 := hb4.trans (hb5.mono hb4.size)
        by_cases hE0 : E = 0
        · subst hE0
          obtain ⟨j0, hj0, hy0, hy1, hy2⟩ := info_parts infoVl
          have hmx : Tryd.prog.follows .mixedOrders = true := by kernel_rfl
          obtain ⟨t', hf', hEv⟩ := isE_found hE.symm
          have hft := hf'
          rw [findT_place, unhide hpn'] at hft
          simp only [Option.map_some, Option.some.injEq] at hft
          subst hft
          have eN := hide (show N = vNew (ty ts i).1 ⟨k, ct, f, o, dk, dn, ds⟩ (ty ts i).2 vs by rw [unhide hN, movE_find ts _ _ _ hf' hR' hE.symm])
          have hkN := hide (show key (ty ts i).1 = key ct from (place_key (unhide hpn')).2.trans (unhide hty))
          have hpc := hide (show placeN (tnames ts) ct.1 = some i by
            have h := unhide hpn'
            unfold placeN eqT at h ⊢
            rw [← unhide hty]; exact h)
          have hk4 := hide (show k = 1 ∨ k = 2 ∨ k = 3 ∨ k = 4 by
            have h := hR'
            simp only [refE, unhide hpc] at h
            split at h
            · next hfb =>
              by_cases k5 : k = 5
              · rw [if_pos k5] at h; omega
              by_cases k1 : k = 1
              · exact .inl k1
              by_cases k2 : k = 2
              · exact .inr (.inl k2)
              by_cases k3 : k = 3
              · exact .inr (.inr (.inl k3))
              by_cases k4 : k = 4
              · exact .inr (.inr (.inr k4))
              simp [formedB, bareB, k1, k2, k3, k4, k5] at hfb
            · omega)
          obtain ⟨Fp, hFp⟩ : ∃ Fp, Fp = placeI (fnames (ty ts i).2) f.1 := ⟨_, rfl⟩
          have hpl := hide (show k ≠ 1 → ∃ p : Nat, Fp = p ∧ Hid (placeN (fnames (ty ts i).2) f.1 = some p) ∧ p < vs.length from fun h1 => by
            have h := hR'
            simp only [refE, unhide hpc] at h
            split at h
            · by_cases k5 : k = 5
              · simp [k5] at h
              · simp only [k5, if_false] at h
                unfold atE at h
                simp only at h
                cases hpf : placeN (fnames (ty ts i).2) f.1 with
                | none => rw [hpf] at h; simp at h
                | some p =>
                  obtain ⟨hl, -⟩ := place_lt hpf
                  exact ⟨p, by rw [hFp]; simp [placeI, hpf], hide rfl, by rw [hEv.len]; exact hl⟩
            · omega)
          have hRz := hide hR'
          replace hEv := hide hEv
          have hc5f := hk5 i
          have F5 := F4.on hb5
          have p7 := q7.on hb5 q7.lt
          have p4 := q4.on hb5 q4.lt
          obtain ⟨ht0, ht1⟩ := p7.two
          obtain ⟨hc0, hc1, hc2, hc3, hc4, hc5, hc6⟩ := p4.seven
          have cF := refField_c (ty ts i).1.1 f.1 a1 c1 (ty ts i).2 hc5f W5 F5
          rw [← hFp] at cF
          replace cF := hide cF
          replace hE := hide hE
          replace hFp := hide hFp
          clear hR' hf' fin
          go_wp2_with fail
          refine (unhide cF).mono ?_
          rintro e W6 ⟨rfl, hb6⟩
          clear cF ht0 ht1 hc0 hc1 hc2 hc3 hc4 hc5 hc6
          have hb06 := hb05.trans (hb6.mono hb05.size)
          go_upto_region 6 with fail
          obtain ⟨V, hV⟩ : ∃ V, V = ({ heap := W6.heap, tape := W6.tape, drawn := W6.drawn + 1, os := W6.os, output := W6.output } : World) := ⟨_, rfl⟩
          have bV0 : Below W0.heap.size W0 V := by rw [hV]; exact hb06.drew
          have bwV := b0.trans (bV0.mono b0.size)
          have VV := V0.on bV0
          have sV0 := bV0.size
          have lV := hide (show Lies V av vs.length cv 3 (newsV vs) by
            refine ⟨newsV_len vs, ?_⟩
            rcases VV with h | ⟨b, off, e, hb, hc⟩
            · subst h
              cases av with
              | none => exact .inr ⟨rfl, rfl⟩
              | some ad => exact .inl ⟨ad, rfl, fun j u hu => by simp [newsV] at hu⟩
            · exact .inl ⟨_, e, newsV_cells hc⟩)
          have cD : Box V (w.heap.size + 1 + 1) 31 #[.string t.1, .int .i64 tm, .slice av vs.length cv] := x5.on bV0 x5.lt
          clear VV
          refine wp_region_any hmx (wpAny_of_Z (z := 9) (C := fun w' => Box w' (w.heap.size + 1 + 1) 31 #[.string t.1, .int .i64 tm, .slice av vs.length cv]) _ _ _ _ ?_)
          rw [← hV]
          clear hV
          refine wpAnyZ_reads 0 cD (by kernel_rfl) (by kernel_rfl) (by kernel_rfl) (by kernel_rfl) (fun d _ _ _ _ h => by cases d <;> exact h) (fun oi ho K hK => ?_)
          simp only [List.getElem?_toArray, List.getElem?_cons_zero, Option.some.injEq] at ho
          subst ho
          rw [if_pos (by kernel_rfl)]
          refine ⟨.pointer (some ⟨w.heap.size + 1 + 1, 0, none⟩), fun w' hw' => ?_, hK _ ?_⟩
          · have hx0 := hw'.three.1
            have hx1 := hw'.three.2.1
            have hx2 := hw'.three.2.2
            go_simp
          clear hK K
          refine wpAnyZ_reads 1 cD (by kernel_rfl) (by kernel_rfl) (by kernel_rfl) (by kernel_rfl) (fun d _ _ _ _ h => by cases d <;> exact h) (fun oi ho K hK => ?_)
          simp only [List.getElem?_toArray, List.getElem?_cons_succ, List.getElem?_cons_zero, Option.some.injEq] at ho
          subst ho
          rw [if_pos (by kernel_rfl)]
          refine ⟨.string t.1, fun w' hw' => ?_, hK _ ?_⟩
          · have hx0 := hw'.three.1
            have hx1 := hw'.three.2.1
            have hx2 := hw'.three.2.2
            go_simp
          clear hK K
          refine wpAnyZ_reads 2 cD (by kernel_rfl) (by kernel_rfl) (by kernel_rfl) (by kernel_rfl) (fun d _ _ _ _ h => by cases d <;> exact h) (fun oi ho K hK => ?_)
          simp only [List.getElem?_toArray, List.getElem?_cons_succ, List.getElem?_cons_zero, Option.some.injEq] at ho
          subst ho
          rw [if_pos (by kernel_rfl)]
          refine ⟨.pointer (some ⟨w.heap.size + 1 + 1, 1, none⟩), fun w' hw' => ?_, hK _ ?_⟩
          · have hx0 := hw'.three.1
            have hx1 := hw'.three.2.1
            have hx2 := hw'.three.2.2
            go_simp
          clear hK K
          refine wpAnyZ_reads 3 cD (by kernel_rfl) (by kernel_rfl) (by kernel_rfl) (by kernel_rfl) (fun d _ _ _ _ h => by cases d <;> exact h) (fun oi ho K hK => ?_)
          simp only [List.getElem?_toArray, List.getElem?_cons_succ, List.getElem?_cons_zero, Option.some.injEq] at ho
          subst ho
          rw [if_pos (by kernel_rfl)]
          refine ⟨.int .i64 tm, fun w' hw' => ?_, hK _ ?_⟩
          · have hx0 := hw'.three.1
            have hx1 := hw'.three.2.1
            have hx2 := hw'.three.2.2
            go_simp
          clear hK K
          refine wpAnyZ_reads 4 cD (by kernel_rfl) (by kernel_rfl) (by kernel_rfl) (by kernel_rfl) (fun d _ _ _ _ h => by cases d <;> exact h) (fun oi ho K hK => ?_)
          simp only [List.getElem?_toArray, List.getElem?_cons_succ, List.getElem?_cons_zero, Option.some.injEq] at ho
          subst ho
          rw [if_pos (by kernel_rfl)]
          refine ⟨.pointer (some ⟨w.heap.size + 1 + 1, 2, none⟩), fun w' hw' => ?_, hK _ ?_⟩
          · have hx0 := hw'.three.1
            have hx1 := hw'.three.2.1
            have hx2 := hw'.three.2.2
            go_simp
          clear hK K
          refine wpAnyZ_reads 5 cD (by kernel_rfl) (by kernel_rfl) (by kernel_rfl) (by kernel_rfl) (fun d _ _ _ _ h => by cases d <;> exact h) (fun oi ho K hK => ?_)
          simp only [List.getElem?_toArray, List.getElem?_cons_succ, List.getElem?_cons_zero, Option.some.injEq] at ho
          subst ho
          rw [if_pos (by kernel_rfl)]
          refine ⟨.slice av vs.length cv, fun w' hw' => ?_, hK _ ?_⟩
          · have hx0 := hw'.three.1
            have hx1 := hw'.three.2.1
            have hx2 := hw'.three.2.2
            go_simp
          clear hK K

          refine wpAnyZ_two 6 8 (by kernel_rfl) (fun oi ho K hK => ?_) (fun oi ho K hK => ?_)

          · simp only [List.getElem?_toArray, List.getElem?_cons_succ, List.getElem?_cons_zero, Option.some.injEq] at ho
            subst ho
            refine step_lies V (by rfl) (.const (.slice none 0 0)) (.tmp 55) 29 (by rfl) V.heap.size 26 j0 (.agg #[.int .i64 0, .int .i64 0, .string ⟨#[]⟩]) 3 32 Tryd.underlying29 hj0 hy0 hy1 hy2 (by rfl) (by decide) (.slice none 0 0) 0 [] ?q1 (World.ownsRow_nil _ _ _ _) av vs.length cv (newsV vs) ?q2 (unhide lV) (newsV_one _) (by unfold maxLen; omega) (by omega) (Nat.le_refl _) ?_
            case q1 => go_simp
            case q2 => go_simp
            intro v1 w1 ho1 hg1
            rw [Nat.zero_add, List.nil_append] at ho1
            obtain ⟨a3, c3, rfl, -, -⟩ := vals_of_owns ho1
            have b1 : Below V.heap.size V w1 := (Below.refl _ _).grown hg1 (Nat.le_refl _) (fun j e => by cases e)
            have cF := cD.on b1 cD.lt
            refine hK _ _ (.inr cF) ?_
            clear hK K hg1
            replace ho1 := hide ho1
            refine wpAnyZ_reads 7 cF (by kernel_rfl) (by kernel_rfl) (by kernel_rfl) (by kernel_rfl) (fun d _ _ _ _ h => by cases d <;> exact h) (fun oi ho K hK => ?_)
            simp only [List.getElem?_toArray, List.getElem?_cons_succ, List.getElem?_cons_zero, Option.some.injEq] at ho
            subst ho
            rw [if_pos (by kernel_rfl)]
            refine ⟨.agg #[.string t.1, .int .i64 tm, .slice a3 vs.length c3], fun w' hw' => ?_, hK _ ?_⟩
            · clear hw'
              go_simp
            clear hK K
            refine wpAnyZ_calls 8 (by kernel_rfl) (fun oi ho K hK => ?_)
            simp only [List.getElem?_toArray, List.getElem?_cons_succ, List.getElem?_cons_zero, Option.some.injEq] at ho
            subst ho
            have bF : Below w1.heap.size w1 (w1.alloc (.cells #[.string ⟨#[]⟩, .int .i64 0, .slice none 0 0] 31)) := (Below.refl _ _).alloc (Nat.le_refl _) _
            have obx := Box.new w1 31 #[.string ⟨#[]⟩, .int .i64 0, .slice none 0 0]
            have own3 := hide (owns_below (unhide ho1) bF)
            have b3 := b1.trans (bF.mono b1.size)
            have cG := cD.on b3 cD.lt
            go_simp
            refine hK _ _ (.inr cG) ?_
            clear hK K
            obtain ⟨Bo, hBo'⟩ : ∃ Bo, Bo = w1.heap.size := ⟨_, rfl⟩
            have hBo : V.heap.size ≤ Bo := by rw [hBo']; exact b1.size
            rw [← hBo'] at obx ⊢
            obtain ⟨V2, hV2⟩ : ∃ V2, V2 = w1.alloc (.cells #[.string ⟨#[]⟩, .int .i64 0, .slice none 0 0] 31) := ⟨_, rfl⟩
            rw [← hV2] at obx own3 b3 cG ⊢
            clear hV2 hBo' bF ho1 b1 cF
            have hz0 := (obx.three).1
            have hz1 := (obx.three).2.1
            have hz2 := (obx.three).2.2
            have hzf0 := obx.frz 0
            have hzf1 := obx.frz 1
            have hzf2 := obx.frz 2
            refine wpAnyZ_calls 9 (by kernel_rfl) (fun oi ho K hK => ?_)
            simp only [List.getElem?_toArray, List.getElem?_cons_succ, List.getElem?_cons_zero, Option.some.injEq] at ho
            subst ho

            go_simp
            refine hK _ _ (.inl rfl) ?_
            clear hK K hz0 hz1 hz2 hzf0 hzf1 hzf2 cG
            refine wpAnyZ_done (by kernel_rfl) ?_ _
            go_upto_region 7 with fail

            have lBo := obx.lt
            have o7 : Box (((V2.setCell ⟨Bo, 0, none⟩ (.string t.1)).setCell ⟨Bo, 1, none⟩ (.int .i64 tm)).setCell ⟨Bo, 2, none⟩ (.slice a3 vs.length c3)) Bo 31 #[.string t.1, .int .i64 tm, .slice a3 vs.length c3] := ((obx.set 0 (.string t.1)).set 1 (.int .i64 tm)).set 2 (.slice a3 vs.length c3)
            have own7 := set_other (i := 2) (set_other (i := 1) (set_other (i := 0) (unhide own3) obx (by decide) (.string t.1)) (obx.set 0 (.string t.1)) (by decide) (.int .i64 tm)) ((obx.set 0 (.string t.1)).set 1 (.int .i64 tm)) (by decide) (.slice a3 vs.length c3)
            have bVW := ((b3.setCell (p := ⟨Bo, 0, none⟩) hBo (.string t.1)).setCell (p := ⟨Bo, 1, none⟩) hBo (.int .i64 tm)).setCell (p := ⟨Bo, 2, none⟩) hBo (.slice a3 vs.length c3)
            obtain ⟨W7, hW7⟩ : ∃ W7, W7 = ((V2.setCell ⟨Bo, 0, none⟩ (.string t.1)).setCell ⟨Bo, 1, none⟩ (.int .i64 tm)).setCell ⟨Bo, 2, none⟩ (.slice a3 vs.length c3) := ⟨_, rfl⟩

            rw [← hW7] at o7 own7 bVW ⊢
            have q47 := (x4.on bV0 x4.lt).on bVW (by have := x4.lt; have := bV0.size; omega)
            have q57 := (x5.on bV0 x5.lt).on bVW (by have := x5.lt; have := bV0.size; omega)
            have r7 := (x6.on bV0 x6.lt).on bVW (by have := x6.lt; have := bV0.size; omega)
            have b7 := bwV.trans (bVW.mono bwV.size)
            have sV7 := bVW.size
            replace own7 := hide own7
            clear hW7 obx own3

            rcases unhide hk4 with rfl | rfl | rfl | rfl
            · have hNv : N = vs ++ [(dk, dn, ds)] := by rw [unhide eN, vNew_one (unhide hEv) (unhide hkN) rfl]
              have hNl : N.length = vs.length + 1 := by rw [hNv]; simp
              have hNn : newsV vs ++ [.int .i64 dk, .int .i64 dn, .string ds.1] = newsV N := by rw [hNv, newsV_append]; rfl
              replace hNn := hide hNn
              clear hNv
              obtain ⟨hc0, hc1, hc2, hc3, hc4, hc5, hc6⟩ := q47.seven
              obtain ⟨ho0, ho1, ho2⟩ := o7.three
              have nBo : some Bo ≠ (Value.slice a3 vs.length c3).ownBlock := fun e => by obtain ⟨_, cur, h⟩ := owns_lt (unhide own7) e.symm; exact box_ne o7 h (by decide) rfl
              have lo : ∀ q, (Value.slice a3 vs.length c3).ownBlock = some q → V.heap.size ≤ q := fun q hq => (owns_lt (unhide own7) hq).1
              have n6 : some (w.heap.size + 1 + 1 + 1) ≠ (Value.slice a3 vs.length c3).ownBlock := fun e => by have := lo _ e.symm; omega
              have lB := o7.lt
              have l6 := r7.lt
              replace nBo := hide nBo
              replace lo := hide lo
              replace n6 := hide n6
              go_upto_region 14 with (at_builtin; go_must (refine wpList_append_own _ rfl _ _ 29 rfl V.heap.size 26 j0 (.agg #[.int .i64 0, .int .i64 0, .string ⟨#[]⟩]) 3 32 Tryd.underlying29 hj0 hy0 hy1 hy2 rfl (by decide) (.slice a3 vs.length c3) vs.length (newsV vs) rfl (owns_below (unhide own7) ((Below.refl _ _).alloc (Nat.le_refl _) (.cells #[.int .i64 dk, .int .i64 dn, .string ds.1] 26))) ⟨W7.heap.size, 0, none⟩ 1 1 [.int .i64 dk, .int .i64 dn, .string ds.1] rfl rfl (cell_three_new _ _ _ _ _) (by simp [Value.oneCell']) (by unfold maxLen; omega) (by omega) (by simp; omega) ?_); intro v' w2 hown hgrow _; obtain ⟨g2, cap2, rfl⟩ := ownsRow_succ hown; have y10 : Box w2 Bo 31 #[.string t.1, .int .i64 tm, .slice a3 vs.length c3] := (hgrow.block _ (by simp; omega) (unhide nBo)).trans (o7.alloc _); obtain ⟨hk0, hk1, hk2⟩ := y10.three; have hkf := y10.frz 2; replace hown := hide hown; replace hgrow := hide hgrow)
              replace hown := unhide hown
              replace hgrow := unhide hgrow
              rw [unhide hNn, ← hNl] at hown
              rw [← hNl]
              have y6 : Box w2 (w.heap.size + 1 + 1 + 1) 31 _ := (hgrow.block _ (by simp; omega) (unhide n6)).trans (r7.alloc _)
              have r8 := y6.other ⟨Bo, 2, none⟩ (.slice (some ⟨g2, 0, none⟩) N.length cap2) (by simp only; omega)
              have o8 : Box (w2.setCell ⟨Bo, 2, none⟩ (.slice (some ⟨g2, 0, none⟩) N.length cap2)) Bo 31 #[.string t.1, .int .i64 tm, .slice (some ⟨g2, 0, none⟩) N.length cap2] := y10.set 2 _
              have b8 := ((b7.alloc (by omega) (.cells #[.int .i64 dk, .int .i64 dn, .string ds.1] 26)).grown hgrow (by simp; omega) (fun q e => Nat.le_trans (by omega) (unhide lo q e))).setCell (p := ⟨Bo, 2, none⟩) (by simp only; omega) (.slice (some ⟨g2, 0, none⟩) N.length cap2)
              have own9 := set_other (i := 2) hown y10 (by decide) (.slice (some ⟨g2, 0, none⟩) N.length cap2)
              obtain ⟨W8, hW8⟩ : ∃ W8, W8 = w2.setCell ⟨Bo, 2, none⟩ (.slice (some ⟨g2, 0, none⟩) N.length cap2) := ⟨_, rfl⟩
              rw [← hW8] at r8 o8 b8 own9 ⊢
              replace own9 := hide own9
              clear hW8 hown hgrow y6 y10 hk0 hk1 hk2 hkf hNl ho0 ho1 ho2 hc0 hc1 hc2 hc3 hc4 hc5 hc6

              have own9' := hide (owns_set (owns_set (owns_set (unhide own9) ⟨w.heap.size + 1 + 1 + 1, 0, none⟩ (.string t.1) (by simp only; omega)) ⟨w.heap.size + 1 + 1 + 1, 1, none⟩ (.int .i64 tm) (by simp only; omega)) ⟨w.heap.size + 1 + 1 + 1, 2, none⟩ (.slice (some ⟨g2, 0, none⟩) N.length cap2) (by simp only; omega))
              have bz := hide (((b8.setCell (p := ⟨w.heap.size + 1 + 1 + 1, 0, none⟩) (by simp only; omega) (.string t.1)).setCell (p := ⟨w.heap.size + 1 + 1 + 1, 1, none⟩) (by simp only; omega) (.int .i64 tm)).setCell (p := ⟨w.heap.size + 1 + 1 + 1, 2, none⟩) (by simp only; omega) (.slice (some ⟨g2, 0, none⟩) N.length cap2))
              obtain ⟨ho0, ho1, ho2⟩ := o8.three
              obtain ⟨hr0, hr1, hr2⟩ := r8.three
              have hf0 := r8.frz 0
              have hf1 := r8.frz 1
              have hf2 := r8.frz 2
              obtain ⟨u0, u1, u2⟩ := three_set (v0 := .string t.1) (v1 := .int .i64 tm) (v2 := .slice (some ⟨g2, 0, none⟩) N.length cap2) hr0 hr1 hr2
              go_wp2_with fail
              obtain ⟨_, _, e9, V9, -⟩ := vals_of_owns (unhide own9')
              cases e9
              have fE : ∃ a' c', Ending.returned (.agg #[.string t.1, .int .i64 tm, .slice (some ⟨g2, 0, none⟩) N.length cap2]) = Ending.returned (.agg #[.string t.1, .int .i64 tm, .slice a' N.length c']) ∧ Vals (((W8.setCell ⟨w.heap.size + 1 + 1 + 1, 0, none⟩ (.string t.1)).setCell ⟨w.heap.size + 1 + 1 + 1, 1, none⟩ (.int .i64 tm)).setCell ⟨w.heap.size + 1 + 1 + 1, 2, none⟩ (.slice (some ⟨g2, 0, none⟩) N.length cap2)).heap.size (((W8.setCell ⟨w.heap.size + 1 + 1 + 1, 0, none⟩ (.string t.1)).setCell ⟨w.heap.size + 1 + 1 + 1, 1, none⟩ (.int .i64 tm)).setCell ⟨w.heap.size + 1 + 1 + 1, 2, none⟩ (.slice (some ⟨g2, 0, none⟩) N.length cap2)) a' N ∧ Below w.heap.size w (((W8.setCell ⟨w.heap.size + 1 + 1 + 1, 0, none⟩ (.string t.1)).setCell ⟨w.heap.size + 1 + 1 + 1, 1, none⟩ (.int .i64 tm)).setCell ⟨w.heap.size + 1 + 1 + 1, 2, none⟩ (.slice (some ⟨g2, 0, none⟩) N.length cap2)) := ⟨_, _, rfl, V9, unhide bz⟩
              exact bodyPost_ret (v := .agg #[.string t.1, .int .i64 tm, .slice (some ⟨g2, 0, none⟩) N.length cap2]) (by simp [results, Tryd.results15, go_sem, u0, u1, u2]) rfl (by obtain ⟨a', c', h1, h2, h3⟩ := fE; first | exact ⟨a', ⟨c', h1⟩, h2, h3⟩ | exact ⟨a', c', h1, h2, h3⟩)
            · obtain ⟨p, hFq, hfp, hp⟩ := unhide hpl (by decide)
              subst hFq
              have hNv : N = vs.take p ++ vs.drop (p + 1) := by rw [unhide eN, vNew_two (unhide hEv) (hS.2 i hi).2.2 (unhide hfp) (unhide hkN) rfl]
              have hNl : vs.length - 1 = N.length := by rw [hNv]; simp; omega
              have hNn : (newsV vs).take (p * 3) ++ (newsV vs).drop ((p + 1) * 3) = newsV N := by rw [hNv, newsV_append, newsV_take, newsV_drop]
              replace hNn := hide hNn
              clear hNv
              obtain ⟨hc0, hc1, hc2, hc3, hc4, hc5, hc6⟩ := q47.seven
              obtain ⟨g1, e1, hg1b, hg1l, hnc, ⟨cur1, hg1⟩, -, -⟩ := owns_cells (unhide own7) (by omega)
              subst e1
              have neB := box_ne o7 hg1 (by decide)
              have lB := o7.lt
              have l6 := r7.lt
              have hw1 : IntKind.i64.wrap ((p : Int) + 1) = p + 1 := by rw [IntKind.wrap_i64]; omega
              obtain ⟨ad2, had2⟩ : ∃ ad2 : Addr, (if c3 = p + 1 then some (⟨g1, 0, none⟩ : Addr) else some ⟨g1, (p + 1) * 3, none⟩) = some ad2 ∧ (ad2 = ⟨g1, (p + 1) * 3, none⟩ ∨ vs.length = p + 1) := by
                by_cases h : c3 = p + 1
                · rw [if_pos h]; exact ⟨_, rfl, .inr (by omega)⟩
                · rw [if_neg h]; exact ⟨_, rfl, .inl rfl⟩
              replace had2 := hide had2
              have cD7 := o7.drew
              go_upto_region 11 with fail
              clear hc0 hc1 hc2 hc3 hc4 hc5 hc6
              refine wp_region_any hmx (wpAny_of_Z (z := 11) (C := fun w' => Box w' Bo 31 #[.string t.1, .int .i64 tm, .slice (some ⟨g1, 0, none⟩) vs.length c3]) _ _ _ _ ?_)
              refine wpAnyZ_reads 0 cD7 (by kernel_rfl) (by kernel_rfl) (by kernel_rfl) (by kernel_rfl) (fun d _ _ _ _ h => by cases d <;> exact h) (fun oi ho K hK => ?_)
              simp only [List.getElem?_toArray, List.getElem?_cons_zero, Option.some.injEq] at ho
              subst ho
              rw [if_pos (by kernel_rfl)]
              refine ⟨.pointer (some ⟨Bo, 2, none⟩), fun w' hw' => ?_, hK _ ?_⟩
              · have hx12 := hw'.three.2.2
                go_simp
              clear hK K
              refine wpAnyZ_reads 1 cD7 (by kernel_rfl) (by kernel_rfl) (by kernel_rfl) (by kernel_rfl) (fun d _ _ _ _ h => by cases d <;> exact h) (fun oi ho K hK => ?_)
              simp only [List.getElem?_toArray, List.getElem?_cons_succ, List.getElem?_cons_zero, Option.some.injEq] at ho
              subst ho
              rw [if_pos (by kernel_rfl)]
              refine ⟨.slice (some ⟨g1, 0, none⟩) vs.length c3, fun w' hw' => ?_, hK _ ?_⟩
              · have hx12 := hw'.three.2.2
                go_simp
              clear hK K
              refine wpAnyZ_reads 2 cD7 (by kernel_rfl) (by kernel_rfl) (by kernel_rfl) (by kernel_rfl) (fun d _ _ _ _ h => by cases d <;> exact h) (fun oi ho K hK => ?_)
              simp only [List.getElem?_toArray, List.getElem?_cons_succ, List.getElem?_cons_zero, Option.some.injEq] at ho
              subst ho
              rw [if_pos (by kernel_rfl)]
              refine ⟨.int .i64 p, fun w' hw' => ?_, hK _ ?_⟩
              · have hx12 := hw'.three.2.2
                go_simp
              clear hK K
              refine wpAnyZ_reads 3 cD7 (by kernel_rfl) (by kernel_rfl) (by kernel_rfl) (by kernel_rfl) (fun d _ _ _ _ h => by cases d <;> exact h) (fun oi ho K hK => ?_)
              simp only [List.getElem?_toArray, List.getElem?_cons_succ, List.getElem?_cons_zero, Option.some.injEq] at ho
              subst ho
              rw [if_pos (by kernel_rfl)]
              refine ⟨.slice (some ⟨g1, 0, none⟩) p c3, fun w' hw' => ?_, hK _ ?_⟩
              · have hx12 := hw'.three.2.2
                go_simp
                try (intro h; omega)
              clear hK K
              refine wpAnyZ_reads 4 cD7 (by kernel_rfl) (by kernel_rfl) (by kernel_rfl) (by kernel_rfl) (fun d _ _ _ _ h => by cases d <;> exact h) (fun oi ho K hK => ?_)
              simp only [List.getElem?_toArray, List.getElem?_cons_succ, List.getElem?_cons_zero, Option.some.injEq] at ho
              subst ho
              rw [if_pos (by kernel_rfl)]
              refine ⟨.pointer (some ⟨Bo, 2, none⟩), fun w' hw' => ?_, hK _ ?_⟩
              · have hx12 := hw'.three.2.2
                go_simp
              clear hK K
              refine wpAnyZ_reads 5 cD7 (by kernel_rfl) (by kernel_rfl) (by kernel_rfl) (by kernel_rfl) (fun d _ _ _ _ h => by cases d <;> exact h) (fun oi ho K hK => ?_)
              simp only [List.getElem?_toArray, List.getElem?_cons_succ, List.getElem?_cons_zero, Option.some.injEq] at ho
              subst ho
              rw [if_pos (by kernel_rfl)]
              refine ⟨.slice (some ⟨g1, 0, none⟩) vs.length c3, fun w' hw' => ?_, hK _ ?_⟩
              · have hx12 := hw'.three.2.2
                go_simp
              clear hK K
              refine wpAnyZ_reads 6 cD7 (by kernel_rfl) (by kernel_rfl) (by kernel_rfl) (by kernel_rfl) (fun d _ _ _ _ h => by cases d <;> exact h) (fun oi ho K hK => ?_)
              simp only [List.getElem?_toArray, List.getElem?_cons_succ, List.getElem?_cons_zero, Option.some.injEq] at ho
              subst ho
              rw [if_pos (by kernel_rfl)]
              refine ⟨.int .i64 p, fun w' hw' => ?_, hK _ ?_⟩
              · have hx12 := hw'.three.2.2
                go_simp
              clear hK K
              refine wpAnyZ_reads 7 cD7 (by kernel_rfl) (by kernel_rfl) (by kernel_rfl) (by kernel_rfl) (fun d _ _ _ _ h => by cases d <;> exact h) (fun oi ho K hK => ?_)
              simp only [List.getElem?_toArray, List.getElem?_cons_succ, List.getElem?_cons_zero, Option.some.injEq] at ho
              subst ho
              rw [if_pos (by kernel_rfl)]
              refine ⟨.int .i64 ((p : Int) + 1), fun w' hw' => ?_, hK _ ?_⟩
              · have hx12 := hw'.three.2.2
                go_simp
              clear hK K
              refine wpAnyZ_reads 8 cD7 (by kernel_rfl) (by kernel_rfl) (by kernel_rfl) (by kernel_rfl) (fun d _ _ _ _ h => by cases d <;> exact h) (fun oi ho K hK => ?_)
              simp only [List.getElem?_toArray, List.getElem?_cons_succ, List.getElem?_cons_zero, Option.some.injEq] at ho
              subst ho
              rw [if_pos (by kernel_rfl)]
              refine ⟨.slice (some ad2) (vs.length - (p + 1)) (c3 - (p + 1)), fun w' hw' => ?_, hK _ ?_⟩
              · have hx12 := hw'.three.2.2
                go_simp
                first | rw [if_pos ⟨by omega, by omega⟩, (unhide had2).1] | rw [(unhide had2).1] | rw [if_pos ⟨by omega, by omega⟩]
              clear hK K
              refine wpAnyZ_calls 9 (by kernel_rfl) (fun oi ho K hK => ?_)
              simp only [List.getElem?_toArray, List.getElem?_cons_succ, List.getElem?_cons_zero, Option.some.injEq] at ho
              subst ho

              refine step_shift W7.drew (by rfl) (.tmp 74) (.tmp 79) 29 (by rfl) V.heap.size 26 j0 3 Tryd.underlying29 hj0 hy1 g1 vs.length c3 (newsV vs) (owns_below (unhide own7) (Below.refl _ _).drew) p hp ad2 (unhide had2).2 (c3 - (p + 1)) (newsV_one _) ?q1 ?q2 ?_
              case q1 => go_simp
              case q2 => go_simp
              intro w2 hown hgrow
              have y10 : Box w2 Bo 31 #[.string t.1, .int .i64 tm, .slice (some ⟨g1, 0, none⟩) vs.length c3] := (hgrow.block _ (by simp; omega) (fun e => by cases e; omega)).trans cD7
              refine hK _ _ (.inr y10) ?_
              clear hK K
              rw [unhide hNn, hNl] at hown
              rw [hNl]
              replace hown := hide hown
              replace hgrow := hide hgrow
              have hkf := y10.frz 2
              obtain ⟨hk0, hk1, hk2⟩ := y10.three
              refine wpAnyZ_reads 10 y10 (by kernel_rfl) (by kernel_rfl) (by kernel_rfl) (by kernel_rfl) (fun d _ _ _ _ h => by cases d <;> exact h) (fun oi ho K hK => ?_)
              simp only [List.getElem?_toArray, List.getElem?_cons_succ, List.getElem?_cons_zero, Option.some.injEq] at ho
              subst ho
              rw [if_pos (by kernel_rfl)]
              refine ⟨.pointer (some ⟨Bo, 2, none⟩), fun w' hw' => ?_, hK _ ?_⟩
              · clear hw'
                go_simp
              clear hK K
              refine wpAnyZ_calls 11 (by kernel_rfl) (fun oi ho K hK => ?_)
              simp only [List.getElem?_toArray, List.getElem?_cons_succ, List.getElem?_cons_zero, Option.some.injEq] at ho
              subst ho

              go_simp
              refine hK _ _ (.inl rfl) ?_
              clear hK K
              refine wpAnyZ_done (by kernel_rfl) ?_ _
              go_upto_region 14 with fail
              replace hown := unhide hown
              replace hgrow := unhide hgrow
              have y6 : Box w2 (w.heap.size + 1 + 1 + 1) 31 _ := (hgrow.block _ (by simp; omega) (fun e => by cases e; omega)).trans r7.drew
              have r8 := y6.other ⟨Bo, 2, none⟩ (.slice (some ⟨g1, 0, none⟩) N.length c3) (by simp only; omega)
              have o8 : Box (w2.setCell ⟨Bo, 2, none⟩ (.slice (some ⟨g1, 0, none⟩) N.length c3)) Bo 31 #[.string t.1, .int .i64 tm, .slice (some ⟨g1, 0, none⟩) N.length c3] := y10.set 2 _
              have b8 := (b7.drew.grown hgrow (by simp; omega) (fun q e => by cases e; omega)).setCell (p := ⟨Bo, 2, none⟩) (by simp only; omega) (.slice (some ⟨g1, 0, none⟩) N.length c3)
              have own9 := set_other (i := 2) hown y10 (by decide) (.slice (some ⟨g1, 0, none⟩) N.length c3)
              obtain ⟨W8, hW8⟩ : ∃ W8, W8 = w2.setCell ⟨Bo, 2, none⟩ (.slice (some ⟨g1, 0, none⟩) N.length c3) := ⟨_, rfl⟩
              rw [← hW8] at r8 o8 b8 own9 ⊢
              replace own9 := hide own9
              clear hW8 hown hgrow y6 y10 hk0 hk1 hk2 hkf hNl cD7

              have own9' := hide (owns_set (owns_set (owns_set (unhide own9) ⟨w.heap.size + 1 + 1 + 1, 0, none⟩ (.string t.1) (by simp only; omega)) ⟨w.heap.size + 1 + 1 + 1, 1, none⟩ (.int .i64 tm) (by simp only; omega)) ⟨w.heap.size + 1 + 1 + 1, 2, none⟩ (.slice (some ⟨g1, 0, none⟩) N.length c3) (by simp only; omega))
              have bz := hide (((b8.setCell (p := ⟨w.heap.size + 1 + 1 + 1, 0, none⟩) (by simp only; omega) (.string t.1)).setCell (p := ⟨w.heap.size + 1 + 1 + 1, 1, none⟩) (by simp only; omega) (.int .i64 tm)).setCell (p := ⟨w.heap.size + 1 + 1 + 1, 2, none⟩) (by simp only; omega) (.slice (some ⟨g1, 0, none⟩) N.length c3))
              obtain ⟨ho0, ho1, ho2⟩ := o8.three
              obtain ⟨hr0, hr1, hr2⟩ := r8.three
              have hf0 := r8.frz 0
              have hf1 := r8.frz 1
              have hf2 := r8.frz 2
              obtain ⟨u0, u1, u2⟩ := three_set (v0 := .string t.1) (v1 := .int .i64 tm) (v2 := .slice (some ⟨g1, 0, none⟩) N.length c3) hr0 hr1 hr2
              go_wp2_with fail
              obtain ⟨_, _, e9, V9, -⟩ := vals_of_owns (unhide own9')
              cases e9
              have fE : ∃ a' c', Ending.returned (.agg #[.string t.1, .int .i64 tm, .slice (some ⟨g1, 0, none⟩) N.length c3]) = Ending.returned (.agg #[.string t.1, .int .i64 tm, .slice a' N.length c']) ∧ Vals (((W8.setCell ⟨w.heap.size + 1 + 1 + 1, 0, none⟩ (.string t.1)).setCell ⟨w.heap.size + 1 + 1 + 1, 1, none⟩ (.int .i64 tm)).setCell ⟨w.heap.size + 1 + 1 + 1, 2, none⟩ (.slice (some ⟨g1, 0, none⟩) N.length c3)).heap.size (((W8.setCell ⟨w.heap.size + 1 + 1 + 1, 0, none⟩ (.string t.1)).setCell ⟨w.heap.size + 1 + 1 + 1, 1, none⟩ (.int .i64 tm)).setCell ⟨w.heap.size + 1 + 1 + 1, 2, none⟩ (.slice (some ⟨g1, 0, none⟩) N.length c3)) a' N ∧ Below w.heap.size w (((W8.setCell ⟨w.heap.size + 1 + 1 + 1, 0, none⟩ (.string t.1)).setCell ⟨w.heap.size + 1 + 1 + 1, 1, none⟩ (.int .i64 tm)).setCell ⟨w.heap.size + 1 + 1 + 1, 2, none⟩ (.slice (some ⟨g1, 0, none⟩) N.length c3)) := ⟨_, _, rfl, V9, unhide bz⟩
              exact bodyPost_ret (v := .agg #[.string t.1, .int .i64 tm, .slice (some ⟨g1, 0, none⟩) N.length c3]) (by simp [results, Tryd.results15, go_sem, u0, u1, u2]) rfl (by obtain ⟨a', c', h1, h2, h3⟩ := fE; first | exact ⟨a', ⟨c', h1⟩, h2, h3⟩ | exact ⟨a', c', h1, h2, h3⟩)
            · have hNv : N = vs := by rw [unhide eN, vNew_three (unhide hEv) rfl]
              subst hNv
              have own9 := own7
              have b8 := b7
              have o8 := o7
              have r8 := r7
              obtain ⟨hc0, hc1, hc2, hc3, hc4, hc5, hc6⟩ := q47.seven

              have own9' := hide (owns_set (owns_set (owns_set (unhide own9) ⟨w.heap.size + 1 + 1 + 1, 0, none⟩ (.string t.1) (by simp only; omega)) ⟨w.heap.size + 1 + 1 + 1, 1, none⟩ (.int .i64 tm) (by simp only; omega)) ⟨w.heap.size + 1 + 1 + 1, 2, none⟩ (.slice a3 N.length c3) (by simp only; omega))
              have bz := hide (((b8.setCell (p := ⟨w.heap.size + 1 + 1 + 1, 0, none⟩) (by simp only; omega) (.string t.1)).setCell (p := ⟨w.heap.size + 1 + 1 + 1, 1, none⟩) (by simp only; omega) (.int .i64 tm)).setCell (p := ⟨w.heap.size + 1 + 1 + 1, 2, none⟩) (by simp only; omega) (.slice a3 N.length c3))
              obtain ⟨ho0, ho1, ho2⟩ := o8.three
              obtain ⟨hr0, hr1, hr2⟩ := r8.three
              have hf0 := r8.frz 0
              have hf1 := r8.frz 1
              have hf2 := r8.frz 2
              obtain ⟨u0, u1, u2⟩ := three_set (v0 := .string t.1) (v1 := .int .i64 tm) (v2 := .slice a3 N.length c3) hr0 hr1 hr2
              go_wp2_with fail
              obtain ⟨_, _, e9, V9, -⟩ := vals_of_owns (unhide own9')
              cases e9
              have fE : ∃ a' c', Ending.returned (.agg #[.string t.1, .int .i64 tm, .slice a3 N.length c3]) = Ending.returned (.agg #[.string t.1, .int .i64 tm, .slice a' N.length c']) ∧ Vals (((W7.setCell ⟨w.heap.size + 1 + 1 + 1, 0, none⟩ (.string t.1)).setCell ⟨w.heap.size + 1 + 1 + 1, 1, none⟩ (.int .i64 tm)).setCell ⟨w.heap.size + 1 + 1 + 1, 2, none⟩ (.slice a3 N.length c3)).heap.size (((W7.setCell ⟨w.heap.size + 1 + 1 + 1, 0, none⟩ (.string t.1)).setCell ⟨w.heap.size + 1 + 1 + 1, 1, none⟩ (.int .i64 tm)).setCell ⟨w.heap.size + 1 + 1 + 1, 2, none⟩ (.slice a3 N.length c3)) a' N ∧ Below w.heap.size w (((W7.setCell ⟨w.heap.size + 1 + 1 + 1, 0, none⟩ (.string t.1)).setCell ⟨w.heap.size + 1 + 1 + 1, 1, none⟩ (.int .i64 tm)).setCell ⟨w.heap.size + 1 + 1 + 1, 2, none⟩ (.slice a3 N.length c3)) := ⟨_, _, rfl, V9, unhide bz⟩
              exact bodyPost_ret (v := .agg #[.string t.1, .int .i64 tm, .slice a3 N.length c3]) (by simp [results, Tryd.results15, go_sem, u0, u1, u2]) rfl (by obtain ⟨a', c', h1, h2, h3⟩ := fE; first | exact ⟨a', ⟨c', h1⟩, h2, h3⟩ | exact ⟨a', c', h1, h2, h3⟩)
            · obtain ⟨p, hFq, hfp, hp⟩ := unhide hpl (by decide)
              subst hFq
              have hNv : N = vs.set p (1, (vl vs p).2) := by rw [unhide eN, vNew_four (unhide hEv) (hS.2 i hi).2.2 (unhide hfp) (unhide hkN) rfl]
              have hNl : vs.length = N.length := by rw [hNv, List.length_set]
              replace hNl := hide hNl
              have hemp : (vl vs p).2.2.1 = ⟨#[]⟩ := by
                have h1 := (unhide hEv).val _ (show vl vs p ∈ vs by simp [vl, hp])
                have h2 := (unhide hEv).kind p (by rw [← (unhide hEv).len]; exact hp)
                have h3 : (fd (ty ts i).2 p).2 = 3 := by
                  have := unhide hRz
                  simp only [refE, unhide hpc] at this
                  split at this
                  · simp only [show ((4 : Int) = 5) = False by simp, show ((4 : Int) = 1) = False by simp, if_false, atE, unhide hfp, show ((4 : Int) = 3) = False by simp, if_true] at this
                    by_cases h : (fd (ty ts i).2 p).2 = 3
                    · exact h
                    · rw [if_neg h] at this; omega
                  · omega
                rw [h2, h3] at h1
                simp only [isB, show ((3 : Int) = 1) = False by simp, show ((3 : Int) = 2) = False by simp, if_false, if_true, Bool.and_eq_true] at h1
                have h4 := h1.2
                rw [ByteArray.toList_eq] at h4
                cases hb : (vl vs p).2.2.1 with
                | mk d =>
                  rw [hb] at h4
                  congr 1
                  exact Array.toList_eq_nil_iff.1 (List.isEmpty_iff.1 h4)
              have hNn : (((newsV vs).set (p * 3) (.int .i64 1)).set (p * 3 + 1) (.int .i64 (vl vs p).2.1)).set (p * 3 + 2) (.string ⟨#[]⟩) = newsV N := by rw [hNv, newsV_set vs p hp, hemp]
              replace hNn := hide hNn
              clear hNv hemp
              obtain ⟨hc0, hc1, hc2, hc3, hc4, hc5, hc6⟩ := q47.seven
              obtain ⟨g1, e1, hg1b, hg1l, hnc, ⟨cur1, hg1⟩, hcell, hfrz⟩ := owns_cells (unhide own7) (by omega)
              subst e1
              obtain ⟨bv, offv, eav, hlv, hcv'⟩ : ∃ b off, av = some ⟨b, off, none⟩ ∧ b < W0.heap.size ∧ W0.cell? ⟨b, off + p * 3 + 1, none⟩ = some (.int .i64 (vl vs p).2.1) := by
                rcases V0 with h | ⟨b, off, e, hb, hc⟩
                · rw [h] at hp; simp at hp
                · exact ⟨b, off, e, hb, (hc p hp).2.1⟩
              subst eav
              have neB := box_ne o7 hg1 (by decide)
              have lB := o7.lt
              have l6 := r7.lt
              have l5 := x5.lt
              have hcvV := (bV0.cell (p := ⟨bv, offv + p * 3 + 1, none⟩) hlv).trans hcv'
              have hcv7 := (bVW.cell (p := ⟨bv, offv + p * 3 + 1, none⟩) (Nat.lt_of_lt_of_le hlv bV0.size)).trans hcvV
              have cD7 : Box W7.drew Bo 31 #[.string t.1, .int .i64 tm, .slice (some ⟨g1, 0, none⟩) vs.length c3] ∧ Box W7.drew (w.heap.size + 1 + 1) 31 #[.string t.1, .int .i64 tm, .slice (some ⟨bv, offv, none⟩) vs.length cv] ∧ W7.drew.cell? ⟨bv, offv + p * 3 + 1, none⟩ = some (.int .i64 (vl vs p).2.1) := ⟨o7.drew, q57.drew, hcv7⟩
              go_upto_region 13 with fail
              clear hc0 hc1 hc2 hc3 hc4 hc5 hc6
              refine wp_region_any hmx (wpAny_of_Z (z := 11) (C := fun w' => Box w' Bo 31 #[.string t.1, .int .i64 tm, .slice (some ⟨g1, 0, none⟩) vs.length c3] ∧ Box w' (w.heap.size + 1 + 1) 31 #[.string t.1, .int .i64 tm, .slice (some ⟨bv, offv, none⟩) vs.length cv] ∧ w'.cell? ⟨bv, offv + p * 3 + 1, none⟩ = some (.int .i64 (vl vs p).2.1)) _ _ _ _ ?_)
              refine wpAnyZ_reads 0 cD7 (by kernel_rfl) (by kernel_rfl) (by kernel_rfl) (by kernel_rfl) (fun d _ _ _ _ h => by cases d <;> exact h) (fun oi ho K hK => ?_)
              simp only [List.getElem?_toArray, List.getElem?_cons_zero, Option.some.injEq] at ho
              subst ho
              rw [if_pos (by kernel_rfl)]
              refine ⟨.pointer (some ⟨Bo, 2, none⟩), fun w' hw' => ?_, hK _ ?_⟩
              · obtain ⟨hxo, hx5, hxc⟩ := hw'
                have hx12 := hxo.three.2.2
                have hx52 := hx5.three.2.2
                go_simp
              clear hK K
              refine wpAnyZ_reads 1 cD7 (by kernel_rfl) (by kernel_rfl) (by kernel_rfl) (by kernel_rfl) (fun d _ _ _ _ h => by cases d <;> exact h) (fun oi ho K hK => ?_)
              simp only [List.getElem?_toArray, List.getElem?_cons_succ, List.getElem?_cons_zero, Option.some.injEq] at ho
              subst ho
              rw [if_pos (by kernel_rfl)]
              refine ⟨.slice (some ⟨g1, 0, none⟩) vs.length c3, fun w' hw' => ?_, hK _ ?_⟩
              · obtain ⟨hxo, hx5, hxc⟩ := hw'
                have hx12 := hxo.three.2.2
                have hx52 := hx5.three.2.2
                go_simp
              clear hK K
              refine wpAnyZ_reads 2 cD7 (by kernel_rfl) (by kernel_rfl) (by kernel_rfl) (by kernel_rfl) (fun d _ _ _ _ h => by cases d <;> exact h) (fun oi ho K hK => ?_)
              simp only [List.getElem?_toArray, List.getElem?_cons_succ, List.getElem?_cons_zero, Option.some.injEq] at ho
              subst ho
              rw [if_pos (by kernel_rfl)]
              refine ⟨.int .i64 p, fun w' hw' => ?_, hK _ ?_⟩
              · obtain ⟨hxo, hx5, hxc⟩ := hw'
                have hx12 := hxo.three.2.2
                have hx52 := hx5.three.2.2
                go_simp
              clear hK K
              refine wpAnyZ_reads 3 cD7 (by kernel_rfl) (by kernel_rfl) (by kernel_rfl) (by kernel_rfl) (fun d _ _ _ _ h => by cases d <;> exact h) (fun oi ho K hK => ?_)
              simp only [List.getElem?_toArray, List.getElem?_cons_succ, List.getElem?_cons_zero, Option.some.injEq] at ho
              subst ho
              rw [if_pos (by kernel_rfl)]
              refine ⟨.pointer (some ⟨w.heap.size + 1 + 1, 2, none⟩), fun w' hw' => ?_, hK _ ?_⟩
              · obtain ⟨hxo, hx5, hxc⟩ := hw'
                have hx12 := hxo.three.2.2
                have hx52 := hx5.three.2.2
                go_simp
              clear hK K
              refine wpAnyZ_reads 4 cD7 (by kernel_rfl) (by kernel_rfl) (by kernel_rfl) (by kernel_rfl) (fun d _ _ _ _ h => by cases d <;> exact h) (fun oi ho K hK => ?_)
              simp only [List.getElem?_toArray, List.getElem?_cons_succ, List.getElem?_cons_zero, Option.some.injEq] at ho
              subst ho
              rw [if_pos (by kernel_rfl)]
              refine ⟨.slice (some ⟨bv, offv, none⟩) vs.length cv, fun w' hw' => ?_, hK _ ?_⟩
              · obtain ⟨hxo, hx5, hxc⟩ := hw'
                have hx12 := hxo.three.2.2
                have hx52 := hx5.three.2.2
                go_simp
              clear hK K
              refine wpAnyZ_reads 5 cD7 (by kernel_rfl) (by kernel_rfl) (by kernel_rfl) (by kernel_rfl) (fun d _ _ _ _ h => by cases d <;> exact h) (fun oi ho K hK => ?_)
              simp only [List.getElem?_toArray, List.getElem?_cons_succ, List.getElem?_cons_zero, Option.some.injEq] at ho
              subst ho
              rw [if_pos (by kernel_rfl)]
              refine ⟨.int .i64 p, fun w' hw' => ?_, hK _ ?_⟩
              · obtain ⟨hxo, hx5, hxc⟩ := hw'
                have hx12 := hxo.three.2.2
                have hx52 := hx5.three.2.2
                go_simp
              clear hK K
              refine wpAnyZ_reads 6 cD7 (by kernel_rfl) (by kernel_rfl) (by kernel_rfl) (by kernel_rfl) (fun d _ _ _ _ h => by cases d <;> exact h) (fun oi ho K hK => ?_)
              simp only [List.getElem?_toArray, List.getElem?_cons_succ, List.getElem?_cons_zero, Option.some.injEq] at ho
              subst ho
              rw [if_pos (by kernel_rfl)]
              refine ⟨.pointer (some ⟨bv, offv + p * 3, none⟩), fun w' hw' => ?_, hK _ ?_⟩
              · obtain ⟨hxo, hx5, hxc⟩ := hw'
                have hx12 := hxo.three.2.2
                have hx52 := hx5.three.2.2
                go_simp
              clear hK K
              refine wpAnyZ_reads 7 cD7 (by kernel_rfl) (by kernel_rfl) (by kernel_rfl) (by kernel_rfl) (fun d _ _ _ _ h => by cases d <;> exact h) (fun oi ho K hK => ?_)
              simp only [List.getElem?_toArray, List.getElem?_cons_succ, List.getElem?_cons_zero, Option.some.injEq] at ho
              subst ho
              rw [if_pos (by kernel_rfl)]
              refine ⟨.pointer (some ⟨bv, offv + p * 3 + 1, none⟩), fun w' hw' => ?_, hK _ ?_⟩
              · obtain ⟨hxo, hx5, hxc⟩ := hw'
                have hx12 := hxo.three.2.2
                have hx52 := hx5.three.2.2
                go_simp
              clear hK K
              refine wpAnyZ_reads 8 cD7 (by kernel_rfl) (by kernel_rfl) (by kernel_rfl) (by kernel_rfl) (fun d _ _ _ _ h => by cases d <;> exact h) (fun oi ho K hK => ?_)
              simp only [List.getElem?_toArray, List.getElem?_cons_succ, List.getElem?_cons_zero, Option.some.injEq] at ho
              subst ho
              rw [if_pos (by kernel_rfl)]
              refine ⟨.int .i64 (vl vs p).2.1, fun w' hw' => ?_, hK _ ?_⟩
              · obtain ⟨hxo, hx5, hxc⟩ := hw'
                have hx12 := hxo.three.2.2
                have hx52 := hx5.three.2.2
                go_simp
              clear hK K
              refine wpAnyZ_reads 9 cD7 (by kernel_rfl) (by kernel_rfl) (by kernel_rfl) (by kernel_rfl) (fun d _ _ _ _ h => by cases d <;> exact h) (fun oi ho K hK => ?_)
              simp only [List.getElem?_toArray, List.getElem?_cons_succ, List.getElem?_cons_zero, Option.some.injEq] at ho
              subst ho
              rw [if_pos (by kernel_rfl)]
              refine ⟨.agg #[.int .i64 1, .int .i64 (vl vs p).2.1, .string ⟨#[]⟩], fun w' hw' => ?_, hK _ ?_⟩
              · obtain ⟨hxo, hx5, hxc⟩ := hw'
                have hx12 := hxo.three.2.2
                have hx52 := hx5.three.2.2
                go_simp
              clear hK K
              refine wpAnyZ_reads 10 cD7 (by kernel_rfl) (by kernel_rfl) (by kernel_rfl) (by kernel_rfl) (fun d _ _ _ _ h => by cases d <;> exact h) (fun oi ho K hK => ?_)
              simp only [List.getElem?_toArray, List.getElem?_cons_succ, List.getElem?_cons_zero, Option.some.injEq] at ho
              subst ho
              rw [if_pos (by kernel_rfl)]
              refine ⟨.pointer (some ⟨g1, p * 3, none⟩), fun w' hw' => ?_, hK _ ?_⟩
              · obtain ⟨hxo, hx5, hxc⟩ := hw'
                have hx12 := hxo.three.2.2
                have hx52 := hx5.three.2.2
                go_simp
              clear hK K

              have ef0 : W7.drew.cell? ⟨g1, p * 3, none⟩ = some (.int .i64 (vl vs p).1) := (hcell (p * 3) (by omega)).trans (newsV_at vs p hp).1
              have ef1 : W7.drew.cell? ⟨g1, p * 3 + 1, none⟩ = some (.int .i64 (vl vs p).2.1) := (hcell (p * 3 + 1) (by omega)).trans (newsV_at vs p hp).2.1
              have ef2 : W7.drew.cell? ⟨g1, p * 3 + 2, none⟩ = some (.string (vl vs p).2.2.1) := (hcell (p * 3 + 2) (by omega)).trans (newsV_at vs p hp).2.2
              have ff0 : W7.drew.frozen? ⟨g1, p * 3, none⟩ = false := hfrz _
              have fg0 : W7.frozen? ⟨g1, p * 3, none⟩ = false := hfrz _
              have ff1 : W7.drew.frozen? ⟨g1, p * 3 + 1, none⟩ = false := hfrz _
              have fg1 : W7.frozen? ⟨g1, p * 3 + 1, none⟩ = false := hfrz _
              have ff2 : W7.drew.frozen? ⟨g1, p * 3 + 2, none⟩ = false := hfrz _
              have fg2 : W7.frozen? ⟨g1, p * 3 + 2, none⟩ = false := hfrz _
              have eg0 : W7.cell? ⟨g1, p * 3, none⟩ = _ := ef0
              have eg1 : W7.cell? ⟨g1, p * 3 + 1, none⟩ = _ := ef1
              have eg2 : W7.cell? ⟨g1, p * 3 + 2, none⟩ = _ := ef2
              replace hcell := hide hcell
              replace hfrz := hide hfrz
              refine wpAnyZ_calls 11 (by kernel_rfl) (fun oi ho K hK => ?_)
              simp only [List.getElem?_toArray, List.getElem?_cons_succ, List.getElem?_cons_zero, Option.some.injEq] at ho
              subst ho

              go_simp
              refine hK _ _ (.inl rfl) ?_
              clear hK K
              refine wpAnyZ_done (by kernel_rfl) ?_ _
              go_upto_region 14 with fail
              have r8 := (((r7.other ⟨g1, p * 3, none⟩ (.int .i64 1) (by simp only; omega)).other ⟨g1, p * 3 + 1, none⟩ (.int .i64 (vl vs p).2.1) (by simp only; omega)).other ⟨g1, p * 3 + 2, none⟩ (.string ⟨#[]⟩) (by simp only; omega)).drew
              have o8 := (((o7.other ⟨g1, p * 3, none⟩ (.int .i64 1) neB).other ⟨g1, p * 3 + 1, none⟩ (.int .i64 (vl vs p).2.1) neB).other ⟨g1, p * 3 + 2, none⟩ (.string ⟨#[]⟩) neB).drew
              have b8 := (((b7.setCell (p := ⟨g1, p * 3, none⟩) (by simp only; omega) (.int .i64 1)).setCell (p := ⟨g1, p * 3 + 1, none⟩) (by simp only; omega) (.int .i64 (vl vs p).2.1)).setCell (p := ⟨g1, p * 3 + 2, none⟩) (by simp only; omega) (.string ⟨#[]⟩)).drew
              have own9 := owns_below (owns_put (owns_put (owns_put (unhide own7) (p * 3) (by omega) (.int .i64 1)) (p * 3 + 1) (by omega) (.int .i64 (vl vs p).2.1)) (p * 3 + 2) (by omega) (.string ⟨#[]⟩)) (Below.refl _ _).drew
              rw [unhide hNn] at own9
              obtain ⟨W8, hW8⟩ : ∃ W8, W8 = (((W7.setCell ⟨g1, p * 3, none⟩ (.int .i64 1)).setCell ⟨g1, p * 3 + 1, none⟩ (.int .i64 (vl vs p).2.1)).setCell ⟨g1, p * 3 + 2, none⟩ (.string ⟨#[]⟩)).drew := ⟨_, rfl⟩
              rw [← hW8] at r8 o8 b8 own9 ⊢
              rw [unhide hNl] at own9 o8
              replace own9 := hide own9
              clear hW8 ef0 ef1 ef2 ff0 ff1 ff2 eg0 eg1 eg2 fg0 fg1 fg2 cD7 hNl

              have own9' := hide (owns_set (owns_set (owns_set (unhide own9) ⟨w.heap.size + 1 + 1 + 1, 0, none⟩ (.string t.1) (by simp only; omega)) ⟨w.heap.size + 1 + 1 + 1, 1, none⟩ (.int .i64 tm) (by simp only; omega)) ⟨w.heap.size + 1 + 1 + 1, 2, none⟩ (.slice (some ⟨g1, 0, none⟩) N.length c3) (by simp only; omega))
              have bz := hide (((b8.setCell (p := ⟨w.heap.size + 1 + 1 + 1, 0, none⟩) (by simp only; omega) (.string t.1)).setCell (p := ⟨w.heap.size + 1 + 1 + 1, 1, none⟩) (by simp only; omega) (.int .i64 tm)).setCell (p := ⟨w.heap.size + 1 + 1 + 1, 2, none⟩) (by simp only; omega) (.slice (some ⟨g1, 0, none⟩) N.length c3))
              obtain ⟨ho0, ho1, ho2⟩ := o8.three
              obtain ⟨hr0, hr1, hr2⟩ := r8.three
              have hf0 := r8.frz 0
              have hf1 := r8.frz 1
              have hf2 := r8.frz 2
              obtain ⟨u0, u1, u2⟩ := three_set (v0 := .string t.1) (v1 := .int .i64 tm) (v2 := .slice (some ⟨g1, 0, none⟩) N.length c3) hr0 hr1 hr2
              go_wp2_with fail
              obtain ⟨_, _, e9, V9, -⟩ := vals_of_owns (unhide own9')
              cases e9
              have fE : ∃ a' c', Ending.returned (.agg #[.string t.1, .int .i64 tm, .slice (some ⟨g1, 0, none⟩) N.length c3]) = Ending.returned (.agg #[.string t.1, .int .i64 tm, .slice a' N.length c']) ∧ Vals (((W8.setCell ⟨w.heap.size + 1 + 1 + 1, 0, none⟩ (.string t.1)).setCell ⟨w.heap.size + 1 + 1 + 1, 1, none⟩ (.int .i64 tm)).setCell ⟨w.heap.size + 1 + 1 + 1, 2, none⟩ (.slice (some ⟨g1, 0, none⟩) N.length c3)).heap.size (((W8.setCell ⟨w.heap.size + 1 + 1 + 1, 0, none⟩ (.string t.1)).setCell ⟨w.heap.size + 1 + 1 + 1, 1, none⟩ (.int .i64 tm)).setCell ⟨w.heap.size + 1 + 1 + 1, 2, none⟩ (.slice (some ⟨g1, 0, none⟩) N.length c3)) a' N ∧ Below w.heap.size w (((W8.setCell ⟨w.heap.size + 1 + 1 + 1, 0, none⟩ (.string t.1)).setCell ⟨w.heap.size + 1 + 1 + 1, 1, none⟩ (.int .i64 tm)).setCell ⟨w.heap.size + 1 + 1 + 1, 2, none⟩ (.slice (some ⟨g1, 0, none⟩) N.length c3)) := ⟨_, _, rfl, V9, unhide bz⟩
              exact bodyPost_ret (v := .agg #[.string t.1, .int .i64 tm, .slice (some ⟨g1, 0, none⟩) N.length c3]) (by simp [results, Tryd.results15, go_sem, u0, u1, u2]) rfl (by obtain ⟨a', c', h1, h2, h3⟩ := fE; first | exact ⟨a', ⟨c', h1⟩, h2, h3⟩ | exact ⟨a', c', h1, h2, h3⟩)
          · simp only [List.getElem?_toArray, List.getElem?_cons_succ, List.getElem?_cons_zero, Option.some.injEq] at ho
            subst ho
            have bF : Below V.heap.size V (V.alloc (.cells #[.string ⟨#[]⟩, .int .i64 0, .slice none 0 0] 31)) := (Below.refl _ _).alloc (Nat.le_refl _) _
            have obx0 := Box.new V 31 #[.string ⟨#[]⟩, .int .i64 0, .slice none 0 0]
            have cF := cD.on bF cD.lt
            go_simp
            refine hK _ _ (.inr cF) ?_
            clear hK K
            obtain ⟨Bo, hBo'⟩ : ∃ Bo, Bo = V.heap.size := ⟨_, rfl⟩
            have hBo : V.heap.size ≤ Bo := by rw [hBo']; exact Nat.le_refl _
            rw [← hBo'] at obx0 ⊢
            obtain ⟨w1, hw1'⟩ : ∃ w1, w1 = V.alloc (.cells #[.string ⟨#[]⟩, .int .i64 0, .slice none 0 0] 31) := ⟨_, rfl⟩
            rw [← hw1'] at obx0 bF cF ⊢
            clear hw1' hBo'
            refine wpAnyZ_calls 6 (by kernel_rfl) (fun oi ho K hK => ?_)
            simp only [List.getElem?_toArray, List.getElem?_cons_succ, List.getElem?_cons_zero, Option.some.injEq] at ho
            subst ho
            refine step_lies w1 (by rfl) (.const (.slice none 0 0)) (.tmp 55) 29 (by rfl) V.heap.size 26 j0 (.agg #[.int .i64 0, .int .i64 0, .string ⟨#[]⟩]) 3 32 Tryd.underlying29 hj0 hy0 hy1 hy2 (by rfl) (by decide) (.slice none 0 0) 0 [] ?q1 (World.ownsRow_nil _ _ _ _) av vs.length cv (newsV vs) ?q2 ((unhide lV).on bF) (newsV_one _) (by unfold maxLen; omega) (by omega) bF.size ?_
            case q1 => go_simp
            case q2 => go_simp
            intro v1 V2 ho1 hg1
            rw [Nat.zero_add, List.nil_append] at ho1
            obtain ⟨a3, c3, rfl, -, -⟩ := vals_of_owns ho1
            have b1 : Below w1.heap.size w1 V2 := (Below.refl _ _).grown hg1 (Nat.le_refl _) (fun j e => by cases e)
            have obx := obx0.on b1 obx0.lt
            have own3 := hide ho1
            have b3 := bF.trans (b1.mono bF.size)
            have cG := cD.on b3 cD.lt
            refine hK _ _ (.inr cG) ?_
            clear hK K hg1 ho1 b1 bF cF obx0
            refine wpAnyZ_reads 7 cG (by kernel_rfl) (by kernel_rfl) (by kernel_rfl) (by kernel_rfl) (fun d _ _ _ _ h => by cases d <;> exact h) (fun oi ho K hK => ?_)
            simp only [List.getElem?_toArray, List.getElem?_cons_succ, List.getElem?_cons_zero, Option.some.injEq] at ho
            subst ho
            rw [if_pos (by kernel_rfl)]
            refine ⟨.agg #[.string t.1, .int .i64 tm, .slice a3 vs.length c3], fun w' hw' => ?_, hK _ ?_⟩
            · clear hw'
              go_simp
            clear hK K
            have hz0 := (obx.three).1
            have hz1 := (obx.three).2.1
            have hz2 := (obx.three).2.2
            have hzf0 := obx.frz 0
            have hzf1 := obx.frz 1
            have hzf2 := obx.frz 2
            refine wpAnyZ_calls 9 (by kernel_rfl) (fun oi ho K hK => ?_)
            simp only [List.getElem?_toArray, List.getElem?_cons_succ, List.getElem?_cons_zero, Option.some.injEq] at ho
            subst ho

            go_simp
            refine hK _ _ (.inl rfl) ?_
            clear hK K hz0 hz1 hz2 hzf0 hzf1 hzf2 cG
            refine wpAnyZ_done (by kernel_rfl) ?_ _
            go_upto_region 7 with fail

            have lBo := obx.lt
            have o7 : Box (((V2.setCell ⟨Bo, 0, none⟩ (.string t.1)).setCell ⟨Bo, 1, none⟩ (.int .i64 tm)).setCell ⟨Bo, 2, none⟩ (.slice a3 vs.length c3)) Bo 31 #[.string t.1, .int .i64 tm, .slice a3 vs.length c3] := ((obx.set 0 (.string t.1)).set 1 (.int .i64 tm)).set 2 (.slice a3 vs.length c3)
            have own7 := set_other (i := 2) (set_other (i := 1) (set_other (i := 0) (unhide own3) obx (by decide) (.string t.1)) (obx.set 0 (.string t.1)) (by decide) (.int .i64 tm)) ((obx.set 0 (.string t.1)).set 1 (.int .i64 tm)) (by decide) (.slice a3 vs.length c3)
            have bVW := ((b3.setCell (p := ⟨Bo, 0, none⟩) hBo (.string t.1)).setCell (p := ⟨Bo, 1, none⟩) hBo (.int .i64 tm)).setCell (p := ⟨Bo, 2, none⟩) hBo (.slice a3 vs.length c3)
            obtain ⟨W7, hW7⟩ : ∃ W7, W7 = ((V2.setCell ⟨Bo, 0, none⟩ (.string t.1)).setCell ⟨Bo, 1, none⟩ (.int .i64 tm)).setCell ⟨Bo, 2, none⟩ (.slice a3 vs.length c3) := ⟨_, rfl⟩

            rw [← hW7] at o7 own7 bVW ⊢
            have q47 := (x4.on bV0 x4.lt).on bVW (by have := x4.lt; have := bV0.size; omega)
            have q57 := (x5.on bV0 x5.lt).on bVW (by have := x5.lt; have := bV0.size; omega)
            have r7 := (x6.on bV0 x6.lt).on bVW (by have := x6.lt; have := bV0.size; omega)
            have b7 := bwV.trans (bVW.mono bwV.size)
            have sV7 := bVW.size
            replace own7 := hide own7
            clear hW7 obx own3

            rcases unhide hk4 with rfl | rfl | rfl | rfl
            · have hNv : N = vs ++ [(dk, dn, ds)] := by rw [unhide eN, vNew_one (unhide hEv) (unhide hkN) rfl]
              have hNl : N.length = vs.length + 1 := by rw [hNv]; simp
              have hNn : newsV vs ++ [.int .i64 dk, .int .i64 dn, .string ds.1] = newsV N := by rw [hNv, newsV_append]; rfl
              replace hNn := hide hNn
              clear hNv
              obtain ⟨hc0, hc1, hc2, hc3, hc4, hc5, hc6⟩ := q47.seven
              obtain ⟨ho0, ho1, ho2⟩ := o7.three
              have nBo : some Bo ≠ (Value.slice a3 vs.length c3).ownBlock := fun e => by obtain ⟨_, cur, h⟩ := owns_lt (unhide own7) e.symm; exact box_ne o7 h (by decide) rfl
              have lo : ∀ q, (Value.slice a3 vs.length c3).ownBlock = some q → V.heap.size ≤ q := fun q hq => (owns_lt (unhide own7) hq).1
              have n6 : some (w.heap.size + 1 + 1 + 1) ≠ (Value.slice a3 vs.length c3).ownBlock := fun e => by have := lo _ e.symm; omega
              have lB := o7.lt
              have l6 := r7.lt
              replace nBo := hide nBo
              replace lo := hide lo
              replace n6 := hide n6
              go_upto_region 14 with (at_builtin; go_must (refine wpList_append_own _ rfl _ _ 29 rfl V.heap.size 26 j0 (.agg #[.int .i64 0, .int .i64 0, .string ⟨#[]⟩]) 3 32 Tryd.underlying29 hj0 hy0 hy1 hy2 rfl (by decide) (.slice a3 vs.length c3) vs.length (newsV vs) rfl (owns_below (unhide own7) ((Below.refl _ _).alloc (Nat.le_refl _) (.cells #[.int .i64 dk, .int .i64 dn, .string ds.1] 26))) ⟨W7.heap.size, 0, none⟩ 1 1 [.int .i64 dk, .int .i64 dn, .string ds.1] rfl rfl (cell_three_new _ _ _ _ _) (by simp [Value.oneCell']) (by unfold maxLen; omega) (by omega) (by simp; omega) ?_); intro v' w2 hown hgrow _; obtain ⟨g2, cap2, rfl⟩ := ownsRow_succ hown; have y10 : Box w2 Bo 31 #[.string t.1, .int .i64 tm, .slice a3 vs.length c3] := (hgrow.block _ (by simp; omega) (unhide nBo)).trans (o7.alloc _); obtain ⟨hk0, hk1, hk2⟩ := y10.three; have hkf := y10.frz 2; replace hown := hide hown; replace hgrow := hide hgrow)
              replace hown := unhide hown
              replace hgrow := unhide hgrow
              rw [unhide hNn, ← hNl] at hown
              rw [← hNl]
              have y6 : Box w2 (w.heap.size + 1 + 1 + 1) 31 _ := (hgrow.block _ (by simp; omega) (unhide n6)).trans (r7.alloc _)
              have r8 := y6.other ⟨Bo, 2, none⟩ (.slice (some ⟨g2, 0, none⟩) N.length cap2) (by simp only; omega)
              have o8 : Box (w2.setCell ⟨Bo, 2, none⟩ (.slice (some ⟨g2, 0, none⟩) N.length cap2)) Bo 31 #[.string t.1, .int .i64 tm, .slice (some ⟨g2, 0, none⟩) N.length cap2] := y10.set 2 _
              have b8 := ((b7.alloc (by omega) (.cells #[.int .i64 dk, .int .i64 dn, .string ds.1] 26)).grown hgrow (by simp; omega) (fun q e => Nat.le_trans (by omega) (unhide lo q e))).setCell (p := ⟨Bo, 2, none⟩) (by simp only; omega) (.slice (some ⟨g2, 0, none⟩) N.length cap2)
              have own9 := set_other (i := 2) hown y10 (by decide) (.slice (some ⟨g2, 0, none⟩) N.length cap2)
              obtain ⟨W8, hW8⟩ : ∃ W8, W8 = w2.setCell ⟨Bo, 2, none⟩ (.slice (some ⟨g2, 0, none⟩) N.length cap2) := ⟨_, rfl⟩
              rw [← hW8] at r8 o8 b8 own9 ⊢
              replace own9 := hide own9
              clear hW8 hown hgrow y6 y10 hk0 hk1 hk2 hkf hNl ho0 ho1 ho2 hc0 hc1 hc2 hc3 hc4 hc5 hc6

              have own9' := hide (owns_set (owns_set (owns_set (unhide own9) ⟨w.heap.size + 1 + 1 + 1, 0, none⟩ (.string t.1) (by simp only; omega)) ⟨w.heap.size + 1 + 1 + 1, 1, none⟩ (.int .i64 tm) (by simp only; omega)) ⟨w.heap.size + 1 + 1 + 1, 2, none⟩ (.slice (some ⟨g2, 0, none⟩) N.length cap2) (by simp only; omega))
              have bz := hide (((b8.setCell (p := ⟨w.heap.size + 1 + 1 + 1, 0, none⟩) (by simp only; omega) (.string t.1)).setCell (p := ⟨w.heap.size + 1 + 1 + 1, 1, none⟩) (by simp only; omega) (.int .i64 tm)).setCell (p := ⟨w.heap.size + 1 + 1 + 1, 2, none⟩) (by simp only; omega) (.slice (some ⟨g2, 0, none⟩) N.length cap2))
              obtain ⟨ho0, ho1, ho2⟩ := o8.three
              obtain ⟨hr0, hr1, hr2⟩ := r8.three
              have hf0 := r8.frz 0
              have hf1 := r8.frz 1
              have hf2 := r8.frz 2
              obtain ⟨u0, u1, u2⟩ := three_set (v0 := .string t.1) (v1 := .int .i64 tm) (v2 := .slice (some ⟨g2, 0, none⟩) N.length cap2) hr0 hr1 hr2
              go_wp2_with fail
              obtain ⟨_, _, e9, V9, -⟩ := vals_of_owns (unhide own9')
              cases e9
              have fE : ∃ a' c', Ending.returned (.agg #[.string t.1, .int .i64 tm, .slice (some ⟨g2, 0, none⟩) N.length cap2]) = Ending.returned (.agg #[.string t.1, .int .i64 tm, .slice a' N.length c']) ∧ Vals (((W8.setCell ⟨w.heap.size + 1 + 1 + 1, 0, none⟩ (.string t.1)).setCell ⟨w.heap.size + 1 + 1 + 1, 1, none⟩ (.int .i64 tm)).setCell ⟨w.heap.size + 1 + 1 + 1, 2, none⟩ (.slice (some ⟨g2, 0, none⟩) N.length cap2)).heap.size (((W8.setCell ⟨w.heap.size + 1 + 1 + 1, 0, none⟩ (.string t.1)).setCell ⟨w.heap.size + 1 + 1 + 1, 1, none⟩ (.int .i64 tm)).setCell ⟨w.heap.size + 1 + 1 + 1, 2, none⟩ (.slice (some ⟨g2, 0, none⟩) N.length cap2)) a' N ∧ Below w.heap.size w (((W8.setCell ⟨w.heap.size + 1 + 1 + 1, 0, none⟩ (.string t.1)).setCell ⟨w.heap.size + 1 + 1 + 1, 1, none⟩ (.int .i64 tm)).setCell ⟨w.heap.size + 1 + 1 + 1, 2, none⟩ (.slice (some ⟨g2, 0, none⟩) N.length cap2)) := ⟨_, _, rfl, V9, unhide bz⟩
              exact bodyPost_ret (v := .agg #[.string t.1, .int .i64 tm, .slice (some ⟨g2, 0, none⟩) N.length cap2]) (by simp [results, Tryd.results15, go_sem, u0, u1, u2]) rfl (by obtain ⟨a', c', h1, h2, h3⟩ := fE; first | exact ⟨a', ⟨c', h1⟩, h2, h3⟩ | exact ⟨a', c', h1, h2, h3⟩)
            · obtain ⟨p, hFq, hfp, hp⟩ := unhide hpl (by decide)
              subst hFq
              have hNv : N = vs.take p ++ vs.drop (p + 1) := by rw [unhide eN, vNew_two (unhide hEv) (hS.2 i hi).2.2 (unhide hfp) (unhide hkN) rfl]
              have hNl : vs.length - 1 = N.length := by rw [hNv]; simp; omega
              have hNn : (newsV vs).take (p * 3) ++ (newsV vs).drop ((p + 1) * 3) = newsV N := by rw [hNv, newsV_append, newsV_take, newsV_drop]
              replace hNn := hide hNn
              clear hNv
              obtain ⟨hc0, hc1, hc2, hc3, hc4, hc5, hc6⟩ := q47.seven
              obtain ⟨g1, e1, hg1b, hg1l, hnc, ⟨cur1, hg1⟩, -, -⟩ := owns_cells (unhide own7) (by omega)
              subst e1
              have neB := box_ne o7 hg1 (by decide)
              have lB := o7.lt
              have l6 := r7.lt
              have hw1 : IntKind.i64.wrap ((p : Int) + 1) = p + 1 := by rw [IntKind.wrap_i64]; omega
              obtain ⟨ad2, had2⟩ : ∃ ad2 : Addr, (if c3 = p + 1 then some (⟨g1, 0, none⟩ : Addr) else some ⟨g1, (p + 1) * 3, none⟩) = some ad2 ∧ (ad2 = ⟨g1, (p + 1) * 3, none⟩ ∨ vs.length = p + 1) := by
                by_cases h : c3 = p + 1
                · rw [if_pos h]; exact ⟨_, rfl, .inr (by omega)⟩
                · rw [if_neg h]; exact ⟨_, rfl, .inl rfl⟩
              replace had2 := hide had2
              have cD7 := o7.drew
              go_upto_region 11 with fail
              clear hc0 hc1 hc2 hc3 hc4 hc5 hc6
              refine wp_region_any hmx (wpAny_of_Z (z := 11) (C := fun w' => Box w' Bo 31 #[.string t.1, .int .i64 tm, .slice (some ⟨g1, 0, none⟩) vs.length c3]) _ _ _ _ ?_)
              refine wpAnyZ_reads 0 cD7 (by kernel_rfl) (by kernel_rfl) (by kernel_rfl) (by kernel_rfl) (fun d _ _ _ _ h => by cases d <;> exact h) (fun oi ho K hK => ?_)
              simp only [List.getElem?_toArray, List.getElem?_cons_zero, Option.some.injEq] at ho
              subst ho
              rw [if_pos (by kernel_rfl)]
              refine ⟨.pointer (some ⟨Bo, 2, none⟩), fun w' hw' => ?_, hK _ ?_⟩
              · have hx12 := hw'.three.2.2
                go_simp
              clear hK K
              refine wpAnyZ_reads 1 cD7 (by kernel_rfl) (by kernel_rfl) (by kernel_rfl) (by kernel_rfl) (fun d _ _ _ _ h => by cases d <;> exact h) (fun oi ho K hK => ?_)
              simp only [List.getElem?_toArray, List.getElem?_cons_succ, List.getElem?_cons_zero, Option.some.injEq] at ho
              subst ho
              rw [if_pos (by kernel_rfl)]
              refine ⟨.slice (some ⟨g1, 0, none⟩) vs.length c3, fun w' hw' => ?_, hK _ ?_⟩
              · have hx12 := hw'.three.2.2
                go_simp
              clear hK K
              refine wpAnyZ_reads 2 cD7 (by kernel_rfl) (by kernel_rfl) (by kernel_rfl) (by kernel_rfl) (fun d _ _ _ _ h => by cases d <;> exact h) (fun oi ho K hK => ?_)
              simp only [List.getElem?_toArray, List.getElem?_cons_succ, List.getElem?_cons_zero, Option.some.injEq] at ho
              subst ho
              rw [if_pos (by kernel_rfl)]
              refine ⟨.int .i64 p, fun w' hw' => ?_, hK _ ?_⟩
              · have hx12 := hw'.three.2.2
                go_simp
              clear hK K
              refine wpAnyZ_reads 3 cD7 (by kernel_rfl) (by kernel_rfl) (by kernel_rfl) (by kernel_rfl) (fun d _ _ _ _ h => by cases d <;> exact h) (fun oi ho K hK => ?_)
              simp only [List.getElem?_toArray, List.getElem?_cons_succ, List.getElem?_cons_zero, Option.some.injEq] at ho
              subst ho
              rw [if_pos (by kernel_rfl)]
              refine ⟨.slice (some ⟨g1, 0, none⟩) p c3, fun w' hw' => ?_, hK _ ?_⟩
              · have hx12 := hw'.three.2.2
                go_simp
                try (intro h; omega)
              clear hK K
              refine wpAnyZ_reads 4 cD7 (by kernel_rfl) (by kernel_rfl) (by kernel_rfl) (by kernel_rfl) (fun d _ _ _ _ h => by cases d <;> exact h) (fun oi ho K hK => ?_)
              simp only [List.getElem?_toArray, List.getElem?_cons_succ, List.getElem?_cons_zero, Option.some.injEq] at ho
              subst ho
              rw [if_pos (by kernel_rfl)]
              refine ⟨.pointer (some ⟨Bo, 2, none⟩), fun w' hw' => ?_, hK _ ?_⟩
              · have hx12 := hw'.three.2.2
                go_simp
              clear hK K
              refine wpAnyZ_reads 5 cD7 (by kernel_rfl) (by kernel_rfl) (by kernel_rfl) (by kernel_rfl) (fun d _ _ _ _ h => by cases d <;> exact h) (fun oi ho K hK => ?_)
              simp only [List.getElem?_toArray, List.getElem?_cons_succ, List.getElem?_cons_zero, Option.some.injEq] at ho
              subst ho
              rw [if_pos (by kernel_rfl)]
              refine ⟨.slice (some ⟨g1, 0, none⟩) vs.length c3, fun w' hw' => ?_, hK _ ?_⟩
              · have hx12 := hw'.three.2.2
                go_simp
              clear hK K
              refine wpAnyZ_reads 6 cD7 (by kernel_rfl) (by kernel_rfl) (by kernel_rfl) (by kernel_rfl) (fun d _ _ _ _ h => by cases d <;> exact h) (fun oi ho K hK => ?_)
              simp only [List.getElem?_toArray, List.getElem?_cons_succ, List.getElem?_cons_zero, Option.some.injEq] at ho
              subst ho
              rw [if_pos (by kernel_rfl)]
              refine ⟨.int .i64 p, fun w' hw' => ?_, hK _ ?_⟩
              · have hx12 := hw'.three.2.2
                go_simp
              clear hK K
              refine wpAnyZ_reads 7 cD7 (by kernel_rfl) (by kernel_rfl) (by kernel_rfl) (by kernel_rfl) (fun d _ _ _ _ h => by cases d <;> exact h) (fun oi ho K hK => ?_)
              simp only [List.getElem?_toArray, List.getElem?_cons_succ, List.getElem?_cons_zero, Option.some.injEq] at ho
              subst ho
              rw [if_pos (by kernel_rfl)]
              refine ⟨.int .i64 ((p : Int) + 1), fun w' hw' => ?_, hK _ ?_⟩
              · have hx12 := hw'.three.2.2
                go_simp
              clear hK K
              refine wpAnyZ_reads 8 cD7 (by kernel_rfl) (by kernel_rfl) (by kernel_rfl) (by kernel_rfl) (fun d _ _ _ _ h => by cases d <;> exact h) (fun oi ho K hK => ?_)
              simp only [List.getElem?_toArray, List.getElem?_cons_succ, List.getElem?_cons_zero, Option.some.injEq] at ho
              subst ho
              rw [if_pos (by kernel_rfl)]
              refine ⟨.slice (some ad2) (vs.length - (p + 1)) (c3 - (p + 1)), fun w' hw' => ?_, hK _ ?_⟩
              · have hx12 := hw'.three.2.2
                go_simp
                first | rw [if_pos ⟨by omega, by omega⟩, (unhide had2).1] | rw [(unhide had2).1] | rw [if_pos ⟨by omega, by omega⟩]
              clear hK K
              refine wpAnyZ_calls 9 (by kernel_rfl) (fun oi ho K hK => ?_)
              simp only [List.getElem?_toArray, List.getElem?_cons_succ, List.getElem?_cons_zero, Option.some.injEq] at ho
              subst ho

              refine step_shift W7.drew (by rfl) (.tmp 74) (.tmp 79) 29 (by rfl) V.heap.size 26 j0 3 Tryd.underlying29 hj0 hy1 g1 vs.length c3 (newsV vs) (owns_below (unhide own7) (Below.refl _ _).drew) p hp ad2 (unhide had2).2 (c3 - (p + 1)) (newsV_one _) ?q1 ?q2 ?_
              case q1 => go_simp
              case q2 => go_simp
              intro w2 hown hgrow
              have y10 : Box w2 Bo 31 #[.string t.1, .int .i64 tm, .slice (some ⟨g1, 0, none⟩) vs.length c3] := (hgrow.block _ (by simp; omega) (fun e => by cases e; omega)).trans cD7
              refine hK _ _ (.inr y10) ?_
              clear hK K
              rw [unhide hNn, hNl] at hown
              rw [hNl]
              replace hown := hide hown
              replace hgrow := hide hgrow
              have hkf := y10.frz 2
              obtain ⟨hk0, hk1, hk2⟩ := y10.three
              refine wpAnyZ_reads 10 y10 (by kernel_rfl) (by kernel_rfl) (by kernel_rfl) (by kernel_rfl) (fun d _ _ _ _ h => by cases d <;> exact h) (fun oi ho K hK => ?_)
              simp only [List.getElem?_toArray, List.getElem?_cons_succ, List.getElem?_cons_zero, Option.some.injEq] at ho
              subst ho
              rw [if_pos (by kernel_rfl)]
              refine ⟨.pointer (some ⟨Bo, 2, none⟩), fun w' hw' => ?_, hK _ ?_⟩
              · clear hw'
                go_simp
              clear hK K
              refine wpAnyZ_calls 11 (by kernel_rfl) (fun oi ho K hK => ?_)
              simp only [List.getElem?_toArray, List.getElem?_cons_succ, List.getElem?_cons_zero, Option.some.injEq] at ho
              subst ho

              go_simp
              refine hK _ _ (.inl rfl) ?_
              clear hK K
              refine wpAnyZ_done (by kernel_rfl) ?_ _
              go_upto_region 14 with fail
              replace hown := unhide hown
              replace hgrow := unhide hgrow
              have y6 : Box w2 (w.heap.size + 1 + 1 + 1) 31 _ := (hgrow.block _ (by simp; omega) (fun e => by cases e; omega)).trans r7.drew
              have r8 := y6.other ⟨Bo, 2, none⟩ (.slice (some ⟨g1, 0, none⟩) N.length c3) (by simp only; omega)
              have o8 : Box (w2.setCell ⟨Bo, 2, none⟩ (.slice (some ⟨g1, 0, none⟩) N.length c3)) Bo 31 #[.string t.1, .int .i64 tm, .slice (some ⟨g1, 0, none⟩) N.length c3] := y10.set 2 _
              have b8 := (b7.drew.grown hgrow (by simp; omega) (fun q e => by cases e; omega)).setCell (p := ⟨Bo, 2, none⟩) (by simp only; omega) (.slice (some ⟨g1, 0, none⟩) N.length c3)
              have own9 := set_other (i := 2) hown y10 (by decide) (.slice (some ⟨g1, 0, none⟩) N.length c3)
              obtain ⟨W8, hW8⟩ : ∃ W8, W8 = w2.setCell ⟨Bo, 2, none⟩ (.slice (some ⟨g1, 0, none⟩) N.length c3) := ⟨_, rfl⟩
              rw [← hW8] at r8 o8 b8 own9 ⊢
              replace own9 := hide own9
              clear hW8 hown hgrow y6 y10 hk0 hk1 hk2 hkf hNl cD7

              have own9' := hide (owns_set (owns_set (owns_set (unhide own9) ⟨w.heap.size + 1 + 1 + 1, 0, none⟩ (.string t.1) (by simp only; omega)) ⟨w.heap.size + 1 + 1 + 1, 1, none⟩ (.int .i64 tm) (by simp only; omega)) ⟨w.heap.size + 1 + 1 + 1, 2, none⟩ (.slice (some ⟨g1, 0, none⟩) N.length c3) (by simp only; omega))
              have bz := hide (((b8.setCell (p := ⟨w.heap.size + 1 + 1 + 1, 0, none⟩) (by simp only; omega) (.string t.1)).setCell (p := ⟨w.heap.size + 1 + 1 + 1, 1, none⟩) (by simp only; omega) (.int .i64 tm)).setCell (p := ⟨w.heap.size + 1 + 1 + 1, 2, none⟩) (by simp only; omega) (.slice (some ⟨g1, 0, none⟩) N.length c3))
              obtain ⟨ho0, ho1, ho2⟩ := o8.three
              obtain ⟨hr0, hr1, hr2⟩ := r8.three
              have hf0 := r8.frz 0
              have hf1 := r8.frz 1
              have hf2 := r8.frz 2
              obtain ⟨u0, u1, u2⟩ := three_set (v0 := .string t.1) (v1 := .int .i64 tm) (v2 := .slice (some ⟨g1, 0, none⟩) N.length c3) hr0 hr1 hr2
              go_wp2_with fail
              obtain ⟨_, _, e9, V9, -⟩ := vals_of_owns (unhide own9')
              cases e9
              have fE : ∃ a' c', Ending.returned (.agg #[.string t.1, .int .i64 tm, .slice (some ⟨g1, 0, none⟩) N.length c3]) = Ending.returned (.agg #[.string t.1, .int .i64 tm, .slice a' N.length c']) ∧ Vals (((W8.setCell ⟨w.heap.size + 1 + 1 + 1, 0, none⟩ (.string t.1)).setCell ⟨w.heap.size + 1 + 1 + 1, 1, none⟩ (.int .i64 tm)).setCell ⟨w.heap.size + 1 + 1 + 1, 2, none⟩ (.slice (some ⟨g1, 0, none⟩) N.length c3)).heap.size (((W8.setCell ⟨w.heap.size + 1 + 1 + 1, 0, none⟩ (.string t.1)).setCell ⟨w.heap.size + 1 + 1 + 1, 1, none⟩ (.int .i64 tm)).setCell ⟨w.heap.size + 1 + 1 + 1, 2, none⟩ (.slice (some ⟨g1, 0, none⟩) N.length c3)) a' N ∧ Below w.heap.size w (((W8.setCell ⟨w.heap.size + 1 + 1 + 1, 0, none⟩ (.string t.1)).setCell ⟨w.heap.size + 1 + 1 + 1, 1, none⟩ (.int .i64 tm)).setCell ⟨w.heap.size + 1 + 1 + 1, 2, none⟩ (.slice (some ⟨g1, 0, none⟩) N.length c3)) := ⟨_, _, rfl, V9, unhide bz⟩
              exact bodyPost_ret (v := .agg #[.string t.1, .int .i64 tm, .slice (some ⟨g1, 0, none⟩) N.length c3]) (by simp [results, Tryd.results15, go_sem, u0, u1, u2]) rfl (by obtain ⟨a', c', h1, h2, h3⟩ := fE; first | exact ⟨a', ⟨c', h1⟩, h2, h3⟩ | exact ⟨a', c', h1, h2, h3⟩)
            · have hNv : N = vs := by rw [unhide eN, vNew_three (unhide hEv) rfl]
              subst hNv
              have own9 := own7
              have b8 := b7
              have o8 := o7
              have r8 := r7
              obtain ⟨hc0, hc1, hc2, hc3, hc4, hc5, hc6⟩ := q47.seven

              have own9' := hide (owns_set (owns_set (owns_set (unhide own9) ⟨w.heap.size + 1 + 1 + 1, 0, none⟩ (.string t.1) (by simp only; omega)) ⟨w.heap.size + 1 + 1 + 1, 1, none⟩ (.int .i64 tm) (by simp only; omega)) ⟨w.heap.size + 1 + 1 + 1, 2, none⟩ (.slice a3 N.length c3) (by simp only; omega))
              have bz := hide (((b8.setCell (p := ⟨w.heap.size + 1 + 1 + 1, 0, none⟩) (by simp only; omega) (.string t.1)).setCell (p := ⟨w.heap.size + 1 + 1 + 1, 1, none⟩) (by simp only; omega) (.int .i64 tm)).setCell (p := ⟨w.heap.size + 1 + 1 + 1, 2, none⟩) (by simp only; omega) (.slice a3 N.length c3))
              obtain ⟨ho0, ho1, ho2⟩ := o8.three
              obtain ⟨hr0, hr1, hr2⟩ := r8.three
              have hf0 := r8.frz 0
              have hf1 := r8.frz 1
              have hf2 := r8.frz 2
              obtain ⟨u0, u1, u2⟩ := three_set (v0 := .string t.1) (v1 := .int .i64 tm) (v2 := .slice a3 N.length c3) hr0 hr1 hr2
              go_wp2_with fail
              obtain ⟨_, _, e9, V9, -⟩ := vals_of_owns (unhide own9')
              cases e9
              have fE : ∃ a' c', Ending.returned (.agg #[.string t.1, .int .i64 tm, .slice a3 N.length c3]) = Ending.returned (.agg #[.string t.1, .int .i64 tm, .slice a' N.length c']) ∧ Vals (((W7.setCell ⟨w.heap.size + 1 + 1 + 1, 0, none⟩ (.string t.1)).setCell ⟨w.heap.size + 1 + 1 + 1, 1, none⟩ (.int .i64 tm)).setCell ⟨w.heap.size + 1 + 1 + 1, 2, none⟩ (.slice a3 N.length c3)).heap.size (((W7.setCell ⟨w.heap.size + 1 + 1 + 1, 0, none⟩ (.string t.1)).setCell ⟨w.heap.size + 1 + 1 + 1, 1, none⟩ (.int .i64 tm)).setCell ⟨w.heap.size + 1 + 1 + 1, 2, none⟩ (.slice a3 N.length c3)) a' N ∧ Below w.heap.size w (((W7.setCell ⟨w.heap.size + 1 + 1 + 1, 0, none⟩ (.string t.1)).setCell ⟨w.heap.size + 1 + 1 + 1, 1, none⟩ (.int .i64 tm)).setCell ⟨w.heap.size + 1 + 1 + 1, 2, none⟩ (.slice a3 N.length c3)) := ⟨_, _, rfl, V9, unhide bz⟩
              exact bodyPost_ret (v := .agg #[.string t.1, .int .i64 tm, .slice a3 N.length c3]) (by simp [results, Tryd.results15, go_sem, u0, u1, u2]) rfl (by obtain ⟨a', c', h1, h2, h3⟩ := fE; first | exact ⟨a', ⟨c', h1⟩, h2, h3⟩ | exact ⟨a', c', h1, h2, h3⟩)
            · obtain ⟨p, hFq, hfp, hp⟩ := unhide hpl (by decide)
              subst hFq
              have hNv : N = vs.set p (1, (vl vs p).2) := by rw [unhide eN, vNew_four (unhide hEv) (hS.2 i hi).2.2 (unhide hfp) (unhide hkN) rfl]
              have hNl : vs.length = N.length := by rw [hNv, List.length_set]
              replace hNl := hide hNl
              have hemp : (vl vs p).2.2.1 = ⟨#[]⟩ := by
                have h1 := (unhide hEv).val _ (show vl vs p ∈ vs by simp [vl, hp])
                have h2 := (unhide hEv).kind p (by rw [← (unhide hEv).len]; exact hp)
                have h3 : (fd (ty ts i).2 p).2 = 3 := by
                  have := unhide hRz
                  simp only [refE, unhide hpc] at this
                  split at this
                  · simp only [show ((4 : Int) = 5) = False by simp, show ((4 : Int) = 1) = False by simp, if_false, atE, unhide hfp, show ((4 : Int) = 3) = False by simp, if_true] at this
                    by_cases h : (fd (ty ts i).2 p).2 = 3
                    · exact h
                    · rw [if_neg h] at this; omega
                  · omega
                rw [h2, h3] at h1
                simp only [isB, show ((3 : Int) = 1) = False by simp, show ((3 : Int) = 2) = False by simp, if_false, if_true, Bool.and_eq_true] at h1
                have h4 := h1.2
                rw [ByteArray.toList_eq] at h4
                cases hb : (vl vs p).2.2.1 with
                | mk d =>
                  rw [hb] at h4
                  congr 1
                  exact Array.toList_eq_nil_iff.1 (List.isEmpty_iff.1 h4)
              have hNn : (((newsV vs).set (p * 3) (.int .i64 1)).set (p * 3 + 1) (.int .i64 (vl vs p).2.1)).set (p * 3 + 2) (.string ⟨#[]⟩) = newsV N := by rw [hNv, newsV_set vs p hp, hemp]
              replace hNn := hide hNn
              clear hNv hemp
              obtain ⟨hc0, hc1, hc2, hc3, hc4, hc5, hc6⟩ := q47.seven
              obtain ⟨g1, e1, hg1b, hg1l, hnc, ⟨cur1, hg1⟩, hcell, hfrz⟩ := owns_cells (unhide own7) (by omega)
              subst e1
              obtain ⟨bv, offv, eav, hlv, hcv'⟩ : ∃ b off, av = some ⟨b, off, none⟩ ∧ b < W0.heap.size ∧ W0.cell? ⟨b, off + p * 3 + 1, none⟩ = some (.int .i64 (vl vs p).2.1) := by
                rcases V0 with h | ⟨b, off, e, hb, hc⟩
                · rw [h] at hp; simp at hp
                · exact ⟨b, off, e, hb, (hc p hp).2.1⟩
              subst eav
              have neB := box_ne o7 hg1 (by decide)
              have lB := o7.lt
              have l6 := r7.lt
              have l5 := x5.lt
              have hcvV := (bV0.cell (p := ⟨bv, offv + p * 3 + 1, none⟩) hlv).trans hcv'
              have hcv7 := (bVW.cell (p := ⟨bv, offv + p * 3 + 1, none⟩) (Nat.lt_of_lt_of_le hlv bV0.size)).trans hcvV
              have cD7 : Box W7.drew Bo 31 #[.string t.1, .int .i64 tm, .slice (some ⟨g1, 0, none⟩) vs.length c3] ∧ Box W7.drew (w.heap.size + 1 + 1) 31 #[.string t.1, .int .i64 tm, .slice (some ⟨bv, offv, none⟩) vs.length cv] ∧ W7.drew.cell? ⟨bv, offv + p * 3 + 1, none⟩ = some (.int .i64 (vl vs p).2.1) := ⟨o7.drew, q57.drew, hcv7⟩
              go_upto_region 13 with fail
              clear hc0 hc1 hc2 hc3 hc4 hc5 hc6
              refine wp_region_any hmx (wpAny_of_Z (z := 11) (C := fun w' => Box w' Bo 31 #[.string t.1, .int .i64 tm, .slice (some ⟨g1, 0, none⟩) vs.length c3] ∧ Box w' (w.heap.size + 1 + 1) 31 #[.string t.1, .int .i64 tm, .slice (some ⟨bv, offv, none⟩) vs.length cv] ∧ w'.cell? ⟨bv, offv + p * 3 + 1, none⟩ = some (.int .i64 (vl vs p).2.1)) _ _ _ _ ?_)
              refine wpAnyZ_reads 0 cD7 (by kernel_rfl) (by kernel_rfl) (by kernel_rfl) (by kernel_rfl) (fun d _ _ _ _ h => by cases d <;> exact h) (fun oi ho K hK => ?_)
              simp only [List.getElem?_toArray, List.getElem?_cons_zero, Option.some.injEq] at ho
              subst ho
              rw [if_pos (by kernel_rfl)]
              refine ⟨.pointer (some ⟨Bo, 2, none⟩), fun w' hw' => ?_, hK _ ?_⟩
              · obtain ⟨hxo, hx5, hxc⟩ := hw'
                have hx12 := hxo.three.2.2
                have hx52 := hx5.three.2.2
                go_simp
              clear hK K
              refine wpAnyZ_reads 1 cD7 (by kernel_rfl) (by kernel_rfl) (by kernel_rfl) (by kernel_rfl) (fun d _ _ _ _ h => by cases d <;> exact h) (fun oi ho K hK => ?_)
              simp only [List.getElem?_toArray, List.getElem?_cons_succ, List.getElem?_cons_zero, Option.some.injEq] at ho
              subst ho
              rw [if_pos (by kernel_rfl)]
              refine ⟨.slice (some ⟨g1, 0, none⟩) vs.length c3, fun w' hw' => ?_, hK _ ?_⟩
              · obtain ⟨hxo, hx5, hxc⟩ := hw'
                have hx12 := hxo.three.2.2
                have hx52 := hx5.three.2.2
                go_simp
              clear hK K
              refine wpAnyZ_reads 2 cD7 (by kernel_rfl) (by kernel_rfl) (by kernel_rfl) (by kernel_rfl) (fun d _ _ _ _ h => by cases d <;> exact h) (fun oi ho K hK => ?_)
              simp only [List.getElem?_toArray, List.getElem?_cons_succ, List.getElem?_cons_zero, Option.some.injEq] at ho
              subst ho
              rw [if_pos (by kernel_rfl)]
              refine ⟨.int .i64 p, fun w' hw' => ?_, hK _ ?_⟩
              · obtain ⟨hxo, hx5, hxc⟩ := hw'
                have hx12 := hxo.three.2.2
                have hx52 := hx5.three.2.2
                go_simp
              clear hK K
              refine wpAnyZ_reads 3 cD7 (by kernel_rfl) (by kernel_rfl) (by kernel_rfl) (by kernel_rfl) (fun d _ _ _ _ h => by cases d <;> exact h) (fun oi ho K hK => ?_)
              simp only [List.getElem?_toArray, List.getElem?_cons_succ, List.getElem?_cons_zero, Option.some.injEq] at ho
              subst ho
              rw [if_pos (by kernel_rfl)]
              refine ⟨.pointer (some ⟨w.heap.size + 1 + 1, 2, none⟩), fun w' hw' => ?_, hK _ ?_⟩
              · obtain ⟨hxo, hx5, hxc⟩ := hw'
                have hx12 := hxo.three.2.2
                have hx52 := hx5.three.2.2
                go_simp
              clear hK K
              refine wpAnyZ_reads 4 cD7 (by kernel_rfl) (by kernel_rfl) (by kernel_rfl) (by kernel_rfl) (fun d _ _ _ _ h => by cases d <;> exact h) (fun oi ho K hK => ?_)
              simp only [List.getElem?_toArray, List.getElem?_cons_succ, List.getElem?_cons_zero, Option.some.injEq] at ho
              subst ho
              rw [if_pos (by kernel_rfl)]
              refine ⟨.slice (some ⟨bv, offv, none⟩) vs.length cv, fun w' hw' => ?_, hK _ ?_⟩
              · obtain ⟨hxo, hx5, hxc⟩ := hw'
                have hx12 := hxo.three.2.2
                have hx52 := hx5.three.2.2
                go_simp
              clear hK K
              refine wpAnyZ_reads 5 cD7 (by kernel_rfl) (by kernel_rfl) (by kernel_rfl) (by kernel_rfl) (fun d _ _ _ _ h => by cases d <;> exact h) (fun oi ho K hK => ?_)
              simp only [List.getElem?_toArray, List.getElem?_cons_succ, List.getElem?_cons_zero, Option.some.injEq] at ho
              subst ho
              rw [if_pos (by kernel_rfl)]
              refine ⟨.int .i64 p, fun w' hw' => ?_, hK _ ?_⟩
              · obtain ⟨hxo, hx5, hxc⟩ := hw'
                have hx12 := hxo.three.2.2
                have hx52 := hx5.three.2.2
                go_simp
              clear hK K
              refine wpAnyZ_reads 6 cD7 (by kernel_rfl) (by kernel_rfl) (by kernel_rfl) (by kernel_rfl) (fun d _ _ _ _ h => by cases d <;> exact h) (fun oi ho K hK => ?_)
              simp only [List.getElem?_toArray, List.getElem?_cons_succ, List.getElem?_cons_zero, Option.some.injEq] at ho
              subst ho
              rw [if_pos (by kernel_rfl)]
              refine ⟨.pointer (some ⟨bv, offv + p * 3, none⟩), fun w' hw' => ?_, hK _ ?_⟩
              · obtain ⟨hxo, hx5, hxc⟩ := hw'
                have hx12 := hxo.three.2.2
                have hx52 := hx5.three.2.2
                go_simp
              clear hK K
              refine wpAnyZ_reads 7 cD7 (by kernel_rfl) (by kernel_rfl) (by kernel_rfl) (by kernel_rfl) (fun d _ _ _ _ h => by cases d <;> exact h) (fun oi ho K hK => ?_)
              simp only [List.getElem?_toArray, List.getElem?_cons_succ, List.getElem?_cons_zero, Option.some.injEq] at ho
              subst ho
              rw [if_pos (by kernel_rfl)]
              refine ⟨.pointer (some ⟨bv, offv + p * 3 + 1, none⟩), fun w' hw' => ?_, hK _ ?_⟩
              · obtain ⟨hxo, hx5, hxc⟩ := hw'
                have hx12 := hxo.three.2.2
                have hx52 := hx5.three.2.2
                go_simp
              clear hK K
              refine wpAnyZ_reads 8 cD7 (by kernel_rfl) (by kernel_rfl) (by kernel_rfl) (by kernel_rfl) (fun d _ _ _ _ h => by cases d <;> exact h) (fun oi ho K hK => ?_)
              simp only [List.getElem?_toArray, List.getElem?_cons_succ, List.getElem?_cons_zero, Option.some.injEq] at ho
              subst ho
              rw [if_pos (by kernel_rfl)]
              refine ⟨.int .i64 (vl vs p).2.1, fun w' hw' => ?_, hK _ ?_⟩
              · obtain ⟨hxo, hx5, hxc⟩ := hw'
                have hx12 := hxo.three.2.2
                have hx52 := hx5.three.2.2
                go_simp
              clear hK K
              refine wpAnyZ_reads 9 cD7 (by kernel_rfl) (by kernel_rfl) (by kernel_rfl) (by kernel_rfl) (fun d _ _ _ _ h => by cases d <;> exact h) (fun oi ho K hK => ?_)
              simp only [List.getElem?_toArray, List.getElem?_cons_succ, List.getElem?_cons_zero, Option.some.injEq] at ho
              subst ho
              rw [if_pos (by kernel_rfl)]
              refine ⟨.agg #[.int .i64 1, .int .i64 (vl vs p).2.1, .string ⟨#[]⟩], fun w' hw' => ?_, hK _ ?_⟩
              · obtain ⟨hxo, hx5, hxc⟩ := hw'
                have hx12 := hxo.three.2.2
                have hx52 := hx5.three.2.2
                go_simp
              clear hK K
              refine wpAnyZ_reads 10 cD7 (by kernel_rfl) (by kernel_rfl) (by kernel_rfl) (by kernel_rfl) (fun d _ _ _ _ h => by cases d <;> exact h) (fun oi ho K hK => ?_)
              simp only [List.getElem?_toArray, List.getElem?_cons_succ, List.getElem?_cons_zero, Option.some.injEq] at ho
              subst ho
              rw [if_pos (by kernel_rfl)]
              refine ⟨.pointer (some ⟨g1, p * 3, none⟩), fun w' hw' => ?_, hK _ ?_⟩
              · obtain ⟨hxo, hx5, hxc⟩ := hw'
                have hx12 := hxo.three.2.2
                have hx52 := hx5.three.2.2
                go_simp
              clear hK K

              have ef0 : W7.drew.cell? ⟨g1, p * 3, none⟩ = some (.int .i64 (vl vs p).1) := (hcell (p * 3) (by omega)).trans (newsV_at vs p hp).1
              have ef1 : W7.drew.cell? ⟨g1, p * 3 + 1, none⟩ = some (.int .i64 (vl vs p).2.1) := (hcell (p * 3 + 1) (by omega)).trans (newsV_at vs p hp).2.1
              have ef2 : W7.drew.cell? ⟨g1, p * 3 + 2, none⟩ = some (.string (vl vs p).2.2.1) := (hcell (p * 3 + 2) (by omega)).trans (newsV_at vs p hp).2.2
              have ff0 : W7.drew.frozen? ⟨g1, p * 3, none⟩ = false := hfrz _
              have fg0 : W7.frozen? ⟨g1, p * 3, none⟩ = false := hfrz _
              have ff1 : W7.drew.frozen? ⟨g1, p * 3 + 1, none⟩ = false := hfrz _
              have fg1 : W7.frozen? ⟨g1, p * 3 + 1, none⟩ = false := hfrz _
              have ff2 : W7.drew.frozen? ⟨g1, p * 3 + 2, none⟩ = false := hfrz _
              have fg2 : W7.frozen? ⟨g1, p * 3 + 2, none⟩ = false := hfrz _
              have eg0 : W7.cell? ⟨g1, p * 3, none⟩ = _ := ef0
              have eg1 : W7.cell? ⟨g1, p * 3 + 1, none⟩ = _ := ef1
              have eg2 : W7.cell? ⟨g1, p * 3 + 2, none⟩ = _ := ef2
              replace hcell := hide hcell
              replace hfrz := hide hfrz
              refine wpAnyZ_calls 11 (by kernel_rfl) (fun oi ho K hK => ?_)
              simp only [List.getElem?_toArray, List.getElem?_cons_succ, List.getElem?_cons_zero, Option.some.injEq] at ho
              subst ho

              go_simp
              refine hK _ _ (.inl rfl) ?_
              clear hK K
              refine wpAnyZ_done (by kernel_rfl) ?_ _
              go_upto_region 14 with fail
              have r8 := (((r7.other ⟨g1, p * 3, none⟩ (.int .i64 1) (by simp only; omega)).other ⟨g1, p * 3 + 1, none⟩ (.int .i64 (vl vs p).2.1) (by simp only; omega)).other ⟨g1, p * 3 + 2, none⟩ (.string ⟨#[]⟩) (by simp only; omega)).drew
              have o8 := (((o7.other ⟨g1, p * 3, none⟩ (.int .i64 1) neB).other ⟨g1, p * 3 + 1, none⟩ (.int .i64 (vl vs p).2.1) neB).other ⟨g1, p * 3 + 2, none⟩ (.string ⟨#[]⟩) neB).drew
              have b8 := (((b7.setCell (p := ⟨g1, p * 3, none⟩) (by simp only; omega) (.int .i64 1)).setCell (p := ⟨g1, p * 3 + 1, none⟩) (by simp only; omega) (.int .i64 (vl vs p).2.1)).setCell (p := ⟨g1, p * 3 + 2, none⟩) (by simp only; omega) (.string ⟨#[]⟩)).drew
              have own9 := owns_below (owns_put (owns_put (owns_put (unhide own7) (p * 3) (by omega) (.int .i64 1)) (p * 3 + 1) (by omega) (.int .i64 (vl vs p).2.1)) (p * 3 + 2) (by omega) (.string ⟨#[]⟩)) (Below.refl _ _).drew
              rw [unhide hNn] at own9
              obtain ⟨W8, hW8⟩ : ∃ W8, W8 = (((W7.setCell ⟨g1, p * 3, none⟩ (.int .i64 1)).setCell ⟨g1, p * 3 + 1, none⟩ (.int .i64 (vl vs p).2.1)).setCell ⟨g1, p * 3 + 2, none⟩ (.string ⟨#[]⟩)).drew := ⟨_, rfl⟩
              rw [← hW8] at r8 o8 b8 own9 ⊢
              rw [unhide hNl] at own9 o8
              replace own9 := hide own9
              clear hW8 ef0 ef1 ef2 ff0 ff1 ff2 eg0 eg1 eg2 fg0 fg1 fg2 cD7 hNl

              have own9' := hide (owns_set (owns_set (owns_set (unhide own9) ⟨w.heap.size + 1 + 1 + 1, 0, none⟩ (.string t.1) (by simp only; omega)) ⟨w.heap.size + 1 + 1 + 1, 1, none⟩ (.int .i64 tm) (by simp only; omega)) ⟨w.heap.size + 1 + 1 + 1, 2, none⟩ (.slice (some ⟨g1, 0, none⟩) N.length c3) (by simp only; omega))
              have bz := hide (((b8.setCell (p := ⟨w.heap.size + 1 + 1 + 1, 0, none⟩) (by simp only; omega) (.string t.1)).setCell (p := ⟨w.heap.size + 1 + 1 + 1, 1, none⟩) (by simp only; omega) (.int .i64 tm)).setCell (p := ⟨w.heap.size + 1 + 1 + 1, 2, none⟩) (by simp only; omega) (.slice (some ⟨g1, 0, none⟩) N.length c3))
              obtain ⟨ho0, ho1, ho2⟩ := o8.three
              obtain ⟨hr0, hr1, hr2⟩ := r8.three
              have hf0 := r8.frz 0
              have hf1 := r8.frz 1
              have hf2 := r8.frz 2
              obtain ⟨u0, u1, u2⟩ := three_set (v0 := .string t.1) (v1 := .int .i64 tm) (v2 := .slice (some ⟨g1, 0, none⟩) N.length c3) hr0 hr1 hr2
              go_wp2_with fail
              obtain ⟨_, _, e9, V9, -⟩ := vals_of_owns (unhide own9')
              cases e9
              have fE : ∃ a' c', Ending.returned (.agg #[.string t.1, .int .i64 tm, .slice (some ⟨g1, 0, none⟩) N.length c3]) = Ending.returned (.agg #[.string t.1, .int .i64 tm, .slice a' N.length c']) ∧ Vals (((W8.setCell ⟨w.heap.size + 1 + 1 + 1, 0, none⟩ (.string t.1)).setCell ⟨w.heap.size + 1 + 1 + 1, 1, none⟩ (.int .i64 tm)).setCell ⟨w.heap.size + 1 + 1 + 1, 2, none⟩ (.slice (some ⟨g1, 0, none⟩) N.length c3)).heap.size (((W8.setCell ⟨w.heap.size + 1 + 1 + 1, 0, none⟩ (.string t.1)).setCell ⟨w.heap.size + 1 + 1 + 1, 1, none⟩ (.int .i64 tm)).setCell ⟨w.heap.size + 1 + 1 + 1, 2, none⟩ (.slice (some ⟨g1, 0, none⟩) N.length c3)) a' N ∧ Below w.heap.size w (((W8.setCell ⟨w.heap.size + 1 + 1 + 1, 0, none⟩ (.string t.1)).setCell ⟨w.heap.size + 1 + 1 + 1, 1, none⟩ (.int .i64 tm)).setCell ⟨w.heap.size + 1 + 1 + 1, 2, none⟩ (.slice (some ⟨g1, 0, none⟩) N.length c3)) := ⟨_, _, rfl, V9, unhide bz⟩
              exact bodyPost_ret (v := .agg #[.string t.1, .int .i64 tm, .slice (some ⟨g1, 0, none⟩) N.length c3]) (by simp [results, Tryd.results15, go_sem, u0, u1, u2]) rfl (by obtain ⟨a', c', h1, h2, h3⟩ := fE; first | exact ⟨a', ⟨c', h1⟩, h2, h3⟩ | exact ⟨a', c', h1, h2, h3⟩)
        · have hv : N = vs := by rw [unhide hN]; simp [movE, unhide hpn', ← hE, hE0]
          replace hv := hide hv
          have hE0' : (E != 0) = true := by simp [hE0]
          replace hE := hide hE
          have p5 := q5.on hb5 q5.lt
          have p6 := q6.on hb5 q6.lt
          obtain ⟨he0, he1, he2⟩ := p5.three
          obtain ⟨hr0, hr1, hr2⟩ := p6.three
          have hf0 := p6.frz 0
          have hf1 := p6.frz 1
          have hf2 := p6.frz 2
          obtain ⟨u0, u1, u2⟩ := three_set (v0 := .string t.1) (v1 := .int .i64 tm) (v2 := .slice av vs.length cv) hr0 hr1 hr2
          have fin' := hide (unhide fin W5 hb05 (unhide hv))
          clear fin hE0
          go_wp2_with fail
          exact bodyPost_ret (v := .agg #[.string t.1, .int .i64 tm, .slice av vs.length cv]) (by simp [results, Tryd.results15, go_sem, u0, u1, u2]) rfl (by obtain ⟨a', c', h1, h2, h3⟩ := unhide fin'; first | exact ⟨a', ⟨c', h1⟩, h2, h3⟩ | exact ⟨a', c', h1, h2, h3⟩)
      · have hv : N = vs := by
          rw [unhide hN]
          simp only [movE, unhide hpn']
          split
          · next h =>
            obtain ⟨t', hf', hE'⟩ := isE_found h.2
            rw [findT_place, unhide hpn'] at hf'
            simp only [Option.map_some, Option.some.injEq] at hf'
            subst hf'
            refine vNew_other hE' fun e => hty ?_
            rw [← (place_key (unhide hpn')).2]; exact e
          · rfl
        replace hv := hide hv
        have hty' : (t.1.toList == ct.1.toList) = false := by simp [hty]
        obtain ⟨u0, u1, u2⟩ := three_set (v0 := .string t.1) (v1 := .int .i64 tm) (v2 := .slice av vs.length cv) hr0 hr1 hr2
        have fin' := hide (unhide fin W4 hb4 (unhide hv))
        clear fin hty
        go_wp2_with fail
        exact bodyPost_ret (v := .agg #[.string t.1, .int .i64 tm, .slice av vs.length cv]) (by simp [results, Tryd.results15, go_sem, u0, u1, u2]) rfl (by obtain ⟨a', c', h1, h2, h3⟩ := unhide fin'; first | exact ⟨a', ⟨c', h1⟩, h2, h3⟩ | exact ⟨a', c', h1, h2, h3⟩)
    · have hv : N = vs := by rw [unhide hN]; simp [movE, unhide hpn', ← unhide hR, hR0]
      replace hv := hide hv
      have hR0' : (R != 0) = true := by simp [hR0]
      obtain ⟨u0, u1, u2⟩ := three_set (v0 := .string t.1) (v1 := .int .i64 tm) (v2 := .slice av vs.length cv) hr0 hr1 hr2
      have fin' := hide (unhide fin W4 hb4 (unhide hv))
      clear fin hR0
      go_wp2_with fail
      exact bodyPost_ret (v := .agg #[.string t.1, .int .i64 tm, .slice av vs.length cv]) (by simp [results, Tryd.results15, go_sem, u0, u1, u2]) rfl (by obtain ⟨a', c', h1, h2, h3⟩ := unhide fin'; first | exact ⟨a', ⟨c', h1⟩, h2, h3⟩ | exact ⟨a', c', h1, h2, h3⟩)

end Go.Proofs.YtnfmhcddfjgcmaaDoor
