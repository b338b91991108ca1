/-
  What the document's Move makes of an event (package pasternref1, layer 4): the same as the program's; for every schema that may be, every change, every event of at most 20 values, in whatever world; nothing that lay is turned.
  What the document's chain makes of an event by Move; in whatever world; nothing that lay is turned.
  What the document's chain tells by Back; in whatever world; nothing that lay is turned.
  Names that go back along changes that were taken: a field of a version was a field of the one ahead, under the name that Back tells, or was not there; a field of a type is none of the type as it was made: the document's Back and the program's answer the same.
-/
import Derived.Test.YtcjpaldijngnpaaGreatDoorCp
import Derived.Test.YtcjpaldijngnpaaGreatDoorRefApply
import Derived.Test.YtcjpaldijngnpaaGreatDoorRefIs
import Derived.Test.YtcjpaldijngnpaaGreatDoorRefNew
import Derived.Test.YtcjpaldijngnpaaGreatDoorLawParts
import Derived.Test.YtcjpaldijngnpaaGreatDoorChBack
namespace Go.Proofs.YtcjpaldijngnpaaGreatDoor
open Go.RowKit Go.Shelf

set_option maxRecDepth 100000 in
set_option maxHeartbeats 8000000 in
theorem refMove_c (a av : Option Addr) (cap cv : Nat) (ts : List Ty) (c : Ch) (x : Ev) (hS : Sch ts) (h20 : x.vs.length ≤ 20) (w : World) (hT : Typs w.heap.size w a ts) (hV : Vals w.heap.size w av x.vs) :
    Calls Tryz.prog 40 #[.agg #[.slice a ts.length cap], c.v, .agg #[.string x.ty.1, .int .i64 x.ts, .slice av x.vs.length cv]] w fun e w' => ∃ a' c', e = .returned (.agg #[.string x.ty.1, .int .i64 x.ts, .slice a' (movE ts c x).vs.length c']) ∧ Vals w'.heap.size w' a' (movE ts c x).vs ∧ Below w.heap.size w w' := by
  obtain ⟨t, tm, vs⟩ := x
  obtain ⟨k, ct, f, o, dk, dn, ds⟩ := c
  simp only at h20 hV ⊢
  have h5 := hS.1
  have hk5 : ∀ k, (ty ts k).2.length ≤ 5 := fun k => by
    by_cases hk : k < ts.length
    · exact (hS.2 k hk).2.2.1
    · simp only [ty, List.getElem?_eq_none (Nat.le_of_not_lt hk), Option.getD_none]
      exact Nat.zero_le _
  obtain ⟨W0, hW0⟩ : ∃ W0, W0 = ((((w.alloc (.cells #[.slice a ts.length cap] 24)).alloc (.cells #[.int .i64 k, .string ct.1, .string f.1, .string o.1, .int .i64 dk, .int .i64 dn, .string ds.1] 42)).alloc (.cells #[.string t.1, .int .i64 tm, .slice av vs.length cv] 28)).alloc (.cells #[.string ⟨#[]⟩, .int .i64 0, .slice none 0 0] 28)) := ⟨_, rfl⟩
  have e0 : W0.heap.size = w.heap.size + 4 := by rw [hW0]; simp
  have b0 : Below w.heap.size w W0 := by rw [hW0]; exact ((((Below.refl _ _).alloc (Nat.le_refl _) _).alloc (by simp) _).alloc (by simp; omega) _).alloc (by simp; omega) _
  have x3 : Box W0 w.heap.size 24 #[.slice a ts.length cap] := by
    rw [hW0]; exact (((Box.new w 24 #[.slice a ts.length cap]).alloc _).alloc _).alloc _
  have x4 : Box W0 (w.heap.size + 1) 42 #[.int .i64 k, .string ct.1, .string f.1, .string o.1, .int .i64 dk, .int .i64 dn, .string ds.1] := by
    have := Box.new (w.alloc (.cells #[.slice a ts.length cap] 24)) 42 #[.int .i64 k, .string ct.1, .string f.1, .string o.1, .int .i64 dk, .int .i64 dn, .string ds.1]
    simp only [World.size_alloc] at this
    rw [hW0]; exact (this.alloc _).alloc _
  have x5 : Box W0 (w.heap.size + 1 + 1) 28 #[.string t.1, .int .i64 tm, .slice av vs.length cv] := by
    have := Box.new ((w.alloc (.cells #[.slice a ts.length cap] 24)).alloc (.cells #[.int .i64 k, .string ct.1, .string f.1, .string o.1, .int .i64 dk, .int .i64 dn, .string ds.1] 42)) 28 #[.string t.1, .int .i64 tm, .slice av vs.length cv]
    simp only [World.size_alloc] at this
    rw [hW0]; exact this.alloc _
  have x6 : Box W0 (w.heap.size + 1 + 1 + 1) 28 #[.string ⟨#[]⟩, .int .i64 0, .slice none 0 0] := by
    have := Box.new (((w.alloc (.cells #[.slice a ts.length cap] 24)).alloc (.cells #[.int .i64 k, .string ct.1, .string f.1, .string o.1, .int .i64 dk, .int .i64 dn, .string ds.1] 42)).alloc (.cells #[.string t.1, .int .i64 tm, .slice av vs.length cv] 28)) 28 #[.string ⟨#[]⟩, .int .i64 0, .slice none 0 0]
    simp only [World.size_alloc] at this
    rw [hW0]; exact this
  have T0 := hT.on b0
  have V0 := hV.on b0
  have hW0' := hide hW0
  clear hW0
  obtain ⟨N, hN⟩ : ∃ N, N = (movE ts ⟨k, ct, f, o, dk, dn, ds⟩ ⟨t, tm, vs⟩).vs := ⟨_, rfl⟩
  rw [← hN]
  replace hN := hide hN
  obtain ⟨R, hR⟩ : ∃ R, R = refE ts ⟨k, ct, f, o, dk, dn, ds⟩ := ⟨_, rfl⟩
  have cA := hide (refApply_c a cap ts ⟨k, ct, f, o, dk, dn, ds⟩ hS)
  rw [← hR] at cA
  replace hR := hide hR
  go_enter Tryz.func40, Tryz.ntmps40
  go_upto_region 1 with fail
  rw [← unhide hW0']
  have hs := x3.one.1
  obtain ⟨he0, he1, he2⟩ := x5.three
  go_wp2_with fail
  refine (refFind_c a cap ts t.1 h5 _ T0).mono ?_
  rintro e W1 ⟨hb1, hF⟩
  clear hs he0 he1 he2
  -- the event as it came
  have fin := hide (show ∀ W, Below W0.heap.size W0 W → N = vs → ∃ a' c', Ending.returned (.agg #[.string t.1, .int .i64 tm, .slice av vs.length cv]) = Ending.returned (.agg #[.string t.1, .int .i64 tm, .slice a' N.length c']) ∧ Vals (((W.setCell ⟨w.heap.size + 1 + 1 + 1, 0, none⟩ (.string t.1)).setCell ⟨w.heap.size + 1 + 1 + 1, 1, none⟩ (.int .i64 tm)).setCell ⟨w.heap.size + 1 + 1 + 1, 2, none⟩ (.slice av vs.length cv)).heap.size (((W.setCell ⟨w.heap.size + 1 + 1 + 1, 0, none⟩ (.string t.1)).setCell ⟨w.heap.size + 1 + 1 + 1, 1, none⟩ (.int .i64 tm)).setCell ⟨w.heap.size + 1 + 1 + 1, 2, none⟩ (.slice av vs.length cv)) a' N ∧ Below w.heap.size w (((W.setCell ⟨w.heap.size + 1 + 1 + 1, 0, none⟩ (.string t.1)).setCell ⟨w.heap.size + 1 + 1 + 1, 1, none⟩ (.int .i64 tm)).setCell ⟨w.heap.size + 1 + 1 + 1, 2, none⟩ (.slice av vs.length cv)) from by
    rintro W hb rfl
    have bw := (((b0.trans (hb.mono b0.size)).setCell (p := ⟨w.heap.size + 1 + 1 + 1, 0, none⟩) (by simp only; omega) (.string t.1)).setCell (p := ⟨w.heap.size + 1 + 1 + 1, 1, none⟩) (by simp only; omega) (.int .i64 tm)).setCell (p := ⟨w.heap.size + 1 + 1 + 1, 2, none⟩) (by simp only; omega) (.slice av N.length cv)
    exact ⟨av, cv, rfl, (hV.below bw).mono bw.size, bw⟩)
  have cE := hide (fun (W : World) (hb : Below W0.heap.size W0 W) => refIsE_c a av cap cv ts ⟨t, tm, vs⟩ h5 hk5 h20 W (T0.on hb) (V0.on hb))
  rcases unhide hF with ⟨hpn, rfl⟩ | ⟨i, a1, c1, hpn, hi, rfl, hF1⟩
  · have hv : N = vs := by rw [unhide hN]; simp [movE, hpn]
    replace hv := hide hv
    clear hpn hF
    have y3 := x3.on hb1 x3.lt
    have y4 := x4.on hb1 x4.lt
    obtain ⟨W2, hW2⟩ : ∃ W2, W2 = W1.alloc (.cells #[.string ⟨#[]⟩, .slice none 0 0] 69) := ⟨_, rfl⟩
    have b2 : Below W1.heap.size W1 W2 := by rw [hW2]; exact (Below.refl _ _).alloc (Nat.le_refl _) _
    go_upto_region 2 with fail
    rw [← hW2]
    clear hW2
    have hb2 := hb1.trans (b2.mono hb1.size)
    have hs := (x3.on hb2 x3.lt).one.1
    obtain ⟨hc0, hc1, hc2, hc3, hc4, hc5, hc6⟩ := (x4.on hb2 x4.lt).seven
    go_wp2_with fail
    refine (unhide cA W2 (T0.on hb2)).mono ?_
    rintro e W3 ⟨a2, c2, rfl, -, hb3⟩
    obtain ⟨n2, hn2⟩ : ∃ n2, n2 = (appT ts ⟨k, ct, f, o, dk, dn, ds⟩).length := ⟨_, rfl⟩
    rw [← hn2]
    clear hn2 hs hc0 hc1 hc2 hc3 hc4 hc5 hc6
    obtain ⟨W4, hW4⟩ : ∃ W4, W4 = W3.alloc (.cells #[.slice a2 n2 c2] 24) := ⟨_, rfl⟩
    have b4 : Below W3.heap.size W3 W4 := by rw [hW4]; exact (Below.refl _ _).alloc (Nat.le_refl _) _
    have hb4 := (hb2.trans (hb3.mono hb2.size)).trans (b4.mono (hb2.trans (hb3.mono hb2.size)).size)
    go_upto_region 3 with fail
    rw [← hW4]
    clear hW4
    have q5 := x5.on hb4 x5.lt
    have q6 := x6.on hb4 x6.lt
    obtain ⟨he0, he1, he2⟩ := q5.three
    obtain ⟨hr0, hr1, hr2⟩ := q6.three
    have hf0 := q6.frz 0
    have hf1 := q6.frz 1
    have hf2 := q6.frz 2
    obtain ⟨u0, u1, u2⟩ := three_set (v0 := .string t.1) (v1 := .int .i64 tm) (v2 := .slice av vs.length cv) hr0 hr1 hr2
    have fin' := hide (unhide fin W4 hb4 (unhide hv))
    clear fin
    go_wp2_with fail
    exact bodyPost_ret (v := .agg #[.string t.1, .int .i64 tm, .slice av vs.length cv]) (by simp [results, Tryz.results40, go_sem, u0, u1, u2]) rfl (by obtain ⟨a', c', h1, h2, h3⟩ := unhide fin'; first | exact ⟨a', ⟨c', h1⟩, h2, h3⟩ | exact ⟨a', c', h1, h2, h3⟩)
  · clear hF
    have hpn' := hide hpn
    clear hpn
    obtain ⟨W2, hW2⟩ : ∃ W2, W2 = W1.alloc (.cells #[.string (ty ts i).1.1, .slice a1 (ty ts i).2.length c1] 69) := ⟨_, rfl⟩
    have b2 : Below W1.heap.size W1 W2 := by rw [hW2]; exact (Below.refl _ _).alloc (Nat.le_refl _) _
    have v7 : Box W2 W1.heap.size 69 #[.string (ty ts i).1.1, .slice a1 (ty ts i).2.length c1] := by rw [hW2]; exact Box.new _ _ _
    go_upto_region 2 with fail
    rw [← hW2]
    clear hW2
    have hb2 := hb1.trans (b2.mono hb1.size)
    have F2 := hF1.on b2
    have hs := (x3.on hb2 x3.lt).one.1
    obtain ⟨hc0, hc1, hc2, hc3, hc4, hc5, hc6⟩ := (x4.on hb2 x4.lt).seven
    go_wp2_with fail
    refine (unhide cA W2 (T0.on hb2)).mono ?_
    rintro e W3 ⟨a2, c2, rfl, -, hb3⟩
    obtain ⟨n2, hn2⟩ : ∃ n2, n2 = (appT ts ⟨k, ct, f, o, dk, dn, ds⟩).length := ⟨_, rfl⟩
    rw [← hn2]
    clear hn2 hs hc0 hc1 hc2 hc3 hc4 hc5 hc6
    obtain ⟨W4, hW4⟩ : ∃ W4, W4 = W3.alloc (.cells #[.slice a2 n2 c2] 24) := ⟨_, rfl⟩
    have b4 : Below W3.heap.size W3 W4 := by rw [hW4]; exact (Below.refl _ _).alloc (Nat.le_refl _) _
    have b24 := hb3.trans (b4.mono hb3.size)
    have hb4 := hb2.trans (b24.mono hb2.size)
    go_upto_region 3 with fail
    rw [← hW4]
    clear hW4
    have F4 := F2.on b24
    have q7 := v7.on b24 v7.lt
    have q3 := x3.on hb4 x3.lt
    have q4 := x4.on hb4 x4.lt
    have q5 := x5.on hb4 x5.lt
    have q6 := x6.on hb4 x6.lt
    have hs := q3.one.1
    obtain ⟨he0, he1, he2⟩ := q5.three
    obtain ⟨hr0, hr1, hr2⟩ := q6.three
    have hf0 := q6.frz 0
    have hf1 := q6.frz 1
    have hf2 := q6.frz 2
    obtain ⟨hc0, hc1, hc2, hc3, hc4, hc5, hc6⟩ := q4.seven
    by_cases hR0 : R = 0
    · subst hR0
      have hR' : refE ts ⟨k, ct, f, o, dk, dn, ds⟩ = 0 := (unhide hR).symm
      by_cases hty : t.1.toList = ct.1.toList
      · have hty' : (t.1.toList == ct.1.toList) = true := by simp [hty]
        obtain ⟨E, hE⟩ : ∃ E, E = isE ts ⟨t, tm, vs⟩ := ⟨_, rfl⟩
        have cE4 := unhide cE W4 hb4
        rw [← hE] at cE4
        replace cE4 := hide cE4
        replace hty := hide hty
        go_wp2_with fail
        refine (unhide cE4).mono ?_
        rintro e W5 ⟨rfl, hb5⟩
        clear cE4 cE
        clear hs he0 he1 he2 hr0 hr1 hr2 hf0 hf1 hf2 hc0 hc1 hc2 hc3 hc4 hc5 hc6
        have hb05 := hb4.trans (hb5.mono hb4.size)
        by_cases hE0 : E = 0
        · subst hE0
          obtain ⟨j0, hj0, hy0, hy1, hy2⟩ := info_parts infoVl
          have hmx : Tryz.prog.follows .mixedOrders = true := by kernel_rfl
          obtain ⟨t', hf', hEv⟩ := isE_found hE.symm
          have hft := hf'
          rw [findT_place, unhide hpn'] at hft
          simp only [Option.map_some, Option.some.injEq] at hft
          subst hft
          have eN := hide (show N = vNew (ty ts i).1 ⟨k, ct, f, o, dk, dn, ds⟩ (ty ts i).2 vs by rw [unhide hN, movE_find ts _ _ _ hf' hR' hE.symm])
          have hkN := hide (show key (ty ts i).1 = key ct from (place_key (unhide hpn')).2.trans (unhide hty))
          have hpc := hide (show placeN (tnames ts) ct.1 = some i by
            have h := unhide hpn'
            unfold placeN eqT at h ⊢
            rw [← unhide hty]; exact h)
          have hk4 := hide (show k = 1 ∨ k = 2 ∨ k = 3 ∨ k = 4 by
            have h := hR'
            simp only [refE, unhide hpc] at h
            split at h
            · next hfb =>
              by_cases k5 : k = 5
              · rw [if_pos k5] at h; omega
              by_cases k1 : k = 1
              · exact .inl k1
              by_cases k2 : k = 2
              · exact .inr (.inl k2)
              by_cases k3 : k = 3
              · exact .inr (.inr (.inl k3))
              by_cases k4 : k = 4
              · exact .inr (.inr (.inr k4))
              simp [formedB, bareB, k1, k2, k3, k4, k5] at hfb
            · omega)
          obtain ⟨Fp, hFp⟩ : ∃ Fp, Fp = placeI (fnames (ty ts i).2) f.1 := ⟨_, rfl⟩
          have hpl := hide (show k ≠ 1 → ∃ p : Nat, Fp = p ∧ Hid (placeN (fnames (ty ts i).2) f.1 = some p) ∧ p < vs.length from fun h1 => by
            have h := hR'
            simp only [refE, unhide hpc] at h
            split at h
            · by_cases k5 : k = 5
              · simp [k5] at h
              · simp only [k5, if_false] at h
                unfold atE at h
                simp only at h
                cases hpf : placeN (fnames (ty ts i).2) f.1 with
                | none => rw [hpf] at h; simp at h
                | some p =>
                  obtain ⟨hl, -⟩ := place_lt hpf
                  exact ⟨p, by rw [hFp]; simp [placeI, hpf], hide rfl, by rw [hEv.len]; exact hl⟩
            · omega)
          have hRz := hide hR'
          replace hEv := hide hEv
          have hc5f := hk5 i
          have F5 := F4.on hb5
          have p7 := q7.on hb5 q7.lt
          have p4 := q4.on hb5 q4.lt
          obtain ⟨ht0, ht1⟩ := p7.two
          obtain ⟨hc0, hc1, hc2, hc3, hc4, hc5, hc6⟩ := p4.seven
          have cF := refField_c (ty ts i).1.1 f.1 a1 c1 (ty ts i).2 hc5f W5 F5
          rw [← hFp] at cF
          replace cF := hide cF
          replace hE := hide hE
          replace hFp := hide hFp
          clear hR' hf' fin
          go_wp2_with fail
          refine (unhide cF).mono ?_
          rintro e W6 ⟨rfl, hb6⟩
          clear cF ht0 ht1 hc0 hc1 hc2 hc3 hc4 hc5 hc6
          have hb06 := hb05.trans (hb6.mono hb05.size)
          go_upto_region 6 with fail
          obtain ⟨V, hV⟩ : ∃ V, V = ({ heap := W6.heap, tape := W6.tape, drawn := W6.drawn + 1, os := W6.os, output := W6.output } : World) := ⟨_, rfl⟩
          have bV0 : Below W0.heap.size W0 V := by rw [hV]; exact hb06.drew
          have bwV := b0.trans (bV0.mono b0.size)
          have VV := V0.on bV0
          have sV0 := bV0.size
          have lV := hide (show Lies V av vs.length cv 3 (newsV vs) by
            refine ⟨newsV_len vs, ?_⟩
            rcases VV with h | ⟨b, off, e, hb, hc⟩
            · subst h
              cases av with
              | none => exact .inr ⟨rfl, rfl⟩
              | some ad => exact .inl ⟨ad, rfl, fun j u hu => by simp [newsV] at hu⟩
            · exact .inl ⟨_, e, newsV_cells hc⟩)
          have cD : Box V (w.heap.size + 1 + 1) 28 #[.string t.1, .int .i64 tm, .slice av vs.length cv] := x5.on bV0 x5.lt
          clear VV
          refine wp_region_any hmx (wpAny_of_Z (z := 9) (C := fun w' => Box w' (w.heap.size + 1 + 1) 28 #[.string t.1, .int .i64 tm, .slice av vs.length cv]) _ _ _ _ ?_)
          rw [← hV]
          clear hV
          refine wpAnyZ_reads 0 cD (by kernel_rfl) (by kernel_rfl) (by kernel_rfl) (by kernel_rfl) (fun d _ _ _ _ h => by cases d <;> exact h) (fun oi ho K hK => ?_)
          simp only [List.getElem?_toArray, List.getElem?_cons_zero, Option.some.injEq] at ho
          subst ho
          rw [if_pos (by kernel_rfl)]
          refine ⟨.pointer (some ⟨w.heap.size + 1 + 1, 0, none⟩), fun w' hw' => ?_, hK _ ?_⟩
          · have hx0 := hw'.three.1
            have hx1 := hw'.three.2.1
            have hx2 := hw'.three.2.2
            go_simp
          clear hK K
          refine wpAnyZ_reads 1 cD (by kernel_rfl) (by kernel_rfl) (by kernel_rfl) (by kernel_rfl) (fun d _ _ _ _ h => by cases d <;> exact h) (fun oi ho K hK => ?_)
          simp only [List.getElem?_toArray, List.getElem?_cons_succ, List.getElem?_cons_zero, Option.some.injEq] at ho
          subst ho
          rw [if_pos (by kernel_rfl)]
          refine ⟨.string t.1, fun w' hw' => ?_, hK _ ?_⟩
          · have hx0 := hw'.three.1
            have hx1 := hw'.three.2.1
            have hx2 := hw'.three.2.2
            go_simp
          clear hK K
          refine wpAnyZ_reads 2 cD (by kernel_rfl) (by kernel_rfl) (by kernel_rfl) (by kernel_rfl) (fun d _ _ _ _ h => by cases d <;> exact h) (fun oi ho K hK => ?_)
          simp only [List.getElem?_toArray, List.getElem?_cons_succ, List.getElem?_cons_zero, Option.some.injEq] at ho
          subst ho
          rw [if_pos (by kernel_rfl)]
          refine ⟨.pointer (some ⟨w.heap.size + 1 + 1, 1, none⟩), fun w' hw' => ?_, hK _ ?_⟩
          · have hx0 := hw'.three.1
            have hx1 := hw'.three.2.1
            have hx2 := hw'.three.2.2
            go_simp
          clear hK K
          refine wpAnyZ_reads 3 cD (by kernel_rfl) (by kernel_rfl) (by kernel_rfl) (by kernel_rfl) (fun d _ _ _ _ h => by cases d <;> exact h) (fun oi ho K hK => ?_)
          simp only [List.getElem?_toArray, List.getElem?_cons_succ, List.getElem?_cons_zero, Option.some.injEq] at ho
          subst ho
          rw [if_pos (by kernel_rfl)]
          refine ⟨.int .i64 tm, fun w' hw' => ?_, hK _ ?_⟩
          · have hx0 := hw'.three.1
            have hx1 := hw'.three.2.1
            have hx2 := hw'.three.2.2
            go_simp
          clear hK K
          refine wpAnyZ_reads 4 cD (by kernel_rfl) (by kernel_rfl) (by kernel_rfl) (by kernel_rfl) (fun d _ _ _ _ h => by cases d <;> exact h) (fun oi ho K hK => ?_)
          simp only [List.getElem?_toArray, List.getElem?_cons_succ, List.getElem?_cons_zero, Option.some.injEq] at ho
          subst ho
          rw [if_pos (by kernel_rfl)]
          refine ⟨.pointer (some ⟨w.heap.size + 1 + 1, 2, none⟩), fun w' hw' => ?_, hK _ ?_⟩
          · have hx0 := hw'.three.1
            have hx1 := hw'.three.2.1
            have hx2 := hw'.three.2.2
            go_simp
          clear hK K
          refine wpAnyZ_reads 5 cD (by kernel_rfl) (by kernel_rfl) (by kernel_rfl) (by kernel_rfl) (fun d _ _ _ _ h => by cases d <;> exact h) (fun oi ho K hK => ?_)
          simp only [List.getElem?_toArray, List.getElem?_cons_succ, List.getElem?_cons_zero, Option.some.injEq] at ho
          subst ho
          rw [if_pos (by kernel_rfl)]
          refine ⟨.slice av vs.length cv, fun w' hw' => ?_, hK _ ?_⟩
          · have hx0 := hw'.three.1
            have hx1 := hw'.three.2.1
            have hx2 := hw'.three.2.2
            go_simp
          clear hK K

          refine wpAnyZ_two 6 8 (by kernel_rfl) (fun oi ho K hK => ?_) (fun oi ho K hK => ?_)

          · simp only [List.getElem?_toArray, List.getElem?_cons_succ, List.getElem?_cons_zero, Option.some.injEq] at ho
            subst ho
            refine step_lies V (by rfl) (.const (.slice none 0 0)) (.tmp 55) 26 (by rfl) V.heap.size 40 j0 (.agg #[.int .i64 0, .int .i64 0, .string ⟨#[]⟩]) 3 32 Tryz.underlying26 hj0 hy0 hy1 hy2 (by rfl) (by decide) (.slice none 0 0) 0 [] ?q1 (World.ownsRow_nil _ _ _ _) av vs.length cv (newsV vs) ?q2 (unhide lV) (newsV_one _) (by unfold maxLen; omega) (by omega) (Nat.le_refl _) ?_
            case q1 => go_simp
            case q2 => go_simp
            intro v1 w1 ho1 hg1
            rw [Nat.zero_add, List.nil_append] at ho1
            obtain ⟨a3, c3, rfl, -, -⟩ := vals_of_owns ho1
            have b1 : Below V.heap.size V w1 := (Below.refl _ _).grown hg1 (Nat.le_refl _) (fun j e => by cases e)
            have cF := cD.on b1 cD.lt
            refine hK _ _ (.inr cF) ?_
            clear hK K hg1
            replace ho1 := hide ho1
            refine wpAnyZ_reads 7 cF (by kernel_rfl) (by kernel_rfl) (by kernel_rfl) (by kernel_rfl) (fun d _ _ _ _ h => by cases d <;> exact h) (fun oi ho K hK => ?_)
            simp only [List.getElem?_toArray, List.getElem?_cons_succ, List.getElem?_cons_zero, Option.some.injEq] at ho
            subst ho
            rw [if_pos (by kernel_rfl)]
            refine ⟨.agg #[.string t.1, .int .i64 tm, .slice a3 vs.length c3], fun w' hw' => ?_, hK _ ?_⟩
            · clear hw'
              go_simp
            clear hK K
            refine wpAnyZ_calls 8 (by kernel_rfl) (fun oi ho K hK => ?_)
            simp only [List.getElem?_toArray, List.getElem?_cons_succ, List.getElem?_cons_zero, Option.some.injEq] at ho
            subst ho
            have bF : Below w1.heap.size w1 (w1.alloc (.cells #[.string ⟨#[]⟩, .int .i64 0, .slice none 0 0] 28)) := (Below.refl _ _).alloc (Nat.le_refl _) _
            have obx := Box.new w1 28 #[.string ⟨#[]⟩, .int .i64 0, .slice none 0 0]
            have own3 := hide (owns_below (unhide ho1) bF)
            have b3 := b1.trans (bF.mono b1.size)
            have cG := cD.on b3 cD.lt
            go_simp
            refine hK _ _ (.inr cG) ?_
            clear hK K
            obtain ⟨Bo, hBo'⟩ : ∃ Bo, Bo = w1.heap.size := ⟨_, rfl⟩
            have hBo : V.heap.size ≤ Bo := by rw [hBo']; exact b1.size
            rw [← hBo'] at obx ⊢
            obtain ⟨V2, hV2⟩ : ∃ V2, V2 = w1.alloc (.cells #[.string ⟨#[]⟩, .int .i64 0, .slice none 0 0] 28) := ⟨_, rfl⟩
            rw [← hV2] at obx own3 b3 cG ⊢
            clear hV2 hBo' bF ho1 b1 cF
            have hz0 := (obx.three).1
            have hz1 := (obx.three).2.1
            have hz2 := (obx.three).2.2
            have hzf0 := obx.frz 0
            have hzf1 := obx.frz 1
            have hzf2 := obx.frz 2
            refine wpAnyZ_calls 9 (by kernel_rfl) (fun oi ho K hK => ?_)
            simp only [List.getElem?_toArray, List.getElem?_cons_succ, List.getElem?_cons_zero, Option.some.injEq] at ho
            subst ho

            go_simp
            refine hK _ _ (.inl rfl) ?_
            clear hK K hz0 hz1 hz2 hzf0 hzf1 hzf2 cG
            refine wpAnyZ_done (by kernel_rfl) ?_ _
            go_upto_region 7 with fail

            have lBo := obx.lt
            have o7 : Box (((V2.setCell ⟨Bo, 0, none⟩ (.string t.1)).setCell ⟨Bo, 1, none⟩ (.int .i64 tm)).setCell ⟨Bo, 2, none⟩ (.slice a3 vs.length c3)) Bo 28 #[.string t.1, .int .i64 tm, .slice a3 vs.length c3] := ((obx.set 0 (.string t.1)).set 1 (.int .i64 tm)).set 2 (.slice a3 vs.length c3)
            have own7 := set_other (i := 2) (set_other (i := 1) (set_other (i := 0) (unhide own3) obx (by decide) (.string t.1)) (obx.set 0 (.string t.1)) (by decide) (.int .i64 tm)) ((obx.set 0 (.string t.1)).set 1 (.int .i64 tm)) (by decide) (.slice a3 vs.length c3)
            have bVW := ((b3.setCell (p := ⟨Bo, 0, none⟩) hBo (.string t.1)).setCell (p := ⟨Bo, 1, none⟩) hBo (.int .i64 tm)).setCell (p := ⟨Bo, 2, none⟩) hBo (.slice a3 vs.length c3)
            obtain ⟨W7, hW7⟩ : ∃ W7, W7 = ((V2.setCell ⟨Bo, 0, none⟩ (.string t.1)).setCell ⟨Bo, 1, none⟩ (.int .i64 tm)).setCell ⟨Bo, 2, none⟩ (.slice a3 vs.length c3) := ⟨_, rfl⟩

            rw [← hW7] at o7 own7 bVW ⊢
            have q47 := (x4.on bV0 x4.lt).on bVW (by have := x4.lt; have := bV0.size; omega)
            have q57 := (x5.on bV0 x5.lt).on bVW (by have := x5.lt; have := bV0.size; omega)
            have r7 := (x6.on bV0 x6.lt).on bVW (by have := x6.lt; have := bV0.size; omega)
            have b7 := bwV.trans (bVW.mono bwV.size)
            have sV7 := bVW.size
            replace own7 := hide own7
            clear hW7 obx own3

            rcases unhide hk4 with rfl | rfl | rfl | rfl
            · have hNv : N = vs ++ [(dk, dn, ds)] := by rw [unhide eN, vNew_one (unhide hEv) (unhide hkN) rfl]
              have hNl : N.length = vs.length + 1 := by rw [hNv]; simp
              have hNn : newsV vs ++ [.int .i64 dk, .int .i64 dn, .string ds.1] = newsV N := by rw [hNv, newsV_append]; rfl
              replace hNn := hide hNn
              clear hNv
              obtain ⟨hc0, hc1, hc2, hc3, hc4, hc5, hc6⟩ := q47.seven
              obtain ⟨ho0, ho1, ho2⟩ := o7.three
              have nBo : some Bo ≠ (Value.slice a3 vs.length c3).ownBlock := fun e => by obtain ⟨_, cur, h⟩ := owns_lt (unhide own7) e.symm; exact box_ne o7 h (by decide) rfl
              have lo : ∀ q, (Value.slice a3 vs.length c3).ownBlock = some q → V.heap.size ≤ q := fun q hq => (owns_lt (unhide own7) hq).1
              have n6 : some (w.heap.size + 1 + 1 + 1) ≠ (Value.slice a3 vs.length c3).ownBlock := fun e => by have := lo _ e.symm; omega
              have lB := o7.lt
              have l6 := r7.lt
              replace nBo := hide nBo
              replace lo := hide lo
              replace n6 := hide n6
              go_upto_region 14 with (at_builtin; go_must (refine wpList_append_own _ rfl _ _ 26 rfl V.heap.size 40 j0 (.agg #[.int .i64 0, .int .i64 0, .string ⟨#[]⟩]) 3 32 Tryz.underlying26 hj0 hy0 hy1 hy2 rfl (by decide) (.slice a3 vs.length c3) vs.length (newsV vs) rfl (owns_below (unhide own7) ((Below.refl _ _).alloc (Nat.le_refl _) (.cells #[.int .i64 dk, .int .i64 dn, .string ds.1] 40))) ⟨W7.heap.size, 0, none⟩ 1 1 [.int .i64 dk, .int .i64 dn, .string ds.1] rfl rfl (cell_three_new _ _ _ _ _) (by simp [Value.oneCell']) (by unfold maxLen; omega) (by omega) (by simp; omega) ?_); intro v' w2 hown hgrow _; obtain ⟨g2, cap2, rfl⟩ := ownsRow_succ hown; have y10 : Box w2 Bo 28 #[.string t.1, .int .i64 tm, .slice a3 vs.length c3] := (hgrow.block _ (by simp; omega) (unhide nBo)).trans (o7.alloc _); obtain ⟨hk0, hk1, hk2⟩ := y10.three; have hkf := y10.frz 2; replace hown := hide hown; replace hgrow := hide hgrow)
              replace hown := unhide hown
              replace hgrow := unhide hgrow
              rw [unhide hNn, ← hNl] at hown
              rw [← hNl]
              have y6 : Box w2 (w.heap.size + 1 + 1 + 1) 28 _ := (hgrow.block _ (by simp; omega) (unhide n6)).trans (r7.alloc _)
              have r8 := y6.other ⟨Bo, 2, none⟩ (.slice (some ⟨g2, 0, none⟩) N.length cap2) (by simp only; omega)
              have o8 : Box (w2.setCell ⟨Bo, 2, none⟩ (.slice (some ⟨g2, 0, none⟩) N.length cap2)) Bo 28 #[.string t.1, .int .i64 tm, .slice (some ⟨g2, 0, none⟩) N.length cap2] := y10.set 2 _
              have b8 := ((b7.alloc (by omega) (.cells #[.int .i64 dk, .int .i64 dn, .string ds.1] 40)).grown hgrow (by simp; omega) (fun q e => Nat.le_trans (by omega) (unhide lo q e))).setCell (p := ⟨Bo, 2, none⟩) (by simp only; omega) (.slice (some ⟨g2, 0, none⟩) N.length cap2)
              have own9 := set_other (i := 2) hown y10 (by decide) (.slice (some ⟨g2, 0, none⟩) N.length cap2)
              obtain ⟨W8, hW8⟩ : ∃ W8, W8 = w2.setCell ⟨Bo, 2, none⟩ (.slice (some ⟨g2, 0, none⟩) N.length cap2) := ⟨_, rfl⟩
              rw [← hW8] at r8 o8 b8 own9 ⊢
              replace own9 := hide own9
              clear hW8 hown hgrow y6 y10 hk0 hk1 hk2 hkf hNl ho0 ho1 ho2 hc0 hc1 hc2 hc3 hc4 hc5 hc6

              have own9' := hide (owns_set (owns_set (owns_set (unhide own9) ⟨w.heap.size + 1 + 1 + 1, 0, none⟩ (.string t.1) (by simp only; omega)) ⟨w.heap.size + 1 + 1 + 1, 1, none⟩ (.int .i64 tm) (by simp only; omega)) ⟨w.heap.size + 1 + 1 + 1, 2, none⟩ (.slice (some ⟨g2, 0, none⟩) N.length cap2) (by simp only; omega))
              have bz := hide (((b8.setCell (p := ⟨w.heap.size + 1 + 1 + 1, 0, none⟩) (by simp only; omega) (.string t.1)).setCell (p := ⟨w.heap.size + 1 + 1 + 1, 1, none⟩) (by simp only; omega) (.int .i64 tm)).setCell (p := ⟨w.heap.size + 1 + 1 + 1, 2, none⟩) (by simp only; omega) (.slice (some ⟨g2, 0, none⟩) N.length cap2))
              obtain ⟨ho0, ho1, ho2⟩ := o8.three
              obtain ⟨hr0, hr1, hr2⟩ := r8.three
              have hf0 := r8.frz 0
              have hf1 := r8.frz 1
              have hf2 := r8.frz 2
              obtain ⟨u0, u1, u2⟩ := three_set (v0 := .string t.1) (v1 := .int .i64 tm) (v2 := .slice (some ⟨g2, 0, none⟩) N.length cap2) hr0 hr1 hr2
              go_wp2_with fail
              obtain ⟨_, _, e9, V9, -⟩ := vals_of_owns (unhide own9')
              cases e9
              have fE : ∃ a' c', Ending.returned (.agg #[.string t.1, .int .i64 tm, .slice (some ⟨g2, 0, none⟩) N.length cap2]) = Ending.returned (.agg #[.string t.1, .int .i64 tm, .slice a' N.length c']) ∧ Vals (((W8.setCell ⟨w.heap.size + 1 + 1 + 1, 0, none⟩ (.string t.1)).setCell ⟨w.heap.size + 1 + 1 + 1, 1, none⟩ (.int .i64 tm)).setCell ⟨w.heap.size + 1 + 1 + 1, 2, none⟩ (.slice (some ⟨g2, 0, none⟩) N.length cap2)).heap.size (((W8.setCell ⟨w.heap.size + 1 + 1 + 1, 0, none⟩ (.string t.1)).setCell ⟨w.heap.size + 1 + 1 + 1, 1, none⟩ (.int .i64 tm)).setCell ⟨w.heap.size + 1 + 1 + 1, 2, none⟩ (.slice (some ⟨g2, 0, none⟩) N.length cap2)) a' N ∧ Below w.heap.size w (((W8.setCell ⟨w.heap.size + 1 + 1 + 1, 0, none⟩ (.string t.1)).setCell ⟨w.heap.size + 1 + 1 + 1, 1, none⟩ (.int .i64 tm)).setCell ⟨w.heap.size + 1 + 1 + 1, 2, none⟩ (.slice (some ⟨g2, 0, none⟩) N.length cap2)) := ⟨_, _, rfl, V9, unhide bz⟩
              exact bodyPost_ret (v := .agg #[.string t.1, .int .i64 tm, .slice (some ⟨g2, 0, none⟩) N.length cap2]) (by simp [results, Tryz.results40, go_sem, u0, u1, u2]) rfl (by obtain ⟨a', c', h1, h2, h3⟩ := fE; first | exact ⟨a', ⟨c', h1⟩, h2, h3⟩ | exact ⟨a', c', h1, h2, h3⟩)
            · obtain ⟨p, hFq, hfp, hp⟩ := unhide hpl (by decide)
              subst hFq
              have hNv : N = vs.take p ++ vs.drop (p + 1) := by rw [unhide eN, vNew_two (unhide hEv) (hS.2 i hi).2.2 (unhide hfp) (unhide hkN) rfl]
              have hNl : vs.length - 1 = N.length := by rw [hNv]; simp; omega
              have hNn : (newsV vs).take (p * 3) ++ (newsV vs).drop ((p + 1) * 3) = newsV N := by rw [hNv, newsV_append, newsV_take, newsV_drop]
              replace hNn := hide hNn
              clear hNv
              obtain ⟨hc0, hc1, hc2, hc3, hc4, hc5, hc6⟩ := q47.seven
              obtain ⟨g1, e1, hg1b, hg1l, hnc, ⟨cur1, hg1⟩, -, -⟩ := owns_cells (unhide own7) (by omega)
              subst e1
              have neB := box_ne o7 hg1 (by decide)
              have lB := o7.lt
              have l6 := r7.lt
              have hw1 : IntKind.i64.wrap ((p : Int) + 1) = p + 1 := by rw [IntKind.wrap_i64]; omega
              obtain ⟨ad2, had2⟩ : ∃ ad2 : Addr, (if c3 = p + 1 then some (⟨g1, 0, none⟩ : Addr) else some ⟨g1, (p + 1) * 3, none⟩) = some ad2 ∧ (ad2 = ⟨g1, (p + 1) * 3, none⟩ ∨ vs.length = p + 1) := by
                by_cases h : c3 = p + 1
                · rw [if_pos h]; exact ⟨_, rfl, .inr (by omega)⟩
                · rw [if_neg h]; exact ⟨_, rfl, .inl rfl⟩
              replace had2 := hide had2
              have cD7 := o7.drew
              go_upto_region 11 with fail
              clear hc0 hc1 hc2 hc3 hc4 hc5 hc6
              refine wp_region_any hmx (wpAny_of_Z (z := 11) (C := fun w' => Box w' Bo 28 #[.string t.1, .int .i64 tm, .slice (some ⟨g1, 0, none⟩) vs.length c3]) _ _ _ _ ?_)
              refine wpAnyZ_reads 0 cD7 (by kernel_rfl) (by kernel_rfl) (by kernel_rfl) (by kernel_rfl) (fun d _ _ _ _ h => by cases d <;> exact h) (fun oi ho K hK => ?_)
              simp only [List.getElem?_toArray, List.getElem?_cons_zero, Option.some.injEq] at ho
              subst ho
              rw [if_pos (by kernel_rfl)]
              refine ⟨.pointer (some ⟨Bo, 2, none⟩), fun w' hw' => ?_, hK _ ?_⟩
              · have hx12 := hw'.three.2.2
                go_simp
              clear hK K
              refine wpAnyZ_reads 1 cD7 (by kernel_rfl) (by kernel_rfl) (by kernel_rfl) (by kernel_rfl) (fun d _ _ _ _ h => by cases d <;> exact h) (fun oi ho K hK => ?_)
              simp only [List.getElem?_toArray, List.getElem?_cons_succ, List.getElem?_cons_zero, Option.some.injEq] at ho
              subst ho
              rw [if_pos (by kernel_rfl)]
              refine ⟨.slice (some ⟨g1, 0, none⟩) vs.length c3, fun w' hw' => ?_, hK _ ?_⟩
              · have hx12 := hw'.three.2.2
                go_simp
              clear hK K
              refine wpAnyZ_reads 2 cD7 (by kernel_rfl) (by kernel_rfl) (by kernel_rfl) (by kernel_rfl) (fun d _ _ _ _ h => by cases d <;> exact h) (fun oi ho K hK => ?_)
              simp only [List.getElem?_toArray, List.getElem?_cons_succ, List.getElem?_cons_zero, Option.some.injEq] at ho
              subst ho
              rw [if_pos (by kernel_rfl)]
              refine ⟨.int .i64 p, fun w' hw' => ?_, hK _ ?_⟩
              · have hx12 := hw'.three.2.2
                go_simp
              clear hK K
              refine wpAnyZ_reads 3 cD7 (by kernel_rfl) (by kernel_rfl) (by kernel_rfl) (by kernel_rfl) (fun d _ _ _ _ h => by cases d <;> exact h) (fun oi ho K hK => ?_)
              simp only [List.getElem?_toArray, List.getElem?_cons_succ, List.getElem?_cons_zero, Option.some.injEq] at ho
              subst ho
              rw [if_pos (by kernel_rfl)]
              refine ⟨.slice (some ⟨g1, 0, none⟩) p c3, fun w' hw' => ?_, hK _ ?_⟩
              · have hx12 := hw'.three.2.2
                go_simp
                try (intro h; omega)
              clear hK K
              refine wpAnyZ_reads 4 cD7 (by kernel_rfl) (by kernel_rfl) (by kernel_rfl) (by kernel_rfl) (fun d _ _ _ _ h => by cases d <;> exact h) (fun oi ho K hK => ?_)
              simp only [List.getElem?_toArray, List.getElem?_cons_succ, List.getElem?_cons_zero, Option.some.injEq] at ho
              subst ho
              rw [if_pos (by kernel_rfl)]
              refine ⟨.pointer (some ⟨Bo, 2, none⟩), fun w' hw' => ?_, hK _ ?_⟩
              · have hx12 := hw'.three.2.2
                go_simp
              clear hK K
              refine wpAnyZ_reads 5 cD7 (by kernel_rfl) (by kernel_rfl) (by kernel_rfl) (by kernel_rfl) (fun d _ _ _ _ h => by cases d <;> exact h) (fun oi ho K hK => ?_)
              simp only [List.getElem?_toArray, List.getElem?_cons_succ, List.getElem?_cons_zero, Option.some.injEq] at ho
              subst ho
              rw [if_pos (by kernel_rfl)]
              refine ⟨.slice (some ⟨g1, 0, none⟩) vs.length c3, fun w' hw' => ?_, hK _ ?_⟩
              · have hx12 := hw'.three.2.2
                go_simp
              clear hK K
              refine wpAnyZ_reads 6 cD7 (by kernel_rfl) (by kernel_rfl) (by kernel_rfl) (by kernel_rfl) (fun d _ _ _ _ h => by cases d <;> exact h) (fun oi ho K hK => ?_)
              simp only [List.getElem?_toArray, List.getElem?_cons_succ, List.getElem?_cons_zero, Option.some.injEq] at ho
              subst ho
              rw [if_pos (by kernel_rfl)]
              refine ⟨.int .i64 p, fun w' hw' => ?_, hK _ ?_⟩
              · have hx12 := hw'.three.2.2
                go_simp
              clear hK K
              refine wpAnyZ_reads 7 cD7 (by kernel_rfl) (by kernel_rfl) (by kernel_rfl) (by kernel_rfl) (fun d _ _ _ _ h => by cases d <;> exact h) (fun oi ho K hK => ?_)
              simp only [List.getElem?_toArray, List.getElem?_cons_succ, List.getElem?_cons_zero, Option.some.injEq] at ho
              subst ho
              rw [if_pos (by kernel_rfl)]
              refine ⟨.int .i64 ((p : Int) + 1), fun w' hw' => ?_, hK _ ?_⟩
              · have hx12 := hw'.three.2.2
                go_simp
              clear hK K
              refine wpAnyZ_reads 8 cD7 (by kernel_rfl) (by kernel_rfl) (by kernel_rfl) (by kernel_rfl) (fun d _ _ _ _ h => by cases d <;> exact h) (fun oi ho K hK => ?_)
              simp only [List.getElem?_toArray, List.getElem?_cons_succ, List.getElem?_cons_zero, Option.some.injEq] at ho
              subst ho
              rw [if_pos (by kernel_rfl)]
              refine ⟨.slice (some ad2) (vs.length - (p + 1)) (c3 - (p + 1)), fun w' hw' => ?_, hK _ ?_⟩
              · have hx12 := hw'.three.2.2
                go_simp
                first | rw [if_pos ⟨by omega, by omega⟩, (unhide had2).1] | rw [(unhide had2).1] | rw [if_pos ⟨by omega, by omega⟩]
              clear hK K
              refine wpAnyZ_calls 9 (by kernel_rfl) (fun oi ho K hK => ?_)
              simp only [List.getElem?_toArray, List.getElem?_cons_succ, List.getElem?_cons_zero, Option.some.injEq] at ho
              subst ho

              refine step_shift W7.drew (by rfl) (.tmp 74) (.tmp 79) 26 (by rfl) V.heap.size 40 j0 3 Tryz.underlying26 hj0 hy1 g1 vs.length c3 (newsV vs) (owns_below (unhide own7) (Below.refl _ _).drew) p hp ad2 (unhide had2).2 (c3 - (p + 1)) (newsV_one _) ?q1 ?q2 ?_
              case q1 => go_simp
              case q2 => go_simp
              intro w2 hown hgrow
              have y10 : Box w2 Bo 28 #[.string t.1, .int .i64 tm, .slice (some ⟨g1, 0, none⟩) vs.length c3] := (hgrow.block _ (by simp; omega) (fun e => by cases e; omega)).trans cD7
              refine hK _ _ (.inr y10) ?_
              clear hK K
              rw [unhide hNn, hNl] at hown
              rw [hNl]
              replace hown := hide hown
              replace hgrow := hide hgrow
              have hkf := y10.frz 2
              obtain ⟨hk0, hk1, hk2⟩ := y10.three
              refine wpAnyZ_reads 10 y10 (by kernel_rfl) (by kernel_rfl) (by kernel_rfl) (by kernel_rfl) (fun d _ _ _ _ h => by cases d <;> exact h) (fun oi ho K hK => ?_)
              simp only [List.getElem?_toArray, List.getElem?_cons_succ, List.getElem?_cons_zero, Option.some.injEq] at ho
              subst ho
              rw [if_pos (by kernel_rfl)]
              refine ⟨.pointer (some ⟨Bo, 2, none⟩), fun w' hw' => ?_, hK _ ?_⟩
              · clear hw'
                go_simp
              clear hK K
              refine wpAnyZ_calls 11 (by kernel_rfl) (fun oi ho K hK => ?_)
              simp only [List.getElem?_toArray, List.getElem?_cons_succ, List.getElem?_cons_zero, Option.some.injEq] at ho
              subst ho

              go_simp
              refine hK _ _ (.inl rfl) ?_
              clear hK K
              refine wpAnyZ_done (by kernel_rfl) ?_ _
              go_upto_region 14 with fail
              replace hown := unhide hown
              replace hgrow := unhide hgrow
              have y6 : Box w2 (w.heap.size + 1 + 1 + 1) 28 _ := (hgrow.block _ (by simp; omega) (fun e => by cases e; omega)).trans r7.drew
              have r8 := y6.other ⟨Bo, 2, none⟩ (.slice (some ⟨g1, 0, none⟩) N.length c3) (by simp only; omega)
              have o8 : Box (w2.setCell ⟨Bo, 2, none⟩ (.slice (some ⟨g1, 0, none⟩) N.length c3)) Bo 28 #[.string t.1, .int .i64 tm, .slice (some ⟨g1, 0, none⟩) N.length c3] := y10.set 2 _
              have b8 := (b7.drew.grown hgrow (by simp; omega) (fun q e => by cases e; omega)).setCell (p := ⟨Bo, 2, none⟩) (by simp only; omega) (.slice (some ⟨g1, 0, none⟩) N.length c3)
              have own9 := set_other (i := 2) hown y10 (by decide) (.slice (some ⟨g1, 0, none⟩) N.length c3)
              obtain ⟨W8, hW8⟩ : ∃ W8, W8 = w2.setCell ⟨Bo, 2, none⟩ (.slice (some ⟨g1, 0, none⟩) N.length c3) := ⟨_, rfl⟩
              rw [← hW8] at r8 o8 b8 own9 ⊢
              replace own9 := hide own9
              clear hW8 hown hgrow y6 y10 hk0 hk1 hk2 hkf hNl cD7

              have own9' := hide (owns_set (owns_set (owns_set (unhide own9) ⟨w.heap.size + 1 + 1 + 1, 0, none⟩ (.string t.1) (by simp only; omega)) ⟨w.heap.size + 1 + 1 + 1, 1, none⟩ (.int .i64 tm) (by simp only; omega)) ⟨w.heap.size + 1 + 1 + 1, 2, none⟩ (.slice (some ⟨g1, 0, none⟩) N.length c3) (by simp only; omega))
              have bz := hide (((b8.setCell (p := ⟨w.heap.size + 1 + 1 + 1, 0, none⟩) (by simp only; omega) (.string t.1)).setCell (p := ⟨w.heap.size + 1 + 1 + 1, 1, none⟩) (by simp only; omega) (.int .i64 tm)).setCell (p := ⟨w.heap.size + 1 + 1 + 1, 2, none⟩) (by simp only; omega) (.slice (some ⟨g1, 0, none⟩) N.length c3))
              obtain ⟨ho0, ho1, ho2⟩ := o8.three
              obtain ⟨hr0, hr1, hr2⟩ := r8.three
              have hf0 := r8.frz 0
              have hf1 := r8.frz 1
              have hf2 := r8.frz 2
              obtain ⟨u0, u1, u2⟩ := three_set (v0 := .string t.1) (v1 := .int .i64 tm) (v2 := .slice (some ⟨g1, 0, none⟩) N.length c3) hr0 hr1 hr2
              go_wp2_with fail
              obtain ⟨_, _, e9, V9, -⟩ := vals_of_owns (unhide own9')
              cases e9
              have fE : ∃ a' c', Ending.returned (.agg #[.string t.1, .int .i64 tm, .slice (some ⟨g1, 0, none⟩) N.length c3]) = Ending.returned (.agg #[.string t.1, .int .i64 tm, .slice a' N.length c']) ∧ Vals (((W8.setCell ⟨w.heap.size + 1 + 1 + 1, 0, none⟩ (.string t.1)).setCell ⟨w.heap.size + 1 + 1 + 1, 1, none⟩ (.int .i64 tm)).setCell ⟨w.heap.size + 1 + 1 + 1, 2, none⟩ (.slice (some ⟨g1, 0, none⟩) N.length c3)).heap.size (((W8.setCell ⟨w.heap.size + 1 + 1 + 1, 0, none⟩ (.string t.1)).setCell ⟨w.heap.size + 1 + 1 + 1, 1, none⟩ (.int .i64 tm)).setCell ⟨w.heap.size + 1 + 1 + 1, 2, none⟩ (.slice (some ⟨g1, 0, none⟩) N.length c3)) a' N ∧ Below w.heap.size w (((W8.setCell ⟨w.heap.size + 1 + 1 + 1, 0, none⟩ (.string t.1)).setCell ⟨w.heap.size + 1 + 1 + 1, 1, none⟩ (.int .i64 tm)).setCell ⟨w.heap.size + 1 + 1 + 1, 2, none⟩ (.slice (some ⟨g1, 0, none⟩) N.length c3)) := ⟨_, _, rfl, V9, unhide bz⟩
              exact bodyPost_ret (v := .agg #[.string t.1, .int .i64 tm, .slice (some ⟨g1, 0, none⟩) N.length c3]) (by simp [results, Tryz.results40, go_sem, u0, u1, u2]) rfl (by obtain ⟨a', c', h1, h2, h3⟩ := fE; first | exact ⟨a', ⟨c', h1⟩, h2, h3⟩ | exact ⟨a', c', h1, h2, h3⟩)
            · have hNv : N = vs := by rw [unhide eN, vNew_three (unhide hEv) rfl]
              subst hNv
              have own9 := own7
              have b8 := b7
              have o8 := o7
              have r8 := r7
              obtain ⟨hc0, hc1, hc2, hc3, hc4, hc5, hc6⟩ := q47.seven

              have own9' := hide (owns_set (owns_set (owns_set (unhide own9) ⟨w.heap.size + 1 + 1 + 1, 0, none⟩ (.string t.1) (by simp only; omega)) ⟨w.heap.size + 1 + 1 + 1, 1, none⟩ (.int .i64 tm) (by simp only; omega)) ⟨w.heap.size + 1 + 1 + 1, 2, none⟩ (.slice a3 N.length c3) (by simp only; omega))
              have bz := hide (((b8.setCell (p := ⟨w.heap.size + 1 + 1 + 1, 0, none⟩) (by simp only; omega) (.string t.1)).setCell (p := ⟨w.heap.size + 1 + 1 + 1, 1, none⟩) (by simp only; omega) (.int .i64 tm)).setCell (p := ⟨w.heap.size + 1 + 1 + 1, 2, none⟩) (by simp only; omega) (.slice a3 N.length c3))
              obtain ⟨ho0, ho1, ho2⟩ := o8.three
              obtain ⟨hr0, hr1, hr2⟩ := r8.three
              have hf0 := r8.frz 0
              have hf1 := r8.frz 1
              have hf2 := r8.frz 2
              obtain ⟨u0, u1, u2⟩ := three_set (v0 := .string t.1) (v1 := .int .i64 tm) (v2 := .slice a3 N.length c3) hr0 hr1 hr2
              go_wp2_with fail
              obtain ⟨_, _, e9, V9, -⟩ := vals_of_owns (unhide own9')
              cases e9
              have fE : ∃ a' c', Ending.returned (.agg #[.string t.1, .int .i64 tm, .slice a3 N.length c3]) = Ending.returned (.agg #[.string t.1, .int .i64 tm, .slice a' N.length c']) ∧ Vals (((W7.setCell ⟨w.heap.size + 1 + 1 + 1, 0, none⟩ (.string t.1)).setCell ⟨w.heap.size + 1 + 1 + 1, 1, none⟩ (.int .i64 tm)).setCell ⟨w.heap.size + 1 + 1 + 1, 2, none⟩ (.slice a3 N.length c3)).heap.size (((W7.setCell ⟨w.heap.size + 1 + 1 + 1, 0, none⟩ (.string t.1)).setCell ⟨w.heap.size + 1 + 1 + 1, 1, none⟩ (.int .i64 tm)).setCell ⟨w.heap.size + 1 + 1 + 1, 2, none⟩ (.slice a3 N.length c3)) a' N ∧ Below w.heap.size w (((W7.setCell ⟨w.heap.size + 1 + 1 + 1, 0, none⟩ (.string t.1)).setCell ⟨w.heap.size + 1 + 1 + 1, 1, none⟩ (.int .i64 tm)).setCell ⟨w.heap.size + 1 + 1 + 1, 2, none⟩ (.slice a3 N.length c3)) := ⟨_, _, rfl, V9, unhide bz⟩
              exact bodyPost_ret (v := .agg #[.string t.1, .int .i64 tm, .slice a3 N.length c3]) (by simp [results, Tryz.results40, go_sem, u0, u1, u2]) rfl (by obtain ⟨a', c', h1, h2, h3⟩ := fE; first | exact ⟨a', ⟨c', h1⟩, h2, h3⟩ | exact ⟨a', c', h1, h2, h3⟩)
            · obtain ⟨p, hFq, hfp, hp⟩ := unhide hpl (by decide)
              subst hFq
              have hNv : N = vs.set p (1, (vl vs p).2) := by rw [unhide eN, vNew_four (unhide hEv) (hS.2 i hi).2.2 (unhide hfp) (unhide hkN) rfl]
              have hNl : vs.length = N.length := by rw [hNv, List.length_set]
              replace hNl := hide hNl
              have hemp : (vl vs p).2.2.1 = ⟨#[]⟩ := by
                have h1 := (unhide hEv).val _ (show vl vs p ∈ vs by simp [vl, hp])
                have h2 := (unhide hEv).kind p (by rw [← (unhide hEv).len]; exact hp)
                have h3 : (fd (ty ts i).2 p).2 = 3 := by
                  have := unhide hRz
                  simp only [refE, unhide hpc] at this
                  split at this
                  · simp only [show ((4 : Int) = 5) = False by simp, show ((4 : Int) = 1) = False by simp, if_false, atE, unhide hfp, show ((4 : Int) = 3) = False by simp, if_true] at this
                    by_cases h : (fd (ty ts i).2 p).2 = 3
                    · exact h
                    · rw [if_neg h] at this; omega
                  · omega
                rw [h2, h3] at h1
                simp only [isB, show ((3 : Int) = 1) = False by simp, show ((3 : Int) = 2) = False by simp, if_false, if_true, Bool.and_eq_true] at h1
                have h4 := h1.2
                rw [ByteArray.toList_eq] at h4
                cases hb : (vl vs p).2.2.1 with
                | mk d =>
                  rw [hb] at h4
                  congr 1
                  exact Array.toList_eq_nil_iff.1 (List.isEmpty_iff.1 h4)
              have hNn : (((newsV vs).set (p * 3) (.int .i64 1)).set (p * 3 + 1) (.int .i64 (vl vs p).2.1)).set (p * 3 + 2) (.string ⟨#[]⟩) = newsV N := by rw [hNv, newsV_set vs p hp, hemp]
              replace hNn := hide hNn
              clear hNv hemp
              obtain ⟨hc0, hc1, hc2, hc3, hc4, hc5, hc6⟩ := q47.seven
              obtain ⟨g1, e1, hg1b, hg1l, hnc, ⟨cur1, hg1⟩, hcell, hfrz⟩ := owns_cells (unhide own7) (by omega)
              subst e1
              obtain ⟨bv, offv, eav, hlv, hcv'⟩ : ∃ b off, av = some ⟨b, off, none⟩ ∧ b < W0.heap.size ∧ W0.cell? ⟨b, off + p * 3 + 1, none⟩ = some (.int .i64 (vl vs p).2.1) := by
                rcases V0 with h | ⟨b, off, e, hb, hc⟩
                · rw [h] at hp; simp at hp
                · exact ⟨b, off, e, hb, (hc p hp).2.1⟩
              subst eav
              have neB := box_ne o7 hg1 (by decide)
              have lB := o7.lt
              have l6 := r7.lt
              have l5 := x5.lt
              have hcvV := (bV0.cell (p := ⟨bv, offv + p * 3 + 1, none⟩) hlv).trans hcv'
              have hcv7 := (bVW.cell (p := ⟨bv, offv + p * 3 + 1, none⟩) (Nat.lt_of_lt_of_le hlv bV0.size)).trans hcvV
              have cD7 : Box W7.drew Bo 28 #[.string t.1, .int .i64 tm, .slice (some ⟨g1, 0, none⟩) vs.length c3] ∧ Box W7.drew (w.heap.size + 1 + 1) 28 #[.string t.1, .int .i64 tm, .slice (some ⟨bv, offv, none⟩) vs.length cv] ∧ W7.drew.cell? ⟨bv, offv + p * 3 + 1, none⟩ = some (.int .i64 (vl vs p).2.1) := ⟨o7.drew, q57.drew, hcv7⟩
              go_upto_region 13 with fail
              clear hc0 hc1 hc2 hc3 hc4 hc5 hc6
              refine wp_region_any hmx (wpAny_of_Z (z := 11) (C := fun w' => Box w' Bo 28 #[.string t.1, .int .i64 tm, .slice (some ⟨g1, 0, none⟩) vs.length c3] ∧ Box w' (w.heap.size + 1 + 1) 28 #[.string t.1, .int .i64 tm, .slice (some ⟨bv, offv, none⟩) vs.length cv] ∧ w'.cell? ⟨bv, offv + p * 3 + 1, none⟩ = some (.int .i64 (vl vs p).2.1)) _ _ _ _ ?_)
              refine wpAnyZ_reads 0 cD7 (by kernel_rfl) (by kernel_rfl) (by kernel_rfl) (by kernel_rfl) (fun d _ _ _ _ h => by cases d <;> exact h) (fun oi ho K hK => ?_)
              simp only [List.getElem?_toArray, List.getElem?_cons_zero, Option.some.injEq] at ho
              subst ho
              rw [if_pos (by kernel_rfl)]
              refine ⟨.pointer (some ⟨Bo, 2, none⟩), fun w' hw' => ?_, hK _ ?_⟩
              · obtain ⟨hxo, hx5, hxc⟩ := hw'
                have hx12 := hxo.three.2.2
                have hx52 := hx5.three.2.2
                go_simp
              clear hK K
              refine wpAnyZ_reads 1 cD7 (by kernel_rfl) (by kernel_rfl) (by kernel_rfl) (by kernel_rfl) (fun d _ _ _ _ h => by cases d <;> exact h) (fun oi ho K hK => ?_)
              simp only [List.getElem?_toArray, List.getElem?_cons_succ, List.getElem?_cons_zero, Option.some.injEq] at ho
              subst ho
              rw [if_pos (by kernel_rfl)]
              refine ⟨.slice (some ⟨g1, 0, none⟩) vs.length c3, fun w' hw' => ?_, hK _ ?_⟩
              · obtain ⟨hxo, hx5, hxc⟩ := hw'
                have hx12 := hxo.three.2.2
                have hx52 := hx5.three.2.2
                go_simp
              clear hK K
              refine wpAnyZ_reads 2 cD7 (by kernel_rfl) (by kernel_rfl) (by kernel_rfl) (by kernel_rfl) (fun d _ _ _ _ h => by cases d <;> exact h) (fun oi ho K hK => ?_)
              simp only [List.getElem?_toArray, List.getElem?_cons_succ, List.getElem?_cons_zero, Option.some.injEq] at ho
              subst ho
              rw [if_pos (by kernel_rfl)]
              refine ⟨.int .i64 p, fun w' hw' => ?_, hK _ ?_⟩
              · obtain ⟨hxo, hx5, hxc⟩ := hw'
                have hx12 := hxo.three.2.2
                have hx52 := hx5.three.2.2
                go_simp
              clear hK K
              refine wpAnyZ_reads 3 cD7 (by kernel_rfl) (by kernel_rfl) (by kernel_rfl) (by kernel_rfl) (fun d _ _ _ _ h => by cases d <;> exact h) (fun oi ho K hK => ?_)
              simp only [List.getElem?_toArray, List.getElem?_cons_succ, List.getElem?_cons_zero, Option.some.injEq] at ho
              subst ho
              rw [if_pos (by kernel_rfl)]
              refine ⟨.pointer (some ⟨w.heap.size + 1 + 1, 2, none⟩), fun w' hw' => ?_, hK _ ?_⟩
              · obtain ⟨hxo, hx5, hxc⟩ := hw'
                have hx12 := hxo.three.2.2
                have hx52 := hx5.three.2.2
                go_simp
              clear hK K
              refine wpAnyZ_reads 4 cD7 (by kernel_rfl) (by kernel_rfl) (by kernel_rfl) (by kernel_rfl) (fun d _ _ _ _ h => by cases d <;> exact h) (fun oi ho K hK => ?_)
              simp only [List.getElem?_toArray, List.getElem?_cons_succ, List.getElem?_cons_zero, Option.some.injEq] at ho
              subst ho
              rw [if_pos (by kernel_rfl)]
              refine ⟨.slice (some ⟨bv, offv, none⟩) vs.length cv, fun w' hw' => ?_, hK _ ?_⟩
              · obtain ⟨hxo, hx5, hxc⟩ := hw'
                have hx12 := hxo.three.2.2
                have hx52 := hx5.three.2.2
                go_simp
              clear hK K
              refine wpAnyZ_reads 5 cD7 (by kernel_rfl) (by kernel_rfl) (by kernel_rfl) (by kernel_rfl) (fun d _ _ _ _ h => by cases d <;> exact h) (fun oi ho K hK => ?_)
              simp only [List.getElem?_toArray, List.getElem?_cons_succ, List.getElem?_cons_zero, Option.some.injEq] at ho
              subst ho
              rw [if_pos (by kernel_rfl)]
              refine ⟨.int .i64 p, fun w' hw' => ?_, hK _ ?_⟩
              · obtain ⟨hxo, hx5, hxc⟩ := hw'
                have hx12 := hxo.three.2.2
                have hx52 := hx5.three.2.2
                go_simp
              clear hK K
              refine wpAnyZ_reads 6 cD7 (by kernel_rfl) (by kernel_rfl) (by kernel_rfl) (by kernel_rfl) (fun d _ _ _ _ h => by cases d <;> exact h) (fun oi ho K hK => ?_)
              simp only [List.getElem?_toArray, List.getElem?_cons_succ, List.getElem?_cons_zero, Option.some.injEq] at ho
              subst ho
              rw [if_pos (by kernel_rfl)]
              refine ⟨.pointer (some ⟨bv, offv + p * 3, none⟩), fun w' hw' => ?_, hK _ ?_⟩
              · obtain ⟨hxo, hx5, hxc⟩ := hw'
                have hx12 := hxo.three.2.2
                have hx52 := hx5.three.2.2
                go_simp
              clear hK K
              refine wpAnyZ_reads 7 cD7 (by kernel_rfl) (by kernel_rfl) (by kernel_rfl) (by kernel_rfl) (fun d _ _ _ _ h => by cases d <;> exact h) (fun oi ho K hK => ?_)
              simp only [List.getElem?_toArray, List.getElem?_cons_succ, List.getElem?_cons_zero, Option.some.injEq] at ho
              subst ho
              rw [if_pos (by kernel_rfl)]
              refine ⟨.pointer (some ⟨bv, offv + p * 3 + 1, none⟩), fun w' hw' => ?_, hK _ ?_⟩
              · obtain ⟨hxo, hx5, hxc⟩ := hw'
                have hx12 := hxo.three.2.2
                have hx52 := hx5.three.2.2
                go_simp
              clear hK K
              refine wpAnyZ_reads 8 cD7 (by kernel_rfl) (by kernel_rfl) (by kernel_rfl) (by kernel_rfl) (fun d _ _ _ _ h => by cases d <;> exact h) (fun oi ho K hK => ?_)
              simp only [List.getElem?_toArray, List.getElem?_cons_succ, List.getElem?_cons_zero, Option.some.injEq] at ho
              subst ho
              rw [if_pos (by kernel_rfl)]
              refine ⟨.int .i64 (vl vs p).2.1, fun w' hw' => ?_, hK _ ?_⟩
              · obtain ⟨hxo, hx5, hxc⟩ := hw'
                have hx12 := hxo.three.2.2
                have hx52 := hx5.three.2.2
                go_simp
              clear hK K
              refine wpAnyZ_reads 9 cD7 (by kernel_rfl) (by kernel_rfl) (by kernel_rfl) (by kernel_rfl) (fun d _ _ _ _ h => by cases d <;> exact h) (fun oi ho K hK => ?_)
              simp only [List.getElem?_toArray, List.getElem?_cons_succ, List.getElem?_cons_zero, Option.some.injEq] at ho
              subst ho
              rw [if_pos (by kernel_rfl)]
              refine ⟨.agg #[.int .i64 1, .int .i64 (vl vs p).2.1, .string ⟨#[]⟩], fun w' hw' => ?_, hK _ ?_⟩
              · obtain ⟨hxo, hx5, hxc⟩ := hw'
                have hx12 := hxo.three.2.2
                have hx52 := hx5.three.2.2
                go_simp
              clear hK K
              refine wpAnyZ_reads 10 cD7 (by kernel_rfl) (by kernel_rfl) (by kernel_rfl) (by kernel_rfl) (fun d _ _ _ _ h => by cases d <;> exact h) (fun oi ho K hK => ?_)
              simp only [List.getElem?_toArray, List.getElem?_cons_succ, List.getElem?_cons_zero, Option.some.injEq] at ho
              subst ho
              rw [if_pos (by kernel_rfl)]
              refine ⟨.pointer (some ⟨g1, p * 3, none⟩), fun w' hw' => ?_, hK _ ?_⟩
              · obtain ⟨hxo, hx5, hxc⟩ := hw'
                have hx12 := hxo.three.2.2
                have hx52 := hx5.three.2.2
                go_simp
              clear hK K

              have ef0 : W7.drew.cell? ⟨g1, p * 3, none⟩ = some (.int .i64 (vl vs p).1) := (hcell (p * 3) (by omega)).trans (newsV_at vs p hp).1
              have ef1 : W7.drew.cell? ⟨g1, p * 3 + 1, none⟩ = some (.int .i64 (vl vs p).2.1) := (hcell (p * 3 + 1) (by omega)).trans (newsV_at vs p hp).2.1
              have ef2 : W7.drew.cell? ⟨g1, p * 3 + 2, none⟩ = some (.string (vl vs p).2.2.1) := (hcell (p * 3 + 2) (by omega)).trans (newsV_at vs p hp).2.2
              have ff0 : W7.drew.frozen? ⟨g1, p * 3, none⟩ = false := hfrz _
              have fg0 : W7.frozen? ⟨g1, p * 3, none⟩ = false := hfrz _
              have ff1 : W7.drew.frozen? ⟨g1, p * 3 + 1, none⟩ = false := hfrz _
              have fg1 : W7.frozen? ⟨g1, p * 3 + 1, none⟩ = false := hfrz _
              have ff2 : W7.drew.frozen? ⟨g1, p * 3 + 2, none⟩ = false := hfrz _
              have fg2 : W7.frozen? ⟨g1, p * 3 + 2, none⟩ = false := hfrz _
              have eg0 : W7.cell? ⟨g1, p * 3, none⟩ = _ := ef0
              have eg1 : W7.cell? ⟨g1, p * 3 + 1, none⟩ = _ := ef1
              have eg2 : W7.cell? ⟨g1, p * 3 + 2, none⟩ = _ := ef2
              replace hcell := hide hcell
              replace hfrz := hide hfrz
              refine wpAnyZ_calls 11 (by kernel_rfl) (fun oi ho K hK => ?_)
              simp only [List.getElem?_toArray, List.getElem?_cons_succ, List.getElem?_cons_zero, Option.some.injEq] at ho
              subst ho

              go_simp
              refine hK _ _ (.inl rfl) ?_
              clear hK K
              refine wpAnyZ_done (by kernel_rfl) ?_ _
              go_upto_region 14 with fail
              have r8 := (((r7.other ⟨g1, p * 3, none⟩ (.int .i64 1) (by simp only; omega)).other ⟨g1, p * 3 + 1, none⟩ (.int .i64 (vl vs p).2.1) (by simp only; omega)).other ⟨g1, p * 3 + 2, none⟩ (.string ⟨#[]⟩) (by simp only; omega)).drew
              have o8 := (((o7.other ⟨g1, p * 3, none⟩ (.int .i64 1) neB).other ⟨g1, p * 3 + 1, none⟩ (.int .i64 (vl vs p).2.1) neB).other ⟨g1, p * 3 + 2, none⟩ (.string ⟨#[]⟩) neB).drew
              have b8 := (((b7.setCell (p := ⟨g1, p * 3, none⟩) (by simp only; omega) (.int .i64 1)).setCell (p := ⟨g1, p * 3 + 1, none⟩) (by simp only; omega) (.int .i64 (vl vs p).2.1)).setCell (p := ⟨g1, p * 3 + 2, none⟩) (by simp only; omega) (.string ⟨#[]⟩)).drew
              have own9 := owns_below (owns_putR (owns_putR (owns_putR (unhide own7) (p * 3) (by omega) (.int .i64 1)) (p * 3 + 1) (by omega) (.int .i64 (vl vs p).2.1)) (p * 3 + 2) (by omega) (.string ⟨#[]⟩)) (Below.refl _ _).drew
              rw [unhide hNn] at own9
              obtain ⟨W8, hW8⟩ : ∃ W8, W8 = (((W7.setCell ⟨g1, p * 3, none⟩ (.int .i64 1)).setCell ⟨g1, p * 3 + 1, none⟩ (.int .i64 (vl vs p).2.1)).setCell ⟨g1, p * 3 + 2, none⟩ (.string ⟨#[]⟩)).drew := ⟨_, rfl⟩
              rw [← hW8] at r8 o8 b8 own9 ⊢
              rw [unhide hNl] at own9 o8
              replace own9 := hide own9
              clear hW8 ef0 ef1 ef2 ff0 ff1 ff2 eg0 eg1 eg2 fg0 fg1 fg2 cD7 hNl

              have own9' := hide (owns_set (owns_set (owns_set (unhide own9) ⟨w.heap.size + 1 + 1 + 1, 0, none⟩ (.string t.1) (by simp only; omega)) ⟨w.heap.size + 1 + 1 + 1, 1, none⟩ (.int .i64 tm) (by simp only; omega)) ⟨w.heap.size + 1 + 1 + 1, 2, none⟩ (.slice (some ⟨g1, 0, none⟩) N.length c3) (by simp only; omega))
              have bz := hide (((b8.setCell (p := ⟨w.heap.size + 1 + 1 + 1, 0, none⟩) (by simp only; omega) (.string t.1)).setCell (p := ⟨w.heap.size + 1 + 1 + 1, 1, none⟩) (by simp only; omega) (.int .i64 tm)).setCell (p := ⟨w.heap.size + 1 + 1 + 1, 2, none⟩) (by simp only; omega) (.slice (some ⟨g1, 0, none⟩) N.length c3))
              obtain ⟨ho0, ho1, ho2⟩ := o8.three
              obtain ⟨hr0, hr1, hr2⟩ := r8.three
              have hf0 := r8.frz 0
              have hf1 := r8.frz 1
              have hf2 := r8.frz 2
              obtain ⟨u0, u1, u2⟩ := three_set (v0 := .string t.1) (v1 := .int .i64 tm) (v2 := .slice (some ⟨g1, 0, none⟩) N.length c3) hr0 hr1 hr2
              go_wp2_with fail
              obtain ⟨_, _, e9, V9, -⟩ := vals_of_owns (unhide own9')
              cases e9
              have fE : ∃ a' c', Ending.returned (.agg #[.string t.1, .int .i64 tm, .slice (some ⟨g1, 0, none⟩) N.length c3]) = Ending.returned (.agg #[.string t.1, .int .i64 tm, .slice a' N.length c']) ∧ Vals (((W8.setCell ⟨w.heap.size + 1 + 1 + 1, 0, none⟩ (.string t.1)).setCell ⟨w.heap.size + 1 + 1 + 1, 1, none⟩ (.int .i64 tm)).setCell ⟨w.heap.size + 1 + 1 + 1, 2, none⟩ (.slice (some ⟨g1, 0, none⟩) N.length c3)).heap.size (((W8.setCell ⟨w.heap.size + 1 + 1 + 1, 0, none⟩ (.string t.1)).setCell ⟨w.heap.size + 1 + 1 + 1, 1, none⟩ (.int .i64 tm)).setCell ⟨w.heap.size + 1 + 1 + 1, 2, none⟩ (.slice (some ⟨g1, 0, none⟩) N.length c3)) a' N ∧ Below w.heap.size w (((W8.setCell ⟨w.heap.size + 1 + 1 + 1, 0, none⟩ (.string t.1)).setCell ⟨w.heap.size + 1 + 1 + 1, 1, none⟩ (.int .i64 tm)).setCell ⟨w.heap.size + 1 + 1 + 1, 2, none⟩ (.slice (some ⟨g1, 0, none⟩) N.length c3)) := ⟨_, _, rfl, V9, unhide bz⟩
              exact bodyPost_ret (v := .agg #[.string t.1, .int .i64 tm, .slice (some ⟨g1, 0, none⟩) N.length c3]) (by simp [results, Tryz.results40, go_sem, u0, u1, u2]) rfl (by obtain ⟨a', c', h1, h2, h3⟩ := fE; first | exact ⟨a', ⟨c', h1⟩, h2, h3⟩ | exact ⟨a', c', h1, h2, h3⟩)
          · simp only [List.getElem?_toArray, List.getElem?_cons_succ, List.getElem?_cons_zero, Option.some.injEq] at ho
            subst ho
            have bF : Below V.heap.size V (V.alloc (.cells #[.string ⟨#[]⟩, .int .i64 0, .slice none 0 0] 28)) := (Below.refl _ _).alloc (Nat.le_refl _) _
            have obx0 := Box.new V 28 #[.string ⟨#[]⟩, .int .i64 0, .slice none 0 0]
            have cF := cD.on bF cD.lt
            go_simp
            refine hK _ _ (.inr cF) ?_
            clear hK K
            obtain ⟨Bo, hBo'⟩ : ∃ Bo, Bo = V.heap.size := ⟨_, rfl⟩
            have hBo : V.heap.size ≤ Bo := by rw [hBo']; exact Nat.le_refl _
            rw [← hBo'] at obx0 ⊢
            obtain ⟨w1, hw1'⟩ : ∃ w1, w1 = V.alloc (.cells #[.string ⟨#[]⟩, .int .i64 0, .slice none 0 0] 28) := ⟨_, rfl⟩
            rw [← hw1'] at obx0 bF cF ⊢
            clear hw1' hBo'
            refine wpAnyZ_calls 6 (by kernel_rfl) (fun oi ho K hK => ?_)
            simp only [List.getElem?_toArray, List.getElem?_cons_succ, List.getElem?_cons_zero, Option.some.injEq] at ho
            subst ho
            refine step_lies w1 (by rfl) (.const (.slice none 0 0)) (.tmp 55) 26 (by rfl) V.heap.size 40 j0 (.agg #[.int .i64 0, .int .i64 0, .string ⟨#[]⟩]) 3 32 Tryz.underlying26 hj0 hy0 hy1 hy2 (by rfl) (by decide) (.slice none 0 0) 0 [] ?q1 (World.ownsRow_nil _ _ _ _) av vs.length cv (newsV vs) ?q2 ((unhide lV).on bF) (newsV_one _) (by unfold maxLen; omega) (by omega) bF.size ?_
            case q1 => go_simp
            case q2 => go_simp
            intro v1 V2 ho1 hg1
            rw [Nat.zero_add, List.nil_append] at ho1
            obtain ⟨a3, c3, rfl, -, -⟩ := vals_of_owns ho1
            have b1 : Below w1.heap.size w1 V2 := (Below.refl _ _).grown hg1 (Nat.le_refl _) (fun j e => by cases e)
            have obx := obx0.on b1 obx0.lt
            have own3 := hide ho1
            have b3 := bF.trans (b1.mono bF.size)
            have cG := cD.on b3 cD.lt
            refine hK _ _ (.inr cG) ?_
            clear hK K hg1 ho1 b1 bF cF obx0
            refine wpAnyZ_reads 7 cG (by kernel_rfl) (by kernel_rfl) (by kernel_rfl) (by kernel_rfl) (fun d _ _ _ _ h => by cases d <;> exact h) (fun oi ho K hK => ?_)
            simp only [List.getElem?_toArray, List.getElem?_cons_succ, List.getElem?_cons_zero, Option.some.injEq] at ho
            subst ho
            rw [if_pos (by kernel_rfl)]
            refine ⟨.agg #[.string t.1, .int .i64 tm, .slice a3 vs.length c3], fun w' hw' => ?_, hK _ ?_⟩
            · clear hw'
              go_simp
            clear hK K
            have hz0 := (obx.three).1
            have hz1 := (obx.three).2.1
            have hz2 := (obx.three).2.2
            have hzf0 := obx.frz 0
            have hzf1 := obx.frz 1
            have hzf2 := obx.frz 2
            refine wpAnyZ_calls 9 (by kernel_rfl) (fun oi ho K hK => ?_)
            simp only [List.getElem?_toArray, List.getElem?_cons_succ, List.getElem?_cons_zero, Option.some.injEq] at ho
            subst ho

            go_simp
            refine hK _ _ (.inl rfl) ?_
            clear hK K hz0 hz1 hz2 hzf0 hzf1 hzf2 cG
            refine wpAnyZ_done (by kernel_rfl) ?_ _
            go_upto_region 7 with fail

            have lBo := obx.lt
            have o7 : Box (((V2.setCell ⟨Bo, 0, none⟩ (.string t.1)).setCell ⟨Bo, 1, none⟩ (.int .i64 tm)).setCell ⟨Bo, 2, none⟩ (.slice a3 vs.length c3)) Bo 28 #[.string t.1, .int .i64 tm, .slice a3 vs.length c3] := ((obx.set 0 (.string t.1)).set 1 (.int .i64 tm)).set 2 (.slice a3 vs.length c3)
            have own7 := set_other (i := 2) (set_other (i := 1) (set_other (i := 0) (unhide own3) obx (by decide) (.string t.1)) (obx.set 0 (.string t.1)) (by decide) (.int .i64 tm)) ((obx.set 0 (.string t.1)).set 1 (.int .i64 tm)) (by decide) (.slice a3 vs.length c3)
            have bVW := ((b3.setCell (p := ⟨Bo, 0, none⟩) hBo (.string t.1)).setCell (p := ⟨Bo, 1, none⟩) hBo (.int .i64 tm)).setCell (p := ⟨Bo, 2, none⟩) hBo (.slice a3 vs.length c3)
            obtain ⟨W7, hW7⟩ : ∃ W7, W7 = ((V2.setCell ⟨Bo, 0, none⟩ (.string t.1)).setCell ⟨Bo, 1, none⟩ (.int .i64 tm)).setCell ⟨Bo, 2, none⟩ (.slice a3 vs.length c3) := ⟨_, rfl⟩

            rw [← hW7] at o7 own7 bVW ⊢
            have q47 := (x4.on bV0 x4.lt).on bVW (by have := x4.lt; have := bV0.size; omega)
            have q57 := (x5.on bV0 x5.lt).on bVW (by have := x5.lt; have := bV0.size; omega)
            have r7 := (x6.on bV0 x6.lt).on bVW (by have := x6.lt; have := bV0.size; omega)
            have b7 := bwV.trans (bVW.mono bwV.size)
            have sV7 := bVW.size
            replace own7 := hide own7
            clear hW7 obx own3

            rcases unhide hk4 with rfl | rfl | rfl | rfl
            · have hNv : N = vs ++ [(dk, dn, ds)] := by rw [unhide eN, vNew_one (unhide hEv) (unhide hkN) rfl]
              have hNl : N.length = vs.length + 1 := by rw [hNv]; simp
              have hNn : newsV vs ++ [.int .i64 dk, .int .i64 dn, .string ds.1] = newsV N := by rw [hNv, newsV_append]; rfl
              replace hNn := hide hNn
              clear hNv
              obtain ⟨hc0, hc1, hc2, hc3, hc4, hc5, hc6⟩ := q47.seven
              obtain ⟨ho0, ho1, ho2⟩ := o7.three
              have nBo : some Bo ≠ (Value.slice a3 vs.length c3).ownBlock := fun e => by obtain ⟨_, cur, h⟩ := owns_lt (unhide own7) e.symm; exact box_ne o7 h (by decide) rfl
              have lo : ∀ q, (Value.slice a3 vs.length c3).ownBlock = some q → V.heap.size ≤ q := fun q hq => (owns_lt (unhide own7) hq).1
              have n6 : some (w.heap.size + 1 + 1 + 1) ≠ (Value.slice a3 vs.length c3).ownBlock := fun e => by have := lo _ e.symm; omega
              have lB := o7.lt
              have l6 := r7.lt
              replace nBo := hide nBo
              replace lo := hide lo
              replace n6 := hide n6
              go_upto_region 14 with (at_builtin; go_must (refine wpList_append_own _ rfl _ _ 26 rfl V.heap.size 40 j0 (.agg #[.int .i64 0, .int .i64 0, .string ⟨#[]⟩]) 3 32 Tryz.underlying26 hj0 hy0 hy1 hy2 rfl (by decide) (.slice a3 vs.length c3) vs.length (newsV vs) rfl (owns_below (unhide own7) ((Below.refl _ _).alloc (Nat.le_refl _) (.cells #[.int .i64 dk, .int .i64 dn, .string ds.1] 40))) ⟨W7.heap.size, 0, none⟩ 1 1 [.int .i64 dk, .int .i64 dn, .string ds.1] rfl rfl (cell_three_new _ _ _ _ _) (by simp [Value.oneCell']) (by unfold maxLen; omega) (by omega) (by simp; omega) ?_); intro v' w2 hown hgrow _; obtain ⟨g2, cap2, rfl⟩ := ownsRow_succ hown; have y10 : Box w2 Bo 28 #[.string t.1, .int .i64 tm, .slice a3 vs.length c3] := (hgrow.block _ (by simp; omega) (unhide nBo)).trans (o7.alloc _); obtain ⟨hk0, hk1, hk2⟩ := y10.three; have hkf := y10.frz 2; replace hown := hide hown; replace hgrow := hide hgrow)
              replace hown := unhide hown
              replace hgrow := unhide hgrow
              rw [unhide hNn, ← hNl] at hown
              rw [← hNl]
              have y6 : Box w2 (w.heap.size + 1 + 1 + 1) 28 _ := (hgrow.block _ (by simp; omega) (unhide n6)).trans (r7.alloc _)
              have r8 := y6.other ⟨Bo, 2, none⟩ (.slice (some ⟨g2, 0, none⟩) N.length cap2) (by simp only; omega)
              have o8 : Box (w2.setCell ⟨Bo, 2, none⟩ (.slice (some ⟨g2, 0, none⟩) N.length cap2)) Bo 28 #[.string t.1, .int .i64 tm, .slice (some ⟨g2, 0, none⟩) N.length cap2] := y10.set 2 _
              have b8 := ((b7.alloc (by omega) (.cells #[.int .i64 dk, .int .i64 dn, .string ds.1] 40)).grown hgrow (by simp; omega) (fun q e => Nat.le_trans (by omega) (unhide lo q e))).setCell (p := ⟨Bo, 2, none⟩) (by simp only; omega) (.slice (some ⟨g2, 0, none⟩) N.length cap2)
              have own9 := set_other (i := 2) hown y10 (by decide) (.slice (some ⟨g2, 0, none⟩) N.length cap2)
              obtain ⟨W8, hW8⟩ : ∃ W8, W8 = w2.setCell ⟨Bo, 2, none⟩ (.slice (some ⟨g2, 0, none⟩) N.length cap2) := ⟨_, rfl⟩
              rw [← hW8] at r8 o8 b8 own9 ⊢
              replace own9 := hide own9
              clear hW8 hown hgrow y6 y10 hk0 hk1 hk2 hkf hNl ho0 ho1 ho2 hc0 hc1 hc2 hc3 hc4 hc5 hc6

              have own9' := hide (owns_set (owns_set (owns_set (unhide own9) ⟨w.heap.size + 1 + 1 + 1, 0, none⟩ (.string t.1) (by simp only; omega)) ⟨w.heap.size + 1 + 1 + 1, 1, none⟩ (.int .i64 tm) (by simp only; omega)) ⟨w.heap.size + 1 + 1 + 1, 2, none⟩ (.slice (some ⟨g2, 0, none⟩) N.length cap2) (by simp only; omega))
              have bz := hide (((b8.setCell (p := ⟨w.heap.size + 1 + 1 + 1, 0, none⟩) (by simp only; omega) (.string t.1)).setCell (p := ⟨w.heap.size + 1 + 1 + 1, 1, none⟩) (by simp only; omega) (.int .i64 tm)).setCell (p := ⟨w.heap.size + 1 + 1 + 1, 2, none⟩) (by simp only; omega) (.slice (some ⟨g2, 0, none⟩) N.length cap2))
              obtain ⟨ho0, ho1, ho2⟩ := o8.three
              obtain ⟨hr0, hr1, hr2⟩ := r8.three
              have hf0 := r8.frz 0
              have hf1 := r8.frz 1
              have hf2 := r8.frz 2
              obtain ⟨u0, u1, u2⟩ := three_set (v0 := .string t.1) (v1 := .int .i64 tm) (v2 := .slice (some ⟨g2, 0, none⟩) N.length cap2) hr0 hr1 hr2
              go_wp2_with fail
              obtain ⟨_, _, e9, V9, -⟩ := vals_of_owns (unhide own9')
              cases e9
              have fE : ∃ a' c', Ending.returned (.agg #[.string t.1, .int .i64 tm, .slice (some ⟨g2, 0, none⟩) N.length cap2]) = Ending.returned (.agg #[.string t.1, .int .i64 tm, .slice a' N.length c']) ∧ Vals (((W8.setCell ⟨w.heap.size + 1 + 1 + 1, 0, none⟩ (.string t.1)).setCell ⟨w.heap.size + 1 + 1 + 1, 1, none⟩ (.int .i64 tm)).setCell ⟨w.heap.size + 1 + 1 + 1, 2, none⟩ (.slice (some ⟨g2, 0, none⟩) N.length cap2)).heap.size (((W8.setCell ⟨w.heap.size + 1 + 1 + 1, 0, none⟩ (.string t.1)).setCell ⟨w.heap.size + 1 + 1 + 1, 1, none⟩ (.int .i64 tm)).setCell ⟨w.heap.size + 1 + 1 + 1, 2, none⟩ (.slice (some ⟨g2, 0, none⟩) N.length cap2)) a' N ∧ Below w.heap.size w (((W8.setCell ⟨w.heap.size + 1 + 1 + 1, 0, none⟩ (.string t.1)).setCell ⟨w.heap.size + 1 + 1 + 1, 1, none⟩ (.int .i64 tm)).setCell ⟨w.heap.size + 1 + 1 + 1, 2, none⟩ (.slice (some ⟨g2, 0, none⟩) N.length cap2)) := ⟨_, _, rfl, V9, unhide bz⟩
              exact bodyPost_ret (v := .agg #[.string t.1, .int .i64 tm, .slice (some ⟨g2, 0, none⟩) N.length cap2]) (by simp [results, Tryz.results40, go_sem, u0, u1, u2]) rfl (by obtain ⟨a', c', h1, h2, h3⟩ := fE; first | exact ⟨a', ⟨c', h1⟩, h2, h3⟩ | exact ⟨a', c', h1, h2, h3⟩)
            · obtain ⟨p, hFq, hfp, hp⟩ := unhide hpl (by decide)
              subst hFq
              have hNv : N = vs.take p ++ vs.drop (p + 1) := by rw [unhide eN, vNew_two (unhide hEv) (hS.2 i hi).2.2 (unhide hfp) (unhide hkN) rfl]
              have hNl : vs.length - 1 = N.length := by rw [hNv]; simp; omega
              have hNn : (newsV vs).take (p * 3) ++ (newsV vs).drop ((p + 1) * 3) = newsV N := by rw [hNv, newsV_append, newsV_take, newsV_drop]
              replace hNn := hide hNn
              clear hNv
              obtain ⟨hc0, hc1, hc2, hc3, hc4, hc5, hc6⟩ := q47.seven
              obtain ⟨g1, e1, hg1b, hg1l, hnc, ⟨cur1, hg1⟩, -, -⟩ := owns_cells (unhide own7) (by omega)
              subst e1
              have neB := box_ne o7 hg1 (by decide)
              have lB := o7.lt
              have l6 := r7.lt
              have hw1 : IntKind.i64.wrap ((p : Int) + 1) = p + 1 := by rw [IntKind.wrap_i64]; omega
              obtain ⟨ad2, had2⟩ : ∃ ad2 : Addr, (if c3 = p + 1 then some (⟨g1, 0, none⟩ : Addr) else some ⟨g1, (p + 1) * 3, none⟩) = some ad2 ∧ (ad2 = ⟨g1, (p + 1) * 3, none⟩ ∨ vs.length = p + 1) := by
                by_cases h : c3 = p + 1
                · rw [if_pos h]; exact ⟨_, rfl, .inr (by omega)⟩
                · rw [if_neg h]; exact ⟨_, rfl, .inl rfl⟩
              replace had2 := hide had2
              have cD7 := o7.drew
              go_upto_region 11 with fail
              clear hc0 hc1 hc2 hc3 hc4 hc5 hc6
              refine wp_region_any hmx (wpAny_of_Z (z := 11) (C := fun w' => Box w' Bo 28 #[.string t.1, .int .i64 tm, .slice (some ⟨g1, 0, none⟩) vs.length c3]) _ _ _ _ ?_)
              refine wpAnyZ_reads 0 cD7 (by kernel_rfl) (by kernel_rfl) (by kernel_rfl) (by kernel_rfl) (fun d _ _ _ _ h => by cases d <;> exact h) (fun oi ho K hK => ?_)
              simp only [List.getElem?_toArray, List.getElem?_cons_zero, Option.some.injEq] at ho
              subst ho
              rw [if_pos (by kernel_rfl)]
              refine ⟨.pointer (some ⟨Bo, 2, none⟩), fun w' hw' => ?_, hK _ ?_⟩
              · have hx12 := hw'.three.2.2
                go_simp
              clear hK K
              refine wpAnyZ_reads 1 cD7 (by kernel_rfl) (by kernel_rfl) (by kernel_rfl) (by kernel_rfl) (fun d _ _ _ _ h => by cases d <;> exact h) (fun oi ho K hK => ?_)
              simp only [List.getElem?_toArray, List.getElem?_cons_succ, List.getElem?_cons_zero, Option.some.injEq] at ho
              subst ho
              rw [if_pos (by kernel_rfl)]
              refine ⟨.slice (some ⟨g1, 0, none⟩) vs.length c3, fun w' hw' => ?_, hK _ ?_⟩
              · have hx12 := hw'.three.2.2
                go_simp
              clear hK K
              refine wpAnyZ_reads 2 cD7 (by kernel_rfl) (by kernel_rfl) (by kernel_rfl) (by kernel_rfl) (fun d _ _ _ _ h => by cases d <;> exact h) (fun oi ho K hK => ?_)
              simp only [List.getElem?_toArray, List.getElem?_cons_succ, List.getElem?_cons_zero, Option.some.injEq] at ho
              subst ho
              rw [if_pos (by kernel_rfl)]
              refine ⟨.int .i64 p, fun w' hw' => ?_, hK _ ?_⟩
              · have hx12 := hw'.three.2.2
                go_simp
              clear hK K
              refine wpAnyZ_reads 3 cD7 (by kernel_rfl) (by kernel_rfl) (by kernel_rfl) (by kernel_rfl) (fun d _ _ _ _ h => by cases d <;> exact h) (fun oi ho K hK => ?_)
              simp only [List.getElem?_toArray, List.getElem?_cons_succ, List.getElem?_cons_zero, Option.some.injEq] at ho
              subst ho
              rw [if_pos (by kernel_rfl)]
              refine ⟨.slice (some ⟨g1, 0, none⟩) p c3, fun w' hw' => ?_, hK _ ?_⟩
              · have hx12 := hw'.three.2.2
                go_simp
                try (intro h; omega)
              clear hK K
              refine wpAnyZ_reads 4 cD7 (by kernel_rfl) (by kernel_rfl) (by kernel_rfl) (by kernel_rfl) (fun d _ _ _ _ h => by cases d <;> exact h) (fun oi ho K hK => ?_)
              simp only [List.getElem?_toArray, List.getElem?_cons_succ, List.getElem?_cons_zero, Option.some.injEq] at ho
              subst ho
              rw [if_pos (by kernel_rfl)]
              refine ⟨.pointer (some ⟨Bo, 2, none⟩), fun w' hw' => ?_, hK _ ?_⟩
              · have hx12 := hw'.three.2.2
                go_simp
              clear hK K
              refine wpAnyZ_reads 5 cD7 (by kernel_rfl) (by kernel_rfl) (by kernel_rfl) (by kernel_rfl) (fun d _ _ _ _ h => by cases d <;> exact h) (fun oi ho K hK => ?_)
              simp only [List.getElem?_toArray, List.getElem?_cons_succ, List.getElem?_cons_zero, Option.some.injEq] at ho
              subst ho
              rw [if_pos (by kernel_rfl)]
              refine ⟨.slice (some ⟨g1, 0, none⟩) vs.length c3, fun w' hw' => ?_, hK _ ?_⟩
              · have hx12 := hw'.three.2.2
                go_simp
              clear hK K
              refine wpAnyZ_reads 6 cD7 (by kernel_rfl) (by kernel_rfl) (by kernel_rfl) (by kernel_rfl) (fun d _ _ _ _ h => by cases d <;> exact h) (fun oi ho K hK => ?_)
              simp only [List.getElem?_toArray, List.getElem?_cons_succ, List.getElem?_cons_zero, Option.some.injEq] at ho
              subst ho
              rw [if_pos (by kernel_rfl)]
              refine ⟨.int .i64 p, fun w' hw' => ?_, hK _ ?_⟩
              · have hx12 := hw'.three.2.2
                go_simp
              clear hK K
              refine wpAnyZ_reads 7 cD7 (by kernel_rfl) (by kernel_rfl) (by kernel_rfl) (by kernel_rfl) (fun d _ _ _ _ h => by cases d <;> exact h) (fun oi ho K hK => ?_)
              simp only [List.getElem?_toArray, List.getElem?_cons_succ, List.getElem?_cons_zero, Option.some.injEq] at ho
              subst ho
              rw [if_pos (by kernel_rfl)]
              refine ⟨.int .i64 ((p : Int) + 1), fun w' hw' => ?_, hK _ ?_⟩
              · have hx12 := hw'.three.2.2
                go_simp
              clear hK K
              refine wpAnyZ_reads 8 cD7 (by kernel_rfl) (by kernel_rfl) (by kernel_rfl) (by kernel_rfl) (fun d _ _ _ _ h => by cases d <;> exact h) (fun oi ho K hK => ?_)
              simp only [List.getElem?_toArray, List.getElem?_cons_succ, List.getElem?_cons_zero, Option.some.injEq] at ho
              subst ho
              rw [if_pos (by kernel_rfl)]
              refine ⟨.slice (some ad2) (vs.length - (p + 1)) (c3 - (p + 1)), fun w' hw' => ?_, hK _ ?_⟩
              · have hx12 := hw'.three.2.2
                go_simp
                first | rw [if_pos ⟨by omega, by omega⟩, (unhide had2).1] | rw [(unhide had2).1] | rw [if_pos ⟨by omega, by omega⟩]
              clear hK K
              refine wpAnyZ_calls 9 (by kernel_rfl) (fun oi ho K hK => ?_)
              simp only [List.getElem?_toArray, List.getElem?_cons_succ, List.getElem?_cons_zero, Option.some.injEq] at ho
              subst ho

              refine step_shift W7.drew (by rfl) (.tmp 74) (.tmp 79) 26 (by rfl) V.heap.size 40 j0 3 Tryz.underlying26 hj0 hy1 g1 vs.length c3 (newsV vs) (owns_below (unhide own7) (Below.refl _ _).drew) p hp ad2 (unhide had2).2 (c3 - (p + 1)) (newsV_one _) ?q1 ?q2 ?_
              case q1 => go_simp
              case q2 => go_simp
              intro w2 hown hgrow
              have y10 : Box w2 Bo 28 #[.string t.1, .int .i64 tm, .slice (some ⟨g1, 0, none⟩) vs.length c3] := (hgrow.block _ (by simp; omega) (fun e => by cases e; omega)).trans cD7
              refine hK _ _ (.inr y10) ?_
              clear hK K
              rw [unhide hNn, hNl] at hown
              rw [hNl]
              replace hown := hide hown
              replace hgrow := hide hgrow
              have hkf := y10.frz 2
              obtain ⟨hk0, hk1, hk2⟩ := y10.three
              refine wpAnyZ_reads 10 y10 (by kernel_rfl) (by kernel_rfl) (by kernel_rfl) (by kernel_rfl) (fun d _ _ _ _ h => by cases d <;> exact h) (fun oi ho K hK => ?_)
              simp only [List.getElem?_toArray, List.getElem?_cons_succ, List.getElem?_cons_zero, Option.some.injEq] at ho
              subst ho
              rw [if_pos (by kernel_rfl)]
              refine ⟨.pointer (some ⟨Bo, 2, none⟩), fun w' hw' => ?_, hK _ ?_⟩
              · clear hw'
                go_simp
              clear hK K
              refine wpAnyZ_calls 11 (by kernel_rfl) (fun oi ho K hK => ?_)
              simp only [List.getElem?_toArray, List.getElem?_cons_succ, List.getElem?_cons_zero, Option.some.injEq] at ho
              subst ho

              go_simp
              refine hK _ _ (.inl rfl) ?_
              clear hK K
              refine wpAnyZ_done (by kernel_rfl) ?_ _
              go_upto_region 14 with fail
              replace hown := unhide hown
              replace hgrow := unhide hgrow
              have y6 : Box w2 (w.heap.size + 1 + 1 + 1) 28 _ := (hgrow.block _ (by simp; omega) (fun e => by cases e; omega)).trans r7.drew
              have r8 := y6.other ⟨Bo, 2, none⟩ (.slice (some ⟨g1, 0, none⟩) N.length c3) (by simp only; omega)
              have o8 : Box (w2.setCell ⟨Bo, 2, none⟩ (.slice (some ⟨g1, 0, none⟩) N.length c3)) Bo 28 #[.string t.1, .int .i64 tm, .slice (some ⟨g1, 0, none⟩) N.length c3] := y10.set 2 _
              have b8 := (b7.drew.grown hgrow (by simp; omega) (fun q e => by cases e; omega)).setCell (p := ⟨Bo, 2, none⟩) (by simp only; omega) (.slice (some ⟨g1, 0, none⟩) N.length c3)
              have own9 := set_other (i := 2) hown y10 (by decide) (.slice (some ⟨g1, 0, none⟩) N.length c3)
              obtain ⟨W8, hW8⟩ : ∃ W8, W8 = w2.setCell ⟨Bo, 2, none⟩ (.slice (some ⟨g1, 0, none⟩) N.length c3) := ⟨_, rfl⟩
              rw [← hW8] at r8 o8 b8 own9 ⊢
              replace own9 := hide own9
              clear hW8 hown hgrow y6 y10 hk0 hk1 hk2 hkf hNl cD7

              have own9' := hide (owns_set (owns_set (owns_set (unhide own9) ⟨w.heap.size + 1 + 1 + 1, 0, none⟩ (.string t.1) (by simp only; omega)) ⟨w.heap.size + 1 + 1 + 1, 1, none⟩ (.int .i64 tm) (by simp only; omega)) ⟨w.heap.size + 1 + 1 + 1, 2, none⟩ (.slice (some ⟨g1, 0, none⟩) N.length c3) (by simp only; omega))
              have bz := hide (((b8.setCell (p := ⟨w.heap.size + 1 + 1 + 1, 0, none⟩) (by simp only; omega) (.string t.1)).setCell (p := ⟨w.heap.size + 1 + 1 + 1, 1, none⟩) (by simp only; omega) (.int .i64 tm)).setCell (p := ⟨w.heap.size + 1 + 1 + 1, 2, none⟩) (by simp only; omega) (.slice (some ⟨g1, 0, none⟩) N.length c3))
              obtain ⟨ho0, ho1, ho2⟩ := o8.three
              obtain ⟨hr0, hr1, hr2⟩ := r8.three
              have hf0 := r8.frz 0
              have hf1 := r8.frz 1
              have hf2 := r8.frz 2
              obtain ⟨u0, u1, u2⟩ := three_set (v0 := .string t.1) (v1 := .int .i64 tm) (v2 := .slice (some ⟨g1, 0, none⟩) N.length c3) hr0 hr1 hr2
              go_wp2_with fail
              obtain ⟨_, _, e9, V9, -⟩ := vals_of_owns (unhide own9')
              cases e9
              have fE : ∃ a' c', Ending.returned (.agg #[.string t.1, .int .i64 tm, .slice (some ⟨g1, 0, none⟩) N.length c3]) = Ending.returned (.agg #[.string t.1, .int .i64 tm, .slice a' N.length c']) ∧ Vals (((W8.setCell ⟨w.heap.size + 1 + 1 + 1, 0, none⟩ (.string t.1)).setCell ⟨w.heap.size + 1 + 1 + 1, 1, none⟩ (.int .i64 tm)).setCell ⟨w.heap.size + 1 + 1 + 1, 2, none⟩ (.slice (some ⟨g1, 0, none⟩) N.length c3)).heap.size (((W8.setCell ⟨w.heap.size + 1 + 1 + 1, 0, none⟩ (.string t.1)).setCell ⟨w.heap.size + 1 + 1 + 1, 1, none⟩ (.int .i64 tm)).setCell ⟨w.heap.size + 1 + 1 + 1, 2, none⟩ (.slice (some ⟨g1, 0, none⟩) N.length c3)) a' N ∧ Below w.heap.size w (((W8.setCell ⟨w.heap.size + 1 + 1 + 1, 0, none⟩ (.string t.1)).setCell ⟨w.heap.size + 1 + 1 + 1, 1, none⟩ (.int .i64 tm)).setCell ⟨w.heap.size + 1 + 1 + 1, 2, none⟩ (.slice (some ⟨g1, 0, none⟩) N.length c3)) := ⟨_, _, rfl, V9, unhide bz⟩
              exact bodyPost_ret (v := .agg #[.string t.1, .int .i64 tm, .slice (some ⟨g1, 0, none⟩) N.length c3]) (by simp [results, Tryz.results40, go_sem, u0, u1, u2]) rfl (by obtain ⟨a', c', h1, h2, h3⟩ := fE; first | exact ⟨a', ⟨c', h1⟩, h2, h3⟩ | exact ⟨a', c', h1, h2, h3⟩)
            · have hNv : N = vs := by rw [unhide eN, vNew_three (unhide hEv) rfl]
              subst hNv
              have own9 := own7
              have b8 := b7
              have o8 := o7
              have r8 := r7
              obtain ⟨hc0, hc1, hc2, hc3, hc4, hc5, hc6⟩ := q47.seven

              have own9' := hide (owns_set (owns_set (owns_set (unhide own9) ⟨w.heap.size + 1 + 1 + 1, 0, none⟩ (.string t.1) (by simp only; omega)) ⟨w.heap.size + 1 + 1 + 1, 1, none⟩ (.int .i64 tm) (by simp only; omega)) ⟨w.heap.size + 1 + 1 + 1, 2, none⟩ (.slice a3 N.length c3) (by simp only; omega))
              have bz := hide (((b8.setCell (p := ⟨w.heap.size + 1 + 1 + 1, 0, none⟩) (by simp only; omega) (.string t.1)).setCell (p := ⟨w.heap.size + 1 + 1 + 1, 1, none⟩) (by simp only; omega) (.int .i64 tm)).setCell (p := ⟨w.heap.size + 1 + 1 + 1, 2, none⟩) (by simp only; omega) (.slice a3 N.length c3))
              obtain ⟨ho0, ho1, ho2⟩ := o8.three
              obtain ⟨hr0, hr1, hr2⟩ := r8.three
              have hf0 := r8.frz 0
              have hf1 := r8.frz 1
              have hf2 := r8.frz 2
              obtain ⟨u0, u1, u2⟩ := three_set (v0 := .string t.1) (v1 := .int .i64 tm) (v2 := .slice a3 N.length c3) hr0 hr1 hr2
              go_wp2_with fail
              obtain ⟨_, _, e9, V9, -⟩ := vals_of_owns (unhide own9')
              cases e9
              have fE : ∃ a' c', Ending.returned (.agg #[.string t.1, .int .i64 tm, .slice a3 N.length c3]) = Ending.returned (.agg #[.string t.1, .int .i64 tm, .slice a' N.length c']) ∧ Vals (((W7.setCell ⟨w.heap.size + 1 + 1 + 1, 0, none⟩ (.string t.1)).setCell ⟨w.heap.size + 1 + 1 + 1, 1, none⟩ (.int .i64 tm)).setCell ⟨w.heap.size + 1 + 1 + 1, 2, none⟩ (.slice a3 N.length c3)).heap.size (((W7.setCell ⟨w.heap.size + 1 + 1 + 1, 0, none⟩ (.string t.1)).setCell ⟨w.heap.size + 1 + 1 + 1, 1, none⟩ (.int .i64 tm)).setCell ⟨w.heap.size + 1 + 1 + 1, 2, none⟩ (.slice a3 N.length c3)) a' N ∧ Below w.heap.size w (((W7.setCell ⟨w.heap.size + 1 + 1 + 1, 0, none⟩ (.string t.1)).setCell ⟨w.heap.size + 1 + 1 + 1, 1, none⟩ (.int .i64 tm)).setCell ⟨w.heap.size + 1 + 1 + 1, 2, none⟩ (.slice a3 N.length c3)) := ⟨_, _, rfl, V9, unhide bz⟩
              exact bodyPost_ret (v := .agg #[.string t.1, .int .i64 tm, .slice a3 N.length c3]) (by simp [results, Tryz.results40, go_sem, u0, u1, u2]) rfl (by obtain ⟨a', c', h1, h2, h3⟩ := fE; first | exact ⟨a', ⟨c', h1⟩, h2, h3⟩ | exact ⟨a', c', h1, h2, h3⟩)
            · obtain ⟨p, hFq, hfp, hp⟩ := unhide hpl (by decide)
              subst hFq
              have hNv : N = vs.set p (1, (vl vs p).2) := by rw [unhide eN, vNew_four (unhide hEv) (hS.2 i hi).2.2 (unhide hfp) (unhide hkN) rfl]
              have hNl : vs.length = N.length := by rw [hNv, List.length_set]
              replace hNl := hide hNl
              have hemp : (vl vs p).2.2.1 = ⟨#[]⟩ := by
                have h1 := (unhide hEv).val _ (show vl vs p ∈ vs by simp [vl, hp])
                have h2 := (unhide hEv).kind p (by rw [← (unhide hEv).len]; exact hp)
                have h3 : (fd (ty ts i).2 p).2 = 3 := by
                  have := unhide hRz
                  simp only [refE, unhide hpc] at this
                  split at this
                  · simp only [show ((4 : Int) = 5) = False by simp, show ((4 : Int) = 1) = False by simp, if_false, atE, unhide hfp, show ((4 : Int) = 3) = False by simp, if_true] at this
                    by_cases h : (fd (ty ts i).2 p).2 = 3
                    · exact h
                    · rw [if_neg h] at this; omega
                  · omega
                rw [h2, h3] at h1
                simp only [isB, show ((3 : Int) = 1) = False by simp, show ((3 : Int) = 2) = False by simp, if_false, if_true, Bool.and_eq_true] at h1
                have h4 := h1.2
                rw [ByteArray.toList_eq] at h4
                cases hb : (vl vs p).2.2.1 with
                | mk d =>
                  rw [hb] at h4
                  congr 1
                  exact Array.toList_eq_nil_iff.1 (List.isEmpty_iff.1 h4)
              have hNn : (((newsV vs).set (p * 3) (.int .i64 1)).set (p * 3 + 1) (.int .i64 (vl vs p).2.1)).set (p * 3 + 2) (.string ⟨#[]⟩) = newsV N := by rw [hNv, newsV_set vs p hp, hemp]
              replace hNn := hide hNn
              clear hNv hemp
              obtain ⟨hc0, hc1, hc2, hc3, hc4, hc5, hc6⟩ := q47.seven
              obtain ⟨g1, e1, hg1b, hg1l, hnc, ⟨cur1, hg1⟩, hcell, hfrz⟩ := owns_cells (unhide own7) (by omega)
              subst e1
              obtain ⟨bv, offv, eav, hlv, hcv'⟩ : ∃ b off, av = some ⟨b, off, none⟩ ∧ b < W0.heap.size ∧ W0.cell? ⟨b, off + p * 3 + 1, none⟩ = some (.int .i64 (vl vs p).2.1) := by
                rcases V0 with h | ⟨b, off, e, hb, hc⟩
                · rw [h] at hp; simp at hp
                · exact ⟨b, off, e, hb, (hc p hp).2.1⟩
              subst eav
              have neB := box_ne o7 hg1 (by decide)
              have lB := o7.lt
              have l6 := r7.lt
              have l5 := x5.lt
              have hcvV := (bV0.cell (p := ⟨bv, offv + p * 3 + 1, none⟩) hlv).trans hcv'
              have hcv7 := (bVW.cell (p := ⟨bv, offv + p * 3 + 1, none⟩) (Nat.lt_of_lt_of_le hlv bV0.size)).trans hcvV
              have cD7 : Box W7.drew Bo 28 #[.string t.1, .int .i64 tm, .slice (some ⟨g1, 0, none⟩) vs.length c3] ∧ Box W7.drew (w.heap.size + 1 + 1) 28 #[.string t.1, .int .i64 tm, .slice (some ⟨bv, offv, none⟩) vs.length cv] ∧ W7.drew.cell? ⟨bv, offv + p * 3 + 1, none⟩ = some (.int .i64 (vl vs p).2.1) := ⟨o7.drew, q57.drew, hcv7⟩
              go_upto_region 13 with fail
              clear hc0 hc1 hc2 hc3 hc4 hc5 hc6
              refine wp_region_any hmx (wpAny_of_Z (z := 11) (C := fun w' => Box w' Bo 28 #[.string t.1, .int .i64 tm, .slice (some ⟨g1, 0, none⟩) vs.length c3] ∧ Box w' (w.heap.size + 1 + 1) 28 #[.string t.1, .int .i64 tm, .slice (some ⟨bv, offv, none⟩) vs.length cv] ∧ w'.cell? ⟨bv, offv + p * 3 + 1, none⟩ = some (.int .i64 (vl vs p).2.1)) _ _ _ _ ?_)
              refine wpAnyZ_reads 0 cD7 (by kernel_rfl) (by kernel_rfl) (by kernel_rfl) (by kernel_rfl) (fun d _ _ _ _ h => by cases d <;> exact h) (fun oi ho K hK => ?_)
              simp only [List.getElem?_toArray, List.getElem?_cons_zero, Option.some.injEq] at ho
              subst ho
              rw [if_pos (by kernel_rfl)]
              refine ⟨.pointer (some ⟨Bo, 2, none⟩), fun w' hw' => ?_, hK _ ?_⟩
              · obtain ⟨hxo, hx5, hxc⟩ := hw'
                have hx12 := hxo.three.2.2
                have hx52 := hx5.three.2.2
                go_simp
              clear hK K
              refine wpAnyZ_reads 1 cD7 (by kernel_rfl) (by kernel_rfl) (by kernel_rfl) (by kernel_rfl) (fun d _ _ _ _ h => by cases d <;> exact h) (fun oi ho K hK => ?_)
              simp only [List.getElem?_toArray, List.getElem?_cons_succ, List.getElem?_cons_zero, Option.some.injEq] at ho
              subst ho
              rw [if_pos (by kernel_rfl)]
              refine ⟨.slice (some ⟨g1, 0, none⟩) vs.length c3, fun w' hw' => ?_, hK _ ?_⟩
              · obtain ⟨hxo, hx5, hxc⟩ := hw'
                have hx12 := hxo.three.2.2
                have hx52 := hx5.three.2.2
                go_simp
              clear hK K
              refine wpAnyZ_reads 2 cD7 (by kernel_rfl) (by kernel_rfl) (by kernel_rfl) (by kernel_rfl) (fun d _ _ _ _ h => by cases d <;> exact h) (fun oi ho K hK => ?_)
              simp only [List.getElem?_toArray, List.getElem?_cons_succ, List.getElem?_cons_zero, Option.some.injEq] at ho
              subst ho
              rw [if_pos (by kernel_rfl)]
              refine ⟨.int .i64 p, fun w' hw' => ?_, hK _ ?_⟩
              · obtain ⟨hxo, hx5, hxc⟩ := hw'
                have hx12 := hxo.three.2.2
                have hx52 := hx5.three.2.2
                go_simp
              clear hK K
              refine wpAnyZ_reads 3 cD7 (by kernel_rfl) (by kernel_rfl) (by kernel_rfl) (by kernel_rfl) (fun d _ _ _ _ h => by cases d <;> exact h) (fun oi ho K hK => ?_)
              simp only [List.getElem?_toArray, List.getElem?_cons_succ, List.getElem?_cons_zero, Option.some.injEq] at ho
              subst ho
              rw [if_pos (by kernel_rfl)]
              refine ⟨.pointer (some ⟨w.heap.size + 1 + 1, 2, none⟩), fun w' hw' => ?_, hK _ ?_⟩
              · obtain ⟨hxo, hx5, hxc⟩ := hw'
                have hx12 := hxo.three.2.2
                have hx52 := hx5.three.2.2
                go_simp
              clear hK K
              refine wpAnyZ_reads 4 cD7 (by kernel_rfl) (by kernel_rfl) (by kernel_rfl) (by kernel_rfl) (fun d _ _ _ _ h => by cases d <;> exact h) (fun oi ho K hK => ?_)
              simp only [List.getElem?_toArray, List.getElem?_cons_succ, List.getElem?_cons_zero, Option.some.injEq] at ho
              subst ho
              rw [if_pos (by kernel_rfl)]
              refine ⟨.slice (some ⟨bv, offv, none⟩) vs.length cv, fun w' hw' => ?_, hK _ ?_⟩
              · obtain ⟨hxo, hx5, hxc⟩ := hw'
                have hx12 := hxo.three.2.2
                have hx52 := hx5.three.2.2
                go_simp
              clear hK K
              refine wpAnyZ_reads 5 cD7 (by kernel_rfl) (by kernel_rfl) (by kernel_rfl) (by kernel_rfl) (fun d _ _ _ _ h => by cases d <;> exact h) (fun oi ho K hK => ?_)
              simp only [List.getElem?_toArray, List.getElem?_cons_succ, List.getElem?_cons_zero, Option.some.injEq] at ho
              subst ho
              rw [if_pos (by kernel_rfl)]
              refine ⟨.int .i64 p, fun w' hw' => ?_, hK _ ?_⟩
              · obtain ⟨hxo, hx5, hxc⟩ := hw'
                have hx12 := hxo.three.2.2
                have hx52 := hx5.three.2.2
                go_simp
              clear hK K
              refine wpAnyZ_reads 6 cD7 (by kernel_rfl) (by kernel_rfl) (by kernel_rfl) (by kernel_rfl) (fun d _ _ _ _ h => by cases d <;> exact h) (fun oi ho K hK => ?_)
              simp only [List.getElem?_toArray, List.getElem?_cons_succ, List.getElem?_cons_zero, Option.some.injEq] at ho
              subst ho
              rw [if_pos (by kernel_rfl)]
              refine ⟨.pointer (some ⟨bv, offv + p * 3, none⟩), fun w' hw' => ?_, hK _ ?_⟩
              · obtain ⟨hxo, hx5, hxc⟩ := hw'
                have hx12 := hxo.three.2.2
                have hx52 := hx5.three.2.2
                go_simp
              clear hK K
              refine wpAnyZ_reads 7 cD7 (by kernel_rfl) (by kernel_rfl) (by kernel_rfl) (by kernel_rfl) (fun d _ _ _ _ h => by cases d <;> exact h) (fun oi ho K hK => ?_)
              simp only [List.getElem?_toArray, List.getElem?_cons_succ, List.getElem?_cons_zero, Option.some.injEq] at ho
              subst ho
              rw [if_pos (by kernel_rfl)]
              refine ⟨.pointer (some ⟨bv, offv + p * 3 + 1, none⟩), fun w' hw' => ?_, hK _ ?_⟩
              · obtain ⟨hxo, hx5, hxc⟩ := hw'
                have hx12 := hxo.three.2.2
                have hx52 := hx5.three.2.2
                go_simp
              clear hK K
              refine wpAnyZ_reads 8 cD7 (by kernel_rfl) (by kernel_rfl) (by kernel_rfl) (by kernel_rfl) (fun d _ _ _ _ h => by cases d <;> exact h) (fun oi ho K hK => ?_)
              simp only [List.getElem?_toArray, List.getElem?_cons_succ, List.getElem?_cons_zero, Option.some.injEq] at ho
              subst ho
              rw [if_pos (by kernel_rfl)]
              refine ⟨.int .i64 (vl vs p).2.1, fun w' hw' => ?_, hK _ ?_⟩
              · obtain ⟨hxo, hx5, hxc⟩ := hw'
                have hx12 := hxo.three.2.2
                have hx52 := hx5.three.2.2
                go_simp
              clear hK K
              refine wpAnyZ_reads 9 cD7 (by kernel_rfl) (by kernel_rfl) (by kernel_rfl) (by kernel_rfl) (fun d _ _ _ _ h => by cases d <;> exact h) (fun oi ho K hK => ?_)
              simp only [List.getElem?_toArray, List.getElem?_cons_succ, List.getElem?_cons_zero, Option.some.injEq] at ho
              subst ho
              rw [if_pos (by kernel_rfl)]
              refine ⟨.agg #[.int .i64 1, .int .i64 (vl vs p).2.1, .string ⟨#[]⟩], fun w' hw' => ?_, hK _ ?_⟩
              · obtain ⟨hxo, hx5, hxc⟩ := hw'
                have hx12 := hxo.three.2.2
                have hx52 := hx5.three.2.2
                go_simp
              clear hK K
              refine wpAnyZ_reads 10 cD7 (by kernel_rfl) (by kernel_rfl) (by kernel_rfl) (by kernel_rfl) (fun d _ _ _ _ h => by cases d <;> exact h) (fun oi ho K hK => ?_)
              simp only [List.getElem?_toArray, List.getElem?_cons_succ, List.getElem?_cons_zero, Option.some.injEq] at ho
              subst ho
              rw [if_pos (by kernel_rfl)]
              refine ⟨.pointer (some ⟨g1, p * 3, none⟩), fun w' hw' => ?_, hK _ ?_⟩
              · obtain ⟨hxo, hx5, hxc⟩ := hw'
                have hx12 := hxo.three.2.2
                have hx52 := hx5.three.2.2
                go_simp
              clear hK K

              have ef0 : W7.drew.cell? ⟨g1, p * 3, none⟩ = some (.int .i64 (vl vs p).1) := (hcell (p * 3) (by omega)).trans (newsV_at vs p hp).1
              have ef1 : W7.drew.cell? ⟨g1, p * 3 + 1, none⟩ = some (.int .i64 (vl vs p).2.1) := (hcell (p * 3 + 1) (by omega)).trans (newsV_at vs p hp).2.1
              have ef2 : W7.drew.cell? ⟨g1, p * 3 + 2, none⟩ = some (.string (vl vs p).2.2.1) := (hcell (p * 3 + 2) (by omega)).trans (newsV_at vs p hp).2.2
              have ff0 : W7.drew.frozen? ⟨g1, p * 3, none⟩ = false := hfrz _
              have fg0 : W7.frozen? ⟨g1, p * 3, none⟩ = false := hfrz _
              have ff1 : W7.drew.frozen? ⟨g1, p * 3 + 1, none⟩ = false := hfrz _
              have fg1 : W7.frozen? ⟨g1, p * 3 + 1, none⟩ = false := hfrz _
              have ff2 : W7.drew.frozen? ⟨g1, p * 3 + 2, none⟩ = false := hfrz _
              have fg2 : W7.frozen? ⟨g1, p * 3 + 2, none⟩ = false := hfrz _
              have eg0 : W7.cell? ⟨g1, p * 3, none⟩ = _ := ef0
              have eg1 : W7.cell? ⟨g1, p * 3 + 1, none⟩ = _ := ef1
              have eg2 : W7.cell? ⟨g1, p * 3 + 2, none⟩ = _ := ef2
              replace hcell := hide hcell
              replace hfrz := hide hfrz
              refine wpAnyZ_calls 11 (by kernel_rfl) (fun oi ho K hK => ?_)
              simp only [List.getElem?_toArray, List.getElem?_cons_succ, List.getElem?_cons_zero, Option.some.injEq] at ho
              subst ho

              go_simp
              refine hK _ _ (.inl rfl) ?_
              clear hK K
              refine wpAnyZ_done (by kernel_rfl) ?_ _
              go_upto_region 14 with fail
              have r8 := (((r7.other ⟨g1, p * 3, none⟩ (.int .i64 1) (by simp only; omega)).other ⟨g1, p * 3 + 1, none⟩ (.int .i64 (vl vs p).2.1) (by simp only; omega)).other ⟨g1, p * 3 + 2, none⟩ (.string ⟨#[]⟩) (by simp only; omega)).drew
              have o8 := (((o7.other ⟨g1, p * 3, none⟩ (.int .i64 1) neB).other ⟨g1, p * 3 + 1, none⟩ (.int .i64 (vl vs p).2.1) neB).other ⟨g1, p * 3 + 2, none⟩ (.string ⟨#[]⟩) neB).drew
              have b8 := (((b7.setCell (p := ⟨g1, p * 3, none⟩) (by simp only; omega) (.int .i64 1)).setCell (p := ⟨g1, p * 3 + 1, none⟩) (by simp only; omega) (.int .i64 (vl vs p).2.1)).setCell (p := ⟨g1, p * 3 + 2, none⟩) (by simp only; omega) (.string ⟨#[]⟩)).drew
              have own9 := owns_below (owns_putR (owns_putR (owns_putR (unhide own7) (p * 3) (by omega) (.int .i64 1)) (p * 3 + 1) (by omega) (.int .i64 (vl vs p).2.1)) (p * 3 + 2) (by omega) (.string ⟨#[]⟩)) (Below.refl _ _).drew
              rw [unhide hNn] at own9
              obtain ⟨W8, hW8⟩ : ∃ W8, W8 = (((W7.setCell ⟨g1, p * 3, none⟩ (.int .i64 1)).setCell ⟨g1, p * 3 + 1, none⟩ (.int .i64 (vl vs p).2.1)).setCell ⟨g1, p * 3 + 2, none⟩ (.string ⟨#[]⟩)).drew := ⟨_, rfl⟩
              rw [← hW8] at r8 o8 b8 own9 ⊢
              rw [unhide hNl] at own9 o8
              replace own9 := hide own9
              clear hW8 ef0 ef1 ef2 ff0 ff1 ff2 eg0 eg1 eg2 fg0 fg1 fg2 cD7 hNl

              have own9' := hide (owns_set (owns_set (owns_set (unhide own9) ⟨w.heap.size + 1 + 1 + 1, 0, none⟩ (.string t.1) (by simp only; omega)) ⟨w.heap.size + 1 + 1 + 1, 1, none⟩ (.int .i64 tm) (by simp only; omega)) ⟨w.heap.size + 1 + 1 + 1, 2, none⟩ (.slice (some ⟨g1, 0, none⟩) N.length c3) (by simp only; omega))
              have bz := hide (((b8.setCell (p := ⟨w.heap.size + 1 + 1 + 1, 0, none⟩) (by simp only; omega) (.string t.1)).setCell (p := ⟨w.heap.size + 1 + 1 + 1, 1, none⟩) (by simp only; omega) (.int .i64 tm)).setCell (p := ⟨w.heap.size + 1 + 1 + 1, 2, none⟩) (by simp only; omega) (.slice (some ⟨g1, 0, none⟩) N.length c3))
              obtain ⟨ho0, ho1, ho2⟩ := o8.three
              obtain ⟨hr0, hr1, hr2⟩ := r8.three
              have hf0 := r8.frz 0
              have hf1 := r8.frz 1
              have hf2 := r8.frz 2
              obtain ⟨u0, u1, u2⟩ := three_set (v0 := .string t.1) (v1 := .int .i64 tm) (v2 := .slice (some ⟨g1, 0, none⟩) N.length c3) hr0 hr1 hr2
              go_wp2_with fail
              obtain ⟨_, _, e9, V9, -⟩ := vals_of_owns (unhide own9')
              cases e9
              have fE : ∃ a' c', Ending.returned (.agg #[.string t.1, .int .i64 tm, .slice (some ⟨g1, 0, none⟩) N.length c3]) = Ending.returned (.agg #[.string t.1, .int .i64 tm, .slice a' N.length c']) ∧ Vals (((W8.setCell ⟨w.heap.size + 1 + 1 + 1, 0, none⟩ (.string t.1)).setCell ⟨w.heap.size + 1 + 1 + 1, 1, none⟩ (.int .i64 tm)).setCell ⟨w.heap.size + 1 + 1 + 1, 2, none⟩ (.slice (some ⟨g1, 0, none⟩) N.length c3)).heap.size (((W8.setCell ⟨w.heap.size + 1 + 1 + 1, 0, none⟩ (.string t.1)).setCell ⟨w.heap.size + 1 + 1 + 1, 1, none⟩ (.int .i64 tm)).setCell ⟨w.heap.size + 1 + 1 + 1, 2, none⟩ (.slice (some ⟨g1, 0, none⟩) N.length c3)) a' N ∧ Below w.heap.size w (((W8.setCell ⟨w.heap.size + 1 + 1 + 1, 0, none⟩ (.string t.1)).setCell ⟨w.heap.size + 1 + 1 + 1, 1, none⟩ (.int .i64 tm)).setCell ⟨w.heap.size + 1 + 1 + 1, 2, none⟩ (.slice (some ⟨g1, 0, none⟩) N.length c3)) := ⟨_, _, rfl, V9, unhide bz⟩
              exact bodyPost_ret (v := .agg #[.string t.1, .int .i64 tm, .slice (some ⟨g1, 0, none⟩) N.length c3]) (by simp [results, Tryz.results40, go_sem, u0, u1, u2]) rfl (by obtain ⟨a', c', h1, h2, h3⟩ := fE; first | exact ⟨a', ⟨c', h1⟩, h2, h3⟩ | exact ⟨a', c', h1, h2, h3⟩)
        · have hv : N = vs := by rw [unhide hN]; simp [movE, unhide hpn', ← hE, hE0]
          replace hv := hide hv
          have hE0' : (E != 0) = true := by simp [hE0]
          replace hE := hide hE
          have p5 := q5.on hb5 q5.lt
          have p6 := q6.on hb5 q6.lt
          obtain ⟨he0, he1, he2⟩ := p5.three
          obtain ⟨hr0, hr1, hr2⟩ := p6.three
          have hf0 := p6.frz 0
          have hf1 := p6.frz 1
          have hf2 := p6.frz 2
          obtain ⟨u0, u1, u2⟩ := three_set (v0 := .string t.1) (v1 := .int .i64 tm) (v2 := .slice av vs.length cv) hr0 hr1 hr2
          have fin' := hide (unhide fin W5 hb05 (unhide hv))
          clear fin hE0
          go_wp2_with fail
          exact bodyPost_ret (v := .agg #[.string t.1, .int .i64 tm, .slice av vs.length cv]) (by simp [results, Tryz.results40, go_sem, u0, u1, u2]) rfl (by obtain ⟨a', c', h1, h2, h3⟩ := unhide fin'; first | exact ⟨a', ⟨c', h1⟩, h2, h3⟩ | exact ⟨a', c', h1, h2, h3⟩)
      · have hv : N = vs := by
          rw [unhide hN]
          simp only [movE, unhide hpn']
          split
          · next h =>
            obtain ⟨t', hf', hE'⟩ := isE_found h.2
            rw [findT_place, unhide hpn'] at hf'
            simp only [Option.map_some, Option.some.injEq] at hf'
            subst hf'
            refine vNew_other hE' fun e => hty ?_
            rw [← (place_key (unhide hpn')).2]; exact e
          · rfl
        replace hv := hide hv
        have hty' : (t.1.toList == ct.1.toList) = false := by simp [hty]
        obtain ⟨u0, u1, u2⟩ := three_set (v0 := .string t.1) (v1 := .int .i64 tm) (v2 := .slice av vs.length cv) hr0 hr1 hr2
        have fin' := hide (unhide fin W4 hb4 (unhide hv))
        clear fin hty
        go_wp2_with fail
        exact bodyPost_ret (v := .agg #[.string t.1, .int .i64 tm, .slice av vs.length cv]) (by simp [results, Tryz.results40, go_sem, u0, u1, u2]) rfl (by obtain ⟨a', c', h1, h2, h3⟩ := unhide fin'; first | exact ⟨a', ⟨c', h1⟩, h2, h3⟩ | exact ⟨a', c', h1, h2, h3⟩)
    · have hv : N = vs := by rw [unhide hN]; simp [movE, unhide hpn', ← unhide hR, hR0]
      replace hv := hide hv
      have hR0' : (R != 0) = true := by simp [hR0]
      obtain ⟨u0, u1, u2⟩ := three_set (v0 := .string t.1) (v1 := .int .i64 tm) (v2 := .slice av vs.length cv) hr0 hr1 hr2
      have fin' := hide (unhide fin W4 hb4 (unhide hv))
      clear fin hR0
      go_wp2_with fail
      exact bodyPost_ret (v := .agg #[.string t.1, .int .i64 tm, .slice av vs.length cv]) (by simp [results, Tryz.results40, go_sem, u0, u1, u2]) rfl (by obtain ⟨a', c', h1, h2, h3⟩ := unhide fin'; first | exact ⟨a', ⟨c', h1⟩, h2, h3⟩ | exact ⟨a', c', h1, h2, h3⟩)

end Go.Proofs.YtcjpaldijngnpaaGreatDoor

namespace Go.Proofs.YtcjpaldijngnpaaGreatDoor
open Go.RowKit Go.Shelf

theorem RCh.ch {n₀ : Nat} {W : World} {Bp : Nat} {sa la : Option Addr} {sc lc : Nat} {xs : List Sw} {ts : List Ty} {cs : List Ch} (h : RCh n₀ W Bp sa la sc lc xs ts cs) {k : Nat} (hk : k < cs.length) :
    ∃ b off, la = some ⟨b, off, none⟩ ∧ b < n₀ ∧ ∀ (i : Nat) u, (chn cs k).cs[i]? = some u → W.cell? ⟨b, off + k * 7 + i, none⟩ = some u := by
  rcases h.chs.2 with ⟨b, off, e, hb, hc⟩ | ⟨_, h0⟩
  · refine ⟨b, off, e, hb, fun i u hu => ?_⟩
    have hi : i < 7 := by
      have := (Array.getElem?_eq_some_iff.1 hu).1
      simpa using this
    have := hc (k * 7 + i) u (by rw [newsC_at cs k hk i hi]; exact hu)
    rwa [← Nat.add_assoc] at this
  · omega

/-- A store into an event's box touches no row of values: a value's row begins with a number. -/
theorem vals_store {W : World} {g : Nat} {s : ByteArray} {m : Int} {a : Option Addr} {n c : Nat} (hB : Box W g 28 #[.string s, .int .i64 m, .slice a n c]) {va : Option Addr} {vs : List Vl} (hV : Vals W.heap.size W va vs) (u0 u1 u2 : Value) :
    Vals (((W.setCell ⟨g, 0, none⟩ u0).setCell ⟨g, 1, none⟩ u1).setCell ⟨g, 2, none⟩ u2).heap.size (((W.setCell ⟨g, 0, none⟩ u0).setCell ⟨g, 1, none⟩ u1).setCell ⟨g, 2, none⟩ u2) va vs := by
  rw [show (((W.setCell ⟨g, 0, none⟩ u0).setCell ⟨g, 1, none⟩ u1).setCell ⟨g, 2, none⟩ u2).heap.size = W.heap.size by simp]
  rcases hV with e | ⟨b, off, e, hb, hc⟩
  · exact .inl e
  · refine .inr ⟨b, off, e, hb, fun j hj => ?_⟩
    obtain ⟨h1, h2, h3⟩ := hc j hj
    have hne : g ≠ b := by
      rintro rfl
      simp only [World.cell?, show W.heap[g]? = _ from hB] at h1 h2
      generalize off + j * 3 = o at h1 h2
      rcases o with _ | _ | _ | o <;> simp at h1 h2
    have hk : (((W.setCell ⟨g, 0, none⟩ u0).setCell ⟨g, 1, none⟩ u1).setCell ⟨g, 2, none⟩ u2).heap[b]? = W.heap[b]? := ((setCell_block _ _ _ hne).trans (setCell_block _ _ _ hne)).trans (setCell_block _ _ _ hne)
    exact ⟨(World.cell?_of_block hk).trans h1, (World.cell?_of_block hk).trans h2, (World.cell?_of_block hk).trans h3⟩
/-- What the document's Move answers. -/
def RMoveAns (ts : List Ty) (cs : List Ch) (x : Ev) (f t : Int) (e : Ending) (W : World) : Prop :=
  (spansB cs f t = false ∧ e = .returned (.tuple #[noEv, .int .i64 20])) ∨
  (spansB cs f t = true ∧ isE (vers ts cs f.toNat) x ≠ 0 ∧ e = .returned (.tuple #[noEv, .int .i64 (isE (vers ts cs f.toNat) x)])) ∨
  (spansB cs f t = true ∧ isE (vers ts cs f.toNat) x = 0 ∧ ∃ a' c', e = .returned (.tuple #[.agg #[.string x.ty.1, .int .i64 x.ts, .slice a' (mvK ts cs f.toNat x (t.toNat - f.toNat)).vs.length c'], .int .i64 0]) ∧
    Vals W.heap.size W a' (mvK ts cs f.toNat x (t.toNat - f.toNat)).vs)

set_option maxRecDepth 100000 in
set_option maxHeartbeats 8000000 in
theorem rmove_c (Bp sc lc : Nat) (sa la : Option Addr) (xs : List Sw) (ts : List Ty) (cs : List Ch) (t : Txt) (tm : Int) (vs : List Vl) (av : Option Addr) (cv : Nat) (f g : Int) (hS : Sch ts) (h20 : cs.length ≤ 20) (hv20 : vs.length ≤ 20) (w : World) (hC : RCh w.heap.size w Bp sa la sc lc xs ts cs) (hV : Vals w.heap.size w av vs) :
    Calls Tryz.prog 15 #[.pointer (some ⟨Bp, 0, none⟩), .agg #[.string t.1, .int .i64 tm, .slice av vs.length cv], .int .i64 f, .int .i64 g] w fun e W' => RMoveAns ts cs ⟨t, tm, vs⟩ f g e W' ∧ Below w.heap.size w W' := by
  obtain ⟨W0, hW0⟩ : ∃ W0, W0 = (w.alloc (.cells #[.string t.1, .int .i64 tm, .slice av vs.length cv] 28)).alloc (.cells #[.string ⟨#[]⟩, .int .i64 0, .slice none 0 0] 28) := ⟨_, rfl⟩
  have b0 : Below w.heap.size w W0 := by rw [hW0]; exact ((Below.refl _ _).alloc (Nat.le_refl _) _).alloc (by simp) _
  have x5 : Box W0 w.heap.size 28 #[.string t.1, .int .i64 tm, .slice av vs.length cv] := by rw [hW0]; exact (Box.new w 28 #[.string t.1, .int .i64 tm, .slice av vs.length cv]).alloc _
  have x8 : Box W0 (w.heap.size + 1) 28 #[.string ⟨#[]⟩, .int .i64 0, .slice none 0 0] := by
    have := Box.new (w.alloc (.cells #[.string t.1, .int .i64 tm, .slice av vs.length cv] 28)) 28 #[.string ⟨#[]⟩, .int .i64 0, .slice none 0 0]
    simp only [World.size_alloc] at this
    rw [hW0]; exact this
  obtain ⟨hp0, hp1⟩ := (hC.on b0).box.two
  obtain ⟨n, hn⟩ : ∃ n, n = cs.length := ⟨_, rfl⟩
  rw [← hn] at hp0 hp1
  have hn20 : (n : Int) ≤ 20 := by omega
  have no20 : ∀ W, Below w.heap.size w W → Box W (w.heap.size + 1) 28 #[.string ⟨#[]⟩, .int .i64 0, .slice none 0 0] → spansB cs f g = false → True := fun _ _ _ _ => trivial
  clear no20
  go_enter Tryz.func15, Tryz.ntmps15
  go_upto_region 1 with fail
  rw [← hW0]
  clear hW0
  cases hsp : spansB cs f g with
  | false =>
    have hbad : f < 0 ∨ (n : Int) + 1 ≤ g ∨ g < f := by
      unfold spansB at hsp
      simp only [Bool.and_eq_false_iff, decide_eq_false_iff_not] at hsp
      omega
    obtain ⟨hr0, hr1, hr2⟩ := x8.three
    have hrf := x8.frz
    have bz := ((b0.setCell (p := ⟨w.heap.size + 1, 0, none⟩) (Nat.le_succ _) (.string ⟨#[]⟩)).setCell (p := ⟨w.heap.size + 1, 1, none⟩) (Nat.le_succ _) (.int .i64 0)).setCell (p := ⟨w.heap.size + 1, 2, none⟩) (Nat.le_succ _) (.slice none 0 0)
    obtain ⟨d0, d1, d2⟩ := (((x8.set 0 (.string ⟨#[]⟩)).set 1 (.int .i64 0)).set 2 (.slice none 0 0)).three
    replace hsp := hide hsp
    by_cases h1 : f < 0
    · clear hbad
      go_wp2_with fail
      refine bodyPost_ret (v := .tuple #[noEv, .int .i64 20]) (by simp [results, Tryz.results15, go_sem, d0, d1, d2]) rfl ⟨.inl ⟨unhide hsp, rfl⟩, bz⟩
    by_cases h2 : (n : Int) + 1 ≤ g
    · have h1' : 0 ≤ f := by omega
      clear hbad
      go_wp2_with fail
      refine bodyPost_ret (v := .tuple #[noEv, .int .i64 20]) (by simp [results, Tryz.results15, go_sem, d0, d1, d2]) rfl ⟨.inl ⟨unhide hsp, rfl⟩, bz⟩
    have h3 : g < f := by omega
    have h1' : 0 ≤ f := by omega
    have h2' : g < (n : Int) + 1 := by omega
    clear hbad
    go_wp2_with fail
    refine bodyPost_ret (v := .tuple #[noEv, .int .i64 20]) (by simp [results, Tryz.results15, go_sem, d0, d1, d2]) rfl ⟨.inl ⟨unhide hsp, rfl⟩, bz⟩
  | true =>
    have hsp' := hsp
    unfold spansB at hsp'
    simp only [Bool.and_eq_true, decide_eq_true_eq] at hsp'
    obtain ⟨⟨hf0, hfg⟩, hgl⟩ := hsp'
    obtain ⟨f, rfl⟩ : ∃ k : Nat, f = k := ⟨f.toNat, by omega⟩
    obtain ⟨g, rfl⟩ : ∃ k : Nat, g = k := ⟨g.toNat, by omega⟩
    have h2' : (g : Int) < (n : Int) + 1 := by omega
    obtain ⟨b, off, a1, c1, rfl, hc1, hT1⟩ := hC.at (k := f) (by omega)
    obtain ⟨vf, hvf⟩ : ∃ vf, vf = vers ts cs f := ⟨_, rfl⟩
    have hSf : Sch vf := by rw [hvf]; exact sch_vers hS cs f
    rw [← hvf] at hc1 hT1
    have hblt : b < w.heap.size := cell_lt hc1
    have hmx : Tryz.prog.follows .mixedOrders = true := by kernel_rfl
    have hfn : (f : Int) < (n : Int) + 1 := by omega
    replace hsp := hide hsp
    replace hn := hide hn
    replace hvf := hide hvf
    go_upto_region 3 with fail
    go_cut [10] (fun v10 wx => v10 = .int .i64 (isE vf ⟨t, tm, vs⟩) ∧ Below W0.heap.size W0 wx)
    case first =>
      obtain ⟨V, hVd⟩ : ∃ V, V = ({ heap := W0.heap, tape := W0.tape, drawn := W0.drawn + 1, os := W0.os, output := W0.output } : World) := ⟨_, rfl⟩
      have bV : Below W0.heap.size W0 V := by rw [hVd]; exact (Below.refl _ _).drew
      have bwV := b0.trans (bV.mono b0.size)
      have cD : V.cell? ⟨Bp, 0, none⟩ = some (.slice (some ⟨b, off, none⟩) (n + 1) sc) ∧ V.cell? ⟨b, off + f, none⟩ = some (.slice a1 vf.length c1) ∧ V.cell? ⟨w.heap.size, 0, none⟩ = some (.string t.1) ∧ V.cell? ⟨w.heap.size, 1, none⟩ = some (.int .i64 tm) ∧ V.cell? ⟨w.heap.size, 2, none⟩ = some (.slice av vs.length cv) := by
        obtain ⟨q0, q1, q2⟩ := (x5.on bV x5.lt).three
        refine ⟨?_, (bwV.cell (p := ⟨b, off + f, none⟩) hblt).trans hc1, q0, q1, q2⟩
        have := (hC.on bwV).box.two.1
        rwa [← unhide hn] at this
      refine wp_region_any hmx (wpAny_of_Z (z := 9) (C := fun w' => w'.cell? ⟨Bp, 0, none⟩ = some (.slice (some ⟨b, off, none⟩) (n + 1) sc) ∧ w'.cell? ⟨b, off + f, none⟩ = some (.slice a1 vf.length c1) ∧ w'.cell? ⟨w.heap.size, 0, none⟩ = some (.string t.1) ∧ w'.cell? ⟨w.heap.size, 1, none⟩ = some (.int .i64 tm) ∧ w'.cell? ⟨w.heap.size, 2, none⟩ = some (.slice av vs.length cv)) _ _ _ _ ?_)
      rw [← hVd]
      clear hVd
      refine wpAnyZ_reads 0 cD (by kernel_rfl) (by kernel_rfl) (by kernel_rfl) (by kernel_rfl) (fun d _ _ _ _ h => by cases d <;> exact h) (fun oi ho K hK => ?_)
      simp only [List.getElem?_toArray, List.getElem?_cons_zero, Option.some.injEq] at ho
      subst ho
      rw [if_pos (by kernel_rfl)]
      refine ⟨.pointer (some ⟨Bp, 0, none⟩), fun w' hw' => ?_, hK _ ?_⟩
      · obtain ⟨k0, k1, k2, k3, k4⟩ := hw'
        go_simp
      clear hK K
      refine wpAnyZ_reads 1 cD (by kernel_rfl) (by kernel_rfl) (by kernel_rfl) (by kernel_rfl) (fun d _ _ _ _ h => by cases d <;> exact h) (fun oi ho K hK => ?_)
      simp only [List.getElem?_toArray, List.getElem?_cons_succ, List.getElem?_cons_zero, Option.some.injEq] at ho
      subst ho
      rw [if_pos (by kernel_rfl)]
      refine ⟨.pointer (some ⟨Bp, 0, none⟩), fun w' hw' => ?_, hK _ ?_⟩
      · obtain ⟨k0, k1, k2, k3, k4⟩ := hw'
        go_simp
      clear hK K
      refine wpAnyZ_reads 2 cD (by kernel_rfl) (by kernel_rfl) (by kernel_rfl) (by kernel_rfl) (fun d _ _ _ _ h => by cases d <;> exact h) (fun oi ho K hK => ?_)
      simp only [List.getElem?_toArray, List.getElem?_cons_succ, List.getElem?_cons_zero, Option.some.injEq] at ho
      subst ho
      rw [if_pos (by kernel_rfl)]
      refine ⟨.pointer (some ⟨Bp, 0, none⟩), fun w' hw' => ?_, hK _ ?_⟩
      · obtain ⟨k0, k1, k2, k3, k4⟩ := hw'
        go_simp
      clear hK K
      refine wpAnyZ_reads 3 cD (by kernel_rfl) (by kernel_rfl) (by kernel_rfl) (by kernel_rfl) (fun d _ _ _ _ h => by cases d <;> exact h) (fun oi ho K hK => ?_)
      simp only [List.getElem?_toArray, List.getElem?_cons_succ, List.getElem?_cons_zero, Option.some.injEq] at ho
      subst ho
      rw [if_pos (by kernel_rfl)]
      refine ⟨.slice (some ⟨b, off, none⟩) (n + 1) sc, fun w' hw' => ?_, hK _ ?_⟩
      · obtain ⟨k0, k1, k2, k3, k4⟩ := hw'
        go_simp
      clear hK K
      refine wpAnyZ_reads 4 cD (by kernel_rfl) (by kernel_rfl) (by kernel_rfl) (by kernel_rfl) (fun d _ _ _ _ h => by cases d <;> exact h) (fun oi ho K hK => ?_)
      simp only [List.getElem?_toArray, List.getElem?_cons_succ, List.getElem?_cons_zero, Option.some.injEq] at ho
      subst ho
      rw [if_pos (by kernel_rfl)]
      refine ⟨.int .i64 f, fun w' hw' => ?_, hK _ ?_⟩
      · obtain ⟨k0, k1, k2, k3, k4⟩ := hw'
        go_simp
      clear hK K
      refine wpAnyZ_reads 5 cD (by kernel_rfl) (by kernel_rfl) (by kernel_rfl) (by kernel_rfl) (fun d _ _ _ _ h => by cases d <;> exact h) (fun oi ho K hK => ?_)
      simp only [List.getElem?_toArray, List.getElem?_cons_succ, List.getElem?_cons_zero, Option.some.injEq] at ho
      subst ho
      rw [if_pos (by kernel_rfl)]
      refine ⟨.pointer (some ⟨b, off + f, none⟩), fun w' hw' => ?_, hK _ ?_⟩
      · obtain ⟨k0, k1, k2, k3, k4⟩ := hw'
        go_simp
      clear hK K
      refine wpAnyZ_reads 6 cD (by kernel_rfl) (by kernel_rfl) (by kernel_rfl) (by kernel_rfl) (fun d _ _ _ _ h => by cases d <;> exact h) (fun oi ho K hK => ?_)
      simp only [List.getElem?_toArray, List.getElem?_cons_succ, List.getElem?_cons_zero, Option.some.injEq] at ho
      subst ho
      rw [if_pos (by kernel_rfl)]
      refine ⟨.agg #[.slice a1 vf.length c1], fun w' hw' => ?_, hK _ ?_⟩
      · obtain ⟨k0, k1, k2, k3, k4⟩ := hw'
        go_simp
      clear hK K
      refine wpAnyZ_reads 7 cD (by kernel_rfl) (by kernel_rfl) (by kernel_rfl) (by kernel_rfl) (fun d _ _ _ _ h => by cases d <;> exact h) (fun oi ho K hK => ?_)
      simp only [List.getElem?_toArray, List.getElem?_cons_succ, List.getElem?_cons_zero, Option.some.injEq] at ho
      subst ho
      rw [if_pos (by kernel_rfl)]
      refine ⟨.agg #[.string t.1, .int .i64 tm, .slice av vs.length cv], fun w' hw' => ?_, hK _ ?_⟩
      · obtain ⟨k0, k1, k2, k3, k4⟩ := hw'
        go_simp
      clear hK K
      refine wpAnyZ_calls 8 (by kernel_rfl) (fun oi ho K hK => ?_)
      simp only [List.getElem?_toArray, List.getElem?_cons_succ, List.getElem?_cons_zero, Option.some.injEq] at ho
      subst ho
      go_simp
      refine (refIsE_c a1 av c1 cv vf ⟨t, tm, vs⟩ hSf.1 (sch_hk5 hSf) hv20 V (hT1.on bwV) (hV.on bwV)).mono ?_
      rintro e w2 ⟨rfl, hb2⟩
      go_simp
      have cE : w2.cell? ⟨Bp, 0, none⟩ = some (.slice (some ⟨b, off, none⟩) (n + 1) sc) ∧ w2.cell? ⟨b, off + f, none⟩ = some (.slice a1 vf.length c1) ∧ w2.cell? ⟨w.heap.size, 0, none⟩ = some (.string t.1) ∧ w2.cell? ⟨w.heap.size, 1, none⟩ = some (.int .i64 tm) ∧ w2.cell? ⟨w.heap.size, 2, none⟩ = some (.slice av vs.length cv) := by
        obtain ⟨k0, k1, k2, k3, k4⟩ := cD
        exact ⟨(hb2.cell (p := ⟨Bp, 0, none⟩) (cell_lt k0)).trans k0, (hb2.cell (p := ⟨b, off + f, none⟩) (cell_lt k1)).trans k1, (hb2.cell (p := ⟨w.heap.size, 0, none⟩) (cell_lt k2)).trans k2, (hb2.cell (p := ⟨w.heap.size, 1, none⟩) (cell_lt k3)).trans k3, (hb2.cell (p := ⟨w.heap.size, 2, none⟩) (cell_lt k4)).trans k4⟩
      refine hK _ _ (.inr cE) ?_
      clear hK K
      refine wpAnyZ_calls 9 (by kernel_rfl) (fun oi ho K hK => ?_)
      simp only [List.getElem?_toArray, List.getElem?_cons_succ, List.getElem?_cons_zero, Option.some.injEq] at ho
      subst ho
      go_simp
      refine hK _ _ (.inl rfl) ?_
      clear hK K
      refine wpAnyZ_done (by kernel_rfl) ?_ _
      go_wp2_with fail
      go_meet
      case rel => exact ⟨rfl, bV.trans (hb2.mono bV.size)⟩
    case rest =>
      obtain ⟨rfl, hb1⟩ := hcut
      have bwc := b0.trans (hb1.mono b0.size)
      have y5 := x5.on hb1 x5.lt
      have y8 := x8.on hb1 x8.lt
      by_cases hi0 : isE vf ⟨t, tm, vs⟩ = 0
      case neg =>
        have hans := hide (show ∀ W, RMoveAns ts cs ⟨t, tm, vs⟩ f g (.returned (.tuple #[noEv, .int .i64 (isE vf ⟨t, tm, vs⟩)])) W from fun W => .inr (.inl ⟨unhide hsp, by rw [Int.toNat_natCast, ← unhide hvf]; exact hi0, by rw [Int.toNat_natCast, ← unhide hvf]⟩))
        obtain ⟨r, hr⟩ : ∃ r, r = isE vf ⟨t, tm, vs⟩ := ⟨_, rfl⟩
        rw [← hr] at hi0 hans ⊢
        clear hr
        obtain ⟨hr0, hr1, hr2⟩ := y8.three
        have hrf := y8.frz
        have bz := ((bwc.setCell (p := ⟨w.heap.size + 1, 0, none⟩) (Nat.le_succ _) (.string ⟨#[]⟩)).setCell (p := ⟨w.heap.size + 1, 1, none⟩) (Nat.le_succ _) (.int .i64 0)).setCell (p := ⟨w.heap.size + 1, 2, none⟩) (Nat.le_succ _) (.slice none 0 0)
        obtain ⟨d0, d1, d2⟩ := (((y8.set 0 (.string ⟨#[]⟩)).set 1 (.int .i64 0)).set 2 (.slice none 0 0)).three
        go_wp2_with fail
        refine bodyPost_ret (v := .tuple #[noEv, .int .i64 r]) (by simp [results, Tryz.results15, go_sem, d0, d1, d2]) rfl ⟨unhide hans _, bz⟩
      rw [hi0]
      have hi0' := hide hi0
      clear hi0
      have hst := hide (show Vals wc.heap.size wc av (mvK ts cs f ⟨t, tm, vs⟩ 0).vs from hV.on bwc)
      have hln : ∀ j, (mvK ts cs f ⟨t, tm, vs⟩ j).vs.length ≤ 20 := fun j => mvK_len hS cs f (x := ⟨t, tm, vs⟩) hv20 j
      replace hln := hide hln
      go_wp2_with fail
      go_loopw [11] (fun iv wr => ∃ i j : Nat, i = f + j ∧ i ≤ g ∧ iv = .int .i64 i ∧ (∃ a' c', Box wr w.heap.size 28 #[.string t.1, .int .i64 tm, .slice a' (mvK ts cs f ⟨t, tm, vs⟩ j).vs.length c'] ∧ Hid (Vals wr.heap.size wr a' (mvK ts cs f ⟨t, tm, vs⟩ j).vs)) ∧ Box wr (w.heap.size + 1) 28 #[.string ⟨#[]⟩, .int .i64 0, .slice none 0 0] ∧ Below w.heap.size w wr) (fun i _ => g - (intOf i).toNat)
      case atStart => exact ⟨f, 0, rfl, by omega, rfl, ⟨av, cv, y5, hst⟩, y8, bwc⟩
      case round =>
        obtain ⟨i, j, hij, hig, rfl, ⟨a', c', q5, hVy⟩, q8, hb⟩ := hrel
        obtain ⟨y, hy⟩ : ∃ y, y = mvK ts cs f ⟨t, tm, vs⟩ j := ⟨_, rfl⟩
        rw [← hy] at q5 hVy
        have hyl : y.vs.length ≤ 20 := by rw [hy]; exact unhide hln j
        by_cases hlt : i < g
        · have hlt' : (i : Int) < g := by omega
          obtain ⟨b2, off2, a2, c2, e2, hc2, hT2⟩ := hC.at (k := i) (by omega)
          simp only [Option.some.injEq, Addr.mk.injEq, and_true] at e2
          obtain ⟨rfl, rfl⟩ := e2
          obtain ⟨lb, lo, rfl, hlb, hcs⟩ := hC.ch (k := i) (by omega)
          obtain ⟨c, hc⟩ : ∃ c, c = chn cs i := ⟨_, rfl⟩
          obtain ⟨vi, hvi⟩ : ∃ vi, vi = vers ts cs i := ⟨_, rfl⟩
          have hSi : Sch vi := by rw [hvi]; exact sch_vers hS cs i
          rw [← hc] at hcs
          rw [← hvi] at hc2 hT2
          have hnx := hide (show mvK ts cs f ⟨t, tm, vs⟩ (j + 1) = movE vi c ⟨t, tm, y.vs⟩ by
            have e : (⟨t, tm, y.vs⟩ : Ev) = y := by rw [hy]; exact mv_eta ts cs f j ⟨t, tm, vs⟩
            rw [e, mvK, ← hy, ← hij, hvi, hc])
          have hin : (i : Int) < (n : Int) := by have := unhide hn; omega
          have hin' : (i : Int) < (n : Int) + 1 := by omega
          clear hc hvi hy
          replace hij := hide hij
          have hb2 : b < w.heap.size := cell_lt hc2
          obtain ⟨V, hVd⟩ : ∃ V, V = ({ heap := wr.heap, tape := wr.tape, drawn := wr.drawn + 1, os := wr.os, output := wr.output } : World) := ⟨_, rfl⟩
          have bV : Below wr.heap.size wr V := by rw [hVd]; exact (Below.refl _ _).drew
          have bwV := hb.trans (bV.mono hb.size)
          have r5 := q5.on bV q5.lt
          have r8 := q8.on bV q8.lt
          have cD : V.cell? ⟨Bp, 0, none⟩ = some (.slice (some ⟨b, off, none⟩) (n + 1) sc) ∧ V.cell? ⟨Bp, 1, none⟩ = some (.slice (some ⟨lb, lo, none⟩) n lc) ∧ V.cell? ⟨b, off + i, none⟩ = some (.slice a2 vi.length c2) ∧ (V.cell? ⟨lb, lo + i * 7, none⟩ = some (.int .i64 c.k) ∧ V.cell? ⟨lb, lo + i * 7 + 1, none⟩ = some (.string c.t.1) ∧ V.cell? ⟨lb, lo + i * 7 + 2, none⟩ = some (.string c.f.1) ∧ V.cell? ⟨lb, lo + i * 7 + 3, none⟩ = some (.string c.o.1) ∧ V.cell? ⟨lb, lo + i * 7 + 4, none⟩ = some (.int .i64 c.dk) ∧ V.cell? ⟨lb, lo + i * 7 + 5, none⟩ = some (.int .i64 c.dn) ∧ V.cell? ⟨lb, lo + i * 7 + 6, none⟩ = some (.string c.ds.1)) ∧ Box V w.heap.size 28 #[.string t.1, .int .i64 tm, .slice a' y.vs.length c'] := by
            obtain ⟨p0, p1⟩ := (hC.on bwV).box.two
            rw [← unhide hn] at p0 p1
            have hc7 : ∀ (k : Nat) u, c.cs[k]? = some u → V.cell? ⟨lb, lo + i * 7 + k, none⟩ = some u := fun k u hu => (bwV.cell (p := ⟨lb, lo + i * 7 + k, none⟩) hlb).trans (hcs k u hu)
            have z0 := hc7 0 _ rfl
            rw [Nat.add_zero] at z0
            exact ⟨p0, p1, (bwV.cell (p := ⟨b, off + i, none⟩) hb2).trans hc2, ⟨z0, hc7 1 _ rfl, hc7 2 _ rfl, hc7 3 _ rfl, hc7 4 _ rfl, hc7 5 _ rfl, hc7 6 _ rfl⟩, r5⟩
          clear hcs
          go_upto_region 9 with fail
          refine wp_region_any hmx (wpAny_of_Z (z := 16) (C := fun w' => w'.cell? ⟨Bp, 0, none⟩ = some (.slice (some ⟨b, off, none⟩) (n + 1) sc) ∧ w'.cell? ⟨Bp, 1, none⟩ = some (.slice (some ⟨lb, lo, none⟩) n lc) ∧ w'.cell? ⟨b, off + i, none⟩ = some (.slice a2 vi.length c2) ∧ (w'.cell? ⟨lb, lo + i * 7, none⟩ = some (.int .i64 c.k) ∧ w'.cell? ⟨lb, lo + i * 7 + 1, none⟩ = some (.string c.t.1) ∧ w'.cell? ⟨lb, lo + i * 7 + 2, none⟩ = some (.string c.f.1) ∧ w'.cell? ⟨lb, lo + i * 7 + 3, none⟩ = some (.string c.o.1) ∧ w'.cell? ⟨lb, lo + i * 7 + 4, none⟩ = some (.int .i64 c.dk) ∧ w'.cell? ⟨lb, lo + i * 7 + 5, none⟩ = some (.int .i64 c.dn) ∧ w'.cell? ⟨lb, lo + i * 7 + 6, none⟩ = some (.string c.ds.1)) ∧ Box w' w.heap.size 28 #[.string t.1, .int .i64 tm, .slice a' y.vs.length c']) _ _ _ _ ?_)
          rw [← hVd]
          clear hVd
          refine wpAnyZ_reads 0 cD (by kernel_rfl) (by kernel_rfl) (by kernel_rfl) (by kernel_rfl) (fun d _ _ _ _ h => by cases d <;> exact h) (fun oi ho K hK => ?_)
          simp only [List.getElem?_toArray, List.getElem?_cons_zero, Option.some.injEq] at ho
          subst ho
          rw [if_pos (by kernel_rfl)]
          refine ⟨.pointer (some ⟨Bp, 0, none⟩), fun w' hw' => ?_, hK _ ?_⟩
          · obtain ⟨k0, k1, k2, ⟨k3, k4, k5, k6, k7, k8, k9⟩, k10⟩ := hw'
            obtain ⟨m0, m1, m2⟩ := k10.three
            go_simp
          clear hK K
          refine wpAnyZ_reads 1 cD (by kernel_rfl) (by kernel_rfl) (by kernel_rfl) (by kernel_rfl) (fun d _ _ _ _ h => by cases d <;> exact h) (fun oi ho K hK => ?_)
          simp only [List.getElem?_toArray, List.getElem?_cons_succ, List.getElem?_cons_zero, Option.some.injEq] at ho
          subst ho
          rw [if_pos (by kernel_rfl)]
          refine ⟨.pointer (some ⟨Bp, 0, none⟩), fun w' hw' => ?_, hK _ ?_⟩
          · obtain ⟨k0, k1, k2, ⟨k3, k4, k5, k6, k7, k8, k9⟩, k10⟩ := hw'
            obtain ⟨m0, m1, m2⟩ := k10.three
            go_simp
          clear hK K
          refine wpAnyZ_reads 2 cD (by kernel_rfl) (by kernel_rfl) (by kernel_rfl) (by kernel_rfl) (fun d _ _ _ _ h => by cases d <;> exact h) (fun oi ho K hK => ?_)
          simp only [List.getElem?_toArray, List.getElem?_cons_succ, List.getElem?_cons_zero, Option.some.injEq] at ho
          subst ho
          rw [if_pos (by kernel_rfl)]
          refine ⟨.pointer (some ⟨Bp, 0, none⟩), fun w' hw' => ?_, hK _ ?_⟩
          · obtain ⟨k0, k1, k2, ⟨k3, k4, k5, k6, k7, k8, k9⟩, k10⟩ := hw'
            obtain ⟨m0, m1, m2⟩ := k10.three
            go_simp
          clear hK K
          refine wpAnyZ_reads 3 cD (by kernel_rfl) (by kernel_rfl) (by kernel_rfl) (by kernel_rfl) (fun d _ _ _ _ h => by cases d <;> exact h) (fun oi ho K hK => ?_)
          simp only [List.getElem?_toArray, List.getElem?_cons_succ, List.getElem?_cons_zero, Option.some.injEq] at ho
          subst ho
          rw [if_pos (by kernel_rfl)]
          refine ⟨.slice (some ⟨b, off, none⟩) (n + 1) sc, fun w' hw' => ?_, hK _ ?_⟩
          · obtain ⟨k0, k1, k2, ⟨k3, k4, k5, k6, k7, k8, k9⟩, k10⟩ := hw'
            obtain ⟨m0, m1, m2⟩ := k10.three
            go_simp
          clear hK K
          refine wpAnyZ_reads 4 cD (by kernel_rfl) (by kernel_rfl) (by kernel_rfl) (by kernel_rfl) (fun d _ _ _ _ h => by cases d <;> exact h) (fun oi ho K hK => ?_)
          simp only [List.getElem?_toArray, List.getElem?_cons_succ, List.getElem?_cons_zero, Option.some.injEq] at ho
          subst ho
          rw [if_pos (by kernel_rfl)]
          refine ⟨.int .i64 i, fun w' hw' => ?_, hK _ ?_⟩
          · obtain ⟨k0, k1, k2, ⟨k3, k4, k5, k6, k7, k8, k9⟩, k10⟩ := hw'
            obtain ⟨m0, m1, m2⟩ := k10.three
            go_simp
          clear hK K
          refine wpAnyZ_reads 5 cD (by kernel_rfl) (by kernel_rfl) (by kernel_rfl) (by kernel_rfl) (fun d _ _ _ _ h => by cases d <;> exact h) (fun oi ho K hK => ?_)
          simp only [List.getElem?_toArray, List.getElem?_cons_succ, List.getElem?_cons_zero, Option.some.injEq] at ho
          subst ho
          rw [if_pos (by kernel_rfl)]
          refine ⟨.pointer (some ⟨b, off + i, none⟩), fun w' hw' => ?_, hK _ ?_⟩
          · obtain ⟨k0, k1, k2, ⟨k3, k4, k5, k6, k7, k8, k9⟩, k10⟩ := hw'
            obtain ⟨m0, m1, m2⟩ := k10.three
            go_simp
          clear hK K
          refine wpAnyZ_reads 6 cD (by kernel_rfl) (by kernel_rfl) (by kernel_rfl) (by kernel_rfl) (fun d _ _ _ _ h => by cases d <;> exact h) (fun oi ho K hK => ?_)
          simp only [List.getElem?_toArray, List.getElem?_cons_succ, List.getElem?_cons_zero, Option.some.injEq] at ho
          subst ho
          rw [if_pos (by kernel_rfl)]
          refine ⟨.agg #[.slice a2 vi.length c2], fun w' hw' => ?_, hK _ ?_⟩
          · obtain ⟨k0, k1, k2, ⟨k3, k4, k5, k6, k7, k8, k9⟩, k10⟩ := hw'
            obtain ⟨m0, m1, m2⟩ := k10.three
            go_simp
          clear hK K
          refine wpAnyZ_reads 7 cD (by kernel_rfl) (by kernel_rfl) (by kernel_rfl) (by kernel_rfl) (fun d _ _ _ _ h => by cases d <;> exact h) (fun oi ho K hK => ?_)
          simp only [List.getElem?_toArray, List.getElem?_cons_succ, List.getElem?_cons_zero, Option.some.injEq] at ho
          subst ho
          rw [if_pos (by kernel_rfl)]
          refine ⟨.pointer (some ⟨Bp, 0, none⟩), fun w' hw' => ?_, hK _ ?_⟩
          · obtain ⟨k0, k1, k2, ⟨k3, k4, k5, k6, k7, k8, k9⟩, k10⟩ := hw'
            obtain ⟨m0, m1, m2⟩ := k10.three
            go_simp
          clear hK K
          refine wpAnyZ_reads 8 cD (by kernel_rfl) (by kernel_rfl) (by kernel_rfl) (by kernel_rfl) (fun d _ _ _ _ h => by cases d <;> exact h) (fun oi ho K hK => ?_)
          simp only [List.getElem?_toArray, List.getElem?_cons_succ, List.getElem?_cons_zero, Option.some.injEq] at ho
          subst ho
          rw [if_pos (by kernel_rfl)]
          refine ⟨.pointer (some ⟨Bp, 0, none⟩), fun w' hw' => ?_, hK _ ?_⟩
          · obtain ⟨k0, k1, k2, ⟨k3, k4, k5, k6, k7, k8, k9⟩, k10⟩ := hw'
            obtain ⟨m0, m1, m2⟩ := k10.three
            go_simp
          clear hK K
          refine wpAnyZ_reads 9 cD (by kernel_rfl) (by kernel_rfl) (by kernel_rfl) (by kernel_rfl) (fun d _ _ _ _ h => by cases d <;> exact h) (fun oi ho K hK => ?_)
          simp only [List.getElem?_toArray, List.getElem?_cons_succ, List.getElem?_cons_zero, Option.some.injEq] at ho
          subst ho
          rw [if_pos (by kernel_rfl)]
          refine ⟨.pointer (some ⟨Bp, 1, none⟩), fun w' hw' => ?_, hK _ ?_⟩
          · obtain ⟨k0, k1, k2, ⟨k3, k4, k5, k6, k7, k8, k9⟩, k10⟩ := hw'
            obtain ⟨m0, m1, m2⟩ := k10.three
            go_simp
          clear hK K
          refine wpAnyZ_reads 10 cD (by kernel_rfl) (by kernel_rfl) (by kernel_rfl) (by kernel_rfl) (fun d _ _ _ _ h => by cases d <;> exact h) (fun oi ho K hK => ?_)
          simp only [List.getElem?_toArray, List.getElem?_cons_succ, List.getElem?_cons_zero, Option.some.injEq] at ho
          subst ho
          rw [if_pos (by kernel_rfl)]
          refine ⟨.slice (some ⟨lb, lo, none⟩) n lc, fun w' hw' => ?_, hK _ ?_⟩
          · obtain ⟨k0, k1, k2, ⟨k3, k4, k5, k6, k7, k8, k9⟩, k10⟩ := hw'
            obtain ⟨m0, m1, m2⟩ := k10.three
            go_simp
          clear hK K
          refine wpAnyZ_reads 11 cD (by kernel_rfl) (by kernel_rfl) (by kernel_rfl) (by kernel_rfl) (fun d _ _ _ _ h => by cases d <;> exact h) (fun oi ho K hK => ?_)
          simp only [List.getElem?_toArray, List.getElem?_cons_succ, List.getElem?_cons_zero, Option.some.injEq] at ho
          subst ho
          rw [if_pos (by kernel_rfl)]
          refine ⟨.int .i64 i, fun w' hw' => ?_, hK _ ?_⟩
          · obtain ⟨k0, k1, k2, ⟨k3, k4, k5, k6, k7, k8, k9⟩, k10⟩ := hw'
            obtain ⟨m0, m1, m2⟩ := k10.three
            go_simp
          clear hK K
          refine wpAnyZ_reads 12 cD (by kernel_rfl) (by kernel_rfl) (by kernel_rfl) (by kernel_rfl) (fun d _ _ _ _ h => by cases d <;> exact h) (fun oi ho K hK => ?_)
          simp only [List.getElem?_toArray, List.getElem?_cons_succ, List.getElem?_cons_zero, Option.some.injEq] at ho
          subst ho
          rw [if_pos (by kernel_rfl)]
          refine ⟨.pointer (some ⟨lb, lo + i * 7, none⟩), fun w' hw' => ?_, hK _ ?_⟩
          · obtain ⟨k0, k1, k2, ⟨k3, k4, k5, k6, k7, k8, k9⟩, k10⟩ := hw'
            obtain ⟨m0, m1, m2⟩ := k10.three
            go_simp
          clear hK K
          refine wpAnyZ_reads 13 cD (by kernel_rfl) (by kernel_rfl) (by kernel_rfl) (by kernel_rfl) (fun d _ _ _ _ h => by cases d <;> exact h) (fun oi ho K hK => ?_)
          simp only [List.getElem?_toArray, List.getElem?_cons_succ, List.getElem?_cons_zero, Option.some.injEq] at ho
          subst ho
          rw [if_pos (by kernel_rfl)]
          refine ⟨c.v, fun w' hw' => ?_, hK _ ?_⟩
          · obtain ⟨k0, k1, k2, ⟨k3, k4, k5, k6, k7, k8, k9⟩, k10⟩ := hw'
            obtain ⟨m0, m1, m2⟩ := k10.three
            go_simp
          clear hK K
          refine wpAnyZ_reads 14 cD (by kernel_rfl) (by kernel_rfl) (by kernel_rfl) (by kernel_rfl) (fun d _ _ _ _ h => by cases d <;> exact h) (fun oi ho K hK => ?_)
          simp only [List.getElem?_toArray, List.getElem?_cons_succ, List.getElem?_cons_zero, Option.some.injEq] at ho
          subst ho
          rw [if_pos (by kernel_rfl)]
          refine ⟨.agg #[.string t.1, .int .i64 tm, .slice a' y.vs.length c'], fun w' hw' => ?_, hK _ ?_⟩
          · obtain ⟨k0, k1, k2, ⟨k3, k4, k5, k6, k7, k8, k9⟩, k10⟩ := hw'
            obtain ⟨m0, m1, m2⟩ := k10.three
            go_simp
          clear hK K
          refine wpAnyZ_calls 15 (by kernel_rfl) (fun oi ho K hK => ?_)
          simp only [List.getElem?_toArray, List.getElem?_cons_succ, List.getElem?_cons_zero, Option.some.injEq] at ho
          subst ho
          go_simp
          refine (refMove_c a2 a' c2 c' vi c ⟨t, tm, y.vs⟩ hSi hyl V (hT2.on bwV) ((unhide hVy).on bV)).mono ?_
          rintro e w2 ⟨a6, c6, rfl, hV6, hb6⟩
          rw [← unhide hnx] at hV6 ⊢
          go_simp
          have r56 := r5.on hb6 r5.lt
          have cE : w2.cell? ⟨Bp, 0, none⟩ = some (.slice (some ⟨b, off, none⟩) (n + 1) sc) ∧ w2.cell? ⟨Bp, 1, none⟩ = some (.slice (some ⟨lb, lo, none⟩) n lc) ∧ w2.cell? ⟨b, off + i, none⟩ = some (.slice a2 vi.length c2) ∧ (w2.cell? ⟨lb, lo + i * 7, none⟩ = some (.int .i64 c.k) ∧ w2.cell? ⟨lb, lo + i * 7 + 1, none⟩ = some (.string c.t.1) ∧ w2.cell? ⟨lb, lo + i * 7 + 2, none⟩ = some (.string c.f.1) ∧ w2.cell? ⟨lb, lo + i * 7 + 3, none⟩ = some (.string c.o.1) ∧ w2.cell? ⟨lb, lo + i * 7 + 4, none⟩ = some (.int .i64 c.dk) ∧ w2.cell? ⟨lb, lo + i * 7 + 5, none⟩ = some (.int .i64 c.dn) ∧ w2.cell? ⟨lb, lo + i * 7 + 6, none⟩ = some (.string c.ds.1)) ∧ Box w2 w.heap.size 28 #[.string t.1, .int .i64 tm, .slice a' y.vs.length c'] := by
            obtain ⟨k0, k1, k2, ⟨k3, k4, k5, k6, k7, k8, k9⟩, k10⟩ := cD
            exact ⟨(hb6.cell (p := ⟨Bp, 0, none⟩) (cell_lt k0)).trans k0, (hb6.cell (p := ⟨Bp, 1, none⟩) (cell_lt k1)).trans k1, (hb6.cell (p := ⟨b, off + i, none⟩) (cell_lt k2)).trans k2, ⟨(hb6.cell (p := ⟨lb, lo + i * 7, none⟩) (cell_lt k3)).trans k3, (hb6.cell (p := ⟨lb, lo + i * 7 + 1, none⟩) (cell_lt k4)).trans k4, (hb6.cell (p := ⟨lb, lo + i * 7 + 2, none⟩) (cell_lt k5)).trans k5, (hb6.cell (p := ⟨lb, lo + i * 7 + 3, none⟩) (cell_lt k6)).trans k6, (hb6.cell (p := ⟨lb, lo + i * 7 + 4, none⟩) (cell_lt k7)).trans k7, (hb6.cell (p := ⟨lb, lo + i * 7 + 5, none⟩) (cell_lt k8)).trans k8, (hb6.cell (p := ⟨lb, lo + i * 7 + 6, none⟩) (cell_lt k9)).trans k9⟩, r56⟩
          refine hK _ _ (.inr cE) ?_
          clear hK K
          obtain ⟨s0, s1, s2⟩ := r56.three
          have sf := r56.frz
          refine wpAnyZ_calls 16 (by kernel_rfl) (fun oi ho K hK => ?_)
          simp only [List.getElem?_toArray, List.getElem?_cons_succ, List.getElem?_cons_zero, Option.some.injEq] at ho
          subst ho
          go_simp
          refine hK _ _ (.inl rfl) ?_
          clear hK K
          refine wpAnyZ_done (by kernel_rfl) ?_ _
          obtain ⟨m, hm⟩ : ∃ m, m = (mvK ts cs f ⟨t, tm, vs⟩ (j + 1)).vs.length := ⟨_, rfl⟩
          rw [← hm]
          have t5 := ((r56.set 0 (.string t.1)).set 1 (.int .i64 tm)).set 2 (.slice a6 m c6)
          have t8 := (((r8.on hb6 r8.lt).other ⟨w.heap.size, 0, none⟩ (.string t.1) (by simp only; omega)).other ⟨w.heap.size, 1, none⟩ (.int .i64 tm) (by simp only; omega)).other ⟨w.heap.size, 2, none⟩ (.slice a6 m c6) (by simp only; omega)
          have bw2 := bwV.trans (hb6.mono bwV.size)
          have bz := ((bw2.setCell (p := ⟨w.heap.size, 0, none⟩) (Nat.le_refl _) (.string t.1)).setCell (p := ⟨w.heap.size, 1, none⟩) (Nat.le_refl _) (.int .i64 tm)).setCell (p := ⟨w.heap.size, 2, none⟩) (Nat.le_refl _) (.slice a6 m c6)
          have hVz := hide (vals_store r56 hV6 (.string t.1) (.int .i64 tm) (.slice a6 m c6))
          obtain ⟨wz, ewz⟩ : ∃ wz, wz = ((w2.setCell ⟨w.heap.size, 0, none⟩ (.string t.1)).setCell ⟨w.heap.size, 1, none⟩ (.int .i64 tm)).setCell ⟨w.heap.size, 2, none⟩ (.slice a6 m c6) := ⟨_, rfl⟩
          rw [← ewz] at t5 t8 bz hVz ⊢
          clear ewz cD cE
          rw [hm] at t5
          replace hm := hide hm
          go_wp2_with fail
          exact ⟨⟨i + 1, j + 1, by have := unhide hij; omega, by omega, by go_num, ⟨a6, c6, t5, hVz⟩, t8, bz⟩, by simp [intOf]; omega⟩
        · obtain rfl : i = g := by omega
          obtain ⟨s0, s1, s2⟩ := q5.three
          obtain ⟨hr0, hr1, hr2⟩ := q8.three
          have hrf := q8.frz
          obtain ⟨m, hm⟩ : ∃ m, m = y.vs.length := ⟨_, rfl⟩
          rw [← hm] at s2
          have bz := ((hb.setCell (p := ⟨w.heap.size + 1, 0, none⟩) (Nat.le_succ _) (.string t.1)).setCell (p := ⟨w.heap.size + 1, 1, none⟩) (Nat.le_succ _) (.int .i64 tm)).setCell (p := ⟨w.heap.size + 1, 2, none⟩) (Nat.le_succ _) (.slice a' m c')
          obtain ⟨d0, d1, d2⟩ := (((q8.set 0 (.string t.1)).set 1 (.int .i64 tm)).set 2 (.slice a' m c')).three
          have hVz := vals_store q8 (unhide hVy) (.string t.1) (.int .i64 tm) (.slice a' m c')
          have hans := hide (show RMoveAns ts cs ⟨t, tm, vs⟩ f i (.returned (.tuple #[.agg #[.string t.1, .int .i64 tm, .slice a' m c'], .int .i64 0])) (((wr.setCell ⟨w.heap.size + 1, 0, none⟩ (.string t.1)).setCell ⟨w.heap.size + 1, 1, none⟩ (.int .i64 tm)).setCell ⟨w.heap.size + 1, 2, none⟩ (.slice a' m c')) by
            refine .inr (.inr ⟨unhide hsp, by rw [Int.toNat_natCast, ← unhide hvf]; exact unhide hi0', a', c', ?_, ?_⟩)
            · rw [Int.toNat_natCast, Int.toNat_natCast, show i - f = j by omega, ← hy, hm]
            · rw [Int.toNat_natCast, Int.toNat_natCast, show i - f = j by omega, ← hy]; exact hVz)
          clear hVz hVy hy
          replace hm := hide hm
          replace hij := hide hij
          go_wp2_with fail
          refine bodyPost_ret (v := .tuple #[.agg #[.string t.1, .int .i64 tm, .slice a' m c'], .int .i64 0]) (by simp [results, Tryz.results15, go_sem, d0, d1, d2]) rfl ⟨unhide hans, bz⟩

end Go.Proofs.YtcjpaldijngnpaaGreatDoor

namespace Go.Proofs.YtcjpaldijngnpaaGreatDoor
open Go.RowKit Go.Shelf

/-- One change undone, as the document does it. -/
def rb1 (ty' : Txt) (c : Ch) (s : Txt) : Option Txt := if eqT c.t.1 ty' then (if c.k = 5 then none else backN c s) else some s
/-- The name behind so many changes, from version g on. -/
def rbK (ty' : Txt) (cs : List Ch) (g : Nat) (s : Txt) : Nat → Option Txt
  | 0 => some s
  | j + 1 => (rbK ty' cs g s j).bind (rb1 ty' (chn cs (g - 1 - j)))
theorem rbK_none (ty' : Txt) (cs : List Ch) (g : Nat) (s : Txt) (k : Nat) (h : rbK ty' cs g s k = none) : ∀ m, rbK ty' cs g s (k + m) = none
  | 0 => h
  | m + 1 => by rw [← Nat.add_assoc, rbK, rbK_none ty' cs g s k h m]; rfl
/-- What the document's Back answers. -/
def rbackA (ts : List Ty) (cs : List Ch) (ty' fd' : Txt) (f t : Int) : Value :=
  if spansB cs f t = true ∧ hasF (vers ts cs t.toNat) ty'.1 fd'.1 = true then backV (rbK ty' cs t.toNat fd' (t.toNat - f.toNat)) else backV none

set_option maxRecDepth 100000 in
set_option maxHeartbeats 8000000 in
theorem rback_c (Bp sc lc : Nat) (sa la : Option Addr) (xs : List Sw) (ts : List Ty) (cs : List Ch) (ty' fd' : Txt) (f g : Int) (hS : Sch ts) (h20 : cs.length ≤ 20) (w : World) (hC : RCh w.heap.size w Bp sa la sc lc xs ts cs) :
    Calls Tryz.prog 17 #[.pointer (some ⟨Bp, 0, none⟩), .string ty'.1, .string fd'.1, .int .i64 f, .int .i64 g] w fun e W' => e = .returned (rbackA ts cs ty' fd' f g) ∧ Below w.heap.size w W' := by
  obtain ⟨hp0, hp1⟩ := hC.box.two
  obtain ⟨n, hn⟩ : ∃ n, n = cs.length := ⟨_, rfl⟩
  rw [← hn] at hp0 hp1
  have hn20 : (n : Int) ≤ 20 := by omega
  cases hsp : spansB cs f g with
  | false =>
    have hbad : f < 0 ∨ (n : Int) + 1 ≤ g ∨ g < f := by
      unfold spansB at hsp
      simp only [Bool.and_eq_false_iff, decide_eq_false_iff_not] at hsp
      omega
    have hA := hide (show rbackA ts cs ty' fd' f g = backV none by simp [rbackA, hsp])
    clear hsp
    replace hn := hide hn
    go_enter Tryz.func17, Tryz.ntmps17
    by_cases h1 : f < 0
    · clear hbad
      go_wp2_with fail
      refine bodyPost_ret (v := backV none) (by simp [results, Tryz.results17, backV, go_sem]) rfl ⟨by rw [unhide hA], Below.refl _ _⟩
    by_cases h2 : (n : Int) + 1 ≤ g
    · have h1' : 0 ≤ f := by omega
      clear hbad
      go_wp2_with fail
      refine bodyPost_ret (v := backV none) (by simp [results, Tryz.results17, backV, go_sem]) rfl ⟨by rw [unhide hA], Below.refl _ _⟩
    have h3 : g < f := by omega
    have h1' : 0 ≤ f := by omega
    have h2' : g < (n : Int) + 1 := by omega
    clear hbad
    go_wp2_with fail
    refine bodyPost_ret (v := backV none) (by simp [results, Tryz.results17, backV, go_sem]) rfl ⟨by rw [unhide hA], Below.refl _ _⟩
  | true =>
    have hsp' := hsp
    unfold spansB at hsp'
    simp only [Bool.and_eq_true, decide_eq_true_eq] at hsp'
    obtain ⟨⟨hf0, hfg⟩, hgl⟩ := hsp'
    obtain ⟨f, rfl⟩ : ∃ k : Nat, f = k := ⟨f.toNat, by omega⟩
    obtain ⟨g, rfl⟩ : ∃ k : Nat, g = k := ⟨g.toNat, by omega⟩
    have h2' : (g : Int) < (n : Int) + 1 := by omega
    obtain ⟨b, off, a1, c1, rfl, hc1, hT1⟩ := hC.at (k := g) (by omega)
    obtain ⟨vg, hvg⟩ : ∃ vg, vg = vers ts cs g := ⟨_, rfl⟩
    have hSg : Sch vg := by rw [hvg]; exact sch_vers hS cs g
    rw [← hvg] at hc1 hT1
    have hA0 := hide (show rbackA ts cs ty' fd' f g = if hasF vg ty'.1 fd'.1 = true then backV (rbK ty' cs g fd' (g - f)) else backV none by simp [rbackA, hsp, hvg])
    have hgn : g ≤ cs.length := by omega
    clear hsp hvg
    replace hn := hide hn
    have cF := hide (refFind_c a1 c1 vg ty'.1 hSg.1 w hT1)
    go_enter Tryz.func17, Tryz.ntmps17
    go_wp2_with fail
    refine (unhide cF).mono ?_
    rintro e w1 ⟨hb1, hfd⟩
    clear cF hp0 hc1
    rcases unhide hfd with ⟨hp, rfl⟩ | ⟨k, a2, c2, hp, hk, rfl, hF2⟩
    · have hA := hide (show rbackA ts cs ty' fd' f g = backV none by rw [unhide hA0]; simp [hasF, findT_place, hp])
      clear hfd hp hA0
      have bz := hb1.alloc hb1.size (.cells #[.string ⟨#[]⟩, .slice none 0 0] 69)
      go_wp2_with fail
      refine bodyPost_ret (v := backV none) (by simp [results, Tryz.results17, backV, go_sem]) rfl ⟨by rw [unhide hA], bz⟩
    · have hA1 := hide (show rbackA ts cs ty' fd' f g = if decide (0 ≤ placeI (fnames (ty vg k).2) fd'.1) = true then backV (rbK ty' cs g fd' (g - f)) else backV none by rw [unhide hA0]; simp [hasF, findT_place, hp])
      clear hfd hp hA0
      have h5 := sch_hk5 hSg k
      obtain ⟨w2, hw2⟩ : ∃ w2, w2 = w1.alloc (.cells #[.string (ty vg k).1.1, .slice a2 (ty vg k).2.length c2] 69) := ⟨_, rfl⟩
      have b2 : Below w1.heap.size w1 w2 := by rw [hw2]; exact (Below.refl _ _).alloc (Nat.le_refl _) _
      have x12 : Box w2 w1.heap.size 69 #[.string (ty vg k).1.1, .slice a2 (ty vg k).2.length c2] := by rw [hw2]; exact Box.new _ _ _
      have bw2 := hb1.trans (b2.mono hb1.size)
      obtain ⟨ht0, ht1⟩ := x12.two
      have cG := hide (refField_c (ty vg k).1.1 fd'.1 a2 c2 (ty vg k).2 h5 w2 (hF2.on b2))
      obtain ⟨P, hP⟩ : ∃ P, P = placeI (fnames (ty vg k).2) fd'.1 := ⟨_, rfl⟩
      rw [← hP] at cG hA1
      clear hP
      go_upto_region 4 with fail
      rw [← hw2]
      clear hw2 b2
      go_wp2_with fail
      refine (unhide cG).mono ?_
      rintro e w3 ⟨rfl, hb3⟩
      clear cG ht0 ht1
      have bw3 := bw2.trans (hb3.mono bw2.size)
      by_cases hP0 : P < 0
      · have hA := hide (show rbackA ts cs ty' fd' f g = backV none by rw [unhide hA1, if_neg (by simp; omega)])
        clear hA1
        go_wp2_with fail
        refine bodyPost_ret (v := backV none) (by simp [results, Tryz.results17, backV, go_sem]) rfl ⟨by rw [unhide hA], bw3⟩
      · have hA := hide (show rbackA ts cs ty' fd' f g = backV (rbK ty' cs g fd' (g - f)) by rw [unhide hA1, if_pos (by simp; omega)])
        have hP0' : 0 ≤ P := by omega
        clear hA1
        go_wp2_with fail
        go_loopw [2, 14] (fun fv iv wr => ∃ (z : Int) (j : Nat) (s : Txt), z = (g : Int) - 1 - j ∧ f + j ≤ g ∧ fv = .string s.1 ∧ iv = .int .i64 z ∧ Hid (rbK ty' cs g fd' j = some s) ∧ Below w.heap.size w wr) (fun _ iv _ => (intOf iv + 1).toNat)
        case atStart => exact ⟨(g : Int) - 1, 0, fd', by omega, by omega, rfl, rfl, hide rfl, bw3⟩
        case round =>
          obtain ⟨z, j, s, hz, hj, rfl, rfl, hs, hb⟩ := hrel
          by_cases hlt : f + j < g
          · obtain ⟨i, rfl⟩ : ∃ i : Nat, z = i := ⟨z.toNat, by omega⟩
            have hfi : (f : Int) ≤ i := by omega
            have hin : (i : Int) < n := by have := unhide hn; omega
            obtain ⟨lb, lo, rfl, hlb, hcs⟩ := hC.ch (k := i) (by omega)
            obtain ⟨c, hc⟩ : ∃ c, c = chn cs i := ⟨_, rfl⟩
            rw [← hc] at hcs
            have hnx := hide (show rbK ty' cs g fd' (j + 1) = rb1 ty' c s by rw [rbK, unhide hs, show g - 1 - j = i by omega, hc]; rfl)
            have hc7 : ∀ (k : Nat) u, c.cs[k]? = some u → wr.cell? ⟨lb, lo + i * 7 + k, none⟩ = some u := fun k u hu => (hb.cell (p := ⟨lb, lo + i * 7 + k, none⟩) hlb).trans (hcs k u hu)
            have hd0 := hc7 0 _ rfl
            have hd1 := hc7 1 _ rfl
            have hd2 := hc7 2 _ rfl
            have hd3 := hc7 3 _ rfl
            have hd4 := hc7 4 _ rfl
            have hd5 := hc7 5 _ rfl
            have hd6 := hc7 6 _ rfl
            rw [Nat.add_zero] at hd0
            have q1 := (hC.on hb).box.two.2
            rw [← unhide hn] at q1
            have hzi : (i : Int) = (g : Int) - 1 - j := hz
            replace hz := hide hzi
            clear hzi hcs hc7 hc hp1
            have hnone := hide (show rb1 ty' c s = none → rbackA ts cs ty' fd' f g = backV none from fun h => by
              rw [unhide hA]
              have := rbK_none ty' cs g fd' (j + 1) (by rw [unhide hnx, h]) (g - f - (j + 1))
              rw [show j + 1 + (g - f - (j + 1)) = g - f by omega] at this
              rw [this])
            cases hty : eqT c.t.1 ty'
            · have hn2 := hide (show rbK ty' cs g fd' (j + 1) = some s by rw [unhide hnx]; simp [rb1, hty])
              have hty2 : (c.t.1.toList == ty'.1.toList) = false := by simp only [eqT, beq_eq_false_iff_ne, ne_eq] at hty ⊢; exact fun e => hty e.symm
              clear hty
              go_wp2_with fail
              exact ⟨⟨(i : Int) - 1, j + 1, s, by have := unhide hz; omega, by omega, rfl, by go_num, hn2, hb⟩, by simp [intOf]⟩
            · have hty2 : (c.t.1.toList == ty'.1.toList) = true := by simp only [eqT, beq_iff_eq] at hty ⊢; exact hty.symm
              by_cases hk5 : c.k = 5
              · have hA2 := hide (unhide hnone (by simp [rb1, hty, hk5]))
                clear hty
                go_wp2_with fail
                refine bodyPost_ret (v := backV none) (by simp [results, Tryz.results17, backV, go_sem]) rfl ⟨by rw [unhide hA2], hb⟩
              · have hn2 := hide (show rb1 ty' c s = backN c s by simp [rb1, hty, hk5])
                clear hty
                have cB := hide (refBack_c c s wr)
                go_wp2_with fail
                refine (unhide cB).mono ?_
                rintro e w5 ⟨rfl, hb5⟩
                clear cB hd0 hd1 hd2 hd3 hd4 hd5 hd6
                have bw5 := hb.trans (hb5.mono hb.size)
                cases hbn : backN c s with
                | none =>
                  have hA2 := hide (unhide hnone (by rw [unhide hn2, hbn]))
                  clear hbn
                  simp only [backV]
                  go_wp2_with fail
                  refine bodyPost_ret (v := backV none) (by simp [results, Tryz.results17, backV, go_sem]) rfl ⟨by rw [unhide hA2], bw5⟩
                | some s2 =>
                  have hn3 := hide (show rbK ty' cs g fd' (j + 1) = some s2 by rw [unhide hnx, unhide hn2, hbn])
                  clear hbn
                  simp only [backV]
                  go_wp2_with fail
                  exact ⟨⟨(i : Int) - 1, j + 1, s2, by have := unhide hz; omega, by omega, rfl, by go_num, hn3, bw5⟩, by simp [intOf]⟩
          · have hjj : j = g - f := by omega
            have hA2 := hide (show rbackA ts cs ty' fd' f g = .tuple #[.string s.1, .bool true] by rw [unhide hA, ← hjj, unhide hs]; rfl)
            have hzf : z < f := by omega
            clear hjj hz
            go_wp2_with fail
            refine bodyPost_ret (v := .tuple #[.string s.1, .bool true]) (by simp [results, Tryz.results17, go_sem]) rfl ⟨by rw [unhide hA2], hb⟩

end Go.Proofs.YtcjpaldijngnpaaGreatDoor

namespace Go.Proofs.YtcjpaldijngnpaaGreatDoor
open Go.RowKit Go.Shelf

theorem has_iff (ts : List Ty) (nm s : ByteArray) : hasF ts nm s = true ↔ ∃ t, findT ts nm = some t ∧ ∃ x ∈ t.2, key x.1 = s.toList := by
  unfold hasF
  cases hf : findT ts nm with
  | none => simp
  | some t =>
    simp only [Option.some.injEq, exists_eq_left', decide_eq_true_eq]
    unfold placeI
    cases hp : placeN (fnames t.2) s with
    | none =>
      have h := placeN_none.1 hp
      constructor
      · intro h0; simp at h0
      · rintro ⟨x, hx, hk⟩
        exact absurd hk (h x.1 (by simp only [fnames, List.mem_map]; exact ⟨x, hx, rfl⟩))
    | some k =>
      obtain ⟨hk, h1, _⟩ := placeN_some hp
      constructor
      · intro _
        have hm : (fnames t.2)[k] ∈ fnames t.2 := List.getElem_mem hk
        simp only [fnames, List.mem_map] at hm
        obtain ⟨x, hx, e⟩ := hm
        exact ⟨x, hx, by rw [e]; exact h1⟩
      · intro _; simp

theorem back_step {ts : List Ty} {c : Ch} (hS : Sch ts) (h0 : refE ts c = 0) {ty' s : Txt} (hh : hasF (tNew c ts) ty'.1 s.1 = true) :
    rb1 ty' c s = back1 ty' c s ∧ ∀ s', back1 ty' c s = some s' → hasF ts ty'.1 s'.1 = true := by
  obtain ⟨t', hf', x, hx, hkx⟩ := (has_iff _ _ _).1 hh
  unfold rb1 back1
  cases he : eqT c.t.1 ty' with
  | true =>
    have hk : key ty' = key c.t := (eqT_iff _ _).1 he
    simp only [if_true]
    by_cases h5 : c.k = 5
    · exfalso
      obtain ⟨hm, hkt⟩ := findT_mem hf'
      obtain ⟨m, _, e, _⟩ := tNew_ins c ts h5
      rw [e, List.append_assoc, List.mem_append, List.mem_append, List.mem_singleton] at hm
      have hno : ∀ t ∈ ts, key t.1 ≠ key c.t := by
        rcases (ref_cases h0).2 with ⟨_, h, _⟩ | ⟨h, _⟩
        · exact h
        · exact absurd h5 h
      rcases hm with hm | rfl | hm
      · exact hno t' (List.mem_of_mem_take hm) (by rw [hkt]; exact hk)
      · simp at hx
      · exact hno t' (List.mem_of_mem_drop hm) (by rw [hkt]; exact hk)
    · rw [if_neg h5]
      refine ⟨rfl, fun s' hs' => ?_⟩
      rw [findT_new (.inl h5)] at hf'
      obtain ⟨t, hf, rfl⟩ := Option.map_eq_some_iff.1 hf'
      obtain ⟨hm, hkt⟩ := findT_mem hf
      have hmine : (key t.1 == key c.t) = true := by rw [hkt, show ty'.1.toList = key ty' from rfl, hk]; simp
      refine (has_iff _ _ _).2 ⟨t, hf, ?_⟩
      have hG : Good c t.2 := by
        have hp : ∃ j, placeN (tnames ts) c.t.1 = some j := by
          rcases (ref_cases h0).2 with ⟨h, _⟩ | ⟨_, h⟩
          · exact absurd h h5
          · exact h
        obtain ⟨j, hp⟩ := hp
        have hg := (good_of hS h0 hp).2
        have e : findT ts c.t.1 = some (ty ts j) := by rw [findT_place, hp]; rfl
        have e2 : findT ts ty'.1 = findT ts c.t.1 := by
          unfold findT eqT
          rw [show ty'.1.toList = c.t.1.toList from hk]
        rw [e2, e] at hf
        rw [← Option.some.inj hf]; exact hg
      have hx' : x ∈ fNew t.1 c t.2 := hx
      rw [fNew_eq, hmine, List.mem_append] at hx'
      rcases hx' with hx' | hx'
      · obtain ⟨f, hfm, hfx⟩ := List.mem_filterMap.1 hx'
        unfold fchg at hfx
        simp only [Bool.true_and] at hfx
        unfold backN at hs'
        by_cases hff : (f.1.1.toList == c.f.1.toList) = true
        · rw [if_pos hff] at hfx
          have hfk : key f.1 = key c.f := by simpa using hff
          by_cases h2 : c.k = 2
          · rw [if_pos h2] at hfx; cases hfx
          rw [if_neg h2] at hfx
          by_cases h3 : c.k = 3
          · rw [if_pos h3] at hfx
            obtain rfl := Option.some.inj hfx
            rw [if_neg (by omega), if_pos h3, if_pos ((eqT_iff _ _).2 (by exact hkx.symm))] at hs'
            obtain rfl := Option.some.inj hs'
            exact ⟨f, hfm, hfk⟩
          rw [if_neg h3] at hfx
          have hfx2 : key f.1 = s.1.toList := by
            by_cases h4 : c.k = 4
            · rw [if_pos h4] at hfx
              obtain rfl := Option.some.inj hfx
              exact hkx
            · rw [if_neg h4] at hfx
              obtain rfl := Option.some.inj hfx
              exact hkx
          by_cases h1 : c.k = 1
          · rw [if_pos h1, if_pos ((eqT_iff _ _).2 (hfx2.symm.trans hfk))] at hs'
            cases hs'
          · rw [if_neg h1, if_neg h3] at hs'
            obtain rfl := Option.some.inj hs'
            exact ⟨f, hfm, hfx2⟩
        · rw [if_neg hff] at hfx
          obtain rfl := Option.some.inj hfx
          by_cases h1 : c.k = 1
          · rw [if_pos h1] at hs'
            split at hs'
            · cases hs'
            · obtain rfl := Option.some.inj hs'
              exact ⟨f, hfm, hkx⟩
          · rw [if_neg h1] at hs'
            by_cases h3 : c.k = 3
            · rw [if_pos h3] at hs'
              split at hs'
              · obtain rfl := Option.some.inj hs'
                exact hG.there (.inr (.inl h3))
              · obtain rfl := Option.some.inj hs'
                exact ⟨f, hfm, hkx⟩
            · rw [if_neg h3] at hs'
              obtain rfl := Option.some.inj hs'
              exact ⟨f, hfm, hkx⟩
      · by_cases h1 : c.k = 1
        · simp only [h1, decide_true, Bool.and_true, if_true, List.mem_singleton] at hx'
          subst hx'
          unfold backN at hs'
          rw [if_pos h1, if_pos ((eqT_iff _ _).2 (by exact hkx.symm))] at hs'
          cases hs'
        · simp [h1] at hx'
  | false =>
    have hk : key c.t ≠ ty'.1.toList := fun e => by
      have : eqT c.t.1 ty' = true := (eqT_iff _ _).2 (by exact e.symm)
      rw [he] at this; cases this
    simp only [Bool.false_eq_true, if_false]
    refine ⟨trivial, fun s' hs' => ?_⟩
    obtain rfl := Option.some.inj hs'
    rw [findT_new (.inr hk)] at hf'
    obtain ⟨t, hf, rfl⟩ := Option.map_eq_some_iff.1 hf'
    obtain ⟨hm, hkt⟩ := findT_mem hf
    refine (has_iff _ _ _).2 ⟨t, hf, ?_⟩
    have hmine : (key t.1 == key c.t) = false := by
      rw [beq_eq_false_iff_ne, hkt]
      exact fun e => hk e.symm
    have hx' : x ∈ fNew t.1 c t.2 := hx
    rw [fNew_eq, hmine] at hx'
    simp only [Bool.false_and, Bool.false_eq_true, if_false, List.append_nil, List.mem_filterMap] at hx'
    obtain ⟨f, hfm, hfx⟩ := hx'
    simp only [fchg, Bool.false_and, Bool.false_eq_true, if_false, Option.some.injEq] at hfx
    subst hfx
    exact ⟨f, hfm, hkx⟩

/-- Every change of the chain was taken. -/
def Taken (ts : List Ty) (cs : List Ch) : Prop := ∀ k, k < cs.length → refE (vers ts cs k) (chn cs k) = 0
theorem Taken.nil (ts : List Ty) : Taken ts [] := fun k hk => by simp at hk
theorem Taken.snoc {ts : List Ty} {cs : List Ch} {c : Ch} (h : Taken ts cs) (h0 : addR ts cs c = 0) : Taken ts (cs ++ [c]) := fun k hk => by
  rw [List.length_append, List.length_singleton] at hk
  rcases Nat.lt_or_ge k cs.length with hl | hl
  · rw [vers_snoc ts cs c (by omega)]
    have e : chn (cs ++ [c]) k = chn cs k := by simp [chn, List.getElem?_append_left hl]
    rw [e]; exact h k hl
  · obtain rfl : k = cs.length := by omega
    rw [vers_snoc ts cs c (Nat.le_refl _)]
    have e : chn (cs ++ [c]) cs.length = c := by simp [chn]
    rw [e]
    unfold addR at h0
    split at h0
    · cases h0
    · exact h0
/-- As long as each step goes on, both go the same way. -/
theorem bk_same {ts : List Ty} {cs : List Ch} (hS : Sch ts) (hT : Taken ts cs) (ty' fd' : Txt) {f g : Nat} (hg : g ≤ cs.length) (hh : hasF (vers ts cs g) ty'.1 fd'.1 = true) :
    ∀ j, f + j ≤ g → rbK ty' cs g fd' j = bkK ty' (cut cs f g) fd' j ∧ ∀ s, rbK ty' cs g fd' j = some s → hasF (vers ts cs (g - j)) ty'.1 s.1 = true := by
  intro j
  induction j with
  | zero => exact fun _ => ⟨rfl, fun s hs => by cases hs; exact hh⟩
  | succ j ih =>
    intro hj
    obtain ⟨h1, h2⟩ := ih (by omega)
    have hlen := cut_len cs (f := f) hg
    have ec : chn (cut cs f g) ((cut cs f g).length - 1 - j) = chn cs (g - 1 - j) := by
      rw [hlen, cut_at cs (by omega), show f + (g - f - 1 - j) = g - 1 - j by omega]
    rw [rbK, bkK, ← h1, ec]
    cases hr : rbK ty' cs g fd' j with
    | none => exact ⟨rfl, fun s hs => by cases hs⟩
    | some s =>
      have hs := h2 s hr
      have hv : vers ts cs (g - j) = tNew (chn cs (g - 1 - j)) (vers ts cs (g - 1 - j)) := by
        rw [show g - j = (g - 1 - j) + 1 by omega, vers_succ ts cs (by omega)]
        unfold appT
        rw [if_pos (hT _ (by omega))]
      rw [hv] at hs
      obtain ⟨e1, e2⟩ := back_step (sch_vers hS cs _) (hT (g - 1 - j) (by omega)) hs
      simp only [Option.bind_some]
      refine ⟨e1, fun s' hs' => ?_⟩
      rw [e1] at hs'
      have := e2 s' hs'
      rwa [show g - (j + 1) = g - 1 - j by omega]
theorem rback_same {ts : List Ty} {cs : List Ch} (hS : Sch ts) (hT : Taken ts cs) (ty' fd' : Txt) (f g : Int) : rbackA ts cs ty' fd' f g = backA ts cs ty' fd' f g := by
  unfold rbackA backA
  by_cases h : spansB cs f g = true ∧ hasF (vers ts cs g.toNat) ty'.1 fd'.1 = true
  · rw [if_pos h, if_pos h]
    have hsp := h.1
    unfold spansB at hsp
    simp only [Bool.and_eq_true, decide_eq_true_eq] at hsp
    rw [(bk_same hS hT ty' fd' (f := f.toNat) (by omega) h.2 (g.toNat - f.toNat) (by omega)).1]
  · rw [if_neg h, if_neg h]

end Go.Proofs.YtcjpaldijngnpaaGreatDoor
