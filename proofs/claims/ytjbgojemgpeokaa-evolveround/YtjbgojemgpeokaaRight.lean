/-
  What EvolveRight answers: true, for every schema, change and event, in whatever world; nothing that lay is turned.
-/
import Derived.Test.YtjbgojemgpeokaaKnown
import Derived.Test.YtjbgojemgpeokaaPureEv
import Derived.Test.YtjbgojemgpeokaaRefIs
import Derived.Test.YtjbgojemgpeokaaReads
namespace Go.Proofs.Ytjbgojemgpeokaa
open Go.RowKit Go.Shelf

theorem sch_hk5 {ts : List Ty} (h : Sch ts) : ∀ k, (ty ts k).2.length ≤ 5 := hk5_of ts fun t ht => (((sch_iff ts).1 h).2.1 t ht).2.1

set_option maxRecDepth 100000 in
set_option maxHeartbeats 8000000 in
theorem right_c (a av : Option Addr) (cap cv : Nat) (ts : List Ty) (c : Ch) (x : Ev) (hm : ts.length ≤ maxLen) (hmv : x.vs.length ≤ maxLen) (w : World) (hT : Typs w.heap.size w a ts) (hV : Vals w.heap.size w av x.vs) :
    Calls Try.prog 3 #[.agg #[.slice a ts.length cap], c.v, .agg #[.string x.ty.1, .int .i64 x.ts, .slice av x.vs.length cv]] w fun e w' => e = .returned (.bool true) ∧ Below w.heap.size w w' := by
  obtain ⟨t, tm, vs⟩ := x
  simp only at hmv hV ⊢
  obtain ⟨W0, hW0⟩ : ∃ W0, W0 = ((w.alloc (.cells #[.slice a ts.length cap] 24)).alloc (.cells c.cs 28)).alloc (.cells #[.string t.1, .int .i64 tm, .slice av vs.length cv] 31) := ⟨_, rfl⟩
  have b0 : Below w.heap.size w W0 := by rw [hW0]; exact (((Below.refl _ _).alloc (Nat.le_refl _) _).alloc (by simp) _).alloc (by simp; omega) _
  have x3 : Box W0 w.heap.size 24 #[.slice a ts.length cap] := by
    rw [hW0]; exact ((Box.new w 24 #[.slice a ts.length cap]).alloc _).alloc _
  have x4 : Box W0 (w.heap.size + 1) 28 c.cs := by
    have := Box.new (w.alloc (.cells #[.slice a ts.length cap] 24)) 28 c.cs
    simp only [World.size_alloc] at this
    rw [hW0]; exact this.alloc _
  have x5 : Box W0 (w.heap.size + 1 + 1) 31 #[.string t.1, .int .i64 tm, .slice av vs.length cv] := by
    have := Box.new ((w.alloc (.cells #[.slice a ts.length cap] 24)).alloc (.cells c.cs 28)) 31 #[.string t.1, .int .i64 tm, .slice av vs.length cv]
    simp only [World.size_alloc] at this
    rw [hW0]; exact this
  have T0 := hT.on b0
  have V0 := hV.on b0
  have hW0' := hide hW0
  clear hW0
  go_enter Try.func3, Try.ntmps3
  go_wp2_with fail
  rw [show Obj.cells #[Value.int .i64 c.k, .string c.t.1, .string c.f.1, .string c.o.1, .int .i64 c.dk, .int .i64 c.dn, .string c.ds.1] 28 = Obj.cells c.cs 28 from rfl, ← unhide hW0']
  refine (known_c W0).mono ?_
  rintro e w1 ⟨rfl, hb1⟩
  have y3 := x3.on hb1 x3.lt
  have T1 := T0.on hb1
  have hs := y3.one.1
  have cS := hide (refSch_c a cap ts hm w1 T1)
  go_wp2_with fail
  refine (unhide cS).mono ?_
  rintro e w2 ⟨B, rfl, hb2, hB⟩
  clear cS hs
  have q2 := hb1.trans (hb2.mono hb1.size)
  have b2 := b0.trans (q2.mono b0.size)
  have z3 := x3.on q2 x3.lt
  have z4 := x4.on q2 x4.lt
  have z5 := x5.on q2 x5.lt
  have T2 := T0.on q2
  have V2 := V0.on q2
  have hs := z3.one.1
  obtain ⟨he0, he1, he2⟩ := z5.three
  cases B with
  | false =>
    go_wp2_with fail
    go_ret
    exact ⟨rfl, b2⟩
  | true =>
    have hS : Sch ts := (unhide hB).1 rfl
    by_cases h20 : vs.length ≤ 20
    · have h20' : ¬ (20 : Int) < vs.length := by omega
      have h5 := hS.1
      have hk5 := sch_hk5 hS
      have cA := hide (apply_c a cap ts c h5 hk5 w2 T2)
      obtain ⟨hc0, hc1, hc2, hc3, hc4, hc5, hc6⟩ := z4.seven
      replace hS := hide hS
      clear hB
      go_wp2_with fail
      refine (unhide cA).mono ?_
      rintro e w3 ⟨a3, c3, rfl, T3, hb3⟩
      clear cA hs he0 he1 he2 hc0 hc1 hc2 hc3 hc4 hc5 hc6
      have bA : Below w2.heap.size w2 (w3.alloc (.cells #[.slice a3 (appT ts c).length c3] 24)) := hb3.alloc hb3.size _
      have bA3 : Below w3.heap.size w3 (w3.alloc (.cells #[.slice a3 (appT ts c).length c3] 24)) := (Below.refl _ _).alloc (Nat.le_refl _) _
      have u3 := z3.on bA z3.lt
      have u4 := z4.on bA z4.lt
      have u5 := z5.on bA z5.lt
      have u7 := Box.new w3 24 #[.slice a3 (appT ts c).length c3]
      have S4 := T2.on bA
      have V4 := V2.on bA
      have T4 := T3.on bA3
      have b4 := b2.trans (bA.mono b2.size)
      have hs := u3.one.1
      have ha := u7.one.1
      by_cases h0 : refE ts c = 0
      · have eA : appT ts c = tNew c ts := by simp [appT, h0]
        rw [eA] at T3 T4 u7 ha bA bA3 u3 u4 u5 S4 V4 b4 hs ⊢
        rw [h0, errE_zero]
        have hSn := sch_new (unhide hS) h0
        have hne := new_ne (unhide hS) h0
        have hk5n := sch_hk5 hSn
        have h5n := hSn.1
        have cS := hide (refSch_c a3 c3 (tNew c ts) (by unfold maxLen; omega) _ T4)
        replace hSn := hide hSn
        replace hne := hide hne
        have h0' := hide h0
        clear h0
        go_wp2_with fail
        refine (unhide cS).mono ?_
        rintro e w5 ⟨B, rfl, hb5, hB⟩
        obtain rfl : B = true := (unhide hB).2 (unhide hSn)
        clear cS hs ha
        have v3 := u3.on hb5 u3.lt
        have v4 := u4.on hb5 u4.lt
        have v5 := u5.on hb5 u5.lt
        have v7 := u7.on hb5 u7.lt
        have S5 := S4.on hb5
        have V5 := V4.on hb5
        have T5 := T4.on hb5
        have b5 := b4.trans (hb5.mono b4.size)
        have hs := v3.one.1
        have ha := v7.one.1
        have cE := hide (refSameS_c a3 a c3 cap (tNew c ts) ts h5n hk5n hk5 w5 T5 S5)
        go_wp2_with fail
        refine (unhide cE).mono ?_
        rintro e w6 ⟨B, rfl, hb6, hB⟩
        obtain rfl : B = false := by
          cases B
          · rfl
          · exact (unhide hne ((unhide hB).1 rfl)).elim
        clear cE hs ha
        have r3 := v3.on hb6 v3.lt
        have r4 := v4.on hb6 v4.lt
        have r5 := v5.on hb6 v5.lt
        have r7 := v7.on hb6 v7.lt
        have S6 := S5.on hb6
        have V6 := V5.on hb6
        have T6 := T5.on hb6
        have b6 := b5.trans (hb6.mono b5.size)
        have hmx : Try.prog.follows .mixedOrders = true := by kernel_rfl
        go_wp2_with fail
        refine wp_region_any hmx (wpAny_of_C (C := fun w' => Box w' w.heap.size 24 #[.slice a ts.length cap] ∧ Box w' (w.heap.size + 1) 28 c.cs ∧ Box w' (w.heap.size + 1 + 1) 31 #[.string t.1, .int .i64 tm, .slice av vs.length cv] ∧ Box w' w3.heap.size 24 #[.slice a3 (tNew c ts).length c3]) _ _ _ _ ?_)
        have bD : Below w6.heap.size w6 w6.drew := (Below.refl _ _).drew
        have hC : Box w6.drew w.heap.size 24 #[.slice a ts.length cap] ∧ Box w6.drew (w.heap.size + 1) 28 c.cs ∧ Box w6.drew (w.heap.size + 1 + 1) 31 #[.string t.1, .int .i64 tm, .slice av vs.length cv] ∧ Box w6.drew w3.heap.size 24 #[.slice a3 (tNew c ts).length c3] := ⟨r3.drew, r4.drew, r5.drew, r7.drew⟩
        have cI := fun W h h' => refIsE_c a av cap cv ts ⟨t, tm, vs⟩ h5 hk5 h20 W h h'
        by_cases hi : isE ts ⟨t, tm, vs⟩ = 0
        · have cI2 := fun W aa cc h h' => refIsE_c a3 aa c3 cc (tNew c ts) (movE ts c ⟨t, tm, vs⟩) h5n hk5n (by
          obtain ⟨tt, hf, hE⟩ := isE_found hi
          have := movE_find ts c ⟨t, tm, vs⟩ tt hf (unhide h0') hi
          rw [this]
          have e1 := (evOk_new hE (good_found (unhide hS) (unhide h0') (findT_mem hf).1)).len
          simp only at e1 ⊢
          have := fNew_len tt.1 c tt.2
          have := (((sch_iff ts).1 (unhide hS)).2.1 tt (findT_mem hf).1).2.1
          omega) W h h'
          rw [isE_new (unhide hS) (unhide h0') hi] at cI2
          have eT := hide (show (movE ts c ⟨t, tm, vs⟩).ty = t ∧ (movE ts c ⟨t, tm, vs⟩).ts = tm by
            obtain ⟨tt, hf, hE⟩ := isE_found hi
            rw [movE_find ts c ⟨t, tm, vs⟩ tt hf (unhide h0') hi]
            exact ⟨rfl, rfl⟩)
          rw [(unhide eT).1, (unhide eT).2] at cI2
          rw [hi] at cI
          replace cI := hide cI
          replace cI2 := hide cI2
          have cM := hide (fun W h h' => move_c a av cap cv ts c ⟨t, tm, vs⟩ h5 hk5 h20 W h h')
          clear hi eT
          have cI1 := hide (unhide cI w6.drew (S6.on bD) (V6.on bD))
          refine wpAnyC_reads 0 hC (by kernel_rfl) (by kernel_rfl) (by kernel_rfl) (fun d _ _ _ _ h => by cases d <;> exact h) (fun oi ho K hK => ?_)
          simp only [List.getElem?_toArray, List.getElem?_cons_zero, Option.some.injEq] at ho
          subst ho
          rw [if_pos (by kernel_rfl)]
          refine ⟨.agg #[.slice a ts.length cap], fun w' hw' => ?_, hK _ ?_⟩
          · obtain ⟨hx3, hx4, hx5, hx7⟩ := hw'
            have hs := hx3.one.1
            obtain ⟨hc0, hc1, hc2, hc3, hc4, hc5, hc6⟩ := hx4.seven
            obtain ⟨he0, he1, he2⟩ := hx5.three
            have ha := hx7.one.1
            go_simp
          clear hK K
          refine wpAnyC_reads 1 hC (by kernel_rfl) (by kernel_rfl) (by kernel_rfl) (fun d _ _ _ _ h => by cases d <;> exact h) (fun oi ho K hK => ?_)
          simp only [List.getElem?_toArray, List.getElem?_cons_succ, List.getElem?_cons_zero, Option.some.injEq] at ho
          subst ho
          rw [if_pos (by kernel_rfl)]
          refine ⟨.agg #[.string t.1, .int .i64 tm, .slice av vs.length cv], fun w' hw' => ?_, hK _ ?_⟩
          · obtain ⟨hx3, hx4, hx5, hx7⟩ := hw'
            have hs := hx3.one.1
            obtain ⟨hc0, hc1, hc2, hc3, hc4, hc5, hc6⟩ := hx4.seven
            obtain ⟨he0, he1, he2⟩ := hx5.three
            have ha := hx7.one.1
            go_simp
          clear hK K
          refine wpAnyC_calls 2 (by kernel_rfl) (fun oi ho K hK => ?_)
          simp only [List.getElem?_toArray, List.getElem?_cons_succ, List.getElem?_cons_zero, Option.some.injEq] at ho
          subst ho
          go_simp
          refine (unhide cI1).mono ?_
          rintro e w7 ⟨rfl, hb7⟩
          have p3 := r3.drew.on hb7 r3.lt
          have p4 := r4.drew.on hb7 r4.lt
          have p5 := r5.drew.on hb7 r5.lt
          have p7 := r7.drew.on hb7 r7.lt
          go_simp
          refine hK _ _ ⟨p3, p4, p5, p7⟩ ?_
          clear hK K
          refine wpAnyC_reads 3 ⟨p3, p4, p5, p7⟩ (by kernel_rfl) (by kernel_rfl) (by kernel_rfl) (fun d _ _ _ _ h => by cases d <;> exact h) (fun oi ho K hK => ?_)
          simp only [List.getElem?_toArray, List.getElem?_cons_succ, List.getElem?_cons_zero, Option.some.injEq] at ho
          subst ho
          rw [if_pos (by kernel_rfl)]
          refine ⟨.bool false, fun w' hw' => ?_, hK _ ?_⟩
          · clear hw'
            go_simp
          clear hK K
          refine wpAnyC_reads 4 ⟨p3, p4, p5, p7⟩ (by kernel_rfl) (by kernel_rfl) (by kernel_rfl) (fun d _ _ _ _ h => by cases d <;> exact h) (fun oi ho K hK => ?_)
          simp only [List.getElem?_toArray, List.getElem?_cons_succ, List.getElem?_cons_zero, Option.some.injEq] at ho
          subst ho
          rw [if_pos (by kernel_rfl)]
          refine ⟨.bool false, fun w' hw' => ?_, hK _ ?_⟩
          · clear hw'
            go_simp
          clear hK K
          refine wpAnyC_reads 5 ⟨p3, p4, p5, p7⟩ (by kernel_rfl) (by kernel_rfl) (by kernel_rfl) (fun d _ _ _ _ h => by cases d <;> exact h) (fun oi ho K hK => ?_)
          simp only [List.getElem?_toArray, List.getElem?_cons_succ, List.getElem?_cons_zero, Option.some.injEq] at ho
          subst ho
          rw [if_pos (by kernel_rfl)]
          refine ⟨.agg #[.slice a3 (tNew c ts).length c3], fun w' hw' => ?_, hK _ ?_⟩
          · obtain ⟨hx3, hx4, hx5, hx7⟩ := hw'
            have hs := hx3.one.1
            obtain ⟨hc0, hc1, hc2, hc3, hc4, hc5, hc6⟩ := hx4.seven
            obtain ⟨he0, he1, he2⟩ := hx5.three
            have ha := hx7.one.1
            go_simp
          clear hK K
          refine wpAnyC_reads 6 ⟨p3, p4, p5, p7⟩ (by kernel_rfl) (by kernel_rfl) (by kernel_rfl) (fun d _ _ _ _ h => by cases d <;> exact h) (fun oi ho K hK => ?_)
          simp only [List.getElem?_toArray, List.getElem?_cons_succ, List.getElem?_cons_zero, Option.some.injEq] at ho
          subst ho
          rw [if_pos (by kernel_rfl)]
          refine ⟨.agg #[.slice a ts.length cap], fun w' hw' => ?_, hK _ ?_⟩
          · obtain ⟨hx3, hx4, hx5, hx7⟩ := hw'
            have hs := hx3.one.1
            obtain ⟨hc0, hc1, hc2, hc3, hc4, hc5, hc6⟩ := hx4.seven
            obtain ⟨he0, he1, he2⟩ := hx5.three
            have ha := hx7.one.1
            go_simp
          clear hK K
          refine wpAnyC_reads 7 ⟨p3, p4, p5, p7⟩ (by kernel_rfl) (by kernel_rfl) (by kernel_rfl) (fun d _ _ _ _ h => by cases d <;> exact h) (fun oi ho K hK => ?_)
          simp only [List.getElem?_toArray, List.getElem?_cons_succ, List.getElem?_cons_zero, Option.some.injEq] at ho
          subst ho
          rw [if_pos (by kernel_rfl)]
          refine ⟨c.v, fun w' hw' => ?_, hK _ ?_⟩
          · obtain ⟨hx3, hx4, hx5, hx7⟩ := hw'
            have hs := hx3.one.1
            obtain ⟨hc0, hc1, hc2, hc3, hc4, hc5, hc6⟩ := hx4.seven
            obtain ⟨he0, he1, he2⟩ := hx5.three
            have ha := hx7.one.1
            go_simp
          clear hK K
          refine wpAnyC_reads 8 ⟨p3, p4, p5, p7⟩ (by kernel_rfl) (by kernel_rfl) (by kernel_rfl) (fun d _ _ _ _ h => by cases d <;> exact h) (fun oi ho K hK => ?_)
          simp only [List.getElem?_toArray, List.getElem?_cons_succ, List.getElem?_cons_zero, Option.some.injEq] at ho
          subst ho
          rw [if_pos (by kernel_rfl)]
          refine ⟨.agg #[.string t.1, .int .i64 tm, .slice av vs.length cv], fun w' hw' => ?_, hK _ ?_⟩
          · obtain ⟨hx3, hx4, hx5, hx7⟩ := hw'
            have hs := hx3.one.1
            obtain ⟨hc0, hc1, hc2, hc3, hc4, hc5, hc6⟩ := hx4.seven
            obtain ⟨he0, he1, he2⟩ := hx5.three
            have ha := hx7.one.1
            go_simp
          clear hK K
          have cM7 := hide (unhide cM w7 ((S6.on bD).on hb7) ((V6.on bD).on hb7))
          refine wpAnyC_calls 9 (by kernel_rfl) (fun oi ho K hK => ?_)
          simp only [List.getElem?_toArray, List.getElem?_cons_succ, List.getElem?_cons_zero, Option.some.injEq] at ho
          subst ho
          go_simp
          refine (unhide cM7).mono ?_
          rintro e w8 ⟨a8, c8, rfl, V8, hb8⟩
          have m3 := p3.on hb8 p3.lt
          have m4 := p4.on hb8 p4.lt
          have m5 := p5.on hb8 p5.lt
          have m7 := p7.on hb8 p7.lt
          have cI8 := hide (unhide cI2 w8 a8 c8 (((T6.on bD).on hb7).on hb8) V8)
          clear V8
          go_simp
          refine hK _ _ ⟨m3, m4, m5, m7⟩ ?_
          clear hK K
          refine wpAnyC_calls 10 (by kernel_rfl) (fun oi ho K hK => ?_)
          simp only [List.getElem?_toArray, List.getElem?_cons_succ, List.getElem?_cons_zero, Option.some.injEq] at ho
          subst ho
          go_simp
          refine (unhide cI8).mono ?_
          rintro e w9 ⟨rfl, hb9⟩
          go_simp
          refine hK _ _ ⟨m3.on hb9 m3.lt, m4.on hb9 m4.lt, m5.on hb9 m5.lt, m7.on hb9 m7.lt⟩ ?_
          clear hK K
          refine wpAnyC_reads 11 ⟨m3.on hb9 m3.lt, m4.on hb9 m4.lt, m5.on hb9 m5.lt, m7.on hb9 m7.lt⟩ (by kernel_rfl) (by kernel_rfl) (by kernel_rfl) (fun d _ _ _ _ h => by cases d <;> exact h) (fun oi ho K hK => ?_)
          simp only [List.getElem?_toArray, List.getElem?_cons_succ, List.getElem?_cons_zero, Option.some.injEq] at ho
          subst ho
          rw [if_pos (by kernel_rfl)]
          refine ⟨.bool true, fun w' hw' => ?_, hK _ ?_⟩
          · clear hw'
            go_simp
          clear hK K
          refine wpAnyC_reads 12 ⟨m3.on hb9 m3.lt, m4.on hb9 m4.lt, m5.on hb9 m5.lt, m7.on hb9 m7.lt⟩ (by kernel_rfl) (by kernel_rfl) (by kernel_rfl) (fun d _ _ _ _ h => by cases d <;> exact h) (fun oi ho K hK => ?_)
          simp only [List.getElem?_toArray, List.getElem?_cons_succ, List.getElem?_cons_zero, Option.some.injEq] at ho
          subst ho
          rw [if_pos (by kernel_rfl)]
          refine ⟨.bool true, fun w' hw' => ?_, hK _ ?_⟩
          · clear hw'
            go_simp
          clear hK K
          refine wpAnyC_reads 13 ⟨m3.on hb9 m3.lt, m4.on hb9 m4.lt, m5.on hb9 m5.lt, m7.on hb9 m7.lt⟩ (by kernel_rfl) (by kernel_rfl) (by kernel_rfl) (fun d _ _ _ _ h => by cases d <;> exact h) (fun oi ho K hK => ?_)
          simp only [List.getElem?_toArray, List.getElem?_cons_succ, List.getElem?_cons_zero, Option.some.injEq] at ho
          subst ho
          rw [if_pos (by kernel_rfl)]
          refine ⟨.bool true, fun w' hw' => ?_, hK _ ?_⟩
          · clear hw'
            go_simp
          clear hK K
          refine wpAnyC_done (by kernel_rfl) ?_ _
          go_wp2
          go_ret
          have q9 := (bD.trans (hb7.mono bD.size)).trans ((hb8.trans (hb9.mono hb8.size)).mono (bD.trans (hb7.mono bD.size)).size)
          exact ⟨rfl, b6.trans (q9.mono b6.size)⟩
        · obtain ⟨n, hn⟩ : ∃ n, n = isE ts ⟨t, tm, vs⟩ := ⟨_, rfl⟩
          rw [← hn] at cI hi
          have hn' : (n != 0) = true := by simp [hi]
          clear hn hi
          replace cI := hide cI
          have cI1 := hide (unhide cI w6.drew (S6.on bD) (V6.on bD))
          refine wpAnyC_reads 0 hC (by kernel_rfl) (by kernel_rfl) (by kernel_rfl) (fun d _ _ _ _ h => by cases d <;> exact h) (fun oi ho K hK => ?_)
          simp only [List.getElem?_toArray, List.getElem?_cons_zero, Option.some.injEq] at ho
          subst ho
          rw [if_pos (by kernel_rfl)]
          refine ⟨.agg #[.slice a ts.length cap], fun w' hw' => ?_, hK _ ?_⟩
          · obtain ⟨hx3, hx4, hx5, hx7⟩ := hw'
            have hs := hx3.one.1
            obtain ⟨hc0, hc1, hc2, hc3, hc4, hc5, hc6⟩ := hx4.seven
            obtain ⟨he0, he1, he2⟩ := hx5.three
            have ha := hx7.one.1
            go_simp
          clear hK K
          refine wpAnyC_reads 1 hC (by kernel_rfl) (by kernel_rfl) (by kernel_rfl) (fun d _ _ _ _ h => by cases d <;> exact h) (fun oi ho K hK => ?_)
          simp only [List.getElem?_toArray, List.getElem?_cons_succ, List.getElem?_cons_zero, Option.some.injEq] at ho
          subst ho
          rw [if_pos (by kernel_rfl)]
          refine ⟨.agg #[.string t.1, .int .i64 tm, .slice av vs.length cv], fun w' hw' => ?_, hK _ ?_⟩
          · obtain ⟨hx3, hx4, hx5, hx7⟩ := hw'
            have hs := hx3.one.1
            obtain ⟨hc0, hc1, hc2, hc3, hc4, hc5, hc6⟩ := hx4.seven
            obtain ⟨he0, he1, he2⟩ := hx5.three
            have ha := hx7.one.1
            go_simp
          clear hK K
          refine wpAnyC_calls 2 (by kernel_rfl) (fun oi ho K hK => ?_)
          simp only [List.getElem?_toArray, List.getElem?_cons_succ, List.getElem?_cons_zero, Option.some.injEq] at ho
          subst ho
          go_simp
          refine (unhide cI1).mono ?_
          rintro e w7 ⟨rfl, hb7⟩
          have p3 := r3.drew.on hb7 r3.lt
          have p4 := r4.drew.on hb7 r4.lt
          have p5 := r5.drew.on hb7 r5.lt
          have p7 := r7.drew.on hb7 r7.lt
          go_simp
          refine hK _ _ ⟨p3, p4, p5, p7⟩ ?_
          clear hK K
          refine wpAnyC_reads 3 ⟨p3, p4, p5, p7⟩ (by kernel_rfl) (by kernel_rfl) (by kernel_rfl) (fun d _ _ _ _ h => by cases d <;> exact h) (fun oi ho K hK => ?_)
          simp only [List.getElem?_toArray, List.getElem?_cons_succ, List.getElem?_cons_zero, Option.some.injEq] at ho
          subst ho
          rw [if_pos (by kernel_rfl)]
          refine ⟨.bool true, fun w' hw' => ?_, hK _ ?_⟩
          · clear hw'
            go_simp
          clear hK K
          refine wpAnyC_reads 4 ⟨p3, p4, p5, p7⟩ (by kernel_rfl) (by kernel_rfl) (by kernel_rfl) (fun d _ _ _ _ h => by cases d <;> exact h) (fun oi ho K hK => ?_)
          simp only [List.getElem?_toArray, List.getElem?_cons_succ, List.getElem?_cons_zero, Option.some.injEq] at ho
          subst ho
          rw [if_pos (by kernel_rfl)]
          refine ⟨.bool true, fun w' hw' => ?_, hK _ ?_⟩
          · clear hw'
            go_simp
          clear hK K
          refine wpAnyC_reads 5 ⟨p3, p4, p5, p7⟩ (by kernel_rfl) (by kernel_rfl) (by kernel_rfl) (fun d _ _ _ _ h => by cases d <;> exact h) (fun oi ho K hK => ?_)
          simp only [List.getElem?_toArray, List.getElem?_cons_succ, List.getElem?_cons_zero, Option.some.injEq] at ho
          subst ho
          rw [if_neg (Bool.eq_false_iff.1 (by kernel_rfl))]
          refine hK _ ?_
          clear hK K
          refine wpAnyC_reads 6 ⟨p3, p4, p5, p7⟩ (by kernel_rfl) (by kernel_rfl) (by kernel_rfl) (fun d _ _ _ _ h => by cases d <;> exact h) (fun oi ho K hK => ?_)
          simp only [List.getElem?_toArray, List.getElem?_cons_succ, List.getElem?_cons_zero, Option.some.injEq] at ho
          subst ho
          rw [if_neg (Bool.eq_false_iff.1 (by kernel_rfl))]
          refine hK _ ?_
          clear hK K
          refine wpAnyC_reads 7 ⟨p3, p4, p5, p7⟩ (by kernel_rfl) (by kernel_rfl) (by kernel_rfl) (fun d _ _ _ _ h => by cases d <;> exact h) (fun oi ho K hK => ?_)
          simp only [List.getElem?_toArray, List.getElem?_cons_succ, List.getElem?_cons_zero, Option.some.injEq] at ho
          subst ho
          rw [if_neg (Bool.eq_false_iff.1 (by kernel_rfl))]
          refine hK _ ?_
          clear hK K
          refine wpAnyC_reads 8 ⟨p3, p4, p5, p7⟩ (by kernel_rfl) (by kernel_rfl) (by kernel_rfl) (fun d _ _ _ _ h => by cases d <;> exact h) (fun oi ho K hK => ?_)
          simp only [List.getElem?_toArray, List.getElem?_cons_succ, List.getElem?_cons_zero, Option.some.injEq] at ho
          subst ho
          rw [if_neg (Bool.eq_false_iff.1 (by kernel_rfl))]
          refine hK _ ?_
          clear hK K
          refine wpAnyC_reads 9 ⟨p3, p4, p5, p7⟩ (by kernel_rfl) (by kernel_rfl) (by kernel_rfl) (fun d _ _ _ _ h => by cases d <;> exact h) (fun oi ho K hK => ?_)
          simp only [List.getElem?_toArray, List.getElem?_cons_succ, List.getElem?_cons_zero, Option.some.injEq] at ho
          subst ho
          rw [if_neg (Bool.eq_false_iff.1 (by kernel_rfl))]
          refine hK _ ?_
          clear hK K
          refine wpAnyC_reads 10 ⟨p3, p4, p5, p7⟩ (by kernel_rfl) (by kernel_rfl) (by kernel_rfl) (fun d _ _ _ _ h => by cases d <;> exact h) (fun oi ho K hK => ?_)
          simp only [List.getElem?_toArray, List.getElem?_cons_succ, List.getElem?_cons_zero, Option.some.injEq] at ho
          subst ho
          rw [if_neg (Bool.eq_false_iff.1 (by kernel_rfl))]
          refine hK _ ?_
          clear hK K
          refine wpAnyC_reads 11 ⟨p3, p4, p5, p7⟩ (by kernel_rfl) (by kernel_rfl) (by kernel_rfl) (fun d _ _ _ _ h => by cases d <;> exact h) (fun oi ho K hK => ?_)
          simp only [List.getElem?_toArray, List.getElem?_cons_succ, List.getElem?_cons_zero, Option.some.injEq] at ho
          subst ho
          rw [if_neg (Bool.eq_false_iff.1 (by kernel_rfl))]
          refine hK _ ?_
          clear hK K
          refine wpAnyC_reads 12 ⟨p3, p4, p5, p7⟩ (by kernel_rfl) (by kernel_rfl) (by kernel_rfl) (fun d _ _ _ _ h => by cases d <;> exact h) (fun oi ho K hK => ?_)
          simp only [List.getElem?_toArray, List.getElem?_cons_succ, List.getElem?_cons_zero, Option.some.injEq] at ho
          subst ho
          rw [if_pos (by kernel_rfl)]
          refine ⟨.bool true, fun w' hw' => ?_, hK _ ?_⟩
          · clear hw'
            go_simp
          clear hK K
          refine wpAnyC_reads 13 ⟨p3, p4, p5, p7⟩ (by kernel_rfl) (by kernel_rfl) (by kernel_rfl) (fun d _ _ _ _ h => by cases d <;> exact h) (fun oi ho K hK => ?_)
          simp only [List.getElem?_toArray, List.getElem?_cons_succ, List.getElem?_cons_zero, Option.some.injEq] at ho
          subst ho
          rw [if_pos (by kernel_rfl)]
          refine ⟨.bool true, fun w' hw' => ?_, hK _ ?_⟩
          · clear hw'
            go_simp
          clear hK K
          refine wpAnyC_done (by kernel_rfl) ?_ _
          go_wp2
          go_ret
          have q7 := bD.trans (hb7.mono bD.size)
          exact ⟨rfl, b6.trans (q7.mono b6.size)⟩
      · have eA : appT ts c = ts := by simp [appT, h0]
        rw [eA] at T3 T4 u7 ha bA bA3 u3 u4 u5 S4 V4 b4 hs ⊢
        rw [errE_no h0]
        obtain ⟨en, hen⟩ : ∃ en, en = refE ts c := ⟨_, rfl⟩
        rw [← hen]
        clear hen h0
        have cE := hide (refSameS_c a3 a c3 cap ts ts h5 hk5 hk5 _ T4 S4)
        go_wp2_with fail
        refine (unhide cE).mono ?_
        rintro e w5 ⟨B, rfl, hb5, hB⟩
        obtain rfl : B = true := (unhide hB).2 trivial
        go_wp2_with fail
        go_ret
        exact ⟨rfl, b4.trans (hb5.mono b4.size)⟩
    · have h20' : (20 : Int) < vs.length := by omega
      go_wp2_with fail
      go_ret
      exact ⟨rfl, b2⟩

end Go.Proofs.Ytjbgojemgpeokaa
