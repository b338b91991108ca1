/-
  What Move answers (package evolve): the event behind the change, its values in new memory; for every schema of at most 5 types of at most 5 fields, every change and every event of at most 20 values, in whatever world; nothing that lay is turned.
-/
import Derived.Test.YtcjpaldijngnpaaGreatDoorRefusal
import Derived.Test.YtcjpaldijngnpaaGreatDoorMoved
import Derived.Test.YtcjpaldijngnpaaGreatDoorReadsZ
namespace Go.Proofs.YtcjpaldijngnpaaGreatDoor
open Go.RowKit Go.Shelf

/-- The event behind a change. -/
def movE (ts : List Ty) (c : Ch) (x : Ev) : Ev :=
  match placeN (tnames ts) x.ty.1 with
  | none => x
  | some k => if refE ts c = 0 ∧ isE ts x = 0 then ⟨x.ty, x.ts, vNew (ty ts k).1 c (ty ts k).2 x.vs⟩ else x

theorem errE_zero : errE 0 = .nilIface := rfl
theorem errE_no {n : Int} (h : n ≠ 0) : errE n = errV n := by simp [errE, h]

theorem isE_len {ts : List Ty} {x : Ev} {k : Nat} (hp : placeN (tnames ts) x.ty.1 = some k) (h : isE ts x = 0) : x.vs.length = (ty ts k).2.length := by
  unfold isE at h
  rw [hp] at h
  simp only at h
  cases hw : wholeB (ty ts k).2.length x.ts x.vs
  · rw [hw] at h; simp at h
  · unfold wholeB at hw
    simp only [Bool.and_eq_true, decide_eq_true_eq] at hw
    exact hw.1.2

set_option maxRecDepth 100000 in
set_option maxHeartbeats 4000000 in
theorem move_c (a av : Option Addr) (cap cv : Nat) (ts : List Ty) (c : Ch) (x : Ev) (h5 : ts.length ≤ 5) (hk5 : ∀ k, (ty ts k).2.length ≤ 5) (h20 : x.vs.length ≤ 20) (w : World) (hT : Typs w.heap.size w a ts) (hV : Vals w.heap.size w av x.vs) :
    Calls Tryz.prog 39 #[.agg #[.slice a ts.length cap], c.v, .agg #[.string x.ty.1, .int .i64 x.ts, .slice av x.vs.length cv]] w fun e w' => ∃ a' c', e = .returned (.agg #[.string x.ty.1, .int .i64 x.ts, .slice a' (movE ts c x).vs.length c']) ∧ Vals w'.heap.size w' a' (movE ts c x).vs ∧ Below w.heap.size w w' := by
  obtain ⟨t, tm, vs⟩ := x
  simp only at h20 hV ⊢
  obtain ⟨W0, hW0⟩ : ∃ W0, W0 = ((((w.alloc (.cells #[.slice a ts.length cap] 24)).alloc (.cells c.cs 42)).alloc (.cells #[.string t.1, .int .i64 tm, .slice av vs.length cv] 28)).alloc (.cells #[.string ⟨#[]⟩, .int .i64 0, .slice none 0 0] 28)) := ⟨_, rfl⟩
  have e0 : W0.heap.size = w.heap.size + 4 := by rw [hW0]; simp
  have b0 : Below w.heap.size w W0 := by rw [hW0]; exact ((((Below.refl _ _).alloc (Nat.le_refl _) _).alloc (by simp) _).alloc (by simp; omega) _).alloc (by simp; omega) _
  have x3 : Box W0 w.heap.size 24 #[.slice a ts.length cap] := by
    rw [hW0]; exact (((Box.new w 24 #[.slice a ts.length cap]).alloc _).alloc _).alloc _
  have x4 : Box W0 (w.heap.size + 1) 42 c.cs := by
    have := Box.new (w.alloc (.cells #[.slice a ts.length cap] 24)) 42 c.cs
    simp only [World.size_alloc] at this
    rw [hW0]; exact (this.alloc _).alloc _
  have x5 : Box W0 (w.heap.size + 1 + 1) 28 #[.string t.1, .int .i64 tm, .slice av vs.length cv] := by
    have := Box.new ((w.alloc (.cells #[.slice a ts.length cap] 24)).alloc (.cells c.cs 42)) 28 #[.string t.1, .int .i64 tm, .slice av vs.length cv]
    simp only [World.size_alloc] at this
    rw [hW0]; exact this.alloc _
  have x6 : Box W0 (w.heap.size + 1 + 1 + 1) 28 #[.string ⟨#[]⟩, .int .i64 0, .slice none 0 0] := by
    have := Box.new (((w.alloc (.cells #[.slice a ts.length cap] 24)).alloc (.cells c.cs 42)).alloc (.cells #[.string t.1, .int .i64 tm, .slice av vs.length cv] 28)) 28 #[.string ⟨#[]⟩, .int .i64 0, .slice none 0 0]
    simp only [World.size_alloc] at this
    rw [hW0]; exact this
  have T0 := hT.on b0
  have V0 := hV.on b0
  have hW0' := hide hW0
  clear hW0
  cases hp : placeN (tnames ts) t.1 with
  | none =>
    have eM := hide (show (movE ts c ⟨t, tm, vs⟩).vs = vs by simp [movE, hp])
    go_enter Tryz.func39, Tryz.ntmps39
    go_wp2_with fail
    rw [show Obj.cells #[Value.int .i64 c.k, .string c.t.1, .string c.f.1, .string c.o.1, .int .i64 c.dk, .int .i64 c.dn, .string c.ds.1] 42 = Obj.cells c.cs 42 from rfl, ← unhide hW0']
    refine (find_none a cap ts t.1 h5 _ T0 hp).mono ?_
    rintro e w1 ⟨rfl, hb1⟩
    have bA : Below w1.heap.size w1 (w1.alloc (.cells #[.string ⟨#[]⟩, .slice none 0 0] 69)) := (Below.refl _ _).alloc (Nat.le_refl _) _
    have q1 := hb1.trans (bA.mono hb1.size)
    have y5 := x5.on q1 x5.lt
    have y6 := x6.on q1 x6.lt
    have V1 := V0.on q1
    have b1 := b0.trans (q1.mono b0.size)
    obtain ⟨he0, he1, he2⟩ := y5.three
    go_wp2_with fail
    refine (copy_c t.1 tm av cv vs h20 _ V1).mono ?_
    rintro e w9 ⟨a9, c9, rfl, ho, hb9⟩
    have t6 := y6.on hb9 y6.lt
    obtain ⟨hr0, hr1, hr2⟩ := t6.three
    have hf0 := t6.frz 0
    have hf1 := t6.frz 1
    have hf2 := t6.frz 2
    have s6 := ((t6.set 0 (.string t.1)).set 1 (.int .i64 tm)).set 2 (.slice a9 vs.length c9)
    have hsz := y6.lt
    have o6 := owns_set (owns_set (owns_set ho ⟨w.heap.size + 1 + 1 + 1, 0, none⟩ (.string t.1) hsz) ⟨w.heap.size + 1 + 1 + 1, 1, none⟩ (.int .i64 tm) hsz) ⟨w.heap.size + 1 + 1 + 1, 2, none⟩ (.slice a9 vs.length c9) hsz
    replace o6 := hide o6
    clear he0 he1 he2 ho
    go_wp2_with fail
    obtain ⟨hk0, hk1, hk2⟩ := s6.three
    refine bodyPost_ret (v := .agg #[.string t.1, .int .i64 tm, .slice a9 vs.length c9]) (by simp [results, Tryz.results39, go_sem, hk0, hk1, hk2]) rfl ⟨a9, c9, by rw [unhide eM], ?_, ?_⟩
    · obtain ⟨a5, c5, e5, hV5, -⟩ := vals_of_owns (unhide o6)
      cases e5
      rw [unhide eM]
      exact hV5
    · have b4 := b1.trans (hb9.mono b1.size)
      exact ((b4.setCell (p := ⟨w.heap.size + 1 + 1 + 1, 0, none⟩) (by simp only; omega) _).setCell (p := ⟨w.heap.size + 1 + 1 + 1, 1, none⟩) (by simp only; omega) _).setCell (p := ⟨w.heap.size + 1 + 1 + 1, 2, none⟩) (by simp only; omega) _
  | some k =>
    by_cases hr0 : refE ts c = 0
    · have cR := fun W h => refusal_c a cap ts c h5 hk5 W h
      rw [hr0, errE_zero] at cR
      replace cR := hide cR
      by_cases hi0 : isE ts ⟨t, tm, vs⟩ = 0
      · have cI := fun W h h' => is_c a av cap cv ts ⟨t, tm, vs⟩ h5 hk5 h20 W h h'
        rw [hi0, errE_zero] at cI
        replace cI := hide cI
        have hlen := isE_len (x := ⟨t, tm, vs⟩) hp hi0
        simp only at hlen
        have eM := hide (show (movE ts c ⟨t, tm, vs⟩).vs = vNew (ty ts k).1 c (ty ts k).2 vs by simp [movE, hp, hr0, hi0])
        clear hr0 hi0
        obtain ⟨N, hN⟩ : ∃ N, N = (movE ts c ⟨t, tm, vs⟩).vs := ⟨_, rfl⟩
        rw [← hN] at eM ⊢
        clear hN
        have hlen' := hide hlen
        clear hlen
        go_enter Tryz.func39, Tryz.ntmps39
        go_wp2_with fail
        rw [show Obj.cells #[Value.int .i64 c.k, .string c.t.1, .string c.f.1, .string c.o.1, .int .i64 c.dk, .int .i64 c.dn, .string c.ds.1] 42 = Obj.cells c.cs 42 from rfl, ← unhide hW0']
        refine (find_some a cap ts t.1 k h5 _ T0 hp (hk5 k)).mono ?_
        rintro e w1 ⟨a', c', rfl, ⟨hF, -⟩, hb1⟩
        have bA : Below w1.heap.size w1 (w1.alloc (.cells #[.string (ty ts k).1.1, .slice a' (ty ts k).2.length c'] 69)) := (Below.refl _ _).alloc (Nat.le_refl _) _
        have q1 := hb1.trans (bA.mono hb1.size)
        have y3 := x3.on q1 x3.lt
        have y4 := x4.on q1 x4.lt
        have y5 := x5.on q1 x5.lt
        have y6 := x6.on q1 x6.lt
        have y7 := Box.new w1 69 #[.string (ty ts k).1.1, .slice a' (ty ts k).2.length c']
        have F1 := hF.on bA
        have T1 := T0.on q1
        have V1 := V0.on q1
        have cR1 := hide (unhide cR _ T1)
        have hs := y3.one.1
        obtain ⟨hc0, hc1, hc2, hc3, hc4, hc5, hc6⟩ := y4.seven
        clear hF
        go_wp2_with fail
        refine (unhide cR1).mono ?_
        rintro e w2 ⟨rfl, hb2⟩
        have q2 := q1.trans (hb2.mono q1.size)
        have z3 := y3.on hb2 y3.lt
        have z4 := y4.on hb2 y4.lt
        have z5 := y5.on hb2 y5.lt
        have z6 := y6.on hb2 y6.lt
        have z7 := y7.on hb2 y7.lt
        have F2 := F1.on hb2
        have T2 := T1.on hb2
        have V2 := V1.on hb2
        have cI2 := hide (unhide cI _ T2 V2)
        clear hs hc0 hc1 hc2 hc3 hc4 hc5 hc6
        have hs := z3.one.1
        obtain ⟨he0, he1, he2⟩ := z5.three
        go_wp2_with fail
        refine (unhide cI2).mono ?_
        rintro e w3 ⟨rfl, hb3⟩
        have q3 := q2.trans (hb3.mono q2.size)
        have u4 := z4.on hb3 z4.lt
        have u5 := z5.on hb3 z5.lt
        have u6 := z6.on hb3 z6.lt
        have u7 := z7.on hb3 z7.lt
        have F3 := F2.on hb3
        have V3 := V2.on hb3
        clear hs he0 he1 he2
        obtain ⟨hc0, hc1, hc2, hc3, hc4, hc5, hc6⟩ := u4.seven
        obtain ⟨he0, he1, he2⟩ := u5.three
        obtain ⟨ht0, ht1⟩ := u7.two
        have bD : Below w3.heap.size w3 w3.drew := (Below.refl _ _).drew
        have cM := hide (moved_c (ty ts k).1 a' av c' cv (ty ts k).2 vs c (hk5 k) (unhide hlen') w3.drew (F3.on bD) (V3.on bD))
        clear F3 V3 F2 V2 F1 V1 T2 T1 cI2 cR1 cI cR
        have v4 := u4.drew
        have v5 := u5.drew
        have v6 := u6.drew
        have v7 := u7.drew
        have hmx : Tryz.prog.follows .mixedOrders = true := by kernel_rfl
        go_wp2_with fail
        refine wp_region_any hmx (wpAny_of_C (C := fun w' => Box w' (w.heap.size + 1) 42 c.cs ∧ Box w' (w.heap.size + 1 + 1) 28 #[.string t.1, .int .i64 tm, .slice av vs.length cv] ∧ Box w' w1.heap.size 69 #[.string (ty ts k).1.1, .slice a' (ty ts k).2.length c']) _ _ _ _ ?_)
        have hC : Box w3.drew (w.heap.size + 1) 42 c.cs ∧ Box w3.drew (w.heap.size + 1 + 1) 28 #[.string t.1, .int .i64 tm, .slice av vs.length cv] ∧ Box w3.drew w1.heap.size 69 #[.string (ty ts k).1.1, .slice a' (ty ts k).2.length c'] := ⟨v4, v5, v7⟩
        clear hc0 hc1 hc2 hc3 hc4 hc5 hc6 he0 he1 he2 ht0 ht1
        refine wpAnyC_reads 0 hC (by kernel_rfl) (by kernel_rfl) (by kernel_rfl) (fun d _ _ _ _ h => by cases d <;> exact h) (fun oi ho K hK => ?_)
        simp only [List.getElem?_toArray, List.getElem?_cons_zero, Option.some.injEq] at ho
        subst ho
        rw [if_pos (by kernel_rfl)]
        refine ⟨.pointer (some ⟨w.heap.size + 1 + 1, 0, none⟩), fun w' hw' => ?_, hK _ ?_⟩
        · obtain ⟨hx4, hx5, hx7⟩ := hw'
          obtain ⟨hc0, hc1, hc2, hc3, hc4, hc5, hc6⟩ := hx4.seven
          obtain ⟨he0, he1, he2⟩ := hx5.three
          obtain ⟨ht0, ht1⟩ := hx7.two
          go_simp
        clear hK K
        refine wpAnyC_reads 1 hC (by kernel_rfl) (by kernel_rfl) (by kernel_rfl) (fun d _ _ _ _ h => by cases d <;> exact h) (fun oi ho K hK => ?_)
        simp only [List.getElem?_toArray, List.getElem?_cons_succ, List.getElem?_cons_zero, Option.some.injEq] at ho
        subst ho
        rw [if_pos (by kernel_rfl)]
        refine ⟨.string t.1, fun w' hw' => ?_, hK _ ?_⟩
        · obtain ⟨hx4, hx5, hx7⟩ := hw'
          obtain ⟨hc0, hc1, hc2, hc3, hc4, hc5, hc6⟩ := hx4.seven
          obtain ⟨he0, he1, he2⟩ := hx5.three
          obtain ⟨ht0, ht1⟩ := hx7.two
          go_simp
        clear hK K
        refine wpAnyC_reads 2 hC (by kernel_rfl) (by kernel_rfl) (by kernel_rfl) (fun d _ _ _ _ h => by cases d <;> exact h) (fun oi ho K hK => ?_)
        simp only [List.getElem?_toArray, List.getElem?_cons_succ, List.getElem?_cons_zero, Option.some.injEq] at ho
        subst ho
        rw [if_pos (by kernel_rfl)]
        refine ⟨.pointer (some ⟨w.heap.size + 1 + 1, 1, none⟩), fun w' hw' => ?_, hK _ ?_⟩
        · obtain ⟨hx4, hx5, hx7⟩ := hw'
          obtain ⟨hc0, hc1, hc2, hc3, hc4, hc5, hc6⟩ := hx4.seven
          obtain ⟨he0, he1, he2⟩ := hx5.three
          obtain ⟨ht0, ht1⟩ := hx7.two
          go_simp
        clear hK K
        refine wpAnyC_reads 3 hC (by kernel_rfl) (by kernel_rfl) (by kernel_rfl) (fun d _ _ _ _ h => by cases d <;> exact h) (fun oi ho K hK => ?_)
        simp only [List.getElem?_toArray, List.getElem?_cons_succ, List.getElem?_cons_zero, Option.some.injEq] at ho
        subst ho
        rw [if_pos (by kernel_rfl)]
        refine ⟨.int .i64 tm, fun w' hw' => ?_, hK _ ?_⟩
        · obtain ⟨hx4, hx5, hx7⟩ := hw'
          obtain ⟨hc0, hc1, hc2, hc3, hc4, hc5, hc6⟩ := hx4.seven
          obtain ⟨he0, he1, he2⟩ := hx5.three
          obtain ⟨ht0, ht1⟩ := hx7.two
          go_simp
        clear hK K
        refine wpAnyC_reads 4 hC (by kernel_rfl) (by kernel_rfl) (by kernel_rfl) (fun d _ _ _ _ h => by cases d <;> exact h) (fun oi ho K hK => ?_)
        simp only [List.getElem?_toArray, List.getElem?_cons_succ, List.getElem?_cons_zero, Option.some.injEq] at ho
        subst ho
        rw [if_pos (by kernel_rfl)]
        refine ⟨.agg #[.string (ty ts k).1.1, .slice a' (ty ts k).2.length c'], fun w' hw' => ?_, hK _ ?_⟩
        · obtain ⟨hx4, hx5, hx7⟩ := hw'
          obtain ⟨hc0, hc1, hc2, hc3, hc4, hc5, hc6⟩ := hx4.seven
          obtain ⟨he0, he1, he2⟩ := hx5.three
          obtain ⟨ht0, ht1⟩ := hx7.two
          go_simp
        clear hK K
        refine wpAnyC_reads 5 hC (by kernel_rfl) (by kernel_rfl) (by kernel_rfl) (fun d _ _ _ _ h => by cases d <;> exact h) (fun oi ho K hK => ?_)
        simp only [List.getElem?_toArray, List.getElem?_cons_succ, List.getElem?_cons_zero, Option.some.injEq] at ho
        subst ho
        rw [if_pos (by kernel_rfl)]
        refine ⟨c.v, fun w' hw' => ?_, hK _ ?_⟩
        · obtain ⟨hx4, hx5, hx7⟩ := hw'
          obtain ⟨hc0, hc1, hc2, hc3, hc4, hc5, hc6⟩ := hx4.seven
          obtain ⟨he0, he1, he2⟩ := hx5.three
          obtain ⟨ht0, ht1⟩ := hx7.two
          go_simp
        clear hK K
        refine wpAnyC_reads 6 hC (by kernel_rfl) (by kernel_rfl) (by kernel_rfl) (fun d _ _ _ _ h => by cases d <;> exact h) (fun oi ho K hK => ?_)
        simp only [List.getElem?_toArray, List.getElem?_cons_succ, List.getElem?_cons_zero, Option.some.injEq] at ho
        subst ho
        rw [if_pos (by kernel_rfl)]
        refine ⟨.pointer (some ⟨w.heap.size + 1 + 1, 2, none⟩), fun w' hw' => ?_, hK _ ?_⟩
        · obtain ⟨hx4, hx5, hx7⟩ := hw'
          obtain ⟨hc0, hc1, hc2, hc3, hc4, hc5, hc6⟩ := hx4.seven
          obtain ⟨he0, he1, he2⟩ := hx5.three
          obtain ⟨ht0, ht1⟩ := hx7.two
          go_simp
        clear hK K
        refine wpAnyC_reads 7 hC (by kernel_rfl) (by kernel_rfl) (by kernel_rfl) (fun d _ _ _ _ h => by cases d <;> exact h) (fun oi ho K hK => ?_)
        simp only [List.getElem?_toArray, List.getElem?_cons_succ, List.getElem?_cons_zero, Option.some.injEq] at ho
        subst ho
        rw [if_pos (by kernel_rfl)]
        refine ⟨.slice av vs.length cv, fun w' hw' => ?_, hK _ ?_⟩
        · obtain ⟨hx4, hx5, hx7⟩ := hw'
          obtain ⟨hc0, hc1, hc2, hc3, hc4, hc5, hc6⟩ := hx4.seven
          obtain ⟨he0, he1, he2⟩ := hx5.three
          obtain ⟨ht0, ht1⟩ := hx7.two
          go_simp
        clear hK K
        refine wpAnyC_calls 8 (by kernel_rfl) (fun oi ho K hK => ?_)
        simp only [List.getElem?_toArray, List.getElem?_cons_succ, List.getElem?_cons_zero, Option.some.injEq] at ho
        subst ho
        go_simp
        refine (unhide cM).mono ?_
        rintro e w4 ⟨v, rfl, ho, hb4⟩
        rw [← unhide eM] at ho
        obtain ⟨a4, c4, rfl, -, -⟩ := vals_of_owns ho
        replace ho := hide ho
        go_simp
        have t4 := v4.on hb4 v4.lt
        have t5 := v5.on hb4 v5.lt
        have t6 := v6.on hb4 v6.lt
        have t7 := v7.on hb4 v7.lt
        refine hK _ _ ⟨t4, t5, t7⟩ ?_
        clear hK K cM hC
        refine wpAnyC_reads 9 ⟨t4, t5, t7⟩ (by kernel_rfl) (by kernel_rfl) (by kernel_rfl) (fun d _ _ _ _ h => by cases d <;> exact h) (fun oi ho K hK => ?_)
        simp only [List.getElem?_toArray, List.getElem?_cons_succ, List.getElem?_cons_zero, Option.some.injEq] at ho
        subst ho
        rw [if_pos (by kernel_rfl)]
        refine ⟨.agg #[.string t.1, .int .i64 tm, .slice a4 N.length c4], fun w' hw' => ?_, hK _ ?_⟩
        · clear hw'
          go_simp
        clear hK K
        obtain ⟨hr0, hr1, hr2⟩ := t6.three
        have hf0 := t6.frz 0
        have hf1 := t6.frz 1
        have hf2 := t6.frz 2
        have s6 := ((t6.set 0 (.string t.1)).set 1 (.int .i64 tm)).set 2 (.slice a4 N.length c4)
        have hsz : w.heap.size + 1 + 1 + 1 < w3.heap.size := u6.lt
        have hs7 := u7.lt
        have hw17 : w.heap.size + 4 ≤ w1.heap.size := by have := hb1.size; omega
        have s4 := ((t4.other ⟨w.heap.size + 1 + 1 + 1, 0, none⟩ (.string t.1) (by simp only; omega)).other ⟨w.heap.size + 1 + 1 + 1, 1, none⟩ (.int .i64 tm) (by simp only; omega)).other ⟨w.heap.size + 1 + 1 + 1, 2, none⟩ (.slice a4 N.length c4) (by simp only; omega)
        have s5 := ((t5.other ⟨w.heap.size + 1 + 1 + 1, 0, none⟩ (.string t.1) (by simp only; omega)).other ⟨w.heap.size + 1 + 1 + 1, 1, none⟩ (.int .i64 tm) (by simp only; omega)).other ⟨w.heap.size + 1 + 1 + 1, 2, none⟩ (.slice a4 N.length c4) (by simp only; omega)
        have s7 := ((t7.other ⟨w.heap.size + 1 + 1 + 1, 0, none⟩ (.string t.1) (by simp only; omega)).other ⟨w.heap.size + 1 + 1 + 1, 1, none⟩ (.int .i64 tm) (by simp only; omega)).other ⟨w.heap.size + 1 + 1 + 1, 2, none⟩ (.slice a4 N.length c4) (by simp only; omega)
        have o6 := owns_set (owns_set (owns_set (unhide ho) ⟨w.heap.size + 1 + 1 + 1, 0, none⟩ (.string t.1) (by simp only [World.size_drew]; omega)) ⟨w.heap.size + 1 + 1 + 1, 1, none⟩ (.int .i64 tm) (by simp only [World.size_drew]; omega)) ⟨w.heap.size + 1 + 1 + 1, 2, none⟩ (.slice a4 N.length c4) (by simp only [World.size_drew]; omega)
        replace o6 := hide o6
        refine wpAnyC_calls 10 (by kernel_rfl) (fun oi ho K hK => ?_)
        simp only [List.getElem?_toArray, List.getElem?_cons_succ, List.getElem?_cons_zero, Option.some.injEq] at ho
        subst ho
        go_simp
        refine hK _ _ ⟨s4, s5, s7⟩ ?_
        clear hK K
        refine wpAnyC_done (by kernel_rfl) ?_ _
        go_wp2
        obtain ⟨hk0, hk1, hk2⟩ := s6.three
        refine bodyPost_ret (v := .agg #[.string t.1, .int .i64 tm, .slice a4 N.length c4]) (by simp [results, Tryz.results39, go_sem, hk0, hk1, hk2]) rfl ⟨a4, c4, rfl, ?_, ?_⟩
        · obtain ⟨a5, c5, e5, hV5, -⟩ := vals_of_owns (unhide o6)
          cases e5
          exact hV5
        · have b3 := b0.trans (q3.mono b0.size)
          have b4 := b3.trans ((bD.trans (hb4.mono bD.size)).mono b3.size)
          exact ((b4.setCell (p := ⟨w.heap.size + 1 + 1 + 1, 0, none⟩) (by simp only; omega) _).setCell (p := ⟨w.heap.size + 1 + 1 + 1, 1, none⟩) (by simp only; omega) _).setCell (p := ⟨w.heap.size + 1 + 1 + 1, 2, none⟩) (by simp only; omega) _
      · have cI := fun W h h' => is_c a av cap cv ts ⟨t, tm, vs⟩ h5 hk5 h20 W h h'
        rw [errE_no hi0] at cI
        replace cI := hide cI
        have eM := hide (show (movE ts c ⟨t, tm, vs⟩).vs = vs by simp [movE, hp, hi0])
        clear hr0
        obtain ⟨en, hen⟩ : ∃ en, en = isE ts ⟨t, tm, vs⟩ := ⟨_, rfl⟩
        rw [← hen] at cI
        clear hen hi0
        go_enter Tryz.func39, Tryz.ntmps39
        go_wp2_with fail
        rw [show Obj.cells #[Value.int .i64 c.k, .string c.t.1, .string c.f.1, .string c.o.1, .int .i64 c.dk, .int .i64 c.dn, .string c.ds.1] 42 = Obj.cells c.cs 42 from rfl, ← unhide hW0']
        refine (find_some a cap ts t.1 k h5 _ T0 hp (hk5 k)).mono ?_
        rintro e w1 ⟨a', c', rfl, -, hb1⟩
        have bA : Below w1.heap.size w1 (w1.alloc (.cells #[.string (ty ts k).1.1, .slice a' (ty ts k).2.length c'] 69)) := (Below.refl _ _).alloc (Nat.le_refl _) _
        have q1 := hb1.trans (bA.mono hb1.size)
        have y3 := x3.on q1 x3.lt
        have y4 := x4.on q1 x4.lt
        have y5 := x5.on q1 x5.lt
        have y6 := x6.on q1 x6.lt
        have T1 := T0.on q1
        have V1 := V0.on q1
        have cR1 := hide (unhide cR _ T1)
        have hs := y3.one.1
        obtain ⟨hc0, hc1, hc2, hc3, hc4, hc5, hc6⟩ := y4.seven
        go_wp2_with fail
        refine (unhide cR1).mono ?_
        rintro e w2 ⟨rfl, hb2⟩
        have q2 := q1.trans (hb2.mono q1.size)
        have z3 := y3.on hb2 y3.lt
        have z5 := y5.on hb2 y5.lt
        have z6 := y6.on hb2 y6.lt
        have T2 := T1.on hb2
        have V2 := V1.on hb2
        have cI2 := hide (unhide cI _ T2 V2)
        clear hs hc0 hc1 hc2 hc3 hc4 hc5 hc6
        have hs := z3.one.1
        obtain ⟨he0, he1, he2⟩ := z5.three
        go_wp2_with fail
        refine (unhide cI2).mono ?_
        rintro e w3 ⟨rfl, hb3⟩
        have q3 := q2.trans (hb3.mono q2.size)
        have u5 := z5.on hb3 z5.lt
        have u6 := z6.on hb3 z6.lt
        have V3 := V2.on hb3
        have b3 := b0.trans (q3.mono b0.size)
        clear hs he0 he1 he2
        obtain ⟨he0, he1, he2⟩ := u5.three
        go_wp2_with fail
        refine (copy_c t.1 tm av cv vs h20 _ V3).mono ?_
        rintro e w9 ⟨a9, c9, rfl, ho, hb9⟩
        have t6 := u6.on hb9 u6.lt
        obtain ⟨hr0, hr1, hr2⟩ := t6.three
        have hf0 := t6.frz 0
        have hf1 := t6.frz 1
        have hf2 := t6.frz 2
        have s6 := ((t6.set 0 (.string t.1)).set 1 (.int .i64 tm)).set 2 (.slice a9 vs.length c9)
        have hsz := u6.lt
        have o6 := owns_set (owns_set (owns_set ho ⟨w.heap.size + 1 + 1 + 1, 0, none⟩ (.string t.1) hsz) ⟨w.heap.size + 1 + 1 + 1, 1, none⟩ (.int .i64 tm) hsz) ⟨w.heap.size + 1 + 1 + 1, 2, none⟩ (.slice a9 vs.length c9) hsz
        replace o6 := hide o6
        clear he0 he1 he2 ho
        go_wp2_with fail
        obtain ⟨hk0, hk1, hk2⟩ := s6.three
        refine bodyPost_ret (v := .agg #[.string t.1, .int .i64 tm, .slice a9 vs.length c9]) (by simp [results, Tryz.results39, go_sem, hk0, hk1, hk2]) rfl ⟨a9, c9, by rw [unhide eM], ?_, ?_⟩
        · obtain ⟨a5, c5, e5, hV5, -⟩ := vals_of_owns (unhide o6)
          cases e5
          rw [unhide eM]
          exact hV5
        · have b4 := b3.trans (hb9.mono b3.size)
          exact ((b4.setCell (p := ⟨w.heap.size + 1 + 1 + 1, 0, none⟩) (by simp only; omega) _).setCell (p := ⟨w.heap.size + 1 + 1 + 1, 1, none⟩) (by simp only; omega) _).setCell (p := ⟨w.heap.size + 1 + 1 + 1, 2, none⟩) (by simp only; omega) _
    · have cR := fun W h => refusal_c a cap ts c h5 hk5 W h
      rw [errE_no hr0] at cR
      replace cR := hide cR
      have eM := hide (show (movE ts c ⟨t, tm, vs⟩).vs = vs by simp [movE, hp, hr0])
      obtain ⟨en, hen⟩ : ∃ en, en = refE ts c := ⟨_, rfl⟩
      rw [← hen] at cR
      clear hen hr0
      go_enter Tryz.func39, Tryz.ntmps39
      go_wp2_with fail
      rw [show Obj.cells #[Value.int .i64 c.k, .string c.t.1, .string c.f.1, .string c.o.1, .int .i64 c.dk, .int .i64 c.dn, .string c.ds.1] 42 = Obj.cells c.cs 42 from rfl, ← unhide hW0']
      refine (find_some a cap ts t.1 k h5 _ T0 hp (hk5 k)).mono ?_
      rintro e w1 ⟨a', c', rfl, -, hb1⟩
      have bA : Below w1.heap.size w1 (w1.alloc (.cells #[.string (ty ts k).1.1, .slice a' (ty ts k).2.length c'] 69)) := (Below.refl _ _).alloc (Nat.le_refl _) _
      have q1 := hb1.trans (bA.mono hb1.size)
      have y3 := x3.on q1 x3.lt
      have y4 := x4.on q1 x4.lt
      have y5 := x5.on q1 x5.lt
      have y6 := x6.on q1 x6.lt
      have T1 := T0.on q1
      have V1 := V0.on q1
      have cR1 := hide (unhide cR _ T1)
      have hs := y3.one.1
      obtain ⟨hc0, hc1, hc2, hc3, hc4, hc5, hc6⟩ := y4.seven
      go_wp2_with fail
      refine (unhide cR1).mono ?_
      rintro e w2 ⟨rfl, hb2⟩
      have q2 := q1.trans (hb2.mono q1.size)
      have z5 := y5.on hb2 y5.lt
      have z6 := y6.on hb2 y6.lt
      have V2 := V1.on hb2
      have b2 := b0.trans (q2.mono b0.size)
      clear hs hc0 hc1 hc2 hc3 hc4 hc5 hc6
      obtain ⟨he0, he1, he2⟩ := z5.three
      go_wp2_with fail
      refine (copy_c t.1 tm av cv vs h20 _ V2).mono ?_
      rintro e w9 ⟨a9, c9, rfl, ho, hb9⟩
      have t6 := z6.on hb9 z6.lt
      obtain ⟨hr0, hr1, hr2⟩ := t6.three
      have hf0 := t6.frz 0
      have hf1 := t6.frz 1
      have hf2 := t6.frz 2
      have s6 := ((t6.set 0 (.string t.1)).set 1 (.int .i64 tm)).set 2 (.slice a9 vs.length c9)
      have hsz := z6.lt
      have o6 := owns_set (owns_set (owns_set ho ⟨w.heap.size + 1 + 1 + 1, 0, none⟩ (.string t.1) hsz) ⟨w.heap.size + 1 + 1 + 1, 1, none⟩ (.int .i64 tm) hsz) ⟨w.heap.size + 1 + 1 + 1, 2, none⟩ (.slice a9 vs.length c9) hsz
      replace o6 := hide o6
      clear he0 he1 he2 ho
      go_wp2_with fail
      obtain ⟨hk0, hk1, hk2⟩ := s6.three
      refine bodyPost_ret (v := .agg #[.string t.1, .int .i64 tm, .slice a9 vs.length c9]) (by simp [results, Tryz.results39, go_sem, hk0, hk1, hk2]) rfl ⟨a9, c9, by rw [unhide eM], ?_, ?_⟩
      · obtain ⟨a5, c5, e5, hV5, -⟩ := vals_of_owns (unhide o6)
        cases e5
        rw [unhide eM]
        exact hV5
      · have b4 := b2.trans (hb9.mono b2.size)
        exact ((b4.setCell (p := ⟨w.heap.size + 1 + 1 + 1, 0, none⟩) (by simp only; omega) _).setCell (p := ⟨w.heap.size + 1 + 1 + 1, 1, none⟩) (by simp only; omega) _).setCell (p := ⟨w.heap.size + 1 + 1 + 1, 2, none⟩) (by simp only; omega) _

end Go.Proofs.YtcjpaldijngnpaaGreatDoor
