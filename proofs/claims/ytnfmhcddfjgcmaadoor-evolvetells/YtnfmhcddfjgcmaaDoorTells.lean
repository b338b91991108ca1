/-
  What EvolveTells answers: true, for every schema, change, event and text, in whatever world in which the library's variable stands as its text lays it; nothing that lay is turned.
-/
import Derived.Test.YtnfmhcddfjgcmaaDoorRefMove
import Derived.Test.YtnfmhcddfjgcmaaDoorKnown
import Derived.Test.YtnfmhcddfjgcmaaDoorAs
import Derived.Test.YtnfmhcddfjgcmaaDoorReadsZ
namespace Go.Proofs.YtnfmhcddfjgcmaaDoor
open Go.RowKit Go.Shelf

attribute [local go_sem] readIn

/-- The error's own number. -/
theorem code_E (c : Int) (w : World) (hg : w.cell? ⟨0, 0, none⟩ = some (.iface 107 (.agg #[.pointer (some ⟨1, 35, none⟩)]))) :
    Calls Tryd.prog 8 #[errE c] w fun e w' => e = .returned (.int .i64 c) ∧ Below w.heap.size w w' := by
  unfold errE
  by_cases h : c = 0
  · subst h; simp only [if_true]; exact code_0 w
  · rw [if_neg h]; exact code_c c w hg
theorem samesV_self (vs : List Vl) : samesV vs vs = true := by
  induction vs with
  | nil => rfl
  | cons v l ih =>
    simp only [samesV, List.zip_cons_cons, List.all_cons, Bool.and_eq_true] at ih ⊢
    exact ⟨by simp [sameV], ih⟩
theorem sameE_self (x : Ev) : sameE x x = true := by simp [sameE, sameVs, samesV_self]
theorem back_form (o : Option Txt) : ∃ (s : ByteArray) (b : Bool), backV o = .tuple #[.string s, .bool b] := by
  cases o with
  | none => exact ⟨_, false, rfl⟩
  | some s => exact ⟨_, true, rfl⟩
theorem sch_hk5 {ts : List Ty} (h : Sch ts) : ∀ k, (ty ts k).2.length ≤ 5 := fun k => by
  by_cases hk : k < ts.length
  · exact (h.2 k hk).2.2.1
  · simp only [ty, List.getElem?_eq_none (Nat.le_of_not_lt hk), Option.getD_none]
    exact Nat.zero_le _

set_option maxRecDepth 100000 in
set_option maxHeartbeats 8000000 in
theorem tells_c (a av : Option Addr) (cap cv : Nat) (ts : List Ty) (c : Ch) (x : Ev) (fl : Txt) (hm : ts.length ≤ maxLen) (hmv : x.vs.length ≤ maxLen) (w : World) (hg : w.cell? ⟨0, 0, none⟩ = some (.iface 107 (.agg #[.pointer (some ⟨1, 35, none⟩)]))) (hT : Typs w.heap.size w a ts) (hV : Vals w.heap.size w av x.vs) :
    Calls Tryd.prog 3 #[.agg #[.slice a ts.length cap], c.v, .agg #[.string x.ty.1, .int .i64 x.ts, .slice av x.vs.length cv], .string fl.1] w fun e w' => e = .returned (.bool true) ∧ Below w.heap.size w w' := by
  obtain ⟨t, tm, vs⟩ := x
  obtain ⟨k, ct, f, o, dk, dn, ds⟩ := c
  simp only at hmv hV ⊢
  have hmx : Tryd.prog.follows .mixedOrders = true := by kernel_rfl
  obtain ⟨W0, hW0⟩ : ∃ W0, W0 = (((w.alloc (.cells #[.slice a ts.length cap] 24)).alloc (.cells #[.int .i64 k, .string ct.1, .string f.1, .string o.1, .int .i64 dk, .int .i64 dn, .string ds.1] 28)).alloc (.cells #[.string t.1, .int .i64 tm, .slice av vs.length cv] 31)) := ⟨_, rfl⟩
  have e0 : W0.heap.size = w.heap.size + 3 := by rw [hW0]; simp
  have b0 : Below w.heap.size w W0 := by rw [hW0]; exact (((Below.refl _ _).alloc (Nat.le_refl _) _).alloc (by simp) _).alloc (by simp; omega) _
  have x4 : Box W0 w.heap.size 24 #[.slice a ts.length cap] := by
    rw [hW0]; exact ((Box.new w 24 #[.slice a ts.length cap]).alloc _).alloc _
  have x5 : Box W0 (w.heap.size + 1) 28 #[.int .i64 k, .string ct.1, .string f.1, .string o.1, .int .i64 dk, .int .i64 dn, .string ds.1] := by
    have := Box.new (w.alloc (.cells #[.slice a ts.length cap] 24)) 28 #[.int .i64 k, .string ct.1, .string f.1, .string o.1, .int .i64 dk, .int .i64 dn, .string ds.1]
    simp only [World.size_alloc] at this
    rw [hW0]; exact this.alloc _
  have x6 : Box W0 (w.heap.size + 1 + 1) 31 #[.string t.1, .int .i64 tm, .slice av vs.length cv] := by
    have := Box.new ((w.alloc (.cells #[.slice a ts.length cap] 24)).alloc (.cells #[.int .i64 k, .string ct.1, .string f.1, .string o.1, .int .i64 dk, .int .i64 dn, .string ds.1] 28)) 31 #[.string t.1, .int .i64 tm, .slice av vs.length cv]
    simp only [World.size_alloc] at this
    rw [hW0]; exact this
  have T0 := hT.on b0
  have V0 := hV.on b0
  have hg0 : ∀ W', Below W0.heap.size W0 W' → W'.cell? ⟨0, 0, none⟩ = some (.iface 107 (.agg #[.pointer (some ⟨1, 35, none⟩)])) := fun W' h => by
    have h0 : 0 < w.heap.size := by have := cell_lt hg; simpa using this
    have h1 := (b0.cell (p := ⟨0, 0, none⟩) h0).trans hg
    exact (h.cell (p := ⟨0, 0, none⟩) (Nat.lt_of_lt_of_le h0 b0.size)).trans h1
  replace hg0 := hide hg0
  clear hg
  have hW0' := hide hW0
  clear hW0
  have fsz := f.2
  have osz := o.2
  have dsz := ds.2
  unfold maxLen at fsz osz dsz hmv
  go_enter Tryd.func3, Tryd.ntmps3
  go_upto_region 1 with fail
  rw [← unhide hW0']
  go_wp2_with fail
  refine (known_c W0).mono ?_
  rintro e w1 ⟨rfl, hb1⟩
  have hs := (x4.on hb1 x4.lt).one.1
  have cS := hide (refSch_c a cap ts hm w1 (T0.on hb1))
  go_wp2_with fail
  refine (unhide cS).mono ?_
  rintro e w2 ⟨B, rfl, hb2, hB⟩
  clear cS hs
  have q2 := hb1.trans (hb2.mono hb1.size)
  have b2 := b0.trans (q2.mono b0.size)
  have z4 := x4.on q2 x4.lt
  have z5 := x5.on q2 x5.lt
  have z6 := x6.on q2 x6.lt
  have hs := z4.one.1
  obtain ⟨he0, he1, he2⟩ := z6.three
  obtain ⟨hc0, hc1, hc2, hc3, hc4, hc5, hc6⟩ := z5.seven
  cases B with
  | false =>
    go_wp2_with fail
    go_ret
    exact ⟨rfl, b2⟩
  | true =>
    have hS : Sch ts := (unhide hB).1 rfl
    clear hB
    by_cases h20 : vs.length ≤ 20
    case neg =>
      have h20' : (20 : Int) < vs.length := by omega
      go_wp2_with fail
      go_ret
      exact ⟨rfl, b2⟩
    have h20' : ¬ (20 : Int) < vs.length := by omega
    by_cases hfs : f.1.size ≤ 100
    case neg =>
      have hfs' : (100 : Int) < f.1.size := by omega
      go_wp2_with fail
      go_ret
      exact ⟨rfl, b2⟩
    have hfs' : ¬ (100 : Int) < f.1.size := by omega
    by_cases hos : o.1.size ≤ 100
    case neg =>
      have hos' : (100 : Int) < o.1.size := by omega
      go_wp2_with fail
      go_ret
      exact ⟨rfl, b2⟩
    have hos' : ¬ (100 : Int) < o.1.size := by omega
    by_cases hds : ds.1.size ≤ 100
    case neg =>
      have hds' : (100 : Int) < ds.1.size := by omega
      go_wp2_with fail
      go_ret
      exact ⟨rfl, b2⟩
    have hds' : ¬ (100 : Int) < ds.1.size := by omega
    have h5 := hS.1
    have hk5 := sch_hk5 hS
    have cA := hide (apply_c a cap ts ⟨k, ct, f, o, dk, dn, ds⟩ h5 hk5 w2 (T0.on q2))
    have cR := hide (fun W (h : Below W0.heap.size W0 W) => refApply_c a cap ts ⟨k, ct, f, o, dk, dn, ds⟩ hS W (T0.on h))
    obtain ⟨A, hA⟩ : ∃ A, A = appT ts ⟨k, ct, f, o, dk, dn, ds⟩ := ⟨_, rfl⟩
    obtain ⟨R, hR⟩ : ∃ R, R = refE ts ⟨k, ct, f, o, dk, dn, ds⟩ := ⟨_, rfl⟩
    have hSA : Sch A := by
      rw [hA, appT]
      split
      · next h => exact sch_new hS h
      · exact hS
    rw [← hA, ← hR] at cA cR
    replace hA := hide hA
    replace hR := hide hR
    replace hS := hide hS
    have cE := hide (fun W h => code_E R W (unhide hg0 W h))
    obtain ⟨EV, hEV⟩ : ∃ EV, EV = errE R := ⟨_, rfl⟩
    rw [← hEV] at cA cE
    replace hEV := hide hEV
    go_wp2_with fail
    refine (unhide cA).mono ?_
    rintro e w3 ⟨a3, c3, rfl, T3, hb3⟩
    clear cA hs he0 he1 he2 hc0 hc1 hc2 hc3 hc4 hc5 hc6
    obtain ⟨w4, hw4⟩ : ∃ w4, w4 = w3.alloc (.cells #[.slice a3 A.length c3] 24) := ⟨_, rfl⟩
    have bA3 : Below w3.heap.size w3 w4 := by rw [hw4]; exact (Below.refl _ _).alloc (Nat.le_refl _) _
    have u9 : Box w4 w3.heap.size 24 #[.slice a3 A.length c3] := by rw [hw4]; exact Box.new w3 24 _
    go_upto_region 6 with fail
    rw [← hw4]
    clear hw4
    have q3 := q2.trans (hb3.mono q2.size)
    have q4 := q3.trans (bA3.mono q3.size)
    have T4 := T3.on bA3
    have hs := (x4.on q4 x4.lt).one.1
    obtain ⟨hc0, hc1, hc2, hc3, hc4, hc5, hc6⟩ := (x5.on q4 x5.lt).seven
    go_wp2_with fail
    refine (unhide cR w4 q4).mono ?_
    rintro e w5 ⟨a5, c5, rfl, T5, hb5⟩
    clear hs hc0 hc1 hc2 hc3 hc4 hc5 hc6 cR
    obtain ⟨w6, hw6⟩ : ∃ w6, w6 = w5.alloc (.cells #[.slice a5 A.length c5] 24) := ⟨_, rfl⟩
    have bA5 : Below w5.heap.size w5 w6 := by rw [hw6]; exact (Below.refl _ _).alloc (Nat.le_refl _) _
    have u11 : Box w6 w5.heap.size 24 #[.slice a5 A.length c5] := by rw [hw6]; exact Box.new w5 24 _
    go_upto_region 7 with fail
    rw [← hw6]
    clear hw6
    have q5 := q4.trans (hb5.mono q4.size)
    have q6 := q5.trans (bA5.mono q5.size)
    have b46 := hb5.trans (bA5.mono hb5.size)
    go_wp2_with fail
    refine (unhide cE w6 q6).mono ?_
    rintro e w7 ⟨rfl, hb7⟩
    have q7 := q6.trans (hb7.mono q6.size)
    have T7 := (T4.on b46).on hb7
    have T7' := (T5.on bA5).on hb7
    have h9 := ((u9.on b46 u9.lt).on hb7 (by have := u9.lt; have := b46.size; omega)).one.1
    have h11 := (u11.on hb7 u11.lt).one.1
    have cQ := hide (refSameS_c a3 a5 c3 c5 A A hSA.1 (sch_hk5 hSA) (sch_hk5 hSA) w7 T7 T7')
    replace hSA := hide hSA
    go_wp2_with fail
    refine (unhide cQ).mono ?_
    rintro e w8 ⟨B, rfl, hb8, hB⟩
    obtain rfl : B = true := (unhide hB).2 (by first | rfl | trivial)
    clear hB cQ h9 h11
    have q8 := q7.trans (hb8.mono q7.size)
    have b8 := b0.trans (q8.mono b0.size)
    by_cases hR0 : R = 0
    case neg =>
      have hR0' : (R != 0) = true := by simp [hR0]
      clear hR0
      go_wp2_with fail
      go_ret
      exact ⟨rfl, b8⟩
    subst hR0
    have cI := hide (refIsE_c a av cap cv ts ⟨t, tm, vs⟩ h5 hk5 h20 w8 (T0.on q8) (V0.on q8))
    obtain ⟨E, hE⟩ : ∃ E, E = isE ts ⟨t, tm, vs⟩ := ⟨_, rfl⟩
    rw [← hE] at cI
    replace hE := hide hE
    have hs := (x4.on q8 x4.lt).one.1
    obtain ⟨he0, he1, he2⟩ := (x6.on q8 x6.lt).three
    go_wp2_with fail
    refine (unhide cI).mono ?_
    rintro e w9 ⟨rfl, hb9⟩
    clear cI hs he0 he1 he2
    have q9 := q8.trans (hb9.mono q8.size)
    have b9 := b0.trans (q9.mono b0.size)
    by_cases hE0 : E = 0
    case neg =>
      have hE0' : (E != 0) = true := by simp [hE0]
      clear hE0
      go_wp2_with fail
      go_ret
      exact ⟨rfl, b9⟩
    subst hE0
    obtain ⟨bs, bb, hbk⟩ := back_form (backN ⟨k, ct, f, o, dk, dn, ds⟩ fl)
    have cB := fun W => back_c ⟨k, ct, f, o, dk, dn, ds⟩ fl W
    have cB' := fun W => refBack_c ⟨k, ct, f, o, dk, dn, ds⟩ fl W
    rw [hbk] at cB cB'
    replace cB := hide cB
    replace cB' := hide cB'
    clear hbk
    obtain ⟨hc0, hc1, hc2, hc3, hc4, hc5, hc6⟩ := (x5.on q9 x5.lt).seven
    go_wp2_with fail
    refine (unhide cB w9).mono ?_
    rintro e w10 ⟨rfl, hb10⟩
    clear hc0 hc1 hc2 hc3 hc4 hc5 hc6 cB
    have q10 := q9.trans (hb10.mono q9.size)
    obtain ⟨hc0, hc1, hc2, hc3, hc4, hc5, hc6⟩ := (x5.on q10 x5.lt).seven
    go_wp2_with fail
    refine (unhide cB' w10).mono ?_
    rintro e w11 ⟨rfl, hb11⟩
    clear hc0 hc1 hc2 hc3 hc4 hc5 hc6 cB'
    have q11 := q10.trans (hb11.mono q10.size)
    go_upto_region 13 with fail
    have cM := hide (fun W h h' => move_c a av cap cv ts ⟨k, ct, f, o, dk, dn, ds⟩ ⟨t, tm, vs⟩ h5 hk5 h20 W h h')
    have cR := hide (fun W h h' => refMove_c a av cap cv ts ⟨k, ct, f, o, dk, dn, ds⟩ ⟨t, tm, vs⟩ (unhide hS) h20 W h h')
    obtain ⟨Nv, hN⟩ : ∃ Nv, Nv = (movE ts ⟨k, ct, f, o, dk, dn, ds⟩ ⟨t, tm, vs⟩).vs := ⟨_, rfl⟩
    have hN20 := hide (show Nv.length ≤ 20 by
      obtain ⟨tt, hf, hEo⟩ := isE_found (unhide hE).symm
      have e1 := (evOk_new hEo (good_found (unhide hS) (unhide hR).symm (findT_mem hf).1)).len
      rw [hN, movE_find ts _ ⟨t, tm, vs⟩ tt hf (unhide hR).symm (unhide hE).symm]
      simp only at e1 ⊢
      have := fNew_len tt.1 ⟨k, ct, f, o, dk, dn, ds⟩ tt.2
      have := (((sch_iff ts).1 (unhide hS)).2.1 tt (findT_mem hf).1).2.1
      omega)
    replace hN := hide hN
    obtain ⟨V, hV⟩ : ∃ V, V = ({ heap := w11.heap, tape := w11.tape, drawn := w11.drawn + 1, os := w11.os, output := w11.output } : World) := ⟨_, rfl⟩
    have bV : Below W0.heap.size W0 V := by rw [hV]; exact q11.drew
    have hC : Box V w.heap.size 24 #[.slice a ts.length cap] ∧ Box V (w.heap.size + 1) 28 #[.int .i64 k, .string ct.1, .string f.1, .string o.1, .int .i64 dk, .int .i64 dn, .string ds.1] ∧ Box V (w.heap.size + 1 + 1) 31 #[.string t.1, .int .i64 tm, .slice av vs.length cv] := ⟨x4.on bV x4.lt, x5.on bV x5.lt, x6.on bV x6.lt⟩
    by_cases hk5' : k = 5
    · subst hk5'
      refine wp_region_any hmx (wpAny_of_C (C := fun w' => Box w' w.heap.size 24 #[.slice a ts.length cap] ∧ Box w' (w.heap.size + 1) 28 #[.int .i64 5, .string ct.1, .string f.1, .string o.1, .int .i64 dk, .int .i64 dn, .string ds.1] ∧ Box w' (w.heap.size + 1 + 1) 31 #[.string t.1, .int .i64 tm, .slice av vs.length cv]) _ _ _ _ ?_)
      rw [← hV]
      clear hV
      refine wpAnyC_reads 0 hC (by kernel_rfl) (by kernel_rfl) (by kernel_rfl) (fun d _ _ _ _ h => by cases d <;> exact h) (fun oi ho K hK => ?_)
      simp only [List.getElem?_toArray, List.getElem?_cons_zero, Option.some.injEq] at ho
      subst ho
      rw [if_pos (by kernel_rfl)]
      refine ⟨.agg #[.slice a ts.length cap], fun w' hw' => ?_, hK _ ?_⟩
      · obtain ⟨hx4, hx5, hx6⟩ := hw'
        have hs := hx4.one.1
        obtain ⟨hc0, hc1, hc2, hc3, hc4, hc5, hc6⟩ := hx5.seven
        obtain ⟨he0, he1, he2⟩ := hx6.three
        go_simp
      clear hK K
      refine wpAnyC_reads 1 hC (by kernel_rfl) (by kernel_rfl) (by kernel_rfl) (fun d _ _ _ _ h => by cases d <;> exact h) (fun oi ho K hK => ?_)
      simp only [List.getElem?_toArray, List.getElem?_cons_succ, List.getElem?_cons_zero, Option.some.injEq] at ho
      subst ho
      rw [if_pos (by kernel_rfl)]
      refine ⟨.agg #[.int .i64 5, .string ct.1, .string f.1, .string o.1, .int .i64 dk, .int .i64 dn, .string ds.1], fun w' hw' => ?_, hK _ ?_⟩
      · obtain ⟨hx4, hx5, hx6⟩ := hw'
        have hs := hx4.one.1
        obtain ⟨hc0, hc1, hc2, hc3, hc4, hc5, hc6⟩ := hx5.seven
        obtain ⟨he0, he1, he2⟩ := hx6.three
        go_simp
      clear hK K
      refine wpAnyC_reads 2 hC (by kernel_rfl) (by kernel_rfl) (by kernel_rfl) (fun d _ _ _ _ h => by cases d <;> exact h) (fun oi ho K hK => ?_)
      simp only [List.getElem?_toArray, List.getElem?_cons_succ, List.getElem?_cons_zero, Option.some.injEq] at ho
      subst ho
      rw [if_pos (by kernel_rfl)]
      refine ⟨.agg #[.string t.1, .int .i64 tm, .slice av vs.length cv], fun w' hw' => ?_, hK _ ?_⟩
      · obtain ⟨hx4, hx5, hx6⟩ := hw'
        have hs := hx4.one.1
        obtain ⟨hc0, hc1, hc2, hc3, hc4, hc5, hc6⟩ := hx5.seven
        obtain ⟨he0, he1, he2⟩ := hx6.three
        go_simp
      clear hK K
      refine wpAnyC_reads 4 hC (by kernel_rfl) (by kernel_rfl) (by kernel_rfl) (fun d _ _ _ _ h => by cases d <;> exact h) (fun oi ho K hK => ?_)
      simp only [List.getElem?_toArray, List.getElem?_cons_succ, List.getElem?_cons_zero, Option.some.injEq] at ho
      subst ho
      rw [if_pos (by kernel_rfl)]
      refine ⟨.agg #[.slice a ts.length cap], fun w' hw' => ?_, hK _ ?_⟩
      · obtain ⟨hx4, hx5, hx6⟩ := hw'
        have hs := hx4.one.1
        obtain ⟨hc0, hc1, hc2, hc3, hc4, hc5, hc6⟩ := hx5.seven
        obtain ⟨he0, he1, he2⟩ := hx6.three
        go_simp
      clear hK K
      refine wpAnyC_reads 5 hC (by kernel_rfl) (by kernel_rfl) (by kernel_rfl) (fun d _ _ _ _ h => by cases d <;> exact h) (fun oi ho K hK => ?_)
      simp only [List.getElem?_toArray, List.getElem?_cons_succ, List.getElem?_cons_zero, Option.some.injEq] at ho
      subst ho
      rw [if_pos (by kernel_rfl)]
      refine ⟨.agg #[.int .i64 5, .string ct.1, .string f.1, .string o.1, .int .i64 dk, .int .i64 dn, .string ds.1], fun w' hw' => ?_, hK _ ?_⟩
      · obtain ⟨hx4, hx5, hx6⟩ := hw'
        have hs := hx4.one.1
        obtain ⟨hc0, hc1, hc2, hc3, hc4, hc5, hc6⟩ := hx5.seven
        obtain ⟨he0, he1, he2⟩ := hx6.three
        go_simp
      clear hK K
      refine wpAnyC_reads 6 hC (by kernel_rfl) (by kernel_rfl) (by kernel_rfl) (fun d _ _ _ _ h => by cases d <;> exact h) (fun oi ho K hK => ?_)
      simp only [List.getElem?_toArray, List.getElem?_cons_succ, List.getElem?_cons_zero, Option.some.injEq] at ho
      subst ho
      rw [if_pos (by kernel_rfl)]
      refine ⟨.agg #[.string t.1, .int .i64 tm, .slice av vs.length cv], fun w' hw' => ?_, hK _ ?_⟩
      · obtain ⟨hx4, hx5, hx6⟩ := hw'
        have hs := hx4.one.1
        obtain ⟨hc0, hc1, hc2, hc3, hc4, hc5, hc6⟩ := hx5.seven
        obtain ⟨he0, he1, he2⟩ := hx6.three
        go_simp
      clear hK K
      refine wpAnyC_calls 3 (by kernel_rfl) (fun oi ho K hK => ?_)
      simp only [List.getElem?_toArray, List.getElem?_cons_succ, List.getElem?_cons_zero, Option.some.injEq] at ho
      subst ho
      go_simp
      refine (unhide cM V (T0.on bV) (V0.on bV)).mono ?_
      rintro e w1 ⟨a1, c1, rfl, V1, hb1⟩
      rw [← unhide hN] at V1 ⊢
      have g1 : Box w1 w.heap.size 24 #[.slice a ts.length cap] ∧ Box w1 (w.heap.size + 1) 28 #[.int .i64 5, .string ct.1, .string f.1, .string o.1, .int .i64 dk, .int .i64 dn, .string ds.1] ∧ Box w1 (w.heap.size + 1 + 1) 31 #[.string t.1, .int .i64 tm, .slice av vs.length cv] := ⟨hC.1.on hb1 hC.1.lt, hC.2.1.on hb1 hC.2.1.lt, hC.2.2.on hb1 hC.2.2.lt⟩
      have bv1 := bV.trans (hb1.mono bV.size)
      go_simp
      refine hK _ _ g1 ?_
      clear hK K
      refine wpAnyC_calls 7 (by kernel_rfl) (fun oi ho K hK => ?_)
      simp only [List.getElem?_toArray, List.getElem?_cons_succ, List.getElem?_cons_zero, Option.some.injEq] at ho
      subst ho
      go_simp
      refine (unhide cR w1 (T0.on bv1) (V0.on bv1)).mono ?_
      rintro e w2 ⟨a2, c2, rfl, V2, hb2⟩
      rw [← unhide hN] at V2 ⊢
      have g2 : Box w2 w.heap.size 24 #[.slice a ts.length cap] ∧ Box w2 (w.heap.size + 1) 28 #[.int .i64 5, .string ct.1, .string f.1, .string o.1, .int .i64 dk, .int .i64 dn, .string ds.1] ∧ Box w2 (w.heap.size + 1 + 1) 31 #[.string t.1, .int .i64 tm, .slice av vs.length cv] := ⟨g1.1.on hb2 g1.1.lt, g1.2.1.on hb2 g1.2.1.lt, g1.2.2.on hb2 g1.2.2.lt⟩
      have bv2 := bv1.trans (hb2.mono bv1.size)
      have cS2 := hide (refSame_c ⟨t, tm, Nv⟩ ⟨t, tm, Nv⟩ a1 a2 c1 c2 (unhide hN20) (unhide hN20) w2 (V1.on hb2) V2)
      rw [sameE_self] at cS2
      clear V1 V2
      go_simp
      refine hK _ _ g2 ?_
      clear hK K
      refine wpAnyC_calls 8 (by kernel_rfl) (fun oi ho K hK => ?_)
      simp only [List.getElem?_toArray, List.getElem?_cons_succ, List.getElem?_cons_zero, Option.some.injEq] at ho
      subst ho
      go_simp
      refine (unhide cS2).mono ?_
      rintro e w3 ⟨rfl, hb3⟩
      have g3 : Box w3 w.heap.size 24 #[.slice a ts.length cap] ∧ Box w3 (w.heap.size + 1) 28 #[.int .i64 5, .string ct.1, .string f.1, .string o.1, .int .i64 dk, .int .i64 dn, .string ds.1] ∧ Box w3 (w.heap.size + 1 + 1) 31 #[.string t.1, .int .i64 tm, .slice av vs.length cv] := ⟨g2.1.on hb3 g2.1.lt, g2.2.1.on hb3 g2.2.1.lt, g2.2.2.on hb3 g2.2.2.lt⟩
      have bv3 := bv2.trans (hb3.mono bv2.size)
      go_simp
      refine hK _ _ g3 ?_
      clear hK K cS2
      refine wpAnyC_reads 9 g3 (by kernel_rfl) (by kernel_rfl) (by kernel_rfl) (fun d _ _ _ _ h => by cases d <;> exact h) (fun oi ho K hK => ?_)
      simp only [List.getElem?_toArray, List.getElem?_cons_succ, List.getElem?_cons_zero, Option.some.injEq] at ho
      subst ho
      rw [if_pos (by kernel_rfl)]
      refine ⟨.bool true, fun w' hw' => ?_, hK _ ?_⟩
      · obtain ⟨hx4, hx5, hx6⟩ := hw'
        have hs := hx4.one.1
        obtain ⟨hc0, hc1, hc2, hc3, hc4, hc5, hc6⟩ := hx5.seven
        obtain ⟨he0, he1, he2⟩ := hx6.three
        go_simp
      clear hK K
      refine wpAnyC_reads 10 g3 (by kernel_rfl) (by kernel_rfl) (by kernel_rfl) (fun d _ _ _ _ h => by cases d <;> exact h) (fun oi ho K hK => ?_)
      simp only [List.getElem?_toArray, List.getElem?_cons_succ, List.getElem?_cons_zero, Option.some.injEq] at ho
      subst ho
      rw [if_pos (by kernel_rfl)]
      refine ⟨.pointer (some ⟨w.heap.size + 1, 0, none⟩), fun w' hw' => ?_, hK _ ?_⟩
      · obtain ⟨hx4, hx5, hx6⟩ := hw'
        have hs := hx4.one.1
        obtain ⟨hc0, hc1, hc2, hc3, hc4, hc5, hc6⟩ := hx5.seven
        obtain ⟨he0, he1, he2⟩ := hx6.three
        go_simp
      clear hK K
      refine wpAnyC_reads 11 g3 (by kernel_rfl) (by kernel_rfl) (by kernel_rfl) (fun d _ _ _ _ h => by cases d <;> exact h) (fun oi ho K hK => ?_)
      simp only [List.getElem?_toArray, List.getElem?_cons_succ, List.getElem?_cons_zero, Option.some.injEq] at ho
      subst ho
      rw [if_pos (by kernel_rfl)]
      refine ⟨.int .i64 5, fun w' hw' => ?_, hK _ ?_⟩
      · obtain ⟨hx4, hx5, hx6⟩ := hw'
        have hs := hx4.one.1
        obtain ⟨hc0, hc1, hc2, hc3, hc4, hc5, hc6⟩ := hx5.seven
        obtain ⟨he0, he1, he2⟩ := hx6.three
        go_simp
      clear hK K
      refine wpAnyC_reads 12 g3 (by kernel_rfl) (by kernel_rfl) (by kernel_rfl) (fun d _ _ _ _ h => by cases d <;> exact h) (fun oi ho K hK => ?_)
      simp only [List.getElem?_toArray, List.getElem?_cons_succ, List.getElem?_cons_zero, Option.some.injEq] at ho
      subst ho
      rw [if_pos (by kernel_rfl)]
      refine ⟨.bool true, fun w' hw' => ?_, hK _ ?_⟩
      · obtain ⟨hx4, hx5, hx6⟩ := hw'
        have hs := hx4.one.1
        obtain ⟨hc0, hc1, hc2, hc3, hc4, hc5, hc6⟩ := hx5.seven
        obtain ⟨he0, he1, he2⟩ := hx6.three
        go_simp
      clear hK K
      refine wpAnyC_reads 13 g3 (by kernel_rfl) (by kernel_rfl) (by kernel_rfl) (fun d _ _ _ _ h => by cases d <;> exact h) (fun oi ho K hK => ?_)
      simp only [List.getElem?_toArray, List.getElem?_cons_succ, List.getElem?_cons_zero, Option.some.injEq] at ho
      subst ho
      rw [if_pos (by kernel_rfl)]
      refine ⟨.bool true, fun w' hw' => ?_, hK _ ?_⟩
      · obtain ⟨hx4, hx5, hx6⟩ := hw'
        have hs := hx4.one.1
        obtain ⟨hc0, hc1, hc2, hc3, hc4, hc5, hc6⟩ := hx5.seven
        obtain ⟨he0, he1, he2⟩ := hx6.three
        go_simp
      clear hK K
      refine wpAnyC_reads 14 g3 (by kernel_rfl) (by kernel_rfl) (by kernel_rfl) (fun d _ _ _ _ h => by cases d <;> exact h) (fun oi ho K hK => ?_)
      simp only [List.getElem?_toArray, List.getElem?_cons_succ, List.getElem?_cons_zero, Option.some.injEq] at ho
      subst ho
      rw [if_neg (Bool.eq_false_iff.1 (by kernel_rfl))]
      refine hK _ ?_
      clear hK K
      refine wpAnyC_reads 15 g3 (by kernel_rfl) (by kernel_rfl) (by kernel_rfl) (fun d _ _ _ _ h => by cases d <;> exact h) (fun oi ho K hK => ?_)
      simp only [List.getElem?_toArray, List.getElem?_cons_succ, List.getElem?_cons_zero, Option.some.injEq] at ho
      subst ho
      rw [if_neg (Bool.eq_false_iff.1 (by kernel_rfl))]
      refine hK _ ?_
      clear hK K
      refine wpAnyC_reads 16 g3 (by kernel_rfl) (by kernel_rfl) (by kernel_rfl) (fun d _ _ _ _ h => by cases d <;> exact h) (fun oi ho K hK => ?_)
      simp only [List.getElem?_toArray, List.getElem?_cons_succ, List.getElem?_cons_zero, Option.some.injEq] at ho
      subst ho
      rw [if_neg (Bool.eq_false_iff.1 (by kernel_rfl))]
      refine hK _ ?_
      clear hK K
      refine wpAnyC_reads 17 g3 (by kernel_rfl) (by kernel_rfl) (by kernel_rfl) (fun d _ _ _ _ h => by cases d <;> exact h) (fun oi ho K hK => ?_)
      simp only [List.getElem?_toArray, List.getElem?_cons_succ, List.getElem?_cons_zero, Option.some.injEq] at ho
      subst ho
      rw [if_neg (Bool.eq_false_iff.1 (by kernel_rfl))]
      refine hK _ ?_
      clear hK K
      refine wpAnyC_reads 18 g3 (by kernel_rfl) (by kernel_rfl) (by kernel_rfl) (fun d _ _ _ _ h => by cases d <;> exact h) (fun oi ho K hK => ?_)
      simp only [List.getElem?_toArray, List.getElem?_cons_succ, List.getElem?_cons_zero, Option.some.injEq] at ho
      subst ho
      rw [if_neg (Bool.eq_false_iff.1 (by kernel_rfl))]
      refine hK _ ?_
      clear hK K
      refine wpAnyC_reads 19 g3 (by kernel_rfl) (by kernel_rfl) (by kernel_rfl) (fun d _ _ _ _ h => by cases d <;> exact h) (fun oi ho K hK => ?_)
      simp only [List.getElem?_toArray, List.getElem?_cons_succ, List.getElem?_cons_zero, Option.some.injEq] at ho
      subst ho
      rw [if_neg (Bool.eq_false_iff.1 (by kernel_rfl))]
      refine hK _ ?_
      clear hK K
      refine wpAnyC_reads 20 g3 (by kernel_rfl) (by kernel_rfl) (by kernel_rfl) (fun d _ _ _ _ h => by cases d <;> exact h) (fun oi ho K hK => ?_)
      simp only [List.getElem?_toArray, List.getElem?_cons_succ, List.getElem?_cons_zero, Option.some.injEq] at ho
      subst ho
      rw [if_neg (Bool.eq_false_iff.1 (by kernel_rfl))]
      refine hK _ ?_
      clear hK K
      refine wpAnyC_reads 21 g3 (by kernel_rfl) (by kernel_rfl) (by kernel_rfl) (fun d _ _ _ _ h => by cases d <;> exact h) (fun oi ho K hK => ?_)
      simp only [List.getElem?_toArray, List.getElem?_cons_succ, List.getElem?_cons_zero, Option.some.injEq] at ho
      subst ho
      rw [if_neg (Bool.eq_false_iff.1 (by kernel_rfl))]
      refine hK _ ?_
      clear hK K
      refine wpAnyC_reads 22 g3 (by kernel_rfl) (by kernel_rfl) (by kernel_rfl) (fun d _ _ _ _ h => by cases d <;> exact h) (fun oi ho K hK => ?_)
      simp only [List.getElem?_toArray, List.getElem?_cons_succ, List.getElem?_cons_zero, Option.some.injEq] at ho
      subst ho
      rw [if_pos (by kernel_rfl)]
      refine ⟨.bool true, fun w' hw' => ?_, hK _ ?_⟩
      · obtain ⟨hx4, hx5, hx6⟩ := hw'
        have hs := hx4.one.1
        obtain ⟨hc0, hc1, hc2, hc3, hc4, hc5, hc6⟩ := hx5.seven
        obtain ⟨he0, he1, he2⟩ := hx6.three
        go_simp
      clear hK K
      refine wpAnyC_reads 23 g3 (by kernel_rfl) (by kernel_rfl) (by kernel_rfl) (fun d _ _ _ _ h => by cases d <;> exact h) (fun oi ho K hK => ?_)
      simp only [List.getElem?_toArray, List.getElem?_cons_succ, List.getElem?_cons_zero, Option.some.injEq] at ho
      subst ho
      rw [if_pos (by kernel_rfl)]
      refine ⟨.bool true, fun w' hw' => ?_, hK _ ?_⟩
      · obtain ⟨hx4, hx5, hx6⟩ := hw'
        have hs := hx4.one.1
        obtain ⟨hc0, hc1, hc2, hc3, hc4, hc5, hc6⟩ := hx5.seven
        obtain ⟨he0, he1, he2⟩ := hx6.three
        go_simp
      clear hK K
      refine wpAnyC_reads 24 g3 (by kernel_rfl) (by kernel_rfl) (by kernel_rfl) (fun d _ _ _ _ h => by cases d <;> exact h) (fun oi ho K hK => ?_)
      simp only [List.getElem?_toArray, List.getElem?_cons_succ, List.getElem?_cons_zero, Option.some.injEq] at ho
      subst ho
      rw [if_pos (by kernel_rfl)]
      refine ⟨.bool true, fun w' hw' => ?_, hK _ ?_⟩
      · obtain ⟨hx4, hx5, hx6⟩ := hw'
        have hs := hx4.one.1
        obtain ⟨hc0, hc1, hc2, hc3, hc4, hc5, hc6⟩ := hx5.seven
        obtain ⟨he0, he1, he2⟩ := hx6.three
        go_simp
      clear hK K
      refine wpAnyC_done (by kernel_rfl) ?_ _
      go_wp2
      go_ret
      exact ⟨rfl, b0.trans (bv3.mono b0.size)⟩
    · have hk5'' : (k == 5) = false := by simp [hk5']
      clear hk5'
      refine wp_region_any hmx (wpAny_of_C (C := fun w' => Box w' w.heap.size 24 #[.slice a ts.length cap] ∧ Box w' (w.heap.size + 1) 28 #[.int .i64 k, .string ct.1, .string f.1, .string o.1, .int .i64 dk, .int .i64 dn, .string ds.1] ∧ Box w' (w.heap.size + 1 + 1) 31 #[.string t.1, .int .i64 tm, .slice av vs.length cv]) _ _ _ _ ?_)
      rw [← hV]
      clear hV
      refine wpAnyC_reads 0 hC (by kernel_rfl) (by kernel_rfl) (by kernel_rfl) (fun d _ _ _ _ h => by cases d <;> exact h) (fun oi ho K hK => ?_)
      simp only [List.getElem?_toArray, List.getElem?_cons_zero, Option.some.injEq] at ho
      subst ho
      rw [if_pos (by kernel_rfl)]
      refine ⟨.agg #[.slice a ts.length cap], fun w' hw' => ?_, hK _ ?_⟩
      · obtain ⟨hx4, hx5, hx6⟩ := hw'
        have hs := hx4.one.1
        obtain ⟨hc0, hc1, hc2, hc3, hc4, hc5, hc6⟩ := hx5.seven
        obtain ⟨he0, he1, he2⟩ := hx6.three
        go_simp
      clear hK K
      refine wpAnyC_reads 1 hC (by kernel_rfl) (by kernel_rfl) (by kernel_rfl) (fun d _ _ _ _ h => by cases d <;> exact h) (fun oi ho K hK => ?_)
      simp only [List.getElem?_toArray, List.getElem?_cons_succ, List.getElem?_cons_zero, Option.some.injEq] at ho
      subst ho
      rw [if_pos (by kernel_rfl)]
      refine ⟨.agg #[.int .i64 k, .string ct.1, .string f.1, .string o.1, .int .i64 dk, .int .i64 dn, .string ds.1], fun w' hw' => ?_, hK _ ?_⟩
      · obtain ⟨hx4, hx5, hx6⟩ := hw'
        have hs := hx4.one.1
        obtain ⟨hc0, hc1, hc2, hc3, hc4, hc5, hc6⟩ := hx5.seven
        obtain ⟨he0, he1, he2⟩ := hx6.three
        go_simp
      clear hK K
      refine wpAnyC_reads 2 hC (by kernel_rfl) (by kernel_rfl) (by kernel_rfl) (fun d _ _ _ _ h => by cases d <;> exact h) (fun oi ho K hK => ?_)
      simp only [List.getElem?_toArray, List.getElem?_cons_succ, List.getElem?_cons_zero, Option.some.injEq] at ho
      subst ho
      rw [if_pos (by kernel_rfl)]
      refine ⟨.agg #[.string t.1, .int .i64 tm, .slice av vs.length cv], fun w' hw' => ?_, hK _ ?_⟩
      · obtain ⟨hx4, hx5, hx6⟩ := hw'
        have hs := hx4.one.1
        obtain ⟨hc0, hc1, hc2, hc3, hc4, hc5, hc6⟩ := hx5.seven
        obtain ⟨he0, he1, he2⟩ := hx6.three
        go_simp
      clear hK K
      refine wpAnyC_reads 4 hC (by kernel_rfl) (by kernel_rfl) (by kernel_rfl) (fun d _ _ _ _ h => by cases d <;> exact h) (fun oi ho K hK => ?_)
      simp only [List.getElem?_toArray, List.getElem?_cons_succ, List.getElem?_cons_zero, Option.some.injEq] at ho
      subst ho
      rw [if_pos (by kernel_rfl)]
      refine ⟨.agg #[.slice a ts.length cap], fun w' hw' => ?_, hK _ ?_⟩
      · obtain ⟨hx4, hx5, hx6⟩ := hw'
        have hs := hx4.one.1
        obtain ⟨hc0, hc1, hc2, hc3, hc4, hc5, hc6⟩ := hx5.seven
        obtain ⟨he0, he1, he2⟩ := hx6.three
        go_simp
      clear hK K
      refine wpAnyC_reads 5 hC (by kernel_rfl) (by kernel_rfl) (by kernel_rfl) (fun d _ _ _ _ h => by cases d <;> exact h) (fun oi ho K hK => ?_)
      simp only [List.getElem?_toArray, List.getElem?_cons_succ, List.getElem?_cons_zero, Option.some.injEq] at ho
      subst ho
      rw [if_pos (by kernel_rfl)]
      refine ⟨.agg #[.int .i64 k, .string ct.1, .string f.1, .string o.1, .int .i64 dk, .int .i64 dn, .string ds.1], fun w' hw' => ?_, hK _ ?_⟩
      · obtain ⟨hx4, hx5, hx6⟩ := hw'
        have hs := hx4.one.1
        obtain ⟨hc0, hc1, hc2, hc3, hc4, hc5, hc6⟩ := hx5.seven
        obtain ⟨he0, he1, he2⟩ := hx6.three
        go_simp
      clear hK K
      refine wpAnyC_reads 6 hC (by kernel_rfl) (by kernel_rfl) (by kernel_rfl) (fun d _ _ _ _ h => by cases d <;> exact h) (fun oi ho K hK => ?_)
      simp only [List.getElem?_toArray, List.getElem?_cons_succ, List.getElem?_cons_zero, Option.some.injEq] at ho
      subst ho
      rw [if_pos (by kernel_rfl)]
      refine ⟨.agg #[.string t.1, .int .i64 tm, .slice av vs.length cv], fun w' hw' => ?_, hK _ ?_⟩
      · obtain ⟨hx4, hx5, hx6⟩ := hw'
        have hs := hx4.one.1
        obtain ⟨hc0, hc1, hc2, hc3, hc4, hc5, hc6⟩ := hx5.seven
        obtain ⟨he0, he1, he2⟩ := hx6.three
        go_simp
      clear hK K
      refine wpAnyC_calls 3 (by kernel_rfl) (fun oi ho K hK => ?_)
      simp only [List.getElem?_toArray, List.getElem?_cons_succ, List.getElem?_cons_zero, Option.some.injEq] at ho
      subst ho
      go_simp
      refine (unhide cM V (T0.on bV) (V0.on bV)).mono ?_
      rintro e w1 ⟨a1, c1, rfl, V1, hb1⟩
      rw [← unhide hN] at V1 ⊢
      have g1 : Box w1 w.heap.size 24 #[.slice a ts.length cap] ∧ Box w1 (w.heap.size + 1) 28 #[.int .i64 k, .string ct.1, .string f.1, .string o.1, .int .i64 dk, .int .i64 dn, .string ds.1] ∧ Box w1 (w.heap.size + 1 + 1) 31 #[.string t.1, .int .i64 tm, .slice av vs.length cv] := ⟨hC.1.on hb1 hC.1.lt, hC.2.1.on hb1 hC.2.1.lt, hC.2.2.on hb1 hC.2.2.lt⟩
      have bv1 := bV.trans (hb1.mono bV.size)
      go_simp
      refine hK _ _ g1 ?_
      clear hK K
      refine wpAnyC_calls 7 (by kernel_rfl) (fun oi ho K hK => ?_)
      simp only [List.getElem?_toArray, List.getElem?_cons_succ, List.getElem?_cons_zero, Option.some.injEq] at ho
      subst ho
      go_simp
      refine (unhide cR w1 (T0.on bv1) (V0.on bv1)).mono ?_
      rintro e w2 ⟨a2, c2, rfl, V2, hb2⟩
      rw [← unhide hN] at V2 ⊢
      have g2 : Box w2 w.heap.size 24 #[.slice a ts.length cap] ∧ Box w2 (w.heap.size + 1) 28 #[.int .i64 k, .string ct.1, .string f.1, .string o.1, .int .i64 dk, .int .i64 dn, .string ds.1] ∧ Box w2 (w.heap.size + 1 + 1) 31 #[.string t.1, .int .i64 tm, .slice av vs.length cv] := ⟨g1.1.on hb2 g1.1.lt, g1.2.1.on hb2 g1.2.1.lt, g1.2.2.on hb2 g1.2.2.lt⟩
      have bv2 := bv1.trans (hb2.mono bv1.size)
      have cS2 := hide (refSame_c ⟨t, tm, Nv⟩ ⟨t, tm, Nv⟩ a1 a2 c1 c2 (unhide hN20) (unhide hN20) w2 (V1.on hb2) V2)
      rw [sameE_self] at cS2
      clear V1 V2
      go_simp
      refine hK _ _ g2 ?_
      clear hK K
      refine wpAnyC_calls 8 (by kernel_rfl) (fun oi ho K hK => ?_)
      simp only [List.getElem?_toArray, List.getElem?_cons_succ, List.getElem?_cons_zero, Option.some.injEq] at ho
      subst ho
      go_simp
      refine (unhide cS2).mono ?_
      rintro e w3 ⟨rfl, hb3⟩
      have g3 : Box w3 w.heap.size 24 #[.slice a ts.length cap] ∧ Box w3 (w.heap.size + 1) 28 #[.int .i64 k, .string ct.1, .string f.1, .string o.1, .int .i64 dk, .int .i64 dn, .string ds.1] ∧ Box w3 (w.heap.size + 1 + 1) 31 #[.string t.1, .int .i64 tm, .slice av vs.length cv] := ⟨g2.1.on hb3 g2.1.lt, g2.2.1.on hb3 g2.2.1.lt, g2.2.2.on hb3 g2.2.2.lt⟩
      have bv3 := bv2.trans (hb3.mono bv2.size)
      go_simp
      refine hK _ _ g3 ?_
      clear hK K cS2
      refine wpAnyC_reads 9 g3 (by kernel_rfl) (by kernel_rfl) (by kernel_rfl) (fun d _ _ _ _ h => by cases d <;> exact h) (fun oi ho K hK => ?_)
      simp only [List.getElem?_toArray, List.getElem?_cons_succ, List.getElem?_cons_zero, Option.some.injEq] at ho
      subst ho
      rw [if_pos (by kernel_rfl)]
      refine ⟨.bool true, fun w' hw' => ?_, hK _ ?_⟩
      · obtain ⟨hx4, hx5, hx6⟩ := hw'
        have hs := hx4.one.1
        obtain ⟨hc0, hc1, hc2, hc3, hc4, hc5, hc6⟩ := hx5.seven
        obtain ⟨he0, he1, he2⟩ := hx6.three
        go_simp
      clear hK K
      refine wpAnyC_reads 10 g3 (by kernel_rfl) (by kernel_rfl) (by kernel_rfl) (fun d _ _ _ _ h => by cases d <;> exact h) (fun oi ho K hK => ?_)
      simp only [List.getElem?_toArray, List.getElem?_cons_succ, List.getElem?_cons_zero, Option.some.injEq] at ho
      subst ho
      rw [if_pos (by kernel_rfl)]
      refine ⟨.pointer (some ⟨w.heap.size + 1, 0, none⟩), fun w' hw' => ?_, hK _ ?_⟩
      · obtain ⟨hx4, hx5, hx6⟩ := hw'
        have hs := hx4.one.1
        obtain ⟨hc0, hc1, hc2, hc3, hc4, hc5, hc6⟩ := hx5.seven
        obtain ⟨he0, he1, he2⟩ := hx6.three
        go_simp
      clear hK K
      refine wpAnyC_reads 11 g3 (by kernel_rfl) (by kernel_rfl) (by kernel_rfl) (fun d _ _ _ _ h => by cases d <;> exact h) (fun oi ho K hK => ?_)
      simp only [List.getElem?_toArray, List.getElem?_cons_succ, List.getElem?_cons_zero, Option.some.injEq] at ho
      subst ho
      rw [if_pos (by kernel_rfl)]
      refine ⟨.int .i64 k, fun w' hw' => ?_, hK _ ?_⟩
      · obtain ⟨hx4, hx5, hx6⟩ := hw'
        have hs := hx4.one.1
        obtain ⟨hc0, hc1, hc2, hc3, hc4, hc5, hc6⟩ := hx5.seven
        obtain ⟨he0, he1, he2⟩ := hx6.three
        go_simp
      clear hK K
      refine wpAnyC_reads 12 g3 (by kernel_rfl) (by kernel_rfl) (by kernel_rfl) (fun d _ _ _ _ h => by cases d <;> exact h) (fun oi ho K hK => ?_)
      simp only [List.getElem?_toArray, List.getElem?_cons_succ, List.getElem?_cons_zero, Option.some.injEq] at ho
      subst ho
      rw [if_pos (by kernel_rfl)]
      refine ⟨.bool false, fun w' hw' => ?_, hK _ ?_⟩
      · obtain ⟨hx4, hx5, hx6⟩ := hw'
        have hs := hx4.one.1
        obtain ⟨hc0, hc1, hc2, hc3, hc4, hc5, hc6⟩ := hx5.seven
        obtain ⟨he0, he1, he2⟩ := hx6.three
        go_simp
      clear hK K
      refine wpAnyC_reads 13 g3 (by kernel_rfl) (by kernel_rfl) (by kernel_rfl) (fun d _ _ _ _ h => by cases d <;> exact h) (fun oi ho K hK => ?_)
      simp only [List.getElem?_toArray, List.getElem?_cons_succ, List.getElem?_cons_zero, Option.some.injEq] at ho
      subst ho
      rw [if_pos (by kernel_rfl)]
      refine ⟨.bool false, fun w' hw' => ?_, hK _ ?_⟩
      · obtain ⟨hx4, hx5, hx6⟩ := hw'
        have hs := hx4.one.1
        obtain ⟨hc0, hc1, hc2, hc3, hc4, hc5, hc6⟩ := hx5.seven
        obtain ⟨he0, he1, he2⟩ := hx6.three
        go_simp
      clear hK K
      refine wpAnyC_reads 14 g3 (by kernel_rfl) (by kernel_rfl) (by kernel_rfl) (fun d _ _ _ _ h => by cases d <;> exact h) (fun oi ho K hK => ?_)
      simp only [List.getElem?_toArray, List.getElem?_cons_succ, List.getElem?_cons_zero, Option.some.injEq] at ho
      subst ho
      rw [if_pos (by kernel_rfl)]
      refine ⟨.string bs, fun w' hw' => ?_, hK _ ?_⟩
      · obtain ⟨hx4, hx5, hx6⟩ := hw'
        have hs := hx4.one.1
        obtain ⟨hc0, hc1, hc2, hc3, hc4, hc5, hc6⟩ := hx5.seven
        obtain ⟨he0, he1, he2⟩ := hx6.three
        go_simp
      clear hK K
      refine wpAnyC_reads 15 g3 (by kernel_rfl) (by kernel_rfl) (by kernel_rfl) (fun d _ _ _ _ h => by cases d <;> exact h) (fun oi ho K hK => ?_)
      simp only [List.getElem?_toArray, List.getElem?_cons_succ, List.getElem?_cons_zero, Option.some.injEq] at ho
      subst ho
      rw [if_pos (by kernel_rfl)]
      refine ⟨.string bs, fun w' hw' => ?_, hK _ ?_⟩
      · obtain ⟨hx4, hx5, hx6⟩ := hw'
        have hs := hx4.one.1
        obtain ⟨hc0, hc1, hc2, hc3, hc4, hc5, hc6⟩ := hx5.seven
        obtain ⟨he0, he1, he2⟩ := hx6.three
        go_simp
      clear hK K
      refine wpAnyC_reads 16 g3 (by kernel_rfl) (by kernel_rfl) (by kernel_rfl) (fun d _ _ _ _ h => by cases d <;> exact h) (fun oi ho K hK => ?_)
      simp only [List.getElem?_toArray, List.getElem?_cons_succ, List.getElem?_cons_zero, Option.some.injEq] at ho
      subst ho
      rw [if_pos (by kernel_rfl)]
      refine ⟨.bool true, fun w' hw' => ?_, hK _ ?_⟩
      · obtain ⟨hx4, hx5, hx6⟩ := hw'
        have hs := hx4.one.1
        obtain ⟨hc0, hc1, hc2, hc3, hc4, hc5, hc6⟩ := hx5.seven
        obtain ⟨he0, he1, he2⟩ := hx6.three
        go_simp
      clear hK K
      refine wpAnyC_reads 17 g3 (by kernel_rfl) (by kernel_rfl) (by kernel_rfl) (fun d _ _ _ _ h => by cases d <;> exact h) (fun oi ho K hK => ?_)
      simp only [List.getElem?_toArray, List.getElem?_cons_succ, List.getElem?_cons_zero, Option.some.injEq] at ho
      subst ho
      rw [if_pos (by kernel_rfl)]
      refine ⟨.bool true, fun w' hw' => ?_, hK _ ?_⟩
      · obtain ⟨hx4, hx5, hx6⟩ := hw'
        have hs := hx4.one.1
        obtain ⟨hc0, hc1, hc2, hc3, hc4, hc5, hc6⟩ := hx5.seven
        obtain ⟨he0, he1, he2⟩ := hx6.three
        go_simp
      clear hK K
      refine wpAnyC_reads 18 g3 (by kernel_rfl) (by kernel_rfl) (by kernel_rfl) (fun d _ _ _ _ h => by cases d <;> exact h) (fun oi ho K hK => ?_)
      simp only [List.getElem?_toArray, List.getElem?_cons_succ, List.getElem?_cons_zero, Option.some.injEq] at ho
      subst ho
      rw [if_pos (by kernel_rfl)]
      refine ⟨.bool bb, fun w' hw' => ?_, hK _ ?_⟩
      · obtain ⟨hx4, hx5, hx6⟩ := hw'
        have hs := hx4.one.1
        obtain ⟨hc0, hc1, hc2, hc3, hc4, hc5, hc6⟩ := hx5.seven
        obtain ⟨he0, he1, he2⟩ := hx6.three
        go_simp
      clear hK K
      refine wpAnyC_reads 19 g3 (by kernel_rfl) (by kernel_rfl) (by kernel_rfl) (fun d _ _ _ _ h => by cases d <;> exact h) (fun oi ho K hK => ?_)
      simp only [List.getElem?_toArray, List.getElem?_cons_succ, List.getElem?_cons_zero, Option.some.injEq] at ho
      subst ho
      rw [if_pos (by kernel_rfl)]
      refine ⟨.bool bb, fun w' hw' => ?_, hK _ ?_⟩
      · obtain ⟨hx4, hx5, hx6⟩ := hw'
        have hs := hx4.one.1
        obtain ⟨hc0, hc1, hc2, hc3, hc4, hc5, hc6⟩ := hx5.seven
        obtain ⟨he0, he1, he2⟩ := hx6.three
        go_simp
      clear hK K
      refine wpAnyC_reads 20 g3 (by kernel_rfl) (by kernel_rfl) (by kernel_rfl) (fun d _ _ _ _ h => by cases d <;> exact h) (fun oi ho K hK => ?_)
      simp only [List.getElem?_toArray, List.getElem?_cons_succ, List.getElem?_cons_zero, Option.some.injEq] at ho
      subst ho
      rw [if_pos (by kernel_rfl)]
      refine ⟨.bool true, fun w' hw' => ?_, hK _ ?_⟩
      · obtain ⟨hx4, hx5, hx6⟩ := hw'
        have hs := hx4.one.1
        obtain ⟨hc0, hc1, hc2, hc3, hc4, hc5, hc6⟩ := hx5.seven
        obtain ⟨he0, he1, he2⟩ := hx6.three
        go_simp
      clear hK K
      refine wpAnyC_reads 21 g3 (by kernel_rfl) (by kernel_rfl) (by kernel_rfl) (fun d _ _ _ _ h => by cases d <;> exact h) (fun oi ho K hK => ?_)
      simp only [List.getElem?_toArray, List.getElem?_cons_succ, List.getElem?_cons_zero, Option.some.injEq] at ho
      subst ho
      rw [if_pos (by kernel_rfl)]
      refine ⟨.bool true, fun w' hw' => ?_, hK _ ?_⟩
      · obtain ⟨hx4, hx5, hx6⟩ := hw'
        have hs := hx4.one.1
        obtain ⟨hc0, hc1, hc2, hc3, hc4, hc5, hc6⟩ := hx5.seven
        obtain ⟨he0, he1, he2⟩ := hx6.three
        go_simp
      clear hK K
      refine wpAnyC_reads 22 g3 (by kernel_rfl) (by kernel_rfl) (by kernel_rfl) (fun d _ _ _ _ h => by cases d <;> exact h) (fun oi ho K hK => ?_)
      simp only [List.getElem?_toArray, List.getElem?_cons_succ, List.getElem?_cons_zero, Option.some.injEq] at ho
      subst ho
      rw [if_pos (by kernel_rfl)]
      refine ⟨.bool true, fun w' hw' => ?_, hK _ ?_⟩
      · obtain ⟨hx4, hx5, hx6⟩ := hw'
        have hs := hx4.one.1
        obtain ⟨hc0, hc1, hc2, hc3, hc4, hc5, hc6⟩ := hx5.seven
        obtain ⟨he0, he1, he2⟩ := hx6.three
        go_simp
      clear hK K
      refine wpAnyC_reads 23 g3 (by kernel_rfl) (by kernel_rfl) (by kernel_rfl) (fun d _ _ _ _ h => by cases d <;> exact h) (fun oi ho K hK => ?_)
      simp only [List.getElem?_toArray, List.getElem?_cons_succ, List.getElem?_cons_zero, Option.some.injEq] at ho
      subst ho
      rw [if_pos (by kernel_rfl)]
      refine ⟨.bool true, fun w' hw' => ?_, hK _ ?_⟩
      · obtain ⟨hx4, hx5, hx6⟩ := hw'
        have hs := hx4.one.1
        obtain ⟨hc0, hc1, hc2, hc3, hc4, hc5, hc6⟩ := hx5.seven
        obtain ⟨he0, he1, he2⟩ := hx6.three
        go_simp
      clear hK K
      refine wpAnyC_reads 24 g3 (by kernel_rfl) (by kernel_rfl) (by kernel_rfl) (fun d _ _ _ _ h => by cases d <;> exact h) (fun oi ho K hK => ?_)
      simp only [List.getElem?_toArray, List.getElem?_cons_succ, List.getElem?_cons_zero, Option.some.injEq] at ho
      subst ho
      rw [if_pos (by kernel_rfl)]
      refine ⟨.bool true, fun w' hw' => ?_, hK _ ?_⟩
      · obtain ⟨hx4, hx5, hx6⟩ := hw'
        have hs := hx4.one.1
        obtain ⟨hc0, hc1, hc2, hc3, hc4, hc5, hc6⟩ := hx5.seven
        obtain ⟨he0, he1, he2⟩ := hx6.three
        go_simp
      clear hK K
      refine wpAnyC_done (by kernel_rfl) ?_ _
      go_wp2
      go_ret
      exact ⟨rfl, b0.trans (bv3.mono b0.size)⟩

end Go.Proofs.YtnfmhcddfjgcmaaDoor
