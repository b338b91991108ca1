/-
  What EventTells answers: true, for every schema, two events and a name, in whatever world; nothing that lay is turned.
-/
import Derived.Test.YthifciikmdnhaaaDoorReads
import Derived.Test.YthifciikmdnhaaaDoorAs
import Derived.Test.YthifciikmdnhaaaDoorRefGet
import Derived.Test.YthifciikmdnhaaaDoorRefIs
import Derived.Test.YthifciikmdnhaaaDoorRefSch
import Derived.Deep.CutRange
namespace Go.Proofs.YthifciikmdnhaaaDoor
open Go.RowKit Go.Shelf

attribute [local go_sem] readIn

/-- The error's own number. -/
theorem code_E (c : Int) (w : World) (hg : w.cell? ⟨0, 0, none⟩ = some (.iface 85 (.agg #[.pointer (some ⟨1, 36, none⟩)]))) :
    Calls Tryd.prog 8 #[errE c] w fun e w' => e = .returned (.int .i64 c) ∧ Below w.heap.size w w' := by
  unfold errE
  by_cases h : c = 0
  · subst h; simp only [if_true]; exact code_0 w
  · rw [if_neg h]; exact code_c c w hg
theorem got_form (o : Option Vl) : ∃ (v : Vl) (ok : Bool), gotV o = .tuple #[.agg #[.int .i64 v.1, .int .i64 v.2.1, .string v.2.2.1], .bool ok] := by
  cases o with
  | none => exact ⟨(0, 0, t0), false, rfl⟩
  | some v => exact ⟨v, true, rfl⟩

set_option maxRecDepth 100000 in
set_option maxHeartbeats 8000000 in
theorem tells_c (a aa ab : Option Addr) (cap ca cb : Nat) (ts : List Ty) (x y : Ev) (f : ByteArray) (hm : ts.length ≤ maxLen) (hxl : x.vs.length ≤ maxLen) (hyl : y.vs.length ≤ maxLen) (w : World) (hg : w.cell? ⟨0, 0, none⟩ = some (.iface 85 (.agg #[.pointer (some ⟨1, 36, none⟩)]))) (hT : Typs w.heap.size w a ts) (hX : Vals w.heap.size w aa x.vs) (hY : Vals w.heap.size w ab y.vs) :
    Calls Tryd.prog 3 #[.agg #[.slice a ts.length cap], .agg #[.string x.ty.1, .int .i64 x.ts, .slice aa x.vs.length ca], .agg #[.string y.ty.1, .int .i64 y.ts, .slice ab y.vs.length cb], .string f] w fun e w' => e = .returned (.bool true) ∧ Below w.heap.size w w' := by
  have hmx : Tryd.prog.follows .mixedOrders = true := by kernel_rfl
  obtain ⟨w0, hw0⟩ : ∃ w0, w0 = w.alloc (.cells #[.slice a ts.length cap] 24) := ⟨_, rfl⟩
  have e0 : w0.heap.size = w.heap.size + 1 := by rw [hw0]; simp
  have b00 : Below w.heap.size w w0 := by rw [hw0]; exact (Below.refl _ _).alloc (Nat.le_refl _) _
  have xs0 : Box w0 w.heap.size 24 #[.slice a ts.length cap] := by rw [hw0]; exact Box.new w 24 _
  have b0 : Below w.heap.size w ((w0.alloc (.cells #[.string x.ty.1, .int .i64 x.ts, .slice aa x.vs.length ca] 27)).alloc (.cells #[.string y.ty.1, .int .i64 y.ts, .slice ab y.vs.length cb] 27)) := (b00.alloc b00.size _).alloc (by simp; omega) _
  have xs := (xs0.alloc (.cells #[.string x.ty.1, .int .i64 x.ts, .slice aa x.vs.length ca] 27)).alloc (.cells #[.string y.ty.1, .int .i64 y.ts, .slice ab y.vs.length cb] 27)
  have xa := (Box.new w0 27 #[.string x.ty.1, .int .i64 x.ts, .slice aa x.vs.length ca]).alloc (.cells #[.string y.ty.1, .int .i64 y.ts, .slice ab y.vs.length cb] 27)
  have xb := Box.new (w0.alloc (.cells #[.string x.ty.1, .int .i64 x.ts, .slice aa x.vs.length ca] 27)) 27 #[.string y.ty.1, .int .i64 y.ts, .slice ab y.vs.length cb]
  rw [World.size_alloc, e0] at xb
  rw [e0] at xa
  rw [hw0] at b0 xs xa xb
  clear xs0 b00 e0 hw0 w0
  unfold maxLen at hxl hyl
  go_enter Tryd.func3, Tryd.ntmps3
  go_wp2_with fail
  refine (known_c _).mono ?_
  rintro e w1 ⟨rfl, hb1⟩
  have b1 := b0.trans (hb1.mono b0.size)
  have xs1 := xs.on hb1 xs.lt
  have xa1 := xa.on hb1 xa.lt
  have xb1 := xb.on hb1 xb.lt
  have T1 : Typs w1.heap.size w1 a ts := (hT.below b1).mono b1.size
  have hs1 := xs1.one.1
  go_wp2_with fail
  refine (refSch_c a cap ts hm _ T1).mono ?_
  rintro e w2 ⟨sb, rfl, hb2, hsb⟩
  have b2 := b1.trans (hb2.mono b1.size)
  have xs2 := xs1.on hb2 xs1.lt
  have xa2 := xa1.on hb2 xa1.lt
  have xb2 := xb1.on hb2 xb1.lt
  clear hs1
  have hs2 := xs2.one.1
  obtain ⟨ha0, ha1, ha2⟩ := xa2.three
  obtain ⟨hb0, hb1', hb2'⟩ := xb2.three
  cases sb with
  | false =>
    go_wp2_with fail
    go_ret
    exact ⟨rfl, b2⟩
  | true =>
    obtain ⟨h5, hk5'⟩ := unhide hsb rfl
    clear hsb
    by_cases hx20 : x.vs.length ≤ 20
    · by_cases hy20 : y.vs.length ≤ 20
      · have hk5 : ∀ k, (ty ts k).2.length ≤ 5 := fun k => by
          by_cases h : k < ts.length
          · exact hk5' k h
          · simp [ty, List.getElem?_eq_none (Nat.le_of_not_lt h), show (default : Ty).2 = [] from rfl]
        clear hk5'
        have T2 : Typs w2.heap.size w2 a ts := (hT.below b2).mono b2.size
        have X2 : Vals w2.heap.size w2 aa x.vs := (hX.below b2).mono b2.size
        obtain ⟨v, ok, hgot⟩ := got_form (getE ts x f)
        have g1 := get_c a aa cap ca ts x f h5 hk5 hx20 w2 T2 X2
        rw [hgot] at g1
        replace g1 := hide g1
        go_wp2_with fail
        refine (unhide g1).mono ?_
        rintro e w3 ⟨rfl, hb3⟩
        have b3 := (b2.trans (hb3.mono b2.size))
        have b4 := b3.alloc b3.size (.cells #[.int .i64 v.1, .int .i64 v.2.1, .string v.2.2.1] 31)
        have c4 := hb3.alloc hb3.size (.cells #[.int .i64 v.1, .int .i64 v.2.1, .string v.2.2.1] 31)
        have xv := Box.new w3 31 #[.int .i64 v.1, .int .i64 v.2.1, .string v.2.2.1]
        have xs4 := xs2.on c4 xs2.lt
        have xa4 := xa2.on c4 xa2.lt
        have xb4 := xb2.on c4 xb2.lt
        have T4 := (hT.below b4).mono b4.size
        have X4 := (hX.below b4).mono b4.size
        have g2 := refGet_c a aa cap ca ts x f h5 hk5 hx20 _ T4 X4
        rw [hgot] at g2
        obtain ⟨w4, hw4⟩ : ∃ w4, w4 = w3.alloc (.cells #[.int .i64 v.1, .int .i64 v.2.1, .string v.2.2.1] 31) := ⟨_, rfl⟩
        rw [← hw4] at b4 xv xs4 xa4 xb4 g2
        replace g2 := hide g2
        clear hs2 ha0 ha1 ha2 hb0 hb1' hb2' T2 X2 g1 T4 X4 c4
        go_upto_region 6 with fail
        rw [← hw4]
        clear hw4
        have hs4 := xs4.one.1
        obtain ⟨ha0, ha1, ha2⟩ := xa4.three
        go_wp2_with fail
        refine (unhide g2).mono ?_
        rintro e w5 ⟨rfl, hb5⟩
        have b5 := (b4.trans (hb5.mono b4.size))
        have b6 := b5.alloc b5.size (.cells #[.int .i64 v.1, .int .i64 v.2.1, .string v.2.2.1] 31)
        have c6 := hb5.alloc hb5.size (.cells #[.int .i64 v.1, .int .i64 v.2.1, .string v.2.2.1] 31)
        have xw := Box.new w5 31 #[.int .i64 v.1, .int .i64 v.2.1, .string v.2.2.1]
        have xv6 := xv.on c6 xv.lt
        have xs6 := xs4.on c6 xs4.lt
        have xa6 := xa4.on c6 xa4.lt
        have xb6 := xb4.on c6 xb4.lt
        clear hs4 ha0 ha1 ha2 g2
        go_upto_region 7 with fail
        obtain ⟨W, hW⟩ : ∃ W, W = w5.alloc (.cells #[.int .i64 v.1, .int .i64 v.2.1, .string v.2.2.1] 31) := ⟨_, rfl⟩
        rw [← hW] at b6 xw xv6 xs6 xa6 xb6 ⊢
        obtain ⟨Bv, hBv⟩ : ∃ Bv, Bv = w3.heap.size := ⟨_, rfl⟩
        obtain ⟨Bw, hBw⟩ : ∃ Bw, Bw = w5.heap.size := ⟨_, rfl⟩
        rw [← hBv] at xv6 ⊢
        rw [← hBw] at xw ⊢
        clear hW hBv hBw c6 b5 hb5 xv xs4 xa4 xb4 b4 b3 hb3 xs2 xa2 xb2 b2 hb2 T1 xs1 xa1 xb1 b1 hb1 xb xa xs b0 hgot
        have TW := hT.below b6
        have XW := hX.below b6
        have YW := hY.below b6
        have hgW : ∀ W', Below W.heap.size W W' → W'.cell? ⟨0, 0, none⟩ = some (.iface 85 (.agg #[.pointer (some ⟨1, 36, none⟩)])) := fun W' h => by
          have h0 : 0 < w.heap.size := by have := cell_lt hg; simpa using this
          have h1 := (b6.cell (p := ⟨0, 0, none⟩) h0).trans hg
          exact (h.cell (p := ⟨0, 0, none⟩) (Nat.lt_of_lt_of_le h0 b6.size)).trans h1
        have hTW : ∀ W', Below W.heap.size W W' → Typs W'.heap.size W' a ts := fun W' h => (TW.mono b6.size).on h
        have hXW : ∀ W', Below W.heap.size W W' → Vals W'.heap.size W' aa x.vs := fun W' h => (XW.mono b6.size).on h
        have hYW : ∀ W', Below W.heap.size W W' → Vals W'.heap.size W' ab y.vs := fun W' h => (YW.mono b6.size).on h
        have hs := xs6.one.1
        obtain ⟨ha0, ha1, ha2⟩ := xa6.three
        obtain ⟨hb0, hb1, hb2⟩ := xb6.three
        obtain ⟨hv0, hv1, hv2⟩ := xv6.three
        obtain ⟨hw0, hw1, hw2⟩ := xw.three
        have r0 := cell_regrown hs
        have r1 := cell_regrown ha0
        have r2 := cell_regrown ha1
        have r3 := cell_regrown ha2
        have r4 := cell_regrown hb0
        have r5 := cell_regrown hb1
        have r6 := cell_regrown hb2
        have r7 := cell_regrown hv0
        have r8 := cell_regrown hv1
        have r9 := cell_regrown hv2
        have r10 := cell_regrown hw0
        have r11 := cell_regrown hw1
        have r12 := cell_regrown hw2
        clear hs ha0 ha1 ha2 hb0 hb1 hb2 hv0 hv1 hv2 hw0 hw1 hw2 xs6 xa6 xb6 xv6 xw TW XW YW hg hT hX hY
        replace hgW := hide hgW
        replace hTW := hide hTW
        replace hXW := hide hXW
        replace hYW := hide hYW
        have hbc : Below W.heap.size W { W with drawn := W.drawn + 1 } := (Below.refl _ W).drew
        refine wp_region_any hmx (wpAny_of_C (C := fun w' => ∃ p : Regrown, w' = Go.Sort.grow (redrawn W p.d) p.os) _ _ _ _ ?_)
        obtain ⟨wc, hwc⟩ : ∃ wc : World, wc = { W with drawn := W.drawn + 1 } := ⟨_, rfl⟩
        rw [← hwc] at hbc ⊢
        clear hwc
        obtain ⟨c, hc⟩ : ∃ c, c = isE ts x := ⟨_, rfl⟩
        replace hc := hide hc
        obtain ⟨r, hr⟩ : ∃ r, r = sameE x y := ⟨_, rfl⟩
        replace hr := hide hr
        refine wpAnyC_reads 0 (regrown_of_below hbc) (by kernel_rfl) (by kernel_rfl) (by kernel_rfl) (fun d _ _ _ _ h => by cases d <;> exact h) (fun oi ho K hK => ?_)
        simp only [List.getElem?_toArray, List.getElem?_cons_zero, Option.some.injEq] at ho
        subst ho
        go_simp
        refine hK _ ?_
        clear hK K
        refine wpAnyC_reads 1 (regrown_of_below hbc) (by kernel_rfl) (by kernel_rfl) (by kernel_rfl) (fun d _ _ _ _ h => by cases d <;> exact h) (fun oi ho K hK => ?_)
        simp only [List.getElem?_toArray, List.getElem?_cons_succ, List.getElem?_cons_zero, Option.some.injEq] at ho
        subst ho
        go_simp
        refine hK _ ?_
        clear hK K
        refine wpAnyC_reads 4 (regrown_of_below hbc) (by kernel_rfl) (by kernel_rfl) (by kernel_rfl) (fun d _ _ _ _ h => by cases d <;> exact h) (fun oi ho K hK => ?_)
        simp only [List.getElem?_toArray, List.getElem?_cons_succ, List.getElem?_cons_zero, Option.some.injEq] at ho
        subst ho
        go_simp
        refine hK _ ?_
        clear hK K
        refine wpAnyC_reads 5 (regrown_of_below hbc) (by kernel_rfl) (by kernel_rfl) (by kernel_rfl) (fun d _ _ _ _ h => by cases d <;> exact h) (fun oi ho K hK => ?_)
        simp only [List.getElem?_toArray, List.getElem?_cons_succ, List.getElem?_cons_zero, Option.some.injEq] at ho
        subst ho
        go_simp
        refine hK _ ?_
        clear hK K
        have cc := is_c a aa cap ca ts x h5 hk5 hx20 wc (unhide hTW wc hbc) (unhide hXW wc hbc)
        rw [← unhide hc] at cc
        replace cc := hide cc
        refine wpAnyC_calls 2 (by kernel_rfl) (fun oi ho K hK => ?_)
        simp only [List.getElem?_toArray, List.getElem?_cons_succ, List.getElem?_cons_zero, Option.some.injEq] at ho
        subst ho
        go_simp
        refine (unhide cc).mono ?_
        rintro e wn ⟨rfl, hbn⟩
        clear cc
        replace hbn := hbc.trans (hbn.mono hbc.size)
        go_simp
        refine hK _ _ (regrown_of_below hbn) ?_
        clear hK K hbc wc
        obtain ⟨wc, hwc⟩ : ∃ wc, wc = wn := ⟨_, rfl⟩
        subst hwc
        have hbc := hbn
        clear hbn
        have cc := code_E c wc (unhide hgW wc hbc)
        replace cc := hide cc
        refine wpAnyC_calls 3 (by kernel_rfl) (fun oi ho K hK => ?_)
        simp only [List.getElem?_toArray, List.getElem?_cons_succ, List.getElem?_cons_zero, Option.some.injEq] at ho
        subst ho
        go_simp
        refine (unhide cc).mono ?_
        rintro e wn ⟨rfl, hbn⟩
        clear cc
        replace hbn := hbc.trans (hbn.mono hbc.size)
        go_simp
        refine hK _ _ (regrown_of_below hbn) ?_
        clear hK K hbc wc
        obtain ⟨wc, hwc⟩ : ∃ wc, wc = wn := ⟨_, rfl⟩
        subst hwc
        have hbc := hbn
        clear hbn
        have cc := refIsE_c a aa cap ca ts x h5 hk5 hx20 wc (unhide hTW wc hbc) (unhide hXW wc hbc)
        rw [← unhide hc] at cc
        replace cc := hide cc
        refine wpAnyC_calls 6 (by kernel_rfl) (fun oi ho K hK => ?_)
        simp only [List.getElem?_toArray, List.getElem?_cons_succ, List.getElem?_cons_zero, Option.some.injEq] at ho
        subst ho
        go_simp
        refine (unhide cc).mono ?_
        rintro e wn ⟨rfl, hbn⟩
        clear cc
        replace hbn := hbc.trans (hbn.mono hbc.size)
        go_simp
        refine hK _ _ (regrown_of_below hbn) ?_
        clear hK K hbc wc
        obtain ⟨wc, hwc⟩ : ∃ wc, wc = wn := ⟨_, rfl⟩
        subst hwc
        have hbc := hbn
        clear hbn
        refine wpAnyC_reads 7 (regrown_of_below hbc) (by kernel_rfl) (by kernel_rfl) (by kernel_rfl) (fun d _ _ _ _ h => by cases d <;> exact h) (fun oi ho K hK => ?_)
        simp only [List.getElem?_toArray, List.getElem?_cons_succ, List.getElem?_cons_zero, Option.some.injEq] at ho
        subst ho
        go_simp
        refine hK _ ?_
        clear hK K
        refine wpAnyC_reads 8 (regrown_of_below hbc) (by kernel_rfl) (by kernel_rfl) (by kernel_rfl) (fun d _ _ _ _ h => by cases d <;> exact h) (fun oi ho K hK => ?_)
        simp only [List.getElem?_toArray, List.getElem?_cons_succ, List.getElem?_cons_zero, Option.some.injEq] at ho
        subst ho
        go_simp
        refine hK _ ?_
        clear hK K
        refine wpAnyC_reads 9 (regrown_of_below hbc) (by kernel_rfl) (by kernel_rfl) (by kernel_rfl) (fun d _ _ _ _ h => by cases d <;> exact h) (fun oi ho K hK => ?_)
        simp only [List.getElem?_toArray, List.getElem?_cons_succ, List.getElem?_cons_zero, Option.some.injEq] at ho
        subst ho
        go_simp
        refine hK _ ?_
        clear hK K
        refine wpAnyC_reads 10 (regrown_of_below hbc) (by kernel_rfl) (by kernel_rfl) (by kernel_rfl) (fun d _ _ _ _ h => by cases d <;> exact h) (fun oi ho K hK => ?_)
        simp only [List.getElem?_toArray, List.getElem?_cons_succ, List.getElem?_cons_zero, Option.some.injEq] at ho
        subst ho
        go_simp
        refine hK _ ?_
        clear hK K
        refine wpAnyC_reads 12 (regrown_of_below hbc) (by kernel_rfl) (by kernel_rfl) (by kernel_rfl) (fun d _ _ _ _ h => by cases d <;> exact h) (fun oi ho K hK => ?_)
        simp only [List.getElem?_toArray, List.getElem?_cons_succ, List.getElem?_cons_zero, Option.some.injEq] at ho
        subst ho
        go_simp
        refine hK _ ?_
        clear hK K
        refine wpAnyC_reads 13 (regrown_of_below hbc) (by kernel_rfl) (by kernel_rfl) (by kernel_rfl) (fun d _ _ _ _ h => by cases d <;> exact h) (fun oi ho K hK => ?_)
        simp only [List.getElem?_toArray, List.getElem?_cons_succ, List.getElem?_cons_zero, Option.some.injEq] at ho
        subst ho
        go_simp
        refine hK _ ?_
        clear hK K
        have cc := sameE_c x y aa ab ca cb hx20 hy20 wc (unhide hXW wc hbc) (unhide hYW wc hbc)
        rw [← unhide hr] at cc
        replace cc := hide cc
        refine wpAnyC_calls 11 (by kernel_rfl) (fun oi ho K hK => ?_)
        simp only [List.getElem?_toArray, List.getElem?_cons_succ, List.getElem?_cons_zero, Option.some.injEq] at ho
        subst ho
        go_simp
        refine (unhide cc).mono ?_
        rintro e wn ⟨rfl, hbn⟩
        clear cc
        replace hbn := hbc.trans (hbn.mono hbc.size)
        go_simp
        refine hK _ _ (regrown_of_below hbn) ?_
        clear hK K hbc wc
        obtain ⟨wc, hwc⟩ : ∃ wc, wc = wn := ⟨_, rfl⟩
        subst hwc
        have hbc := hbn
        clear hbn
        have cc := refSame_c x y aa ab ca cb hx20 hy20 wc (unhide hXW wc hbc) (unhide hYW wc hbc)
        rw [← unhide hr] at cc
        replace cc := hide cc
        refine wpAnyC_calls 14 (by kernel_rfl) (fun oi ho K hK => ?_)
        simp only [List.getElem?_toArray, List.getElem?_cons_succ, List.getElem?_cons_zero, Option.some.injEq] at ho
        subst ho
        go_simp
        refine (unhide cc).mono ?_
        rintro e wn ⟨rfl, hbn⟩
        clear cc
        replace hbn := hbc.trans (hbn.mono hbc.size)
        go_simp
        refine hK _ _ (regrown_of_below hbn) ?_
        clear hK K hbc wc
        obtain ⟨wc, hwc⟩ : ∃ wc, wc = wn := ⟨_, rfl⟩
        subst hwc
        have hbc := hbn
        clear hbn
        refine wpAnyC_reads 15 (regrown_of_below hbc) (by kernel_rfl) (by kernel_rfl) (by kernel_rfl) (fun d _ _ _ _ h => by cases d <;> exact h) (fun oi ho K hK => ?_)
        simp only [List.getElem?_toArray, List.getElem?_cons_succ, List.getElem?_cons_zero, Option.some.injEq] at ho
        subst ho
        go_simp
        refine hK _ ?_
        clear hK K
        refine wpAnyC_reads 16 (regrown_of_below hbc) (by kernel_rfl) (by kernel_rfl) (by kernel_rfl) (fun d _ _ _ _ h => by cases d <;> exact h) (fun oi ho K hK => ?_)
        simp only [List.getElem?_toArray, List.getElem?_cons_succ, List.getElem?_cons_zero, Option.some.injEq] at ho
        subst ho
        go_simp
        refine hK _ ?_
        clear hK K
        refine wpAnyC_reads 17 (regrown_of_below hbc) (by kernel_rfl) (by kernel_rfl) (by kernel_rfl) (fun d _ _ _ _ h => by cases d <;> exact h) (fun oi ho K hK => ?_)
        simp only [List.getElem?_toArray, List.getElem?_cons_succ, List.getElem?_cons_zero, Option.some.injEq] at ho
        subst ho
        go_simp
        refine hK _ ?_
        clear hK K
        refine wpAnyC_reads 18 (regrown_of_below hbc) (by kernel_rfl) (by kernel_rfl) (by kernel_rfl) (fun d _ _ _ _ h => by cases d <;> exact h) (fun oi ho K hK => ?_)
        simp only [List.getElem?_toArray, List.getElem?_cons_succ, List.getElem?_cons_zero, Option.some.injEq] at ho
        subst ho
        go_simp
        refine hK _ ?_
        clear hK K
        refine wpAnyC_reads 19 (regrown_of_below hbc) (by kernel_rfl) (by kernel_rfl) (by kernel_rfl) (fun d _ _ _ _ h => by cases d <;> exact h) (fun oi ho K hK => ?_)
        simp only [List.getElem?_toArray, List.getElem?_cons_succ, List.getElem?_cons_zero, Option.some.injEq] at ho
        subst ho
        go_simp
        refine hK _ ?_
        clear hK K
        have cc := sameE_c x x aa aa ca ca hx20 hx20 wc (unhide hXW wc hbc) (unhide hXW wc hbc)
        rw [sameE_self] at cc
        replace cc := hide cc
        refine wpAnyC_calls 20 (by kernel_rfl) (fun oi ho K hK => ?_)
        simp only [List.getElem?_toArray, List.getElem?_cons_succ, List.getElem?_cons_zero, Option.some.injEq] at ho
        subst ho
        go_simp
        refine (unhide cc).mono ?_
        rintro e wn ⟨rfl, hbn⟩
        clear cc
        replace hbn := hbc.trans (hbn.mono hbc.size)
        go_simp
        refine hK _ _ (regrown_of_below hbn) ?_
        clear hK K hbc wc
        obtain ⟨wc, hwc⟩ : ∃ wc, wc = wn := ⟨_, rfl⟩
        subst hwc
        have hbc := hbn
        clear hbn
        refine wpAnyC_reads 21 (regrown_of_below hbc) (by kernel_rfl) (by kernel_rfl) (by kernel_rfl) (fun d _ _ _ _ h => by cases d <;> exact h) (fun oi ho K hK => ?_)
        simp only [List.getElem?_toArray, List.getElem?_cons_succ, List.getElem?_cons_zero, Option.some.injEq] at ho
        subst ho
        go_simp
        refine hK _ ?_
        clear hK K
        refine wpAnyC_reads 22 (regrown_of_below hbc) (by kernel_rfl) (by kernel_rfl) (by kernel_rfl) (fun d _ _ _ _ h => by cases d <;> exact h) (fun oi ho K hK => ?_)
        simp only [List.getElem?_toArray, List.getElem?_cons_succ, List.getElem?_cons_zero, Option.some.injEq] at ho
        subst ho
        go_simp
        refine hK _ ?_
        clear hK K
        refine wpAnyC_reads 23 (regrown_of_below hbc) (by kernel_rfl) (by kernel_rfl) (by kernel_rfl) (fun d _ _ _ _ h => by cases d <;> exact h) (fun oi ho K hK => ?_)
        simp only [List.getElem?_toArray, List.getElem?_cons_succ, List.getElem?_cons_zero, Option.some.injEq] at ho
        subst ho
        go_simp
        refine hK _ ?_
        clear hK K
        refine wpAnyC_reads 24 (regrown_of_below hbc) (by kernel_rfl) (by kernel_rfl) (by kernel_rfl) (fun d _ _ _ _ h => by cases d <;> exact h) (fun oi ho K hK => ?_)
        simp only [List.getElem?_toArray, List.getElem?_cons_succ, List.getElem?_cons_zero, Option.some.injEq] at ho
        subst ho
        go_simp
        refine hK _ ?_
        clear hK K
        refine wpAnyC_reads 25 (regrown_of_below hbc) (by kernel_rfl) (by kernel_rfl) (by kernel_rfl) (fun d _ _ _ _ h => by cases d <;> exact h) (fun oi ho K hK => ?_)
        simp only [List.getElem?_toArray, List.getElem?_cons_succ, List.getElem?_cons_zero, Option.some.injEq] at ho
        subst ho
        go_simp
        refine hK _ ?_
        clear hK K
        refine wpAnyC_reads 26 (regrown_of_below hbc) (by kernel_rfl) (by kernel_rfl) (by kernel_rfl) (fun d _ _ _ _ h => by cases d <;> exact h) (fun oi ho K hK => ?_)
        simp only [List.getElem?_toArray, List.getElem?_cons_succ, List.getElem?_cons_zero, Option.some.injEq] at ho
        subst ho
        go_simp
        refine hK _ ?_
        clear hK K
        refine wpAnyC_reads 27 (regrown_of_below hbc) (by kernel_rfl) (by kernel_rfl) (by kernel_rfl) (fun d _ _ _ _ h => by cases d <;> exact h) (fun oi ho K hK => ?_)
        simp only [List.getElem?_toArray, List.getElem?_cons_succ, List.getElem?_cons_zero, Option.some.injEq] at ho
        subst ho
        go_simp
        refine hK _ ?_
        clear hK K
        refine wpAnyC_reads 28 (regrown_of_below hbc) (by kernel_rfl) (by kernel_rfl) (by kernel_rfl) (fun d _ _ _ _ h => by cases d <;> exact h) (fun oi ho K hK => ?_)
        simp only [List.getElem?_toArray, List.getElem?_cons_succ, List.getElem?_cons_zero, Option.some.injEq] at ho
        subst ho
        go_simp
        refine hK _ ?_
        clear hK K
        refine wpAnyC_reads 29 (regrown_of_below hbc) (by kernel_rfl) (by kernel_rfl) (by kernel_rfl) (fun d _ _ _ _ h => by cases d <;> exact h) (fun oi ho K hK => ?_)
        simp only [List.getElem?_toArray, List.getElem?_cons_succ, List.getElem?_cons_zero, Option.some.injEq] at ho
        subst ho
        go_simp
        refine hK _ ?_
        clear hK K
        refine wpAnyC_reads 30 (regrown_of_below hbc) (by kernel_rfl) (by kernel_rfl) (by kernel_rfl) (fun d _ _ _ _ h => by cases d <;> exact h) (fun oi ho K hK => ?_)
        simp only [List.getElem?_toArray, List.getElem?_cons_succ, List.getElem?_cons_zero, Option.some.injEq] at ho
        subst ho
        go_simp
        refine hK _ ?_
        clear hK K
        refine wpAnyC_reads 31 (regrown_of_below hbc) (by kernel_rfl) (by kernel_rfl) (by kernel_rfl) (fun d _ _ _ _ h => by cases d <;> exact h) (fun oi ho K hK => ?_)
        simp only [List.getElem?_toArray, List.getElem?_cons_succ, List.getElem?_cons_zero, Option.some.injEq] at ho
        subst ho
        go_simp
        refine hK _ ?_
        clear hK K
        refine wpAnyC_reads 32 (regrown_of_below hbc) (by kernel_rfl) (by kernel_rfl) (by kernel_rfl) (fun d _ _ _ _ h => by cases d <;> exact h) (fun oi ho K hK => ?_)
        simp only [List.getElem?_toArray, List.getElem?_cons_succ, List.getElem?_cons_zero, Option.some.injEq] at ho
        subst ho
        go_simp
        refine hK _ ?_
        clear hK K
        refine wpAnyC_reads 33 (regrown_of_below hbc) (by kernel_rfl) (by kernel_rfl) (by kernel_rfl) (fun d _ _ _ _ h => by cases d <;> exact h) (fun oi ho K hK => ?_)
        simp only [List.getElem?_toArray, List.getElem?_cons_succ, List.getElem?_cons_zero, Option.some.injEq] at ho
        subst ho
        go_simp
        refine hK _ ?_
        clear hK K
        refine wpAnyC_reads 35 (regrown_of_below hbc) (by kernel_rfl) (by kernel_rfl) (by kernel_rfl) (fun d _ _ _ _ h => by cases d <;> exact h) (fun oi ho K hK => ?_)
        simp only [List.getElem?_toArray, List.getElem?_cons_succ, List.getElem?_cons_zero, Option.some.injEq] at ho
        subst ho
        go_simp
        refine hK _ ?_
        clear hK K
        have cc := copy_c x.ty.1 x.ts aa ca x.vs hx20 wc (unhide hXW wc hbc)
        replace cc := hide cc
        refine wpAnyC_calls 34 (by kernel_rfl) (fun oi ho K hK => ?_)
        simp only [List.getElem?_toArray, List.getElem?_cons_succ, List.getElem?_cons_zero, Option.some.injEq] at ho
        subst ho
        go_simp
        refine (unhide cc).mono ?_
        rintro e wn ⟨ac, c', rfl, hown, hbn⟩
        have hVn : Vals wn.heap.size wn ac x.vs := by
          obtain ⟨a', c'', e', hv, _⟩ := vals_of_owns hown
          cases e'; exact hv
        clear cc hown
        replace hbn := hbc.trans (hbn.mono hbc.size)
        replace hVn := hide hVn
        go_simp
        refine hK _ _ (regrown_of_below hbn) ?_
        clear hK K hbc wc
        have cc := refSame_c x x ac aa c' ca hx20 hx20 wn (unhide hVn) (unhide hXW wn hbn)
        rw [sameE_self] at cc
        replace cc := hide cc
        refine wpAnyC_calls 36 (by kernel_rfl) (fun oi ho K hK => ?_)
        simp only [List.getElem?_toArray, List.getElem?_cons_succ, List.getElem?_cons_zero, Option.some.injEq] at ho
        subst ho
        go_simp
        refine (unhide cc).mono ?_
        rintro e wc ⟨rfl, hbc⟩
        clear cc
        replace hbc := hbn.trans (hbc.mono hbn.size)
        go_simp
        refine hK _ _ (regrown_of_below hbc) ?_
        clear hK K hbn hVn
        refine wpAnyC_reads 37 (regrown_of_below hbc) (by kernel_rfl) (by kernel_rfl) (by kernel_rfl) (fun d _ _ _ _ h => by cases d <;> exact h) (fun oi ho K hK => ?_)
        simp only [List.getElem?_toArray, List.getElem?_cons_succ, List.getElem?_cons_zero, Option.some.injEq] at ho
        subst ho
        go_simp
        refine hK _ ?_
        clear hK K
        refine wpAnyC_reads 38 (regrown_of_below hbc) (by kernel_rfl) (by kernel_rfl) (by kernel_rfl) (fun d _ _ _ _ h => by cases d <;> exact h) (fun oi ho K hK => ?_)
        simp only [List.getElem?_toArray, List.getElem?_cons_succ, List.getElem?_cons_zero, Option.some.injEq] at ho
        subst ho
        go_simp
        refine hK _ ?_
        clear hK K
        refine wpAnyC_done (by kernel_rfl) ?_ _
        go_wp2
        go_ret
        exact ⟨rfl, b6.trans (hbc.mono b6.size)⟩
      · have hy20' : (20 : Int) < y.vs.length := by omega
        have hx20' : ¬ (20 : Int) < x.vs.length := by omega
        go_wp2_with fail
        go_ret
        exact ⟨rfl, b2⟩
    · have hx20' : (20 : Int) < x.vs.length := by omega
      go_wp2_with fail
      go_ret
      exact ⟨rfl, b2⟩

end Go.Proofs.YthifciikmdnhaaaDoor
