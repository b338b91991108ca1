/-
  What a chain's Now and Add answer, what Add leaves; for every chain of at most 20 changes and every change, in whatever world; nothing that lay is turned but the chain's own two cells.
-/
import Derived.Test.YtcjpaldijngnpaaGreatDoorChAt
import Derived.Test.YtcjpaldijngnpaaGreatDoorReadsZ
namespace Go.Proofs.YtcjpaldijngnpaaGreatDoor
open Go.RowKit Go.Shelf

theorem infoCh : (Tryz.prog.info? 42).map (fun i => (i.zero, i.size, i.bytes)) = some (some (.agg #[.int .i64 0, .string ⟨#[]⟩, .string ⟨#[]⟩, .string ⟨#[]⟩, .int .i64 0, .int .i64 0, .string ⟨#[]⟩]), 7, 88) := by kernel_rfl
theorem cell_seven_new (w : World) (c : Ch) : ∀ j u, c.cs.toList[j]? = some u → (w.alloc (.cells c.cs 42)).cell? ((⟨w.heap.size, 0, none⟩ : Addr).add j) = some u := fun j u hu => by
  rw [WideShapes.add_plain, Nat.zero_add]
  exact (Box.new w 42 c.cs).at j (by rw [← Array.getElem?_toList]; exact hu)

theorem now_c (Bp cap capc : Nat) (a ac : Option Addr) (ts : List Ty) (cs : List Ch) (w : World) (hC : IsCh w.heap.size w Bp a ac cap capc ts cs) :
    Calls Tryz.prog 13 #[.pointer (some ⟨Bp, 0, none⟩)] w fun e w' => e = .returned (.int .i64 cs.length) ∧ w' = w := by
  obtain ⟨hp0, hp1⟩ := hC.box.two
  go_enter Tryz.func13, Tryz.ntmps13
  go_wp2_with fail
  go_ret
  exact ⟨rfl, rfl⟩

theorem clip_c (a : Option Addr) (n cap : Nat) (hn : n ≤ cap) (w : World) : Calls Tryz.prog 32 #[.slice a n cap] w fun e w' => e = .returned (.slice a n n) ∧ w' = w := by
  go_enter Tryz.func32, Tryz.ntmps32
  go_wp2_with fail
  go_ret
  exact ⟨rfl, rfl⟩

/-- What Add answers. -/
def addR (ts : List Ty) (cs : List Ch) (c : Ch) : Int := if 20 ≤ cs.length then 12 else refE (vers ts cs cs.length) c

/-- What Add leaves. -/
def AddLeft (r : Int) (Bp cap capc : Nat) (a ac : Option Addr) (ts : List Ty) (cs : List Ch) (c : Ch) (W : World) : Prop := if r = 0 then ∃ ac' capc', IsCh W.heap.size W Bp a ac' cap capc' ts (cs ++ [c]) else IsCh W.heap.size W Bp a ac cap capc ts cs

set_option maxRecDepth 100000 in
set_option maxHeartbeats 8000000 in
theorem add_c (Bp cap capc : Nat) (a ac : Option Addr) (ts : List Ty) (cs : List Ch) (c : Ch) (hS : Sch ts) (h20 : cs.length ≤ 20) (w : World) (hC : IsCh w.heap.size w Bp a ac cap capc ts cs) :
    Calls Tryz.prog 11 #[.pointer (some ⟨Bp, 0, none⟩), c.v] w fun e w' => e = .returned (errE (addR ts cs c)) ∧ AddLeft (addR ts cs c) Bp cap capc a ac ts cs c w' ∧ KeepC (fun k => k = Bp) w w' ∧ ∀ n, n ≤ Bp → Below n w w' := by
  have hcc := hide (show cs.length ≤ capc by
    rcases hC.row.1.2 with ⟨e, h0⟩ | ⟨g, c', cur, e, _, _, hnc, _⟩
    · simp only [Value.slice.injEq] at e; omega
    · simp only [Value.slice.injEq, true_and] at e; omega)
  obtain ⟨W0, hW0⟩ : ∃ W0, W0 = w.alloc (.cells c.cs 42) := ⟨_, rfl⟩
  have b0 : Below w.heap.size w W0 := by rw [hW0]; exact (Below.refl _ _).alloc (Nat.le_refl _) _
  have x3 : Box W0 w.heap.size 42 c.cs := by rw [hW0]; exact Box.new _ _ _
  have C0 := (hC.on b0).mono b0.size
  have hW0' := hide hW0
  clear hW0
  obtain ⟨hp0, hp1⟩ := C0.box.two
  have err : ∀ W, Below w.heap.size w W → ∀ r, addR ts cs c = r → r ≠ 0 → AddLeft (addR ts cs c) Bp cap capc a ac ts cs c W ∧ KeepC (fun k => k = Bp) w W ∧ ∀ n, n ≤ Bp → Below n w W := fun W hb r hr h0 => by
    unfold AddLeft
    rw [hr, if_neg h0]
    exact ⟨(hC.on hb).mono hb.size, KeepC.below hb, fun n hn => hb.mono (by have := hC.lt; omega)⟩
  replace err := hide err
  go_enter Tryz.func11, Tryz.ntmps11
  go_upto_region 1 with fail
  rw [show Obj.cells #[Value.int .i64 c.k, .string c.t.1, .string c.f.1, .string c.o.1, .int .i64 c.dk, .int .i64 c.dn, .string c.ds.1] 42 = Obj.cells c.cs 42 from rfl, ← unhide hW0']
  by_cases h20' : 20 ≤ cs.length
  · have hr := hide (show addR ts cs c = 12 by simp [addR, h20'])
    have h20'' : (20 : Int) ≤ cs.length := by omega
    go_wp2_with fail
    go_ret
    exact ⟨by rw [unhide hr]; rfl, unhide err W0 b0 12 (unhide hr) (by decide)⟩
  · have hn20 : ¬ (20 : Int) ≤ cs.length := by omega
    obtain ⟨r, hEr0⟩ : ∃ r, r = refE (vers ts cs cs.length) c := ⟨_, rfl⟩
    have hEr := hide (show addR ts cs c = r by simp [addR, h20', hEr0])
    have hSn := sch_vers hS cs cs.length
    go_wp2_with fail
    refine (now_c Bp cap capc a ac ts cs W0 C0).mono ?_
    rintro e W1 ⟨rfl, rfl⟩
    go_wp2_with fail
    refine (at_c Bp cap capc a ac ts cs cs.length hS h20 W1 C0).mono ?_
    rintro e W2 ⟨hat, hb2⟩
    rcases hat with ⟨k, a2, c2, hk, hkl, rfl, hO⟩ | ⟨h, -⟩
    case inr => omega
    obtain rfl : k = cs.length := by omega
    clear hk hkl hp0 hp1
    obtain ⟨W3, hW3⟩ : ∃ W3, W3 = W2.alloc (.cells #[.slice a2 (vers ts cs cs.length).length c2] 24) := ⟨_, rfl⟩
    have b3 : Below W2.heap.size W2 W3 := by rw [hW3]; exact (Below.refl _ _).alloc (Nat.le_refl _) _
    have v5 : Box W3 W2.heap.size 24 #[.slice a2 (vers ts cs cs.length).length c2] := by rw [hW3]; exact Box.new _ _ _
    go_upto_region 4 with fail
    rw [← hW3]
    clear hW3
    have b13 := hb2.trans (b3.mono hb2.size)
    have hs := v5.one.1
    obtain ⟨hc0, hc1, hc2, hc3, hc4, hc5, hc6⟩ := (x3.on b13 x3.lt).seven
    have cA := hide (apply_o a2 c2 (vers ts cs cs.length) c hSn.1 (sch_hk5 hSn) W3 ((hO.on b3).typs (sch_max hSn)))
    rw [← hEr0] at cA
    replace hEr0 := hide hEr0
    obtain ⟨NL, hNL⟩ : ∃ NL, NL = (appT (vers ts cs cs.length) c).length := ⟨_, rfl⟩
    rw [← hNL] at cA
    replace hNL := hide hNL
    go_wp2_with fail
    refine (unhide cA).mono ?_
    rintro e W4 ⟨a4, c4, rfl, -, hb4⟩
    clear cA hs hc0 hc1 hc2 hc3 hc4 hc5 hc6
    obtain ⟨W6, hW6⟩ : ∃ W6, W6 = W4.alloc (.cells #[.slice a4 NL c4] 24) := ⟨_, rfl⟩
    have b6 : Below W4.heap.size W4 W6 := by rw [hW6]; exact (Below.refl _ _).alloc (Nat.le_refl _) _
    have b14 := b13.trans (hb4.mono b13.size)
    have b0V := b14.trans (b6.mono b14.size)
    have bw6 := b0.trans (b0V.mono b0.size)
    by_cases hr0 : r = 0
    · subst hr0
      rw [errE_zero]
      go_upto_region 5 with fail
      rw [← hW6]
      clear hW6
      obtain ⟨i0, hi0, hz0, hz1, hz2⟩ := info_parts infoCh
      have hmx : Tryz.prog.follows .mixedOrders = true := by kernel_rfl
      go_upto_region 7 with fail
      obtain ⟨V, hV⟩ : ∃ V, V = ({ heap := W6.heap, tape := W6.tape, drawn := W6.drawn + 1, os := W6.os, output := W6.output } : World) := ⟨_, rfl⟩
      have bV : Below W6.heap.size W6 V := by rw [hV]; exact (Below.refl _ _).drew
      have bwV := bw6.trans (bV.mono bw6.size)
      have cD : Box V Bp 76 #[.slice a ts.length cap, .slice ac cs.length capc] ∧ Box V w.heap.size 42 c.cs := ⟨(hC.on bwV).box, x3.on (b0V.trans (bV.mono b0V.size)) x3.lt⟩
      have hF := hide (show Full V ac cs.length 7 (newsC cs) by
        refine ⟨newsC_len cs, ?_⟩
        rcases (hC.on bwV).row.1.2 with ⟨e, h0⟩ | ⟨g, c', cur, e, _⟩
        · simp only [Value.slice.injEq] at e
          exact .inr ⟨e.1, h0⟩
        · simp only [Value.slice.injEq, true_and] at e
          exact .inl ⟨_, e.1, by have := ((hC.on bwV).row.1).cells (g := g) (by rw [e.1]; rfl); exact this⟩)
      refine wp_region_any hmx (wpAny_of_Z (z := 11) (C := fun w' => Box w' Bp 76 #[.slice a ts.length cap, .slice ac cs.length capc] ∧ Box w' w.heap.size 42 c.cs) _ _ _ _ ?_)
      rw [← hV]
      clear hV
      refine wpAnyZ_reads 0 cD (by kernel_rfl) (by kernel_rfl) (by kernel_rfl) (by kernel_rfl) (fun d _ _ _ _ h => by cases d <;> exact h) (fun oi ho K hK => ?_)
      simp only [List.getElem?_toArray, List.getElem?_cons_zero, Option.some.injEq] at ho
      subst ho
      rw [if_pos (by kernel_rfl)]
      refine ⟨.pointer (some ⟨Bp, 0, none⟩), fun w' hw' => ?_, hK _ ?_⟩
      · obtain ⟨hxp, hx3⟩ := hw'
        obtain ⟨hp0, hp1⟩ := hxp.two
        obtain ⟨hc0, hc1, hc2, hc3, hc4, hc5, hc6⟩ := hx3.seven
        go_simp
      clear hK K
      refine wpAnyZ_reads 1 cD (by kernel_rfl) (by kernel_rfl) (by kernel_rfl) (by kernel_rfl) (fun d _ _ _ _ h => by cases d <;> exact h) (fun oi ho K hK => ?_)
      simp only [List.getElem?_toArray, List.getElem?_cons_succ, List.getElem?_cons_zero, Option.some.injEq] at ho
      subst ho
      rw [if_pos (by kernel_rfl)]
      refine ⟨.pointer (some ⟨Bp, 0, none⟩), fun w' hw' => ?_, hK _ ?_⟩
      · obtain ⟨hxp, hx3⟩ := hw'
        obtain ⟨hp0, hp1⟩ := hxp.two
        obtain ⟨hc0, hc1, hc2, hc3, hc4, hc5, hc6⟩ := hx3.seven
        go_simp
      clear hK K
      refine wpAnyZ_reads 2 cD (by kernel_rfl) (by kernel_rfl) (by kernel_rfl) (by kernel_rfl) (fun d _ _ _ _ h => by cases d <;> exact h) (fun oi ho K hK => ?_)
      simp only [List.getElem?_toArray, List.getElem?_cons_succ, List.getElem?_cons_zero, Option.some.injEq] at ho
      subst ho
      rw [if_pos (by kernel_rfl)]
      refine ⟨.pointer (some ⟨Bp, 0, none⟩), fun w' hw' => ?_, hK _ ?_⟩
      · obtain ⟨hxp, hx3⟩ := hw'
        obtain ⟨hp0, hp1⟩ := hxp.two
        obtain ⟨hc0, hc1, hc2, hc3, hc4, hc5, hc6⟩ := hx3.seven
        go_simp
      clear hK K
      refine wpAnyZ_reads 3 cD (by kernel_rfl) (by kernel_rfl) (by kernel_rfl) (by kernel_rfl) (fun d _ _ _ _ h => by cases d <;> exact h) (fun oi ho K hK => ?_)
      simp only [List.getElem?_toArray, List.getElem?_cons_succ, List.getElem?_cons_zero, Option.some.injEq] at ho
      subst ho
      rw [if_pos (by kernel_rfl)]
      refine ⟨.pointer (some ⟨Bp, 1, none⟩), fun w' hw' => ?_, hK _ ?_⟩
      · obtain ⟨hxp, hx3⟩ := hw'
        obtain ⟨hp0, hp1⟩ := hxp.two
        obtain ⟨hc0, hc1, hc2, hc3, hc4, hc5, hc6⟩ := hx3.seven
        go_simp
      clear hK K
      refine wpAnyZ_reads 4 cD (by kernel_rfl) (by kernel_rfl) (by kernel_rfl) (by kernel_rfl) (fun d _ _ _ _ h => by cases d <;> exact h) (fun oi ho K hK => ?_)
      simp only [List.getElem?_toArray, List.getElem?_cons_succ, List.getElem?_cons_zero, Option.some.injEq] at ho
      subst ho
      rw [if_pos (by kernel_rfl)]
      refine ⟨.slice ac cs.length capc, fun w' hw' => ?_, hK _ ?_⟩
      · obtain ⟨hxp, hx3⟩ := hw'
        obtain ⟨hp0, hp1⟩ := hxp.two
        obtain ⟨hc0, hc1, hc2, hc3, hc4, hc5, hc6⟩ := hx3.seven
        go_simp
      clear hK K
      refine wpAnyZ_reads 6 cD (by kernel_rfl) (by kernel_rfl) (by kernel_rfl) (by kernel_rfl) (fun d _ _ _ _ h => by cases d <;> exact h) (fun oi ho K hK => ?_)
      simp only [List.getElem?_toArray, List.getElem?_cons_succ, List.getElem?_cons_zero, Option.some.injEq] at ho
      subst ho
      rw [if_pos (by kernel_rfl)]
      refine ⟨c.v, fun w' hw' => ?_, hK _ ?_⟩
      · obtain ⟨hxp, hx3⟩ := hw'
        obtain ⟨hp0, hp1⟩ := hxp.two
        obtain ⟨hc0, hc1, hc2, hc3, hc4, hc5, hc6⟩ := hx3.seven
        go_simp
      clear hK K

      refine wpAnyZ_two 5 7 (by kernel_rfl) (fun oi ho K hK => ?_) (fun oi ho K hK => ?_)
      · simp only [List.getElem?_toArray, List.getElem?_cons_succ, List.getElem?_cons_zero, Option.some.injEq] at ho
        subst ho
        go_simp
        refine (clip_c ac cs.length capc (unhide hcc) V).mono ?_
        rintro e w1 ⟨rfl, rfl⟩
        go_simp
        refine hK _ _ (.inr cD) ?_
        clear hK K
        refine wpAnyZ_calls 7 (by kernel_rfl) (fun oi ho K hK => ?_)
        simp only [List.getElem?_toArray, List.getElem?_cons_succ, List.getElem?_cons_zero, Option.some.injEq] at ho
        subst ho
        have bF : Below w1.heap.size w1 (w1.alloc (.cells c.cs 42)) := (Below.refl _ _).alloc (Nat.le_refl _) _
        have cE : Box (w1.alloc (.cells c.cs 42)) Bp 76 #[.slice a ts.length cap, .slice ac cs.length capc] ∧ Box (w1.alloc (.cells c.cs 42)) w.heap.size 42 c.cs := ⟨cD.1.alloc _, cD.2.alloc _⟩
        have hnw := hide (cell_seven_new w1 c)
        have hF2 := hide ((unhide hF).on bF (fun p v h => cell_lt h))
        have bwV2 := bwV.trans (bF.mono bwV.size)
        go_simp
        refine hK _ _ (.inr cE) ?_
        clear hK K
        obtain ⟨nb, hnb⟩ : ∃ nb, nb = w1.heap.size := ⟨_, rfl⟩
        rw [← hnb] at hnw ⊢
        obtain ⟨V2, hV2⟩ : ∃ V2, V2 = w1.alloc (.cells c.cs 42) := ⟨_, rfl⟩
        rw [← hV2] at cE hnw hF2 bwV2 ⊢
        clear hV2 hnb
        refine wpAnyZ_calls 8 (by kernel_rfl) (fun oi ho K hK => ?_)
        simp only [List.getElem?_toArray, List.getElem?_cons_succ, List.getElem?_cons_zero, Option.some.injEq] at ho
        subst ho
        refine step_full V2 (by rfl) (.tmp 37) (.tmp 39) 25 (by rfl) 42 i0 (.agg #[.int .i64 0, .string ⟨#[]⟩, .string ⟨#[]⟩, .string ⟨#[]⟩, .int .i64 0, .int .i64 0, .string ⟨#[]⟩]) 7 88 Tryz.underlying25 hi0 hz0 hz1 hz2 (by rfl) ac cs.length (newsC cs) ?q1 (unhide hF2) ⟨nb, 0, none⟩ 1 1 c.cs.toList ?q2 (by rfl) (unhide hnw) (by decide) (by unfold maxLen; omega) (by omega) ?_
        case q1 => go_simp
        case q2 => go_simp
        intro v1 w5 ho5 hb5
        have g5 : Box w5 Bp 76 #[.slice a ts.length cap, .slice ac cs.length capc] ∧ Box w5 w.heap.size 42 c.cs := ⟨cE.1.on hb5 cE.1.lt, cE.2.on hb5 cE.2.lt⟩
        obtain ⟨g6, cap6, rfl⟩ := ownsRow_succ ho5
        replace ho5 := hide ho5
        refine hK _ _ (.inr g5) ?_
        clear hK K
        refine wpAnyZ_calls 9 (by kernel_rfl) (fun oi ho K hK => ?_)
        simp only [List.getElem?_toArray, List.getElem?_cons_succ, List.getElem?_cons_zero, Option.some.injEq] at ho
        subst ho
        go_simp
        refine hK _ _ (.inr g5) ?_
        clear hK K
        refine wpAnyZ_calls 10 (by kernel_rfl) (fun oi ho K hK => ?_)
        simp only [List.getElem?_toArray, List.getElem?_cons_succ, List.getElem?_cons_zero, Option.some.injEq] at ho
        subst ho
        go_simp
        refine hK _ _ (.inr g5) ?_
        clear hK K

        obtain ⟨hz60, hz61⟩ := g5.1.two
        have hzf := g5.1.frz 1
        refine wpAnyZ_calls 11 (by kernel_rfl) (fun oi ho K hK => ?_)
        simp only [List.getElem?_toArray, List.getElem?_cons_succ, List.getElem?_cons_zero, Option.some.injEq] at ho
        subst ho

        go_simp
        refine hK _ _ (.inl rfl) ?_
        clear hK K
        refine wpAnyZ_done (by kernel_rfl) ?_ _
        have bw5 := bwV2.trans (hb5.mono bwV2.size)
        have r5 : Box (w5.setCell ⟨Bp, 1, none⟩ (.slice (some ⟨g6, 0, none⟩) (cs.length + 1) cap6)) Bp 76 #[.slice a ts.length cap, .slice (some ⟨g6, 0, none⟩) (cs ++ [c]).length cap6] := by
          have := g5.1.set 1 (.slice (some ⟨g6, 0, none⟩) (cs.length + 1) cap6)
          rw [List.length_append]
          exact this
        have kk := (KeepC.below bw5 : KeepC (fun k => k = Bp) w w5).trans (KeepC.set w5 Bp 1 (.slice (some ⟨g6, 0, none⟩) (cs.length + 1) cap6) rfl)
        have bb : ∀ n, n ≤ Bp → Below n w (w5.setCell ⟨Bp, 1, none⟩ (.slice (some ⟨g6, 0, none⟩) (cs.length + 1) cap6)) := fun n hn => (bw5.mono (by have := hC.lt; omega)).setCell (p := ⟨Bp, 1, none⟩) hn _
        have hrow := set_other (i := 1) (owns_base (Nat.zero_le _) (unhide ho5)) g5.1 (by decide) (.slice (some ⟨g6, 0, none⟩) (cs.length + 1) cap6)
        have hown := hide (((hC.own.on bw5).mono bw5.size).box (i := 1) g5.1 (by decide) (by decide) (.slice (some ⟨g6, 0, none⟩) (cs.length + 1) cap6))
        have hsz := bw5.size
        have hlp := hC.lt
        have hrow' := hide (show ChsB (w5.setCell ⟨Bp, 1, none⟩ (.slice (some ⟨g6, 0, none⟩) (cs.length + 1) cap6)).heap.size (w5.setCell ⟨Bp, 1, none⟩ (.slice (some ⟨g6, 0, none⟩) (cs.length + 1) cap6)) (some ⟨g6, 0, none⟩) cap6 (cs ++ [c]) by
          refine ⟨?_, ?_⟩
          · rw [newsC_snoc, List.length_append]; exact hrow
          · rw [List.length_append]; exact inRow_of hrow)
        replace kk := hide kk
        replace bb := hide bb
        clear hrow
        go_wp2
        go_ret
        refine ⟨by rw [unhide hEr]; rfl, ?_, unhide kk, unhide bb⟩
        unfold AddLeft
        rw [if_pos (unhide hEr)]
        refine ⟨_, _, ⟨r5, by simp; omega, ?_, unhide hrow'⟩⟩
        have := unhide hown
        simpa using this
      · simp only [List.getElem?_toArray, List.getElem?_cons_succ, List.getElem?_cons_zero, Option.some.injEq] at ho
        subst ho
        have bF : Below V.heap.size V (V.alloc (.cells c.cs 42)) := (Below.refl _ _).alloc (Nat.le_refl _) _
        have cE : Box (V.alloc (.cells c.cs 42)) Bp 76 #[.slice a ts.length cap, .slice ac cs.length capc] ∧ Box (V.alloc (.cells c.cs 42)) w.heap.size 42 c.cs := ⟨cD.1.alloc _, cD.2.alloc _⟩
        have hnw := hide (cell_seven_new V c)
        have hF2 := hide ((unhide hF).on bF (fun p v h => cell_lt h))
        have bwV2 := bwV.trans (bF.mono bwV.size)
        go_simp
        refine hK _ _ (.inr cE) ?_
        clear hK K
        obtain ⟨nb, hnb⟩ : ∃ nb, nb = V.heap.size := ⟨_, rfl⟩
        rw [← hnb] at hnw ⊢
        obtain ⟨V2, hV2⟩ : ∃ V2, V2 = V.alloc (.cells c.cs 42) := ⟨_, rfl⟩
        rw [← hV2] at cE hnw hF2 bwV2 ⊢
        clear hV2 hnb
        refine wpAnyZ_calls 5 (by kernel_rfl) (fun oi ho K hK => ?_)
        simp only [List.getElem?_toArray, List.getElem?_cons_succ, List.getElem?_cons_zero, Option.some.injEq] at ho
        subst ho
        go_simp
        refine (clip_c ac cs.length capc (unhide hcc) V2).mono ?_
        rintro e w1 ⟨rfl, rfl⟩
        go_simp
        refine hK _ _ (.inr cE) ?_
        clear hK K
        refine wpAnyZ_calls 8 (by kernel_rfl) (fun oi ho K hK => ?_)
        simp only [List.getElem?_toArray, List.getElem?_cons_succ, List.getElem?_cons_zero, Option.some.injEq] at ho
        subst ho
        refine step_full w1 (by rfl) (.tmp 37) (.tmp 39) 25 (by rfl) 42 i0 (.agg #[.int .i64 0, .string ⟨#[]⟩, .string ⟨#[]⟩, .string ⟨#[]⟩, .int .i64 0, .int .i64 0, .string ⟨#[]⟩]) 7 88 Tryz.underlying25 hi0 hz0 hz1 hz2 (by rfl) ac cs.length (newsC cs) ?q1 (unhide hF2) ⟨nb, 0, none⟩ 1 1 c.cs.toList ?q2 (by rfl) (unhide hnw) (by decide) (by unfold maxLen; omega) (by omega) ?_
        case q1 => go_simp
        case q2 => go_simp
        intro v1 w5 ho5 hb5
        have g5 : Box w5 Bp 76 #[.slice a ts.length cap, .slice ac cs.length capc] ∧ Box w5 w.heap.size 42 c.cs := ⟨cE.1.on hb5 cE.1.lt, cE.2.on hb5 cE.2.lt⟩
        obtain ⟨g6, cap6, rfl⟩ := ownsRow_succ ho5
        replace ho5 := hide ho5
        refine hK _ _ (.inr g5) ?_
        clear hK K
        refine wpAnyZ_calls 9 (by kernel_rfl) (fun oi ho K hK => ?_)
        simp only [List.getElem?_toArray, List.getElem?_cons_succ, List.getElem?_cons_zero, Option.some.injEq] at ho
        subst ho
        go_simp
        refine hK _ _ (.inr g5) ?_
        clear hK K
        refine wpAnyZ_calls 10 (by kernel_rfl) (fun oi ho K hK => ?_)
        simp only [List.getElem?_toArray, List.getElem?_cons_succ, List.getElem?_cons_zero, Option.some.injEq] at ho
        subst ho
        go_simp
        refine hK _ _ (.inr g5) ?_
        clear hK K

        obtain ⟨hz60, hz61⟩ := g5.1.two
        have hzf := g5.1.frz 1
        refine wpAnyZ_calls 11 (by kernel_rfl) (fun oi ho K hK => ?_)
        simp only [List.getElem?_toArray, List.getElem?_cons_succ, List.getElem?_cons_zero, Option.some.injEq] at ho
        subst ho

        go_simp
        refine hK _ _ (.inl rfl) ?_
        clear hK K
        refine wpAnyZ_done (by kernel_rfl) ?_ _
        have bw5 := bwV2.trans (hb5.mono bwV2.size)
        have r5 : Box (w5.setCell ⟨Bp, 1, none⟩ (.slice (some ⟨g6, 0, none⟩) (cs.length + 1) cap6)) Bp 76 #[.slice a ts.length cap, .slice (some ⟨g6, 0, none⟩) (cs ++ [c]).length cap6] := by
          have := g5.1.set 1 (.slice (some ⟨g6, 0, none⟩) (cs.length + 1) cap6)
          rw [List.length_append]
          exact this
        have kk := (KeepC.below bw5 : KeepC (fun k => k = Bp) w w5).trans (KeepC.set w5 Bp 1 (.slice (some ⟨g6, 0, none⟩) (cs.length + 1) cap6) rfl)
        have bb : ∀ n, n ≤ Bp → Below n w (w5.setCell ⟨Bp, 1, none⟩ (.slice (some ⟨g6, 0, none⟩) (cs.length + 1) cap6)) := fun n hn => (bw5.mono (by have := hC.lt; omega)).setCell (p := ⟨Bp, 1, none⟩) hn _
        have hrow := set_other (i := 1) (owns_base (Nat.zero_le _) (unhide ho5)) g5.1 (by decide) (.slice (some ⟨g6, 0, none⟩) (cs.length + 1) cap6)
        have hown := hide (((hC.own.on bw5).mono bw5.size).box (i := 1) g5.1 (by decide) (by decide) (.slice (some ⟨g6, 0, none⟩) (cs.length + 1) cap6))
        have hsz := bw5.size
        have hlp := hC.lt
        have hrow' := hide (show ChsB (w5.setCell ⟨Bp, 1, none⟩ (.slice (some ⟨g6, 0, none⟩) (cs.length + 1) cap6)).heap.size (w5.setCell ⟨Bp, 1, none⟩ (.slice (some ⟨g6, 0, none⟩) (cs.length + 1) cap6)) (some ⟨g6, 0, none⟩) cap6 (cs ++ [c]) by
          refine ⟨?_, ?_⟩
          · rw [newsC_snoc, List.length_append]; exact hrow
          · rw [List.length_append]; exact inRow_of hrow)
        replace kk := hide kk
        replace bb := hide bb
        clear hrow
        go_wp2
        go_ret
        refine ⟨by rw [unhide hEr]; rfl, ?_, unhide kk, unhide bb⟩
        unfold AddLeft
        rw [if_pos (unhide hEr)]
        refine ⟨_, _, ⟨r5, by simp; omega, ?_, unhide hrow'⟩⟩
        have := unhide hown
        simpa using this
    · have hev : errE r = errV r := by simp [errE, hr0]
      rw [hev]
      go_upto_region 5 with fail
      rw [← hW6]
      clear hW6
      go_wp2_with fail
      go_ret
      exact ⟨by rw [unhide hEr, hev]; rfl, unhide err W6 bw6 r (unhide hEr) hr0⟩

end Go.Proofs.YtcjpaldijngnpaaGreatDoor
