/-
  What EvolveRound answers: true, for every schema, place, event and choice, in whatever world; nothing that lay is turned.
-/
import Derived.Test.YtjbgojemgpeokaaRight
import Derived.Test.YtjbgojemgpeokaaPureRound
import Derived.Test.YtjbgojemgpeokaaReadsTwo
import Derived.BigRegion
namespace Go.Proofs.Ytjbgojemgpeokaa
open Go.RowKit Go.Shelf

theorem sameE_self (x : Ev) : sameE x x = true := by
  have h1 : ∀ v : Vl, sameV v v = true := fun v => by simp [sameV]
  have h2 : ∀ vs : List Vl, sameVs vs vs = true := fun vs => by
    simp only [sameVs, samesV, decide_true, Bool.true_and, List.all_eq_true]
    rintro ⟨x, y⟩ h
    obtain rfl : x = y := by
      rw [List.mem_iff_getElem] at h
      obtain ⟨i, hi, e⟩ := h
      simp at e
      rw [← e.1, ← e.2]
    exact h1 x
  simp [sameE, h2]

set_option maxRecDepth 100000 in
set_option maxHeartbeats 4000000 in
/-- An event of more values than a type may have fields is none. -/
theorem refIsE_far (a av : Option Addr) (cap cv : Nat) (ts : List Ty) (t : Txt) (n : Int) (vs : List Vl) (h5 : ts.length ≤ 5) (hk5 : ∀ k, (ty ts k).2.length ≤ 5) (hf : 20 < vs.length) (hmv : vs.length ≤ maxLen) (w : World) (hT : Typs w.heap.size w a ts) :
    Calls Try.prog 10 #[.agg #[.slice a ts.length cap], .agg #[.string t.1, .int .i64 n, .slice av vs.length cv]] w fun e W' => ∃ r : Int, r ≠ 0 ∧ e = .returned (.int .i64 r) ∧ Below w.heap.size w W' := by
  unfold maxLen at hmv
  have xe := Box.new (w.alloc (.cells #[.slice a ts.length cap] 24)) 31 #[.string t.1, .int .i64 n, .slice av vs.length cv]
  rw [World.size_alloc] at xe
  have b0 : Below w.heap.size w ((w.alloc (.cells #[.slice a ts.length cap] 24)).alloc (.cells #[.string t.1, .int .i64 n, .slice av vs.length cv] 31)) := ((Below.refl _ _).alloc (Nat.le_refl _) _).alloc (by simp) _
  have T0 := hT.on b0
  clear hT
  go_enter Try.func10, Try.ntmps10
  go_wp2_with fail
  refine (refFind_c a cap ts t.1 h5 _ T0).mono ?_
  rintro e w1 ⟨hb1, hcase⟩
  have b1 := b0.trans (hb1.mono b0.size)
  have xe1 := xe.on hb1 xe.lt
  rcases unhide hcase with ⟨hp, rfl⟩ | ⟨k, a', c', hp, hkt, rfl, hF⟩
  · clear hcase hp
    go_wp2_with fail
    go_ret
    exact ⟨13, by decide, rfl, b1.alloc b1.size _⟩
  · obtain ⟨fs, hfs⟩ : ∃ fs, fs = (ty ts k).2 := ⟨_, rfl⟩
    have hf5 := hk5 k
    rw [← hfs] at hF hf5 ⊢
    clear hcase hp hfs
    have b2 := b1.alloc b1.size (.cells #[.string (ty ts k).1.1, .slice a' fs.length c'] 44)
    obtain ⟨he0, he1, he2⟩ := xe1.three
    have hl1 := xe1.lt
    have h3 : ((vs.length : Int) != fs.length) = true := by simp; omega
    by_cases h0 : n < 0
    · go_wp2_with fail
      go_ret
      exact ⟨10, by decide, rfl, b2⟩
    · by_cases h1 : 1073741824 < n
      · go_wp2_with fail
        go_ret
        exact ⟨10, by decide, rfl, b2⟩
      · go_wp2_with fail
        go_ret
        exact ⟨10, by decide, rfl, b2⟩

set_option maxRecDepth 100000 in
set_option maxHeartbeats 16000000 in
theorem round_c (a av : Option Addr) (cap cv : Nat) (ts : List Ty) (m : Nat) (hm8 : m < 256) (x : Ev) (rn : Bool) (hm : ts.length ≤ maxLen) (hmv : x.vs.length ≤ maxLen) (w : World) (hT : Typs w.heap.size w a ts) (hV : Vals w.heap.size w av x.vs) :
    Calls Try.prog 5 #[.agg #[.slice a ts.length cap], .int .u8 m, .agg #[.string x.ty.1, .int .i64 x.ts, .slice av x.vs.length cv], .bool rn] w fun e w' => e = .returned (.bool true) ∧ Below w.heap.size w w' := by
  obtain ⟨t, tm, vs⟩ := x
  simp only at hmv hV ⊢
  obtain ⟨W0, hW0⟩ : ∃ W0, W0 = (w.alloc (.cells #[.slice a ts.length cap] 24)).alloc (.cells #[.string t.1, .int .i64 tm, .slice av vs.length cv] 31) := ⟨_, rfl⟩
  have b0 : Below w.heap.size w W0 := by rw [hW0]; exact ((Below.refl _ _).alloc (Nat.le_refl _) _).alloc (by simp) _
  have x4 : Box W0 w.heap.size 24 #[.slice a ts.length cap] := by
    rw [hW0]; exact (Box.new w 24 #[.slice a ts.length cap]).alloc _
  have x6 : Box W0 (w.heap.size + 1) 31 #[.string t.1, .int .i64 tm, .slice av vs.length cv] := by
    have := Box.new (w.alloc (.cells #[.slice a ts.length cap] 24)) 31 #[.string t.1, .int .i64 tm, .slice av vs.length cv]
    simp only [World.size_alloc] at this
    rw [hW0]; exact this
  have T0 := hT.on b0
  have V0 := hV.on b0
  have hW0' := hide hW0
  clear hW0
  go_enter Try.func5, Try.ntmps5
  go_wp2_with fail
  rw [← unhide hW0']
  refine (known_c W0).mono ?_
  rintro e w1 ⟨rfl, hb1⟩
  have y4 := x4.on hb1 x4.lt
  have T1 := T0.on hb1
  have hs := y4.one.1
  have cS := hide (refSch_c a cap ts hm w1 T1)
  go_wp2_with fail
  refine (unhide cS).mono ?_
  rintro e w2 ⟨B, rfl, hb2, hB⟩
  clear cS hs
  have q2 := hb1.trans (hb2.mono hb1.size)
  have b2 := b0.trans (q2.mono b0.size)
  have z4 := x4.on q2 x4.lt
  have z6 := x6.on q2 x6.lt
  have T2 := T0.on q2
  have V2 := V0.on q2
  have hs := z4.one.1
  obtain ⟨he0, he1, he2⟩ := z6.three
  cases B with
  | false =>
    go_wp2_with fail
    go_ret
    exact ⟨rfl, b2⟩
  | true =>
    have hS : Sch ts := (unhide hB).1 rfl
    have h5 := hS.1
    have hk5 := sch_hk5 hS
    clear hB
    by_cases hl0 : ts.length = 0
    · have hl0' : ((ts.length : Int) == 0) = true := by simp [hl0]
      clear hl0
      go_wp2_with fail
      go_ret
      exact ⟨rfl, b2⟩
    have hl0' : ((ts.length : Int) == 0) = false := by simp; intro e; apply hl0; rw [e]; rfl
    by_cases h20 : vs.length ≤ 20
    · have cI := refIsE_c a av cap cv ts ⟨t, tm, vs⟩ h5 hk5 h20 w2 T2 V2
      by_cases hi : isE ts ⟨t, tm, vs⟩ = 0
      · rw [hi] at cI
        replace cI := hide cI
        have hi' := hide hi
        clear hi
        obtain ⟨j, hj⟩ : ∃ j, j = m % ts.length := ⟨_, rfl⟩
        have hjl : j < ts.length := by rw [hj]; exact Nat.mod_lt _ (by omega)
        have hjm := hide hj
        clear hj
        have hSh := hide hS
        go_wp2_with fail
        refine (unhide cI).mono ?_
        rintro e w3 ⟨rfl, hb3⟩
        clear cI hs he0 he1 he2
        have u4 := z4.on hb3 z4.lt
        have u6 := z6.on hb3 z6.lt
        have S3 := T2.on hb3
        have V3 := V2.on hb3
        have b3 := b2.trans (hb3.mono b2.size)
        have hs := u4.one.1
        clear hb3 z4 z6 T2 V2 b2 q2 hb2 hb1 y4 T1 x4 x6 T0 V0 b0 hT hV
        obtain ⟨b, off, ha, hc1, a1, c1, hc2, hF⟩ := S3.at j hjl
        have hlb := cell_lt hc1
        simp only at hlb
        have hls := u4.lt
        subst ha
        obtain ⟨⟨nm, fs⟩, ht⟩ : ∃ tt, tt = ty ts j := ⟨_, rfl⟩
        have hf5 := hk5 j
        rw [← ht] at hc1 hc2 hF hf5
        simp only at hc1 hc2 hF hf5
        have ht' := hide ht
        clear ht
        have hmod : Int.tmod (m : Int) (ts.length : Int) = (j : Int) := by rw [Int.tmod_eq_emod_of_nonneg (by omega), unhide hjm]; simp
        have hrem : (m : Int) % (ts.length : Int) = (j : Int) := by rw [unhide hjm]; simp
        replace hF := hide hF
        go_upto_region 5 with fail
        go_cut [9] (fun x wx => ∃ B9, x = .pointer (some ⟨B9, 0, none⟩) ∧ Box wx B9 44 #[.string nm.1, .slice a1 fs.length c1] ∧ Below w3.heap.size w3 wx)
        case first =>
          go_region
          · go_wp2
            go_meet
            case rel => exact ⟨_, rfl, (Box.new w3 44 #[.string nm.1, .slice a1 fs.length c1]).drew, ((Below.refl _ _).alloc (Nat.le_refl _) _).drew⟩
        case rest =>
          obtain ⟨B9, rfl, x9, bx⟩ := hcut
          have v4 := u4.on bx u4.lt
          have v6 := u6.on bx u6.lt
          have S4 := S3.on bx
          have V4 := V3.on bx
          have F4 := (unhide hF).on bx
          have b4 := b3.trans (bx.mono b3.size)
          clear hs hc1 hc2 hlb hls hmod hrem hF bx b3 u4 u6 S3 V3
          obtain ⟨ht0, ht1⟩ := x9.two
          have bA : Below wc.heap.size wc ((wc.alloc (.cells #[.int .i64 1, .string nm.1, .string ⟨#[102, 114, 101, 115, 104]⟩, .string ⟨#[]⟩, .int .i64 2, .int .i64 0, .string ⟨#[100]⟩] 28)).alloc (.cells #[.int .i64 2, .string nm.1, .string ⟨#[102, 114, 101, 115, 104]⟩, .string ⟨#[]⟩, .int .i64 0, .int .i64 0, .string ⟨#[]⟩] 28)) := ((Below.refl _ _).alloc (Nat.le_refl _) _).alloc (by simp) _
          have x10 := (Box.new wc 28 #[.int .i64 1, .string nm.1, .string ⟨#[102, 114, 101, 115, 104]⟩, .string ⟨#[]⟩, .int .i64 2, .int .i64 0, .string ⟨#[100]⟩]).alloc (.cells #[.int .i64 2, .string nm.1, .string ⟨#[102, 114, 101, 115, 104]⟩, .string ⟨#[]⟩, .int .i64 0, .int .i64 0, .string ⟨#[]⟩] 28)
          have x11 := Box.new (wc.alloc (.cells #[.int .i64 1, .string nm.1, .string ⟨#[102, 114, 101, 115, 104]⟩, .string ⟨#[]⟩, .int .i64 2, .int .i64 0, .string ⟨#[100]⟩] 28)) 28 #[.int .i64 2, .string nm.1, .string ⟨#[102, 114, 101, 115, 104]⟩, .string ⟨#[]⟩, .int .i64 0, .int .i64 0, .string ⟨#[]⟩]
          rw [World.size_alloc] at x11
          have v9 := x9.on bA x9.lt
          have w4' := v4
          have w6' := v6
          replace v4 := v4.on bA v4.lt
          replace v6 := v6.on bA v6.lt
          have S5 := S4.on bA
          have V5 := V4.on bA
          have F5 := F4.on bA
          have b5 := b4.trans (bA.mono b4.size)
          cases rn with
          | false =>
            obtain ⟨W, hW⟩ : ∃ W, W = (wc.alloc (.cells #[.int .i64 1, .string nm.1, .string ⟨#[102, 114, 101, 115, 104]⟩, .string ⟨#[]⟩, .int .i64 2, .int .i64 0, .string ⟨#[100]⟩] 28)).alloc (.cells #[.int .i64 2, .string nm.1, .string ⟨#[102, 114, 101, 115, 104]⟩, .string ⟨#[]⟩, .int .i64 0, .int .i64 0, .string ⟨#[]⟩] 28) := ⟨_, rfl⟩
            have hls9 := x9.lt
            go_upto_region 13 with fail
            rw [← hW] at x10 x11 v4 v6 v9 S5 V5 F5 b5 ⊢
            have p4 := v4
            have p6 := v6
            have p9 := v9
            have p10 : Box W wc.heap.size 28 (cAdd nm).cs := x10
            have p11 : Box W (wc.heap.size + 1) 28 (cDrop nm).cs := x11
            have SW := S5
            have VW := V5
            have FW := F5
            have bW := b5
            have hra := round_add (unhide hSh) hjl
            have hne : refE ts (cAdd nm) ≠ 0 → hasB fs tFresh.1 = true ∨ fs.length = 5 := by have := hra.1; rw [← unhide ht'] at this; exact this
            have hud : refE ts (cAdd nm) = 0 → Undo (ty ts j).1 (cAdd nm) (cDrop nm) (ty ts j).2 := by have := hra.2; rw [← unhide ht'] at this ⊢; exact this
            clear hW hra x10 x11 v4 v6 v9 S5 V5 F5 b5 bA ht0 ht1 S4 V4 F4 b4 x9 hls9 w4' w6'
            have hs := p4.one.1
            obtain ⟨hg0, hg1, hg2, hg3, hg4, hg5, hg6⟩ := p10.seven
            have cA := hide (apply_c (some ⟨b, off, none⟩) cap ts (cAdd nm) h5 hk5 W SW)
            go_wp2_with fail
            refine (unhide cA).mono ?_
            rintro e w6 ⟨a6, c6, rfl, T6, hb6⟩
            clear cA hs hg0 hg1 hg2 hg3 hg4 hg5 hg6
            by_cases h0 : refE ts (cAdd nm) = 0
            · have eA : appT ts (cAdd nm) = tNew (cAdd nm) ts := by simp [appT, h0]
              have hU := hud h0
              have h1 := undo_ref hU (place_self (unhide hSh) hjl) hjl
              have hbk := undo_types (unhide hSh) hU hjl
              have hmb := undo_event (unhide hSh) hU hjl h0 h1 (unhide hi')
              have hSn := sch_new (unhide hSh) h0
              have hk5n := sch_hk5 hSn
              have h5n := hSn.1
              have hi2 := isE_new (unhide hSh) h0 (unhide hi')
              obtain ⟨uu, hfu, hEu⟩ := isE_found (unhide hi')
              have hmv1 := movE_find ts (cAdd nm) ⟨t, tm, vs⟩ uu hfu h0 (unhide hi')
              rw [eA] at T6 ⊢
              rw [h0, errE_zero]
              obtain ⟨L, hL⟩ : ∃ L, L = tNew (cAdd nm) ts := ⟨_, rfl⟩
              rw [← hL] at T6 h1 hbk hmb hk5n h5n hi2 ⊢
              obtain ⟨N, hN⟩ : ∃ N, N = (movE ts (cAdd nm) ⟨t, tm, vs⟩).vs := ⟨_, rfl⟩
              have hmN : movE ts (cAdd nm) ⟨t, tm, vs⟩ = ⟨t, tm, N⟩ := by rw [hN, hmv1]
              have hN6 : N.length ≤ 6 := by
                rw [hN, hmv1]
                have e1 := (evOk_new hEu (good_found (unhide hSh) h0 (findT_mem hfu).1)).len
                simp only at e1 ⊢
                have := fNew_len uu.1 (cAdd nm) uu.2
                have := (((sch_iff ts).1 (unhide hSh)).2.1 uu (findT_mem hfu).1).2.1
                omega
              rw [hmN] at hmb
              have eB : appT L (cDrop nm) = ts := by simp [appT, h1, hbk]
              clear hSn hfu hEu hmv1 eA hU hi2
              replace hmb := hide hmb
              replace eB := hide eB
              have cM1 := fun W' h h' => move_c (some ⟨b, off, none⟩) av cap cv ts (cAdd nm) ⟨t, tm, vs⟩ h5 hk5 h20 W' h h'
              rw [← hN] at cM1
              replace cM1 := hide cM1
              have cM2 := fun W' a8 c8 h h' => move_c a6 a8 c6 c8 L (cDrop nm) ⟨t, tm, N⟩ h5n hk5n (by simp only; omega) W' h h'
              rw [unhide hmb] at cM2
              replace cM2 := hide cM2
              clear hN hmN hbk hne hud
              replace hL := hide hL
              have h0' := hide h0
              clear h0
              have bA : Below W.heap.size W (w6.alloc (.cells #[.slice a6 L.length c6] 24)) := hb6.alloc hb6.size _
              have bA6 : Below w6.heap.size w6 (w6.alloc (.cells #[.slice a6 L.length c6] 24)) := (Below.refl _ _).alloc (Nat.le_refl _) _
              have r4 := p4.on bA p4.lt
              have r6 := p6.on bA p6.lt
              have r10 := p10.on bA p10.lt
              have r11 := p11.on bA p11.lt
              have r12 := Box.new w6 24 #[.slice a6 L.length c6]
              have S7 := SW.on bA
              have V7 := VW.on bA
              have T7 := T6.on bA6
              have b7 := bW.trans (bA.mono bW.size)
              have hs := r12.one.1
              obtain ⟨hg0, hg1, hg2, hg3, hg4, hg5, hg6⟩ := r11.seven
              have cA := apply_c a6 c6 L (cDrop nm) h5n hk5n _ T7
              rw [unhide eB, h1, errE_zero] at cA
              replace cA := hide cA
              clear h1
              go_wp2_with fail
              refine (unhide cA).mono ?_
              rintro e w8 ⟨a8, c8, rfl, T8, hb8⟩
              clear cA hs hg0 hg1 hg2 hg3 hg4 hg5 hg6
              have bB : Below (w6.alloc (.cells #[.slice a6 L.length c6] 24)).heap.size (w6.alloc (.cells #[.slice a6 L.length c6] 24)) (w8.alloc (.cells #[.slice a8 ts.length c8] 24)) := hb8.alloc hb8.size _
              have bB8 : Below w8.heap.size w8 (w8.alloc (.cells #[.slice a8 ts.length c8] 24)) := (Below.refl _ _).alloc (Nat.le_refl _) _
              have m4 := r4.on bB r4.lt
              have m6 := r6.on bB r6.lt
              have m10 := r10.on bB r10.lt
              have m11 := r11.on bB r11.lt
              have m12 := r12.on bB r12.lt
              have m14 := Box.new w8 24 #[.slice a8 ts.length c8]
              have S9 := S7.on bB
              have V9 := V7.on bB
              have T9 := T7.on bB
              have U9 := T8.on bB8
              have b9 := b7.trans (bB.mono b7.size)
              obtain ⟨W9, hW9⟩ : ∃ W9, W9 = w8.alloc (.cells #[.slice a8 ts.length c8] 24) := ⟨_, rfl⟩
              have hmx : Try.prog.follows .mixedOrders = true := by kernel_rfl
              go_wp2_with fail
              rw [← hW9] at m4 m6 m10 m11 m12 m14 S9 V9 T9 U9 b9 ⊢
              clear hW9 bB bB8 r4 r6 r10 r11 r12 S7 V7 T7 T6 T8 bA bA6 b7 hb6 hb8 p4 p6 p9 p10 p11 SW VW FW bW
              have bD : Below W9.heap.size W9 W9.drew := (Below.refl _ _).drew
              have cD : Box W9.drew w.heap.size 24 #[.slice (some ⟨b, off, none⟩) ts.length cap] ∧ Box W9.drew (w.heap.size + 1) 31 #[.string t.1, .int .i64 tm, .slice av vs.length cv] ∧ Box W9.drew wc.heap.size 28 ((cAdd nm)).cs ∧ Box W9.drew (wc.heap.size + 1) 28 ((cDrop nm)).cs ∧ Box W9.drew w6.heap.size 24 #[.slice a6 L.length c6] ∧ Box W9.drew w8.heap.size 24 #[.slice a8 ts.length c8] := ⟨m4.drew, m6.drew, m10.drew, m11.drew, m12.drew, m14.drew⟩
              have cE := hide (refSameS_c a8 (some ⟨b, off, none⟩) c8 cap ts ts h5 hk5 hk5 W9.drew (U9.on bD) (S9.on bD))
              refine wp_region_any hmx (wpAny_of_C (C := fun w' => Box w' w.heap.size 24 #[.slice (some ⟨b, off, none⟩) ts.length cap] ∧ Box w' (w.heap.size + 1) 31 #[.string t.1, .int .i64 tm, .slice av vs.length cv] ∧ Box w' wc.heap.size 28 ((cAdd nm)).cs ∧ Box w' (wc.heap.size + 1) 28 ((cDrop nm)).cs ∧ Box w' w6.heap.size 24 #[.slice a6 L.length c6] ∧ Box w' w8.heap.size 24 #[.slice a8 ts.length c8]) _ _ _ _ ?_)
              refine wpAnyC_reads 0 cD (by kernel_rfl) (by kernel_rfl) (by kernel_rfl) (fun d _ _ _ _ h => by cases d <;> exact h) (fun oi ho K hK => ?_)
              simp only [List.getElem?_toArray, List.getElem?_cons_zero, Option.some.injEq] at ho
              subst ho
              rw [if_pos (by kernel_rfl)]
              refine ⟨.nilIface, fun w' hw' => ?_, hK _ ?_⟩
              · clear hw'
                go_simp
              clear hK K
              refine wpAnyC_reads 1 cD (by kernel_rfl) (by kernel_rfl) (by kernel_rfl) (fun d _ _ _ _ h => by cases d <;> exact h) (fun oi ho K hK => ?_)
              simp only [List.getElem?_toArray, List.getElem?_cons_succ, List.getElem?_cons_zero, Option.some.injEq] at ho
              subst ho
              rw [if_pos (by kernel_rfl)]
              refine ⟨.bool true, fun w' hw' => ?_, hK _ ?_⟩
              · clear hw'
                go_simp
              clear hK K
              refine wpAnyC_reads 2 cD (by kernel_rfl) (by kernel_rfl) (by kernel_rfl) (fun d _ _ _ _ h => by cases d <;> exact h) (fun oi ho K hK => ?_)
              simp only [List.getElem?_toArray, List.getElem?_cons_succ, List.getElem?_cons_zero, Option.some.injEq] at ho
              subst ho
              rw [if_pos (by kernel_rfl)]
              refine ⟨.bool true, fun w' hw' => ?_, hK _ ?_⟩
              · clear hw'
                go_simp
              clear hK K
              refine wpAnyC_reads 3 cD (by kernel_rfl) (by kernel_rfl) (by kernel_rfl) (fun d _ _ _ _ h => by cases d <;> exact h) (fun oi ho K hK => ?_)
              simp only [List.getElem?_toArray, List.getElem?_cons_succ, List.getElem?_cons_zero, Option.some.injEq] at ho
              subst ho
              rw [if_pos (by kernel_rfl)]
              refine ⟨.agg #[.slice a8 ts.length c8], fun w' hw' => ?_, hK _ ?_⟩
              · obtain ⟨hx4, hx6, hx10, hx11, hx12, hx14⟩ := hw'
                have hs := hx4.one.1
                obtain ⟨he0, he1, he2⟩ := hx6.three
                obtain ⟨hg0, hg1, hg2, hg3, hg4, hg5, hg6⟩ := hx10.seven
                obtain ⟨hd0, hd1, hd2, hd3, hd4, hd5, hd6⟩ := hx11.seven
                have ha := hx12.one.1
                have hb := hx14.one.1
                go_simp
              clear hK K
              refine wpAnyC_reads 4 cD (by kernel_rfl) (by kernel_rfl) (by kernel_rfl) (fun d _ _ _ _ h => by cases d <;> exact h) (fun oi ho K hK => ?_)
              simp only [List.getElem?_toArray, List.getElem?_cons_succ, List.getElem?_cons_zero, Option.some.injEq] at ho
              subst ho
              rw [if_pos (by kernel_rfl)]
              refine ⟨.agg #[.slice (some ⟨b, off, none⟩) ts.length cap], fun w' hw' => ?_, hK _ ?_⟩
              · obtain ⟨hx4, hx6, hx10, hx11, hx12, hx14⟩ := hw'
                have hs := hx4.one.1
                obtain ⟨he0, he1, he2⟩ := hx6.three
                obtain ⟨hg0, hg1, hg2, hg3, hg4, hg5, hg6⟩ := hx10.seven
                obtain ⟨hd0, hd1, hd2, hd3, hd4, hd5, hd6⟩ := hx11.seven
                have ha := hx12.one.1
                have hb := hx14.one.1
                go_simp
              clear hK K
              refine wpAnyC_calls 5 (by kernel_rfl) (fun oi ho K hK => ?_)
              simp only [List.getElem?_toArray, List.getElem?_cons_succ, List.getElem?_cons_zero, Option.some.injEq] at ho
              subst ho
              go_simp
              refine (unhide cE).mono ?_
              rintro e w20 ⟨Bb, rfl, hb20, hBb⟩
              obtain rfl : Bb = true := (unhide hBb).2 rfl
              have cF : Box w20 w.heap.size 24 #[.slice (some ⟨b, off, none⟩) ts.length cap] ∧ Box w20 (w.heap.size + 1) 31 #[.string t.1, .int .i64 tm, .slice av vs.length cv] ∧ Box w20 wc.heap.size 28 ((cAdd nm)).cs ∧ Box w20 (wc.heap.size + 1) 28 ((cDrop nm)).cs ∧ Box w20 w6.heap.size 24 #[.slice a6 L.length c6] ∧ Box w20 w8.heap.size 24 #[.slice a8 ts.length c8] := ⟨cD.1.on hb20 cD.1.lt, cD.2.1.on hb20 cD.2.1.lt, cD.2.2.1.on hb20 cD.2.2.1.lt, cD.2.2.2.1.on hb20 cD.2.2.2.1.lt, cD.2.2.2.2.1.on hb20 cD.2.2.2.2.1.lt, cD.2.2.2.2.2.on hb20 cD.2.2.2.2.2.lt⟩
              go_simp
              refine hK _ _ cF ?_
              clear hK K
              refine wpAnyC_reads 6 cF (by kernel_rfl) (by kernel_rfl) (by kernel_rfl) (fun d _ _ _ _ h => by cases d <;> exact h) (fun oi ho K hK => ?_)
              simp only [List.getElem?_toArray, List.getElem?_cons_succ, List.getElem?_cons_zero, Option.some.injEq] at ho
              subst ho
              rw [if_pos (by kernel_rfl)]
              refine ⟨.bool true, fun w' hw' => ?_, hK _ ?_⟩
              · clear hw'
                go_simp
              clear hK K
              refine wpAnyC_reads 7 cF (by kernel_rfl) (by kernel_rfl) (by kernel_rfl) (fun d _ _ _ _ h => by cases d <;> exact h) (fun oi ho K hK => ?_)
              simp only [List.getElem?_toArray, List.getElem?_cons_succ, List.getElem?_cons_zero, Option.some.injEq] at ho
              subst ho
              rw [if_pos (by kernel_rfl)]
              refine ⟨.bool true, fun w' hw' => ?_, hK _ ?_⟩
              · clear hw'
                go_simp
              clear hK K
              refine wpAnyC_reads 8 cF (by kernel_rfl) (by kernel_rfl) (by kernel_rfl) (fun d _ _ _ _ h => by cases d <;> exact h) (fun oi ho K hK => ?_)
              simp only [List.getElem?_toArray, List.getElem?_cons_succ, List.getElem?_cons_zero, Option.some.injEq] at ho
              subst ho
              rw [if_pos (by kernel_rfl)]
              refine ⟨.agg #[.slice a6 L.length c6], fun w' hw' => ?_, hK _ ?_⟩
              · obtain ⟨hx4, hx6, hx10, hx11, hx12, hx14⟩ := hw'
                have hs := hx4.one.1
                obtain ⟨he0, he1, he2⟩ := hx6.three
                obtain ⟨hg0, hg1, hg2, hg3, hg4, hg5, hg6⟩ := hx10.seven
                obtain ⟨hd0, hd1, hd2, hd3, hd4, hd5, hd6⟩ := hx11.seven
                have ha := hx12.one.1
                have hb := hx14.one.1
                go_simp
              clear hK K
              refine wpAnyC_reads 9 cF (by kernel_rfl) (by kernel_rfl) (by kernel_rfl) (fun d _ _ _ _ h => by cases d <;> exact h) (fun oi ho K hK => ?_)
              simp only [List.getElem?_toArray, List.getElem?_cons_succ, List.getElem?_cons_zero, Option.some.injEq] at ho
              subst ho
              rw [if_pos (by kernel_rfl)]
              refine ⟨((cDrop nm)).v, fun w' hw' => ?_, hK _ ?_⟩
              · obtain ⟨hx4, hx6, hx10, hx11, hx12, hx14⟩ := hw'
                have hs := hx4.one.1
                obtain ⟨he0, he1, he2⟩ := hx6.three
                obtain ⟨hg0, hg1, hg2, hg3, hg4, hg5, hg6⟩ := hx10.seven
                obtain ⟨hd0, hd1, hd2, hd3, hd4, hd5, hd6⟩ := hx11.seven
                have ha := hx12.one.1
                have hb := hx14.one.1
                go_simp
              clear hK K
              refine wpAnyC_reads 10 cF (by kernel_rfl) (by kernel_rfl) (by kernel_rfl) (fun d _ _ _ _ h => by cases d <;> exact h) (fun oi ho K hK => ?_)
              simp only [List.getElem?_toArray, List.getElem?_cons_succ, List.getElem?_cons_zero, Option.some.injEq] at ho
              subst ho
              rw [if_pos (by kernel_rfl)]
              refine ⟨.agg #[.slice (some ⟨b, off, none⟩) ts.length cap], fun w' hw' => ?_, hK _ ?_⟩
              · obtain ⟨hx4, hx6, hx10, hx11, hx12, hx14⟩ := hw'
                have hs := hx4.one.1
                obtain ⟨he0, he1, he2⟩ := hx6.three
                obtain ⟨hg0, hg1, hg2, hg3, hg4, hg5, hg6⟩ := hx10.seven
                obtain ⟨hd0, hd1, hd2, hd3, hd4, hd5, hd6⟩ := hx11.seven
                have ha := hx12.one.1
                have hb := hx14.one.1
                go_simp
              clear hK K
              refine wpAnyC_reads 11 cF (by kernel_rfl) (by kernel_rfl) (by kernel_rfl) (fun d _ _ _ _ h => by cases d <;> exact h) (fun oi ho K hK => ?_)
              simp only [List.getElem?_toArray, List.getElem?_cons_succ, List.getElem?_cons_zero, Option.some.injEq] at ho
              subst ho
              rw [if_pos (by kernel_rfl)]
              refine ⟨((cAdd nm)).v, fun w' hw' => ?_, hK _ ?_⟩
              · obtain ⟨hx4, hx6, hx10, hx11, hx12, hx14⟩ := hw'
                have hs := hx4.one.1
                obtain ⟨he0, he1, he2⟩ := hx6.three
                obtain ⟨hg0, hg1, hg2, hg3, hg4, hg5, hg6⟩ := hx10.seven
                obtain ⟨hd0, hd1, hd2, hd3, hd4, hd5, hd6⟩ := hx11.seven
                have ha := hx12.one.1
                have hb := hx14.one.1
                go_simp
              clear hK K
              refine wpAnyC_reads 12 cF (by kernel_rfl) (by kernel_rfl) (by kernel_rfl) (fun d _ _ _ _ h => by cases d <;> exact h) (fun oi ho K hK => ?_)
              simp only [List.getElem?_toArray, List.getElem?_cons_succ, List.getElem?_cons_zero, Option.some.injEq] at ho
              subst ho
              rw [if_pos (by kernel_rfl)]
              refine ⟨.agg #[.string t.1, .int .i64 tm, .slice av vs.length cv], fun w' hw' => ?_, hK _ ?_⟩
              · obtain ⟨hx4, hx6, hx10, hx11, hx12, hx14⟩ := hw'
                have hs := hx4.one.1
                obtain ⟨he0, he1, he2⟩ := hx6.three
                obtain ⟨hg0, hg1, hg2, hg3, hg4, hg5, hg6⟩ := hx10.seven
                obtain ⟨hd0, hd1, hd2, hd3, hd4, hd5, hd6⟩ := hx11.seven
                have ha := hx12.one.1
                have hb := hx14.one.1
                go_simp
              clear hK K
              refine wpAnyC_reads 15 cF (by kernel_rfl) (by kernel_rfl) (by kernel_rfl) (fun d _ _ _ _ h => by cases d <;> exact h) (fun oi ho K hK => ?_)
              simp only [List.getElem?_toArray, List.getElem?_cons_succ, List.getElem?_cons_zero, Option.some.injEq] at ho
              subst ho
              rw [if_pos (by kernel_rfl)]
              refine ⟨.agg #[.string t.1, .int .i64 tm, .slice av vs.length cv], fun w' hw' => ?_, hK _ ?_⟩
              · obtain ⟨hx4, hx6, hx10, hx11, hx12, hx14⟩ := hw'
                have hs := hx4.one.1
                obtain ⟨he0, he1, he2⟩ := hx6.three
                obtain ⟨hg0, hg1, hg2, hg3, hg4, hg5, hg6⟩ := hx10.seven
                obtain ⟨hd0, hd1, hd2, hd3, hd4, hd5, hd6⟩ := hx11.seven
                have ha := hx12.one.1
                have hb := hx14.one.1
                go_simp
              clear hK K
              have k20 := bD.trans (hb20.mono bD.size)
              have cG := hide (unhide cM1 w20 (S9.on k20) (V9.on k20))
              refine wpAnyC_calls 13 (by kernel_rfl) (fun oi ho K hK => ?_)
              simp only [List.getElem?_toArray, List.getElem?_cons_succ, List.getElem?_cons_zero, Option.some.injEq] at ho
              subst ho
              go_simp
              refine (unhide cG).mono ?_
              rintro e w21 ⟨a21, c21, rfl, V21, hb21⟩
              have cH : Box w21 w.heap.size 24 #[.slice (some ⟨b, off, none⟩) ts.length cap] ∧ Box w21 (w.heap.size + 1) 31 #[.string t.1, .int .i64 tm, .slice av vs.length cv] ∧ Box w21 wc.heap.size 28 ((cAdd nm)).cs ∧ Box w21 (wc.heap.size + 1) 28 ((cDrop nm)).cs ∧ Box w21 w6.heap.size 24 #[.slice a6 L.length c6] ∧ Box w21 w8.heap.size 24 #[.slice a8 ts.length c8] := ⟨cF.1.on hb21 cF.1.lt, cF.2.1.on hb21 cF.2.1.lt, cF.2.2.1.on hb21 cF.2.2.1.lt, cF.2.2.2.1.on hb21 cF.2.2.2.1.lt, cF.2.2.2.2.1.on hb21 cF.2.2.2.2.1.lt, cF.2.2.2.2.2.on hb21 cF.2.2.2.2.2.lt⟩
              go_simp
              refine hK _ _ cH ?_
              clear hK K
              have k21 := k20.trans (hb21.mono k20.size)
              have cJ := hide (unhide cM2 w21 a21 c21 (T9.on k21) V21)
              refine wpAnyC_calls 14 (by kernel_rfl) (fun oi ho K hK => ?_)
              simp only [List.getElem?_toArray, List.getElem?_cons_succ, List.getElem?_cons_zero, Option.some.injEq] at ho
              subst ho
              go_simp
              refine (unhide cJ).mono ?_
              rintro e w22 ⟨a22, c22, rfl, V22, hb22⟩
              have cK : Box w22 w.heap.size 24 #[.slice (some ⟨b, off, none⟩) ts.length cap] ∧ Box w22 (w.heap.size + 1) 31 #[.string t.1, .int .i64 tm, .slice av vs.length cv] ∧ Box w22 wc.heap.size 28 ((cAdd nm)).cs ∧ Box w22 (wc.heap.size + 1) 28 ((cDrop nm)).cs ∧ Box w22 w6.heap.size 24 #[.slice a6 L.length c6] ∧ Box w22 w8.heap.size 24 #[.slice a8 ts.length c8] := ⟨cH.1.on hb22 cH.1.lt, cH.2.1.on hb22 cH.2.1.lt, cH.2.2.1.on hb22 cH.2.2.1.lt, cH.2.2.2.1.on hb22 cH.2.2.2.1.lt, cH.2.2.2.2.1.on hb22 cH.2.2.2.2.1.lt, cH.2.2.2.2.2.on hb22 cH.2.2.2.2.2.lt⟩
              go_simp
              refine hK _ _ cK ?_
              clear hK K
              have k22 := k21.trans (hb22.mono k21.size)
              have cQ := refSame_c ⟨t, tm, vs⟩ ⟨t, tm, vs⟩ a22 av c22 cv h20 h20 w22 V22 (V9.on k22)
              rw [sameE_self] at cQ
              replace cQ := hide cQ
              refine wpAnyC_calls 16 (by kernel_rfl) (fun oi ho K hK => ?_)
              simp only [List.getElem?_toArray, List.getElem?_cons_succ, List.getElem?_cons_zero, Option.some.injEq] at ho
              subst ho
              go_simp
              refine (unhide cQ).mono ?_
              rintro e w23 ⟨rfl, hb23⟩
              have cR : Box w23 w.heap.size 24 #[.slice (some ⟨b, off, none⟩) ts.length cap] ∧ Box w23 (w.heap.size + 1) 31 #[.string t.1, .int .i64 tm, .slice av vs.length cv] ∧ Box w23 wc.heap.size 28 ((cAdd nm)).cs ∧ Box w23 (wc.heap.size + 1) 28 ((cDrop nm)).cs ∧ Box w23 w6.heap.size 24 #[.slice a6 L.length c6] ∧ Box w23 w8.heap.size 24 #[.slice a8 ts.length c8] := ⟨cK.1.on hb23 cK.1.lt, cK.2.1.on hb23 cK.2.1.lt, cK.2.2.1.on hb23 cK.2.2.1.lt, cK.2.2.2.1.on hb23 cK.2.2.2.1.lt, cK.2.2.2.2.1.on hb23 cK.2.2.2.2.1.lt, cK.2.2.2.2.2.on hb23 cK.2.2.2.2.2.lt⟩
              go_simp
              refine hK _ _ cR ?_
              clear hK K
              refine wpAnyC_reads 17 cR (by kernel_rfl) (by kernel_rfl) (by kernel_rfl) (fun d _ _ _ _ h => by cases d <;> exact h) (fun oi ho K hK => ?_)
              simp only [List.getElem?_toArray, List.getElem?_cons_succ, List.getElem?_cons_zero, Option.some.injEq] at ho
              subst ho
              rw [if_pos (by kernel_rfl)]
              refine ⟨.bool true, fun w' hw' => ?_, hK _ ?_⟩
              · clear hw'
                go_simp
              clear hK K
              refine wpAnyC_reads 18 cR (by kernel_rfl) (by kernel_rfl) (by kernel_rfl) (fun d _ _ _ _ h => by cases d <;> exact h) (fun oi ho K hK => ?_)
              simp only [List.getElem?_toArray, List.getElem?_cons_succ, List.getElem?_cons_zero, Option.some.injEq] at ho
              subst ho
              rw [if_pos (by kernel_rfl)]
              refine ⟨.bool true, fun w' hw' => ?_, hK _ ?_⟩
              · clear hw'
                go_simp
              clear hK K
              refine wpAnyC_done (by kernel_rfl) ?_ _
              go_wp2
              go_ret
              have k23 := k22.trans (hb23.mono k22.size)
              exact ⟨rfl, b9.trans (k23.mono b9.size)⟩
            · have hno := hne h0
              rw [errE_no h0]
              obtain ⟨en, hen⟩ : ∃ en, en = refE ts (cAdd nm) := ⟨_, rfl⟩
              rw [← hen]
              obtain ⟨L, hL⟩ : ∃ L, L = appT ts (cAdd nm) := ⟨_, rfl⟩
              rw [← hL]
              clear hen h0 hud hne hL T6
              have bA : Below W.heap.size W (w6.alloc (.cells #[.slice a6 L.length c6] 24)) := hb6.alloc hb6.size _
              have r9 := p9.on bA p9.lt
              have F7 := FW.on bA
              have b7 := bW.trans (bA.mono bW.size)
              obtain ⟨hm0, hm1⟩ := r9.two
              have cFi := refField_c nm.1 tFresh.1 a1 c1 fs hf5 _ F7
              cases hp : placeN (fnames fs) tFresh.1 with
              | none =>
                have hl5 : fs.length = 5 := by
                  rcases hno with h | h
                  · simp [hasB, hp] at h
                  · exact h
                have hl5' : ((fs.length : Int) == 5) = true := by simp [hl5]
                rw [show placeI (fnames fs) tFresh.1 = -1 by simp [placeI, hp]] at cFi
                replace cFi := hide cFi
                clear hno hp hl5
                go_wp2_with fail
                refine (unhide cFi).mono ?_
                rintro e w9 ⟨rfl, hb9⟩
                clear hm0 hm1
                obtain ⟨hm0, hm1⟩ := (r9.on hb9 r9.lt).two
                go_wp2_with fail
                go_ret
                exact ⟨rfl, b7.trans (hb9.mono b7.size)⟩
              | some k =>
                rw [show placeI (fnames fs) tFresh.1 = (k : Int) by simp [placeI, hp]] at cFi
                replace cFi := hide cFi
                clear hno hp
                go_wp2_with fail
                refine (unhide cFi).mono ?_
                rintro e w9 ⟨rfl, hb9⟩
                go_wp2_with fail
                go_ret
                exact ⟨rfl, b7.trans (hb9.mono b7.size)⟩
          | true =>
            by_cases hz : fs.length = 0
            · have hz' : ((fs.length : Int) == 0) = true := by simp [hz]
              have hls9 := x9.lt
              clear hz
              go_wp2_with fail
              go_ret
              exact ⟨rfl, b5⟩
            · have hz' : ((fs.length : Int) == 0) = false := by simp; intro e; apply hz; rw [e]; rfl
              have hz0 : 0 < fs.length := by omega
              have hz1 : (0 : Int) < fs.length := by omega
              have hls9 := x9.lt
              have F4' := hide F4
              rcases F4 with rfl | ⟨bf, of', rfl, hbf, hcf⟩
              · simp at hz0
              have hf0 := (hcf 0 hz0).1
              simp only [Nat.zero_mul, Nat.add_zero] at hf0
              clear hcf
              obtain ⟨f0, hf0e⟩ : ∃ f0, f0 = (fd fs 0).1 := ⟨_, rfl⟩
              rw [← hf0e] at hf0
              replace hf0e := hide hf0e
              clear hz
              go_upto_region 11 with fail
              go_region
              go_upto_region 12 with fail
              go_region
              go_upto_region 13 with fail
              obtain ⟨W, hW⟩ : ∃ W, W = ((wc.alloc (.cells (cRen nm f0).cs 28)).alloc (.cells (cBack nm f0).cs 28)).drew.drew := ⟨_, rfl⟩
              have bR : Below wc.heap.size wc W := by rw [hW]; exact (((Below.refl _ _).alloc (Nat.le_refl _) _).alloc (by simp) _).drew.drew
              have p10 : Box W wc.heap.size 28 (cRen nm f0).cs := by rw [hW]; exact ((Box.new wc 28 (cRen nm f0).cs).alloc _).drew.drew
              have p11 : Box W (wc.heap.size + 1) 28 (cBack nm f0).cs := by
                have := Box.new (wc.alloc (.cells (cRen nm f0).cs 28)) 28 (cBack nm f0).cs
                rw [World.size_alloc] at this
                rw [hW]; exact this.drew.drew
              have p4 := w4'.on bR w4'.lt
              have p6 := w6'.on bR w6'.lt
              have p9 := x9.on bR x9.lt
              have SW := S4.on bR
              have VW := V4.on bR
              have FW : Flds W.heap.size W (some ⟨bf, of', none⟩) fs := (unhide F4').on bR
              have bW := b4.trans (bR.mono b4.size)
              have hra := round_ren (unhide hSh) hjl (by rw [← unhide ht']; exact hz0)
              have hne : refE ts (cRen nm f0) ≠ 0 → hasB fs tFresh.1 = true ∨ fs.length = 5 := by
                have := hra.1; rw [← unhide ht'] at this; rw [unhide hf0e]; exact fun h => .inl (this h)
              have hud : refE ts (cRen nm f0) = 0 → Undo (ty ts j).1 (cRen nm f0) (cBack nm f0) (ty ts j).2 := by
                have := hra.2; rw [← unhide ht'] at this ⊢; rw [unhide hf0e]; exact this
              have hW' := hide hW
              clear hW hra x10 x11 v4 v6 v9 S5 V5 F5 b5 bA ht0 ht1 S4 V4 b4 x9 hls9 hf0 hbf w4' w6' F4'
              rw [show Obj.cells #[Value.int .i64 3, .string nm.1, .string f0.1, .string ⟨#[102, 114, 101, 115, 104]⟩, .int .i64 0, .int .i64 0, .string ⟨#[]⟩] 28 = Obj.cells (cRen nm f0).cs 28 from rfl, show Obj.cells #[Value.int .i64 3, .string nm.1, .string ⟨#[102, 114, 101, 115, 104]⟩, .string f0.1, .int .i64 0, .int .i64 0, .string ⟨#[]⟩] 28 = Obj.cells (cBack nm f0).cs 28 from rfl, ← unhide hW']
              have hs := p4.one.1
              obtain ⟨hg0, hg1, hg2, hg3, hg4, hg5, hg6⟩ := p10.seven
              have cA := hide (apply_c (some ⟨b, off, none⟩) cap ts (cRen nm f0) h5 hk5 W SW)
              go_wp2_with fail
              refine (unhide cA).mono ?_
              rintro e w6 ⟨a6, c6, rfl, T6, hb6⟩
              clear cA hs hg0 hg1 hg2 hg3 hg4 hg5 hg6
              by_cases h0 : refE ts (cRen nm f0) = 0
              · have eA : appT ts (cRen nm f0) = tNew (cRen nm f0) ts := by simp [appT, h0]
                have hU := hud h0
                have h1 := undo_ref hU (place_self (unhide hSh) hjl) hjl
                have hbk := undo_types (unhide hSh) hU hjl
                have hmb := undo_event (unhide hSh) hU hjl h0 h1 (unhide hi')
                have hSn := sch_new (unhide hSh) h0
                have hk5n := sch_hk5 hSn
                have h5n := hSn.1
                have hi2 := isE_new (unhide hSh) h0 (unhide hi')
                obtain ⟨uu, hfu, hEu⟩ := isE_found (unhide hi')
                have hmv1 := movE_find ts (cRen nm f0) ⟨t, tm, vs⟩ uu hfu h0 (unhide hi')
                rw [eA] at T6 ⊢
                rw [h0, errE_zero]
                obtain ⟨L, hL⟩ : ∃ L, L = tNew (cRen nm f0) ts := ⟨_, rfl⟩
                rw [← hL] at T6 h1 hbk hmb hk5n h5n hi2 ⊢
                obtain ⟨N, hN⟩ : ∃ N, N = (movE ts (cRen nm f0) ⟨t, tm, vs⟩).vs := ⟨_, rfl⟩
                have hmN : movE ts (cRen nm f0) ⟨t, tm, vs⟩ = ⟨t, tm, N⟩ := by rw [hN, hmv1]
                have hN6 : N.length ≤ 6 := by
                  rw [hN, hmv1]
                  have e1 := (evOk_new hEu (good_found (unhide hSh) h0 (findT_mem hfu).1)).len
                  simp only at e1 ⊢
                  have := fNew_len uu.1 (cRen nm f0) uu.2
                  have := (((sch_iff ts).1 (unhide hSh)).2.1 uu (findT_mem hfu).1).2.1
                  omega
                rw [hmN] at hmb
                have eB : appT L (cBack nm f0) = ts := by simp [appT, h1, hbk]
                clear hSn hfu hEu hmv1 eA hU hi2
                replace hmb := hide hmb
                replace eB := hide eB
                have cM1 := fun W' h h' => move_c (some ⟨b, off, none⟩) av cap cv ts (cRen nm f0) ⟨t, tm, vs⟩ h5 hk5 h20 W' h h'
                rw [← hN] at cM1
                replace cM1 := hide cM1
                have cM2 := fun W' a8 c8 h h' => move_c a6 a8 c6 c8 L (cBack nm f0) ⟨t, tm, N⟩ h5n hk5n (by simp only; omega) W' h h'
                rw [unhide hmb] at cM2
                replace cM2 := hide cM2
                clear hN hmN hbk hne hud
                replace hL := hide hL
                have h0' := hide h0
                clear h0
                have bA : Below W.heap.size W (w6.alloc (.cells #[.slice a6 L.length c6] 24)) := hb6.alloc hb6.size _
                have bA6 : Below w6.heap.size w6 (w6.alloc (.cells #[.slice a6 L.length c6] 24)) := (Below.refl _ _).alloc (Nat.le_refl _) _
                have r4 := p4.on bA p4.lt
                have r6 := p6.on bA p6.lt
                have r10 := p10.on bA p10.lt
                have r11 := p11.on bA p11.lt
                have r12 := Box.new w6 24 #[.slice a6 L.length c6]
                have S7 := SW.on bA
                have V7 := VW.on bA
                have T7 := T6.on bA6
                have b7 := bW.trans (bA.mono bW.size)
                have hs := r12.one.1
                obtain ⟨hg0, hg1, hg2, hg3, hg4, hg5, hg6⟩ := r11.seven
                have cA := apply_c a6 c6 L (cBack nm f0) h5n hk5n _ T7
                rw [unhide eB, h1, errE_zero] at cA
                replace cA := hide cA
                clear h1
                go_wp2_with fail
                refine (unhide cA).mono ?_
                rintro e w8 ⟨a8, c8, rfl, T8, hb8⟩
                clear cA hs hg0 hg1 hg2 hg3 hg4 hg5 hg6
                have bB : Below (w6.alloc (.cells #[.slice a6 L.length c6] 24)).heap.size (w6.alloc (.cells #[.slice a6 L.length c6] 24)) (w8.alloc (.cells #[.slice a8 ts.length c8] 24)) := hb8.alloc hb8.size _
                have bB8 : Below w8.heap.size w8 (w8.alloc (.cells #[.slice a8 ts.length c8] 24)) := (Below.refl _ _).alloc (Nat.le_refl _) _
                have m4 := r4.on bB r4.lt
                have m6 := r6.on bB r6.lt
                have m10 := r10.on bB r10.lt
                have m11 := r11.on bB r11.lt
                have m12 := r12.on bB r12.lt
                have m14 := Box.new w8 24 #[.slice a8 ts.length c8]
                have S9 := S7.on bB
                have V9 := V7.on bB
                have T9 := T7.on bB
                have U9 := T8.on bB8
                have b9 := b7.trans (bB.mono b7.size)
                obtain ⟨W9, hW9⟩ : ∃ W9, W9 = w8.alloc (.cells #[.slice a8 ts.length c8] 24) := ⟨_, rfl⟩
                have hmx : Try.prog.follows .mixedOrders = true := by kernel_rfl
                go_wp2_with fail
                rw [← hW9] at m4 m6 m10 m11 m12 m14 S9 V9 T9 U9 b9 ⊢
                clear hW9 bB bB8 r4 r6 r10 r11 r12 S7 V7 T7 T6 T8 bA bA6 b7 hb6 hb8 p4 p6 p9 p10 p11 SW VW FW bW
                have bD : Below W9.heap.size W9 W9.drew := (Below.refl _ _).drew
                have cD : Box W9.drew w.heap.size 24 #[.slice (some ⟨b, off, none⟩) ts.length cap] ∧ Box W9.drew (w.heap.size + 1) 31 #[.string t.1, .int .i64 tm, .slice av vs.length cv] ∧ Box W9.drew wc.heap.size 28 ((cRen nm f0)).cs ∧ Box W9.drew (wc.heap.size + 1) 28 ((cBack nm f0)).cs ∧ Box W9.drew w6.heap.size 24 #[.slice a6 L.length c6] ∧ Box W9.drew w8.heap.size 24 #[.slice a8 ts.length c8] := ⟨m4.drew, m6.drew, m10.drew, m11.drew, m12.drew, m14.drew⟩
                have cE := hide (refSameS_c a8 (some ⟨b, off, none⟩) c8 cap ts ts h5 hk5 hk5 W9.drew (U9.on bD) (S9.on bD))
                refine wp_region_any hmx (wpAny_of_C (C := fun w' => Box w' w.heap.size 24 #[.slice (some ⟨b, off, none⟩) ts.length cap] ∧ Box w' (w.heap.size + 1) 31 #[.string t.1, .int .i64 tm, .slice av vs.length cv] ∧ Box w' wc.heap.size 28 ((cRen nm f0)).cs ∧ Box w' (wc.heap.size + 1) 28 ((cBack nm f0)).cs ∧ Box w' w6.heap.size 24 #[.slice a6 L.length c6] ∧ Box w' w8.heap.size 24 #[.slice a8 ts.length c8]) _ _ _ _ ?_)
                refine wpAnyC_reads 0 cD (by kernel_rfl) (by kernel_rfl) (by kernel_rfl) (fun d _ _ _ _ h => by cases d <;> exact h) (fun oi ho K hK => ?_)
                simp only [List.getElem?_toArray, List.getElem?_cons_zero, Option.some.injEq] at ho
                subst ho
                rw [if_pos (by kernel_rfl)]
                refine ⟨.nilIface, fun w' hw' => ?_, hK _ ?_⟩
                · clear hw'
                  go_simp
                clear hK K
                refine wpAnyC_reads 1 cD (by kernel_rfl) (by kernel_rfl) (by kernel_rfl) (fun d _ _ _ _ h => by cases d <;> exact h) (fun oi ho K hK => ?_)
                simp only [List.getElem?_toArray, List.getElem?_cons_succ, List.getElem?_cons_zero, Option.some.injEq] at ho
                subst ho
                rw [if_pos (by kernel_rfl)]
                refine ⟨.bool true, fun w' hw' => ?_, hK _ ?_⟩
                · clear hw'
                  go_simp
                clear hK K
                refine wpAnyC_reads 2 cD (by kernel_rfl) (by kernel_rfl) (by kernel_rfl) (fun d _ _ _ _ h => by cases d <;> exact h) (fun oi ho K hK => ?_)
                simp only [List.getElem?_toArray, List.getElem?_cons_succ, List.getElem?_cons_zero, Option.some.injEq] at ho
                subst ho
                rw [if_pos (by kernel_rfl)]
                refine ⟨.bool true, fun w' hw' => ?_, hK _ ?_⟩
                · clear hw'
                  go_simp
                clear hK K
                refine wpAnyC_reads 3 cD (by kernel_rfl) (by kernel_rfl) (by kernel_rfl) (fun d _ _ _ _ h => by cases d <;> exact h) (fun oi ho K hK => ?_)
                simp only [List.getElem?_toArray, List.getElem?_cons_succ, List.getElem?_cons_zero, Option.some.injEq] at ho
                subst ho
                rw [if_pos (by kernel_rfl)]
                refine ⟨.agg #[.slice a8 ts.length c8], fun w' hw' => ?_, hK _ ?_⟩
                · obtain ⟨hx4, hx6, hx10, hx11, hx12, hx14⟩ := hw'
                  have hs := hx4.one.1
                  obtain ⟨he0, he1, he2⟩ := hx6.three
                  obtain ⟨hg0, hg1, hg2, hg3, hg4, hg5, hg6⟩ := hx10.seven
                  obtain ⟨hd0, hd1, hd2, hd3, hd4, hd5, hd6⟩ := hx11.seven
                  have ha := hx12.one.1
                  have hb := hx14.one.1
                  go_simp
                clear hK K
                refine wpAnyC_reads 4 cD (by kernel_rfl) (by kernel_rfl) (by kernel_rfl) (fun d _ _ _ _ h => by cases d <;> exact h) (fun oi ho K hK => ?_)
                simp only [List.getElem?_toArray, List.getElem?_cons_succ, List.getElem?_cons_zero, Option.some.injEq] at ho
                subst ho
                rw [if_pos (by kernel_rfl)]
                refine ⟨.agg #[.slice (some ⟨b, off, none⟩) ts.length cap], fun w' hw' => ?_, hK _ ?_⟩
                · obtain ⟨hx4, hx6, hx10, hx11, hx12, hx14⟩ := hw'
                  have hs := hx4.one.1
                  obtain ⟨he0, he1, he2⟩ := hx6.three
                  obtain ⟨hg0, hg1, hg2, hg3, hg4, hg5, hg6⟩ := hx10.seven
                  obtain ⟨hd0, hd1, hd2, hd3, hd4, hd5, hd6⟩ := hx11.seven
                  have ha := hx12.one.1
                  have hb := hx14.one.1
                  go_simp
                clear hK K
                refine wpAnyC_calls 5 (by kernel_rfl) (fun oi ho K hK => ?_)
                simp only [List.getElem?_toArray, List.getElem?_cons_succ, List.getElem?_cons_zero, Option.some.injEq] at ho
                subst ho
                go_simp
                refine (unhide cE).mono ?_
                rintro e w20 ⟨Bb, rfl, hb20, hBb⟩
                obtain rfl : Bb = true := (unhide hBb).2 rfl
                have cF : Box w20 w.heap.size 24 #[.slice (some ⟨b, off, none⟩) ts.length cap] ∧ Box w20 (w.heap.size + 1) 31 #[.string t.1, .int .i64 tm, .slice av vs.length cv] ∧ Box w20 wc.heap.size 28 ((cRen nm f0)).cs ∧ Box w20 (wc.heap.size + 1) 28 ((cBack nm f0)).cs ∧ Box w20 w6.heap.size 24 #[.slice a6 L.length c6] ∧ Box w20 w8.heap.size 24 #[.slice a8 ts.length c8] := ⟨cD.1.on hb20 cD.1.lt, cD.2.1.on hb20 cD.2.1.lt, cD.2.2.1.on hb20 cD.2.2.1.lt, cD.2.2.2.1.on hb20 cD.2.2.2.1.lt, cD.2.2.2.2.1.on hb20 cD.2.2.2.2.1.lt, cD.2.2.2.2.2.on hb20 cD.2.2.2.2.2.lt⟩
                go_simp
                refine hK _ _ cF ?_
                clear hK K
                refine wpAnyC_reads 6 cF (by kernel_rfl) (by kernel_rfl) (by kernel_rfl) (fun d _ _ _ _ h => by cases d <;> exact h) (fun oi ho K hK => ?_)
                simp only [List.getElem?_toArray, List.getElem?_cons_succ, List.getElem?_cons_zero, Option.some.injEq] at ho
                subst ho
                rw [if_pos (by kernel_rfl)]
                refine ⟨.bool true, fun w' hw' => ?_, hK _ ?_⟩
                · clear hw'
                  go_simp
                clear hK K
                refine wpAnyC_reads 7 cF (by kernel_rfl) (by kernel_rfl) (by kernel_rfl) (fun d _ _ _ _ h => by cases d <;> exact h) (fun oi ho K hK => ?_)
                simp only [List.getElem?_toArray, List.getElem?_cons_succ, List.getElem?_cons_zero, Option.some.injEq] at ho
                subst ho
                rw [if_pos (by kernel_rfl)]
                refine ⟨.bool true, fun w' hw' => ?_, hK _ ?_⟩
                · clear hw'
                  go_simp
                clear hK K
                refine wpAnyC_reads 8 cF (by kernel_rfl) (by kernel_rfl) (by kernel_rfl) (fun d _ _ _ _ h => by cases d <;> exact h) (fun oi ho K hK => ?_)
                simp only [List.getElem?_toArray, List.getElem?_cons_succ, List.getElem?_cons_zero, Option.some.injEq] at ho
                subst ho
                rw [if_pos (by kernel_rfl)]
                refine ⟨.agg #[.slice a6 L.length c6], fun w' hw' => ?_, hK _ ?_⟩
                · obtain ⟨hx4, hx6, hx10, hx11, hx12, hx14⟩ := hw'
                  have hs := hx4.one.1
                  obtain ⟨he0, he1, he2⟩ := hx6.three
                  obtain ⟨hg0, hg1, hg2, hg3, hg4, hg5, hg6⟩ := hx10.seven
                  obtain ⟨hd0, hd1, hd2, hd3, hd4, hd5, hd6⟩ := hx11.seven
                  have ha := hx12.one.1
                  have hb := hx14.one.1
                  go_simp
                clear hK K
                refine wpAnyC_reads 9 cF (by kernel_rfl) (by kernel_rfl) (by kernel_rfl) (fun d _ _ _ _ h => by cases d <;> exact h) (fun oi ho K hK => ?_)
                simp only [List.getElem?_toArray, List.getElem?_cons_succ, List.getElem?_cons_zero, Option.some.injEq] at ho
                subst ho
                rw [if_pos (by kernel_rfl)]
                refine ⟨((cBack nm f0)).v, fun w' hw' => ?_, hK _ ?_⟩
                · obtain ⟨hx4, hx6, hx10, hx11, hx12, hx14⟩ := hw'
                  have hs := hx4.one.1
                  obtain ⟨he0, he1, he2⟩ := hx6.three
                  obtain ⟨hg0, hg1, hg2, hg3, hg4, hg5, hg6⟩ := hx10.seven
                  obtain ⟨hd0, hd1, hd2, hd3, hd4, hd5, hd6⟩ := hx11.seven
                  have ha := hx12.one.1
                  have hb := hx14.one.1
                  go_simp
                clear hK K
                refine wpAnyC_reads 10 cF (by kernel_rfl) (by kernel_rfl) (by kernel_rfl) (fun d _ _ _ _ h => by cases d <;> exact h) (fun oi ho K hK => ?_)
                simp only [List.getElem?_toArray, List.getElem?_cons_succ, List.getElem?_cons_zero, Option.some.injEq] at ho
                subst ho
                rw [if_pos (by kernel_rfl)]
                refine ⟨.agg #[.slice (some ⟨b, off, none⟩) ts.length cap], fun w' hw' => ?_, hK _ ?_⟩
                · obtain ⟨hx4, hx6, hx10, hx11, hx12, hx14⟩ := hw'
                  have hs := hx4.one.1
                  obtain ⟨he0, he1, he2⟩ := hx6.three
                  obtain ⟨hg0, hg1, hg2, hg3, hg4, hg5, hg6⟩ := hx10.seven
                  obtain ⟨hd0, hd1, hd2, hd3, hd4, hd5, hd6⟩ := hx11.seven
                  have ha := hx12.one.1
                  have hb := hx14.one.1
                  go_simp
                clear hK K
                refine wpAnyC_reads 11 cF (by kernel_rfl) (by kernel_rfl) (by kernel_rfl) (fun d _ _ _ _ h => by cases d <;> exact h) (fun oi ho K hK => ?_)
                simp only [List.getElem?_toArray, List.getElem?_cons_succ, List.getElem?_cons_zero, Option.some.injEq] at ho
                subst ho
                rw [if_pos (by kernel_rfl)]
                refine ⟨((cRen nm f0)).v, fun w' hw' => ?_, hK _ ?_⟩
                · obtain ⟨hx4, hx6, hx10, hx11, hx12, hx14⟩ := hw'
                  have hs := hx4.one.1
                  obtain ⟨he0, he1, he2⟩ := hx6.three
                  obtain ⟨hg0, hg1, hg2, hg3, hg4, hg5, hg6⟩ := hx10.seven
                  obtain ⟨hd0, hd1, hd2, hd3, hd4, hd5, hd6⟩ := hx11.seven
                  have ha := hx12.one.1
                  have hb := hx14.one.1
                  go_simp
                clear hK K
                refine wpAnyC_reads 12 cF (by kernel_rfl) (by kernel_rfl) (by kernel_rfl) (fun d _ _ _ _ h => by cases d <;> exact h) (fun oi ho K hK => ?_)
                simp only [List.getElem?_toArray, List.getElem?_cons_succ, List.getElem?_cons_zero, Option.some.injEq] at ho
                subst ho
                rw [if_pos (by kernel_rfl)]
                refine ⟨.agg #[.string t.1, .int .i64 tm, .slice av vs.length cv], fun w' hw' => ?_, hK _ ?_⟩
                · obtain ⟨hx4, hx6, hx10, hx11, hx12, hx14⟩ := hw'
                  have hs := hx4.one.1
                  obtain ⟨he0, he1, he2⟩ := hx6.three
                  obtain ⟨hg0, hg1, hg2, hg3, hg4, hg5, hg6⟩ := hx10.seven
                  obtain ⟨hd0, hd1, hd2, hd3, hd4, hd5, hd6⟩ := hx11.seven
                  have ha := hx12.one.1
                  have hb := hx14.one.1
                  go_simp
                clear hK K
                refine wpAnyC_reads 15 cF (by kernel_rfl) (by kernel_rfl) (by kernel_rfl) (fun d _ _ _ _ h => by cases d <;> exact h) (fun oi ho K hK => ?_)
                simp only [List.getElem?_toArray, List.getElem?_cons_succ, List.getElem?_cons_zero, Option.some.injEq] at ho
                subst ho
                rw [if_pos (by kernel_rfl)]
                refine ⟨.agg #[.string t.1, .int .i64 tm, .slice av vs.length cv], fun w' hw' => ?_, hK _ ?_⟩
                · obtain ⟨hx4, hx6, hx10, hx11, hx12, hx14⟩ := hw'
                  have hs := hx4.one.1
                  obtain ⟨he0, he1, he2⟩ := hx6.three
                  obtain ⟨hg0, hg1, hg2, hg3, hg4, hg5, hg6⟩ := hx10.seven
                  obtain ⟨hd0, hd1, hd2, hd3, hd4, hd5, hd6⟩ := hx11.seven
                  have ha := hx12.one.1
                  have hb := hx14.one.1
                  go_simp
                clear hK K
                have k20 := bD.trans (hb20.mono bD.size)
                have cG := hide (unhide cM1 w20 (S9.on k20) (V9.on k20))
                refine wpAnyC_calls 13 (by kernel_rfl) (fun oi ho K hK => ?_)
                simp only [List.getElem?_toArray, List.getElem?_cons_succ, List.getElem?_cons_zero, Option.some.injEq] at ho
                subst ho
                go_simp
                refine (unhide cG).mono ?_
                rintro e w21 ⟨a21, c21, rfl, V21, hb21⟩
                have cH : Box w21 w.heap.size 24 #[.slice (some ⟨b, off, none⟩) ts.length cap] ∧ Box w21 (w.heap.size + 1) 31 #[.string t.1, .int .i64 tm, .slice av vs.length cv] ∧ Box w21 wc.heap.size 28 ((cRen nm f0)).cs ∧ Box w21 (wc.heap.size + 1) 28 ((cBack nm f0)).cs ∧ Box w21 w6.heap.size 24 #[.slice a6 L.length c6] ∧ Box w21 w8.heap.size 24 #[.slice a8 ts.length c8] := ⟨cF.1.on hb21 cF.1.lt, cF.2.1.on hb21 cF.2.1.lt, cF.2.2.1.on hb21 cF.2.2.1.lt, cF.2.2.2.1.on hb21 cF.2.2.2.1.lt, cF.2.2.2.2.1.on hb21 cF.2.2.2.2.1.lt, cF.2.2.2.2.2.on hb21 cF.2.2.2.2.2.lt⟩
                go_simp
                refine hK _ _ cH ?_
                clear hK K
                have k21 := k20.trans (hb21.mono k20.size)
                have cJ := hide (unhide cM2 w21 a21 c21 (T9.on k21) V21)
                refine wpAnyC_calls 14 (by kernel_rfl) (fun oi ho K hK => ?_)
                simp only [List.getElem?_toArray, List.getElem?_cons_succ, List.getElem?_cons_zero, Option.some.injEq] at ho
                subst ho
                go_simp
                refine (unhide cJ).mono ?_
                rintro e w22 ⟨a22, c22, rfl, V22, hb22⟩
                have cK : Box w22 w.heap.size 24 #[.slice (some ⟨b, off, none⟩) ts.length cap] ∧ Box w22 (w.heap.size + 1) 31 #[.string t.1, .int .i64 tm, .slice av vs.length cv] ∧ Box w22 wc.heap.size 28 ((cRen nm f0)).cs ∧ Box w22 (wc.heap.size + 1) 28 ((cBack nm f0)).cs ∧ Box w22 w6.heap.size 24 #[.slice a6 L.length c6] ∧ Box w22 w8.heap.size 24 #[.slice a8 ts.length c8] := ⟨cH.1.on hb22 cH.1.lt, cH.2.1.on hb22 cH.2.1.lt, cH.2.2.1.on hb22 cH.2.2.1.lt, cH.2.2.2.1.on hb22 cH.2.2.2.1.lt, cH.2.2.2.2.1.on hb22 cH.2.2.2.2.1.lt, cH.2.2.2.2.2.on hb22 cH.2.2.2.2.2.lt⟩
                go_simp
                refine hK _ _ cK ?_
                clear hK K
                have k22 := k21.trans (hb22.mono k21.size)
                have cQ := refSame_c ⟨t, tm, vs⟩ ⟨t, tm, vs⟩ a22 av c22 cv h20 h20 w22 V22 (V9.on k22)
                rw [sameE_self] at cQ
                replace cQ := hide cQ
                refine wpAnyC_calls 16 (by kernel_rfl) (fun oi ho K hK => ?_)
                simp only [List.getElem?_toArray, List.getElem?_cons_succ, List.getElem?_cons_zero, Option.some.injEq] at ho
                subst ho
                go_simp
                refine (unhide cQ).mono ?_
                rintro e w23 ⟨rfl, hb23⟩
                have cR : Box w23 w.heap.size 24 #[.slice (some ⟨b, off, none⟩) ts.length cap] ∧ Box w23 (w.heap.size + 1) 31 #[.string t.1, .int .i64 tm, .slice av vs.length cv] ∧ Box w23 wc.heap.size 28 ((cRen nm f0)).cs ∧ Box w23 (wc.heap.size + 1) 28 ((cBack nm f0)).cs ∧ Box w23 w6.heap.size 24 #[.slice a6 L.length c6] ∧ Box w23 w8.heap.size 24 #[.slice a8 ts.length c8] := ⟨cK.1.on hb23 cK.1.lt, cK.2.1.on hb23 cK.2.1.lt, cK.2.2.1.on hb23 cK.2.2.1.lt, cK.2.2.2.1.on hb23 cK.2.2.2.1.lt, cK.2.2.2.2.1.on hb23 cK.2.2.2.2.1.lt, cK.2.2.2.2.2.on hb23 cK.2.2.2.2.2.lt⟩
                go_simp
                refine hK _ _ cR ?_
                clear hK K
                refine wpAnyC_reads 17 cR (by kernel_rfl) (by kernel_rfl) (by kernel_rfl) (fun d _ _ _ _ h => by cases d <;> exact h) (fun oi ho K hK => ?_)
                simp only [List.getElem?_toArray, List.getElem?_cons_succ, List.getElem?_cons_zero, Option.some.injEq] at ho
                subst ho
                rw [if_pos (by kernel_rfl)]
                refine ⟨.bool true, fun w' hw' => ?_, hK _ ?_⟩
                · clear hw'
                  go_simp
                clear hK K
                refine wpAnyC_reads 18 cR (by kernel_rfl) (by kernel_rfl) (by kernel_rfl) (fun d _ _ _ _ h => by cases d <;> exact h) (fun oi ho K hK => ?_)
                simp only [List.getElem?_toArray, List.getElem?_cons_succ, List.getElem?_cons_zero, Option.some.injEq] at ho
                subst ho
                rw [if_pos (by kernel_rfl)]
                refine ⟨.bool true, fun w' hw' => ?_, hK _ ?_⟩
                · clear hw'
                  go_simp
                clear hK K
                refine wpAnyC_done (by kernel_rfl) ?_ _
                go_wp2
                go_ret
                have k23 := k22.trans (hb23.mono k22.size)
                exact ⟨rfl, b9.trans (k23.mono b9.size)⟩
              · have hno := hne h0
                rw [errE_no h0]
                obtain ⟨en, hen⟩ : ∃ en, en = refE ts (cRen nm f0) := ⟨_, rfl⟩
                rw [← hen]
                obtain ⟨L, hL⟩ : ∃ L, L = appT ts (cRen nm f0) := ⟨_, rfl⟩
                rw [← hL]
                clear hen h0 hud hne hL T6
                have bA : Below W.heap.size W (w6.alloc (.cells #[.slice a6 L.length c6] 24)) := hb6.alloc hb6.size _
                have r9 := p9.on bA p9.lt
                have F7 := FW.on bA
                have b7 := bW.trans (bA.mono bW.size)
                obtain ⟨hm0, hm1⟩ := r9.two
                have cFi := refField_c nm.1 tFresh.1 _ c1 fs hf5 _ F7
                cases hp : placeN (fnames fs) tFresh.1 with
                | none =>
                  have hl5 : fs.length = 5 := by
                    rcases hno with h | h
                    · simp [hasB, hp] at h
                    · exact h
                  have hl5' : ((fs.length : Int) == 5) = true := by simp [hl5]
                  rw [show placeI (fnames fs) tFresh.1 = -1 by simp [placeI, hp]] at cFi
                  replace cFi := hide cFi
                  clear hno hp hl5
                  go_wp2_with fail
                  refine (unhide cFi).mono ?_
                  rintro e w9 ⟨rfl, hb9⟩
                  clear hm0 hm1
                  obtain ⟨hm0, hm1⟩ := (r9.on hb9 r9.lt).two
                  go_wp2_with fail
                  go_ret
                  exact ⟨rfl, b7.trans (hb9.mono b7.size)⟩
                | some k =>
                  rw [show placeI (fnames fs) tFresh.1 = (k : Int) by simp [placeI, hp]] at cFi
                  replace cFi := hide cFi
                  clear hno hp
                  go_wp2_with fail
                  refine (unhide cFi).mono ?_
                  rintro e w9 ⟨rfl, hb9⟩
                  go_wp2_with fail
                  go_ret
                  exact ⟨rfl, b7.trans (hb9.mono b7.size)⟩
      · obtain ⟨n, hn⟩ : ∃ n, n = isE ts ⟨t, tm, vs⟩ := ⟨_, rfl⟩
        rw [← hn] at cI hi
        have hn' : (n != 0) = true := by simp [hi]
        replace cI := hide cI
        clear hn hi
        go_wp2_with fail
        refine (unhide cI).mono ?_
        rintro e w3 ⟨rfl, hb3⟩
        go_wp2_with fail
        go_ret
        exact ⟨rfl, b2.trans (hb3.mono b2.size)⟩
    · have cI := hide (refIsE_far a av cap cv ts t tm vs h5 hk5 (by omega) hmv w2 T2)
      go_wp2_with fail
      refine (unhide cI).mono ?_
      rintro e w3 ⟨r, hr, rfl, hb3⟩
      have hr' : (r != 0) = true := by simp [hr]
      clear hr
      go_wp2_with fail
      go_ret
      exact ⟨rfl, b2.trans (hb3.mono b2.size)⟩

end Go.Proofs.Ytjbgojemgpeokaa
