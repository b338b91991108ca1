/-
  What EvolveKeeps answers: true, for every schema, change and event, in whatever world; nothing that lay is turned.
-/
import Derived.Test.YtjbgojemgpeokaaRight
import Derived.Test.YtjbgojemgpeokaaRefGet
import Derived.Test.YtjbgojemgpeokaaReadsTwo
import Derived.Test.YtjbgojemgpeokaaPureGet
namespace Go.Proofs.Ytjbgojemgpeokaa
open Go.RowKit Go.Shelf

theorem gotV_form (o : Option Vl) : ∃ (wv : Vl) (b : Bool), gotV o = .tuple #[.agg #[.int .i64 wv.1, .int .i64 wv.2.1, .string wv.2.2.1], .bool b] := by
  cases o with
  | none => exact ⟨(0, 0, noTxt), false, rfl⟩
  | some v => exact ⟨v, true, rfl⟩

set_option maxRecDepth 100000 in
set_option maxHeartbeats 16000000 in
theorem keeps_c (a av : Option Addr) (cap cv : Nat) (ts : List Ty) (c : Ch) (x : Ev) (hm : ts.length ≤ maxLen) (hmv : x.vs.length ≤ maxLen) (w : World) (hT : Typs w.heap.size w a ts) (hV : Vals w.heap.size w av x.vs) :
    Calls Try.prog 4 #[.agg #[.slice a ts.length cap], c.v, .agg #[.string x.ty.1, .int .i64 x.ts, .slice av x.vs.length cv]] w fun e w' => e = .returned (.bool true) ∧ Below w.heap.size w w' := by
  obtain ⟨t, tm, vs⟩ := x
  simp only at hmv hV ⊢
  obtain ⟨W0, hW0⟩ : ∃ W0, W0 = ((w.alloc (.cells #[.slice a ts.length cap] 24)).alloc (.cells c.cs 28)).alloc (.cells #[.string t.1, .int .i64 tm, .slice av vs.length cv] 31) := ⟨_, rfl⟩
  have b0 : Below w.heap.size w W0 := by rw [hW0]; exact (((Below.refl _ _).alloc (Nat.le_refl _) _).alloc (by simp) _).alloc (by simp; omega) _
  have x3 : Box W0 w.heap.size 24 #[.slice a ts.length cap] := by
    rw [hW0]; exact ((Box.new w 24 #[.slice a ts.length cap]).alloc _).alloc _
  have x4 : Box W0 (w.heap.size + 1) 28 c.cs := by
    have := Box.new (w.alloc (.cells #[.slice a ts.length cap] 24)) 28 c.cs
    simp only [World.size_alloc] at this
    rw [hW0]; exact this.alloc _
  have x5 : Box W0 (w.heap.size + 1 + 1) 31 #[.string t.1, .int .i64 tm, .slice av vs.length cv] := by
    have := Box.new ((w.alloc (.cells #[.slice a ts.length cap] 24)).alloc (.cells c.cs 28)) 31 #[.string t.1, .int .i64 tm, .slice av vs.length cv]
    simp only [World.size_alloc] at this
    rw [hW0]; exact this
  have T0 := hT.on b0
  have V0 := hV.on b0
  have hW0' := hide hW0
  clear hW0
  go_enter Try.func4, Try.ntmps4
  go_wp2_with fail
  rw [show Obj.cells #[Value.int .i64 c.k, .string c.t.1, .string c.f.1, .string c.o.1, .int .i64 c.dk, .int .i64 c.dn, .string c.ds.1] 28 = Obj.cells c.cs 28 from rfl, ← unhide hW0']
  refine (known_c W0).mono ?_
  rintro e w1 ⟨rfl, hb1⟩
  have y3 := x3.on hb1 x3.lt
  have T1 := T0.on hb1
  have hs := y3.one.1
  have cS := hide (refSch_c a cap ts hm w1 T1)
  go_wp2_with fail
  refine (unhide cS).mono ?_
  rintro e w2 ⟨B, rfl, hb2, hB⟩
  clear cS hs
  have q2 := hb1.trans (hb2.mono hb1.size)
  have b2 := b0.trans (q2.mono b0.size)
  have z3 := x3.on q2 x3.lt
  have z4 := x4.on q2 x4.lt
  have z5 := x5.on q2 x5.lt
  have T2 := T0.on q2
  have V2 := V0.on q2
  have hs := z3.one.1
  obtain ⟨he0, he1, he2⟩ := z5.three
  cases B with
  | false =>
    go_wp2_with fail
    go_ret
    exact ⟨rfl, b2⟩
  | true =>
    have hS : Sch ts := (unhide hB).1 rfl
    by_cases h20 : vs.length ≤ 20
    · have h20' : ¬ (20 : Int) < vs.length := by omega
      have h5 := hS.1
      have hk5 := sch_hk5 hS
      have cI := refIsE_c a av cap cv ts ⟨t, tm, vs⟩ h5 hk5 h20 w2 T2 V2
      replace hS := hide hS
      clear hB
      by_cases hi : isE ts ⟨t, tm, vs⟩ = 0
      · rw [hi] at cI
        replace cI := hide cI
        have hi' := hide hi
        clear hi
        go_wp2_with fail
        refine (unhide cI).mono ?_
        rintro e w3 ⟨rfl, hb3⟩
        clear cI hs he0 he1 he2
        have u3 := z3.on hb3 z3.lt
        have u4 := z4.on hb3 z4.lt
        have u5 := z5.on hb3 z5.lt
        have S3 := T2.on hb3
        have V3 := V2.on hb3
        have b3 := b2.trans (hb3.mono b2.size)
        have hs := u3.one.1
        obtain ⟨hc0, hc1, hc2, hc3, hc4, hc5, hc6⟩ := u4.seven
        have cA := hide (apply_c a cap ts c h5 hk5 w3 S3)
        go_wp2_with fail
        refine (unhide cA).mono ?_
        rintro e w4 ⟨a4, c4, rfl, T4, hb4⟩
        clear cA hs hc0 hc1 hc2 hc3 hc4 hc5 hc6
        by_cases h0 : refE ts c = 0
        · have eA : appT ts c = tNew c ts := by simp [appT, h0]
          rw [eA] at T4 ⊢
          rw [h0, errE_zero]
          obtain ⟨L, hL⟩ : ∃ L, L = tNew c ts := ⟨_, rfl⟩
          have hSn := sch_new (unhide hS) h0
          have hk5n := sch_hk5 hSn
          have h5n := hSn.1
          rw [← hL] at T4 h5n hk5n ⊢
          clear hSn eA
          have bA : Below w3.heap.size w3 (w4.alloc (.cells #[.slice a4 L.length c4] 24)) := hb4.alloc hb4.size _
          have bA4 : Below w4.heap.size w4 (w4.alloc (.cells #[.slice a4 L.length c4] 24)) := (Below.refl _ _).alloc (Nat.le_refl _) _
          have v3 := u3.on bA u3.lt
          have v4 := u4.on bA u4.lt
          have v5 := u5.on bA u5.lt
          have v7 := Box.new w4 24 #[.slice a4 L.length c4]
          have S5 := S3.on bA
          have V5 := V3.on bA
          have T5 := T4.on bA4
          have b5 := b3.trans (bA.mono b3.size)
          have hs := v3.one.1
          obtain ⟨hc0, hc1, hc2, hc3, hc4, hc5, hc6⟩ := v4.seven
          obtain ⟨he0, he1, he2⟩ := v5.three
          -- the event's type, and what becomes of it
          obtain ⟨tt, hft, hE⟩ := isE_found (unhide hi')
          have hmv' := movE_find ts c ⟨t, tm, vs⟩ tt hft h0 (unhide hi')
          have hfn := find_moved h0 hft
          have hka := hide (keeps_at (unhide hS) h0 (unhide hi') hft)
          rw [← hL] at hfn hka
          obtain ⟨N, hN⟩ : ∃ N, N = vNew tt.1 c tt.2 vs := ⟨_, rfl⟩
          obtain ⟨F, hF⟩ : ∃ F, F = fNew tt.1 c tt.2 := ⟨_, rfl⟩
          have hNF : N.length = F.length := by rw [hN, hF]; simp [vNew, fNew]
          have hF5 : F.length ≤ 6 := by
            have := fNew_len tt.1 c tt.2
            have := (((sch_iff ts).1 (unhide hS)).2.1 tt (findT_mem hft).1).2.1
            rw [hF]; omega
          have hch : chgT c tt = (tt.1, F) := by rw [hF]; rfl
          rw [hch] at hfn
          have hmvs : (movE ts c ⟨t, tm, vs⟩).vs = N := by rw [hmv', hN]
          have hkm : ∀ i, i < F.length → getE L ⟨t, tm, N⟩ (fd F i).1.1 = some (vl N i) ∧ (key t ≠ key c.t → ∃ wv, getE ts ⟨t, tm, vs⟩ (fd F i).1.1 = some wv ∧ (vl N i).2 = wv.2) ∧ (key t = key c.t → (backN c (fd F i).1 = none ∧ vl N i = (c.dk, c.dn, c.ds)) ∨ ∃ s wv, backN c (fd F i).1 = some s ∧ getE ts ⟨t, tm, vs⟩ s.1 = some wv ∧ (vl N i).2 = wv.2) := by
            intro i hil
            have h := unhide hka i (by rw [← hF]; exact hil)
            rw [hmv'] at h
            simp only at h
            rw [← hN, ← hF] at h
            exact h
          clear hka hch
          have cM := move_c a av cap cv ts c ⟨t, tm, vs⟩ h5 hk5 h20 _ S5 V5
          rw [hmvs] at cM
          replace cM := hide cM
          replace hkm := hide hkm
          replace hfn := hide hfn
          replace hNF := hide hNF
          have hNl : N.length ≤ 20 := by rw [unhide hNF]; omega
          clear hmvs hmv' hN hF hE hft h0
          replace hL := hide hL
          go_wp2_with fail
          refine (unhide cM).mono ?_
          rintro e w6 ⟨a6, c6, rfl, V6, hb6⟩
          simp only
          clear cM hs hc0 hc1 hc2 hc3 hc4 hc5 hc6 he0 he1 he2
          have bB : Below w6.heap.size w6 (w6.alloc (.cells #[.string t.1, .int .i64 tm, .slice a6 N.length c6] 31)) := (Below.refl _ _).alloc (Nat.le_refl _) _
          have q6 := hb6.trans (bB.mono hb6.size)
          have r3 := v3.on q6 v3.lt
          have r4 := v4.on q6 v4.lt
          have r5 := v5.on q6 v5.lt
          have r7 := v7.on q6 v7.lt
          have r9 := Box.new w6 31 #[.string t.1, .int .i64 tm, .slice a6 N.length c6]
          have S7 := S5.on q6
          have V7 := V5.on q6
          have T7 := T5.on q6
          have N7 := V6.on bB
          have b7 := b5.trans (q6.mono b5.size)
          have ha := r7.one.1
          obtain ⟨he0, he1, he2⟩ := r5.three
          have cF := hide (refFind_c a4 c4 L t.1 h5n _ T7)
          go_wp2_with fail
          refine (unhide cF).mono ?_
          rintro e w8 ⟨hb8, hcase⟩
          clear cF ha he0 he1 he2
          obtain ⟨a9, c9, rfl, hF9⟩ : ∃ a9 c9, e = .returned (.tuple #[.agg #[.string tt.1.1, .slice a9 F.length c9], .bool true]) ∧ Flds w8.heap.size w8 a9 F := by
            have hfn := unhide hfn
            rw [findT_place] at hfn
            rcases unhide hcase with ⟨hp, _⟩ | ⟨k, a', c', hp, _, rfl, hF⟩
            · rw [hp] at hfn; simp at hfn
            · rw [hp] at hfn
              simp only [Option.map_some, Option.some.injEq] at hfn
              rw [hfn] at hF ⊢
              exact ⟨a', c', rfl, hF⟩
          clear hcase
          have bC : Below w8.heap.size w8 (w8.alloc (.cells #[.string tt.1.1, .slice a9 F.length c9] 44)) := (Below.refl _ _).alloc (Nat.le_refl _) _
          have q8 := hb8.trans (bC.mono hb8.size)
          have s3 := r3.on q8 r3.lt
          have s4 := r4.on q8 r4.lt
          have s5 := r5.on q8 r5.lt
          have s7 := r7.on q8 r7.lt
          have s9 := r9.on q8 r9.lt
          have s10 := Box.new w8 44 #[.string tt.1.1, .slice a9 F.length c9]
          have S9 := S7.on q8
          have V9 := V7.on q8
          have T9 := T7.on q8
          have N9 := N7.on q8
          have F9 := hF9.on bC
          have b9 := b7.trans (q8.mono b7.size)
          obtain ⟨W1, hW1⟩ : ∃ W1, W1 = w8.alloc (.cells #[.string tt.1.1, .slice a9 F.length c9] 44) := ⟨_, rfl⟩
          have hs0 : Hid (Below W1.heap.size W1 (w8.alloc (.cells #[.string tt.1.1, .slice a9 F.length c9] 44))) := by rw [hW1]; exact Below.refl _ _
          rw [← hW1] at s3 s4 s5 s7 s9 s10 S9 V9 T9 N9 F9 b9
          clear hW1 q8 bC hF9 hb8 N7 T7 V7 S7 r3 r4 r5 r7 r9 b7 q6 bB V6 hb6 v3 v4 v5 v7 S5 V5 T5 b5 bA bA4 hb4 T4 b3 u3 u4 u5 S3 V3 hb3 z3 z4 z5 T2 V2 q2 b2 hb2 hb1 y3 T1 x3 x4 x5 T0 V0 b0 hT hV
          replace S9 := hide S9
          replace V9 := hide V9
          replace T9 := hide T9
          replace N9 := hide N9
          replace F9 := hide F9
          go_wp2_with fail
          go_loopw [12] (fun i wr => ∃ q : Nat, q ≤ F.length ∧ i = .int .i64 q ∧ Below W1.heap.size W1 wr) (fun i _ => F.length - (intOf i).toNat)
          case atStart => exact ⟨0, Nat.zero_le _, rfl, unhide hs0⟩
          case round =>
            obtain ⟨q, hq, rfl, hbw⟩ := hrel
            clear hs0
            have o3 := s3.on hbw s3.lt
            have o4 := s4.on hbw s4.lt
            have o5 := s5.on hbw s5.lt
            have o7 := s7.on hbw s7.lt
            have o9 := s9.on hbw s9.lt
            have o10 := s10.on hbw s10.lt
            have hmx : Try.prog.follows .mixedOrders = true := by kernel_rfl
            by_cases hlt : q < F.length
            · rcases (unhide F9).on hbw with rfl | ⟨bf, of', rfl, hbf, hcf⟩
              · simp at hlt
              obtain ⟨f0, -⟩ := hcf q hlt
              clear hcf
              obtain ⟨hget, hnot, hmine⟩ := unhide hkm q hlt
              obtain ⟨hn0, hn1⟩ := o10.two
              obtain ⟨he0, -, -⟩ := o5.three
              have hc1 := o4.seven.2.1
              have cG := fun W h h' => refGet_c a4 a6 c4 c6 L ⟨t, tm, N⟩ (fd F q).1.1 h5n hk5n hNl W h h'
              rw [hget] at cG
              obtain ⟨fn, hfn'⟩ : ∃ fn, fn = (fd F q).1 := ⟨_, rfl⟩
              rw [← hfn'] at cG f0 hnot hmine
              clear hget hfn'
              obtain ⟨⟨vk, vn, vt⟩, hvv⟩ : ∃ v, v = vl N q := ⟨_, rfl⟩
              rw [← hvv] at cG hnot hmine
              rw [show gotV (some (vk, vn, vt)) = .tuple #[.agg #[.int .i64 vk, .int .i64 vn, .string vt.1], .bool true] from rfl] at cG
              replace cG := hide cG
              clear hvv
              cases hqm : (t.1.toList == c.t.1.toList)
              · obtain ⟨⟨wk, wn, wt⟩, hgw, he⟩ := hnot (by simpa using hqm)
                simp only [Prod.mk.injEq] at he
                obtain ⟨rfl, rfl⟩ := he
                have cS := fun W h h' => refGet_c a av cap cv ts ⟨t, tm, vs⟩ fn.1 h5 hk5 h20 W h h'
                rw [hgw, show gotV (some (wk, vn, vt)) = .tuple #[.agg #[.int .i64 wk, .int .i64 vn, .string vt.1], .bool true] from rfl] at cS
                replace cS := hide cS
                clear hgw hnot hmine
                have hbn := hbw
                have cW : Box wr w.heap.size 24 #[.slice a ts.length cap] ∧ Box wr (w.heap.size + 1) 28 c.cs ∧ Box wr (w.heap.size + 1 + 1) 31 #[.string t.1, .int .i64 tm, .slice av vs.length cv] ∧ Box wr w4.heap.size 24 #[.slice a4 L.length c4] ∧ Box wr w6.heap.size 31 #[.string t.1, .int .i64 tm, .slice a6 N.length c6] ∧ Box wr w8.heap.size 44 #[.string tt.1.1, .slice (some ⟨bf, of', none⟩) F.length c9] ∧ wr.cell? ⟨bf, of' + q * 2, none⟩ = some (.string fn.1) := ⟨o3, o4, o5, o7, o9, o10, f0⟩
                go_upto_region 16 with fail
                clear hn0 hn1 he0 hc1 f0
                go_cut [15, 16] (fun x y wx => ∃ Bv, x = .pointer (some ⟨Bv, 0, none⟩) ∧ y = .bool true ∧ Box wx Bv 26 #[.int .i64 vk, .int .i64 vn, .string vt.1] ∧ Below wr.heap.size wr wx)
                case first =>
                  clear cS
                  have bD : Below wr.heap.size wr wr.drew := (Below.refl _ _).drew
                  have cD : Box wr.drew w.heap.size 24 #[.slice a ts.length cap] ∧ Box wr.drew (w.heap.size + 1) 28 c.cs ∧ Box wr.drew (w.heap.size + 1 + 1) 31 #[.string t.1, .int .i64 tm, .slice av vs.length cv] ∧ Box wr.drew w4.heap.size 24 #[.slice a4 L.length c4] ∧ Box wr.drew w6.heap.size 31 #[.string t.1, .int .i64 tm, .slice a6 N.length c6] ∧ Box wr.drew w8.heap.size 44 #[.string tt.1.1, .slice (some ⟨bf, of', none⟩) F.length c9] ∧ wr.drew.cell? ⟨bf, of' + q * 2, none⟩ = some (.string fn.1) := ⟨cW.1.on bD cW.1.lt, cW.2.1.on bD cW.2.1.lt, cW.2.2.1.on bD cW.2.2.1.lt, cW.2.2.2.1.on bD cW.2.2.2.1.lt, cW.2.2.2.2.1.on bD cW.2.2.2.2.1.lt, cW.2.2.2.2.2.1.on bD cW.2.2.2.2.2.1.lt, (bD.cell (p := ⟨bf, of' + q * 2, none⟩) (cell_lt cW.2.2.2.2.2.2)).trans cW.2.2.2.2.2.2⟩
                  have bZ : Below wr.drew.heap.size wr.drew (wr.drew.alloc (.cells #[.int .i64 0, .int .i64 0, .string ⟨#[]⟩] 26)) := (Below.refl _ _).alloc (Nat.le_refl _) _
                  have cZ : Box (wr.drew.alloc (.cells #[.int .i64 0, .int .i64 0, .string ⟨#[]⟩] 26)) w.heap.size 24 #[.slice a ts.length cap] ∧ Box (wr.drew.alloc (.cells #[.int .i64 0, .int .i64 0, .string ⟨#[]⟩] 26)) (w.heap.size + 1) 28 c.cs ∧ Box (wr.drew.alloc (.cells #[.int .i64 0, .int .i64 0, .string ⟨#[]⟩] 26)) (w.heap.size + 1 + 1) 31 #[.string t.1, .int .i64 tm, .slice av vs.length cv] ∧ Box (wr.drew.alloc (.cells #[.int .i64 0, .int .i64 0, .string ⟨#[]⟩] 26)) w4.heap.size 24 #[.slice a4 L.length c4] ∧ Box (wr.drew.alloc (.cells #[.int .i64 0, .int .i64 0, .string ⟨#[]⟩] 26)) w6.heap.size 31 #[.string t.1, .int .i64 tm, .slice a6 N.length c6] ∧ Box (wr.drew.alloc (.cells #[.int .i64 0, .int .i64 0, .string ⟨#[]⟩] 26)) w8.heap.size 44 #[.string tt.1.1, .slice (some ⟨bf, of', none⟩) F.length c9] ∧ (wr.drew.alloc (.cells #[.int .i64 0, .int .i64 0, .string ⟨#[]⟩] 26)).cell? ⟨bf, of' + q * 2, none⟩ = some (.string fn.1) := ⟨cD.1.on bZ cD.1.lt, cD.2.1.on bZ cD.2.1.lt, cD.2.2.1.on bZ cD.2.2.1.lt, cD.2.2.2.1.on bZ cD.2.2.2.1.lt, cD.2.2.2.2.1.on bZ cD.2.2.2.2.1.lt, cD.2.2.2.2.2.1.on bZ cD.2.2.2.2.2.1.lt, (bZ.cell (p := ⟨bf, of' + q * 2, none⟩) (cell_lt cD.2.2.2.2.2.2)).trans cD.2.2.2.2.2.2⟩
                  have q1 := hbn.trans (bD.mono hbn.size)
                  have q2 := q1.trans (bZ.mono q1.size)
                  have cG1 := hide (unhide cG wr.drew ((unhide T9).on q1) ((unhide N9).on q1))
                  have cG2 := hide (unhide cG (wr.drew.alloc (.cells #[.int .i64 0, .int .i64 0, .string ⟨#[]⟩] 26)) ((unhide T9).on q2) ((unhide N9).on q2))
                  have xz : Box (wr.drew.alloc (.cells #[.int .i64 0, .int .i64 0, .string ⟨#[]⟩] 26)) wr.heap.size 26 #[.int .i64 0, .int .i64 0, .string ⟨#[]⟩] := Box.new wr.drew 26 #[.int .i64 0, .int .i64 0, .string ⟨#[]⟩]
                  refine wp_region_any hmx (wpAny_of_C (C := fun w' => Box w' w.heap.size 24 #[.slice a ts.length cap] ∧ Box w' (w.heap.size + 1) 28 c.cs ∧ Box w' (w.heap.size + 1 + 1) 31 #[.string t.1, .int .i64 tm, .slice av vs.length cv] ∧ Box w' w4.heap.size 24 #[.slice a4 L.length c4] ∧ Box w' w6.heap.size 31 #[.string t.1, .int .i64 tm, .slice a6 N.length c6] ∧ Box w' w8.heap.size 44 #[.string tt.1.1, .slice (some ⟨bf, of', none⟩) F.length c9] ∧ w'.cell? ⟨bf, of' + q * 2, none⟩ = some (.string fn.1)) _ _ _ _ ?_)
                  refine wpAnyC_reads 0 cD (by kernel_rfl) (by kernel_rfl) (by kernel_rfl) (fun d _ _ _ _ h => by cases d <;> exact h) (fun oi ho K hK => ?_)
                  simp only [List.getElem?_toArray, List.getElem?_cons_zero, Option.some.injEq] at ho
                  subst ho
                  rw [if_pos (by kernel_rfl)]
                  refine ⟨.agg #[.slice a4 L.length c4], fun w' hw' => ?_, hK _ ?_⟩
                  · obtain ⟨hx3, hx4, hx5, hx7, hx9, hx10, hxf⟩ := hw'
                    have hs := hx3.one.1
                    obtain ⟨hc0, hc1, hc2, hc3, hc4, hc5, hc6⟩ := hx4.seven
                    obtain ⟨he0, he1, he2⟩ := hx5.three
                    have ha := hx7.one.1
                    obtain ⟨hm0, hm1, hm2⟩ := hx9.three
                    obtain ⟨hn0, hn1⟩ := hx10.two
                    go_simp
                  clear hK K
                  refine wpAnyC_reads 1 cD (by kernel_rfl) (by kernel_rfl) (by kernel_rfl) (fun d _ _ _ _ h => by cases d <;> exact h) (fun oi ho K hK => ?_)
                  simp only [List.getElem?_toArray, List.getElem?_cons_succ, List.getElem?_cons_zero, Option.some.injEq] at ho
                  subst ho
                  rw [if_pos (by kernel_rfl)]
                  refine ⟨.agg #[.string t.1, .int .i64 tm, .slice a6 N.length c6], fun w' hw' => ?_, hK _ ?_⟩
                  · obtain ⟨hx3, hx4, hx5, hx7, hx9, hx10, hxf⟩ := hw'
                    have hs := hx3.one.1
                    obtain ⟨hc0, hc1, hc2, hc3, hc4, hc5, hc6⟩ := hx4.seven
                    obtain ⟨he0, he1, he2⟩ := hx5.three
                    have ha := hx7.one.1
                    obtain ⟨hm0, hm1, hm2⟩ := hx9.three
                    obtain ⟨hn0, hn1⟩ := hx10.two
                    go_simp
                  clear hK K
                  refine wpAnyC_reads 2 cD (by kernel_rfl) (by kernel_rfl) (by kernel_rfl) (fun d _ _ _ _ h => by cases d <;> exact h) (fun oi ho K hK => ?_)
                  simp only [List.getElem?_toArray, List.getElem?_cons_succ, List.getElem?_cons_zero, Option.some.injEq] at ho
                  subst ho
                  rw [if_pos (by kernel_rfl)]
                  refine ⟨.pointer (some ⟨w8.heap.size, 1, none⟩), fun w' hw' => ?_, hK _ ?_⟩
                  · obtain ⟨hx3, hx4, hx5, hx7, hx9, hx10, hxf⟩ := hw'
                    have hs := hx3.one.1
                    obtain ⟨hc0, hc1, hc2, hc3, hc4, hc5, hc6⟩ := hx4.seven
                    obtain ⟨he0, he1, he2⟩ := hx5.three
                    have ha := hx7.one.1
                    obtain ⟨hm0, hm1, hm2⟩ := hx9.three
                    obtain ⟨hn0, hn1⟩ := hx10.two
                    go_simp
                  clear hK K
                  refine wpAnyC_reads 3 cD (by kernel_rfl) (by kernel_rfl) (by kernel_rfl) (fun d _ _ _ _ h => by cases d <;> exact h) (fun oi ho K hK => ?_)
                  simp only [List.getElem?_toArray, List.getElem?_cons_succ, List.getElem?_cons_zero, Option.some.injEq] at ho
                  subst ho
                  rw [if_pos (by kernel_rfl)]
                  refine ⟨.slice (some ⟨bf, of', none⟩) F.length c9, fun w' hw' => ?_, hK _ ?_⟩
                  · obtain ⟨hx3, hx4, hx5, hx7, hx9, hx10, hxf⟩ := hw'
                    have hs := hx3.one.1
                    obtain ⟨hc0, hc1, hc2, hc3, hc4, hc5, hc6⟩ := hx4.seven
                    obtain ⟨he0, he1, he2⟩ := hx5.three
                    have ha := hx7.one.1
                    obtain ⟨hm0, hm1, hm2⟩ := hx9.three
                    obtain ⟨hn0, hn1⟩ := hx10.two
                    go_simp
                  clear hK K
                  refine wpAnyC_reads 4 cD (by kernel_rfl) (by kernel_rfl) (by kernel_rfl) (fun d _ _ _ _ h => by cases d <;> exact h) (fun oi ho K hK => ?_)
                  simp only [List.getElem?_toArray, List.getElem?_cons_succ, List.getElem?_cons_zero, Option.some.injEq] at ho
                  subst ho
                  rw [if_pos (by kernel_rfl)]
                  refine ⟨.int .i64 q, fun w' hw' => ?_, hK _ ?_⟩
                  · obtain ⟨hx3, hx4, hx5, hx7, hx9, hx10, hxf⟩ := hw'
                    have hs := hx3.one.1
                    obtain ⟨hc0, hc1, hc2, hc3, hc4, hc5, hc6⟩ := hx4.seven
                    obtain ⟨he0, he1, he2⟩ := hx5.three
                    have ha := hx7.one.1
                    obtain ⟨hm0, hm1, hm2⟩ := hx9.three
                    obtain ⟨hn0, hn1⟩ := hx10.two
                    go_simp
                  clear hK K
                  refine wpAnyC_reads 5 cD (by kernel_rfl) (by kernel_rfl) (by kernel_rfl) (fun d _ _ _ _ h => by cases d <;> exact h) (fun oi ho K hK => ?_)
                  simp only [List.getElem?_toArray, List.getElem?_cons_succ, List.getElem?_cons_zero, Option.some.injEq] at ho
                  subst ho
                  rw [if_pos (by kernel_rfl)]
                  refine ⟨.pointer (some ⟨bf, of' + q * 2, none⟩), fun w' hw' => ?_, hK _ ?_⟩
                  · obtain ⟨hx3, hx4, hx5, hx7, hx9, hx10, hxf⟩ := hw'
                    have hs := hx3.one.1
                    obtain ⟨hc0, hc1, hc2, hc3, hc4, hc5, hc6⟩ := hx4.seven
                    obtain ⟨he0, he1, he2⟩ := hx5.three
                    have ha := hx7.one.1
                    obtain ⟨hm0, hm1, hm2⟩ := hx9.three
                    obtain ⟨hn0, hn1⟩ := hx10.two
                    go_simp
                  clear hK K
                  refine wpAnyC_reads 6 cD (by kernel_rfl) (by kernel_rfl) (by kernel_rfl) (fun d _ _ _ _ h => by cases d <;> exact h) (fun oi ho K hK => ?_)
                  simp only [List.getElem?_toArray, List.getElem?_cons_succ, List.getElem?_cons_zero, Option.some.injEq] at ho
                  subst ho
                  rw [if_pos (by kernel_rfl)]
                  refine ⟨.pointer (some ⟨bf, of' + q * 2, none⟩), fun w' hw' => ?_, hK _ ?_⟩
                  · obtain ⟨hx3, hx4, hx5, hx7, hx9, hx10, hxf⟩ := hw'
                    have hs := hx3.one.1
                    obtain ⟨hc0, hc1, hc2, hc3, hc4, hc5, hc6⟩ := hx4.seven
                    obtain ⟨he0, he1, he2⟩ := hx5.three
                    have ha := hx7.one.1
                    obtain ⟨hm0, hm1, hm2⟩ := hx9.three
                    obtain ⟨hn0, hn1⟩ := hx10.two
                    go_simp
                  clear hK K
                  refine wpAnyC_reads 7 cD (by kernel_rfl) (by kernel_rfl) (by kernel_rfl) (fun d _ _ _ _ h => by cases d <;> exact h) (fun oi ho K hK => ?_)
                  simp only [List.getElem?_toArray, List.getElem?_cons_succ, List.getElem?_cons_zero, Option.some.injEq] at ho
                  subst ho
                  rw [if_pos (by kernel_rfl)]
                  refine ⟨.string fn.1, fun w' hw' => ?_, hK _ ?_⟩
                  · obtain ⟨hx3, hx4, hx5, hx7, hx9, hx10, hxf⟩ := hw'
                    have hs := hx3.one.1
                    obtain ⟨hc0, hc1, hc2, hc3, hc4, hc5, hc6⟩ := hx4.seven
                    obtain ⟨he0, he1, he2⟩ := hx5.three
                    have ha := hx7.one.1
                    obtain ⟨hm0, hm1, hm2⟩ := hx9.three
                    obtain ⟨hn0, hn1⟩ := hx10.two
                    go_simp
                  clear hK K
                  refine wpAnyC_two 8 12 (by kernel_rfl) (fun oi ho K hK => ?_) (fun oi ho K hK => ?_)
                  · simp only [List.getElem?_toArray, List.getElem?_cons_succ, List.getElem?_cons_zero, Option.some.injEq] at ho
                    subst ho
                    go_simp
                    refine (unhide cG1).mono ?_
                    rintro e w20 ⟨rfl, hb20⟩
                    have cE : Box w20 w.heap.size 24 #[.slice a ts.length cap] ∧ Box w20 (w.heap.size + 1) 28 c.cs ∧ Box w20 (w.heap.size + 1 + 1) 31 #[.string t.1, .int .i64 tm, .slice av vs.length cv] ∧ Box w20 w4.heap.size 24 #[.slice a4 L.length c4] ∧ Box w20 w6.heap.size 31 #[.string t.1, .int .i64 tm, .slice a6 N.length c6] ∧ Box w20 w8.heap.size 44 #[.string tt.1.1, .slice (some ⟨bf, of', none⟩) F.length c9] ∧ w20.cell? ⟨bf, of' + q * 2, none⟩ = some (.string fn.1) := ⟨cD.1.on hb20 cD.1.lt, cD.2.1.on hb20 cD.2.1.lt, cD.2.2.1.on hb20 cD.2.2.1.lt, cD.2.2.2.1.on hb20 cD.2.2.2.1.lt, cD.2.2.2.2.1.on hb20 cD.2.2.2.2.1.lt, cD.2.2.2.2.2.1.on hb20 cD.2.2.2.2.2.1.lt, (hb20.cell (p := ⟨bf, of' + q * 2, none⟩) (cell_lt cD.2.2.2.2.2.2)).trans cD.2.2.2.2.2.2⟩
                    go_simp
                    refine hK _ _ cE ?_
                    clear hK K
                    refine wpAnyC_reads 9 cE (by kernel_rfl) (by kernel_rfl) (by kernel_rfl) (fun d _ _ _ _ h => by cases d <;> exact h) (fun oi ho K hK => ?_)
                    simp only [List.getElem?_toArray, List.getElem?_cons_succ, List.getElem?_cons_zero, Option.some.injEq] at ho
                    subst ho
                    rw [if_pos (by kernel_rfl)]
                    refine ⟨.tuple #[.agg #[.int .i64 vk, .int .i64 vn, .string vt.1], .bool true], fun w' hw' => ?_, hK _ ?_⟩
                    · clear hw'
                      go_simp
                    clear hK K
                    refine wpAnyC_reads 10 cE (by kernel_rfl) (by kernel_rfl) (by kernel_rfl) (fun d _ _ _ _ h => by cases d <;> exact h) (fun oi ho K hK => ?_)
                    simp only [List.getElem?_toArray, List.getElem?_cons_succ, List.getElem?_cons_zero, Option.some.injEq] at ho
                    subst ho
                    rw [if_pos (by kernel_rfl)]
                    refine ⟨.agg #[.int .i64 vk, .int .i64 vn, .string vt.1], fun w' hw' => ?_, hK _ ?_⟩
                    · clear hw'
                      go_simp
                    clear hK K
                    have bF : Below w20.heap.size w20 (w20.alloc (.cells #[.int .i64 vk, .int .i64 vn, .string vt.1] 26)) := (Below.refl _ _).alloc (Nat.le_refl _) _
                    have bF0 : Below w20.heap.size w20 (w20.alloc (.cells #[.int .i64 0, .int .i64 0, .string ⟨#[]⟩] 26)) := (Below.refl _ _).alloc (Nat.le_refl _) _
                    have cF : Box (w20.alloc (.cells #[.int .i64 vk, .int .i64 vn, .string vt.1] 26)) w.heap.size 24 #[.slice a ts.length cap] ∧ Box (w20.alloc (.cells #[.int .i64 vk, .int .i64 vn, .string vt.1] 26)) (w.heap.size + 1) 28 c.cs ∧ Box (w20.alloc (.cells #[.int .i64 vk, .int .i64 vn, .string vt.1] 26)) (w.heap.size + 1 + 1) 31 #[.string t.1, .int .i64 tm, .slice av vs.length cv] ∧ Box (w20.alloc (.cells #[.int .i64 vk, .int .i64 vn, .string vt.1] 26)) w4.heap.size 24 #[.slice a4 L.length c4] ∧ Box (w20.alloc (.cells #[.int .i64 vk, .int .i64 vn, .string vt.1] 26)) w6.heap.size 31 #[.string t.1, .int .i64 tm, .slice a6 N.length c6] ∧ Box (w20.alloc (.cells #[.int .i64 vk, .int .i64 vn, .string vt.1] 26)) w8.heap.size 44 #[.string tt.1.1, .slice (some ⟨bf, of', none⟩) F.length c9] ∧ (w20.alloc (.cells #[.int .i64 vk, .int .i64 vn, .string vt.1] 26)).cell? ⟨bf, of' + q * 2, none⟩ = some (.string fn.1) := ⟨cE.1.on bF cE.1.lt, cE.2.1.on bF cE.2.1.lt, cE.2.2.1.on bF cE.2.2.1.lt, cE.2.2.2.1.on bF cE.2.2.2.1.lt, cE.2.2.2.2.1.on bF cE.2.2.2.2.1.lt, cE.2.2.2.2.2.1.on bF cE.2.2.2.2.2.1.lt, (bF.cell (p := ⟨bf, of' + q * 2, none⟩) (cell_lt cE.2.2.2.2.2.2)).trans cE.2.2.2.2.2.2⟩
                    have cF0 : Box (w20.alloc (.cells #[.int .i64 0, .int .i64 0, .string ⟨#[]⟩] 26)) w.heap.size 24 #[.slice a ts.length cap] ∧ Box (w20.alloc (.cells #[.int .i64 0, .int .i64 0, .string ⟨#[]⟩] 26)) (w.heap.size + 1) 28 c.cs ∧ Box (w20.alloc (.cells #[.int .i64 0, .int .i64 0, .string ⟨#[]⟩] 26)) (w.heap.size + 1 + 1) 31 #[.string t.1, .int .i64 tm, .slice av vs.length cv] ∧ Box (w20.alloc (.cells #[.int .i64 0, .int .i64 0, .string ⟨#[]⟩] 26)) w4.heap.size 24 #[.slice a4 L.length c4] ∧ Box (w20.alloc (.cells #[.int .i64 0, .int .i64 0, .string ⟨#[]⟩] 26)) w6.heap.size 31 #[.string t.1, .int .i64 tm, .slice a6 N.length c6] ∧ Box (w20.alloc (.cells #[.int .i64 0, .int .i64 0, .string ⟨#[]⟩] 26)) w8.heap.size 44 #[.string tt.1.1, .slice (some ⟨bf, of', none⟩) F.length c9] ∧ (w20.alloc (.cells #[.int .i64 0, .int .i64 0, .string ⟨#[]⟩] 26)).cell? ⟨bf, of' + q * 2, none⟩ = some (.string fn.1) := ⟨cE.1.on bF0 cE.1.lt, cE.2.1.on bF0 cE.2.1.lt, cE.2.2.1.on bF0 cE.2.2.1.lt, cE.2.2.2.1.on bF0 cE.2.2.2.1.lt, cE.2.2.2.2.1.on bF0 cE.2.2.2.2.1.lt, cE.2.2.2.2.2.1.on bF0 cE.2.2.2.2.2.1.lt, (bF0.cell (p := ⟨bf, of' + q * 2, none⟩) (cell_lt cE.2.2.2.2.2.2)).trans cE.2.2.2.2.2.2⟩
                    refine wpAnyC_reads 11 cE (by kernel_rfl) (by kernel_rfl) (by kernel_rfl) (fun d _ _ _ _ h => by cases d <;> exact h) (fun oi ho K hK => ?_)
                    simp only [List.getElem?_toArray, List.getElem?_cons_succ, List.getElem?_cons_zero, Option.some.injEq] at ho
                    subst ho
                    rw [if_pos (by kernel_rfl)]
                    refine ⟨.bool true, fun w' hw' => ?_, hK _ ?_⟩
                    · clear hw'
                      go_simp
                    clear hK K
                    refine wpAnyC_calls 12 (by kernel_rfl) (fun oi ho K hK => ?_)
                    simp only [List.getElem?_toArray, List.getElem?_cons_succ, List.getElem?_cons_zero, Option.some.injEq] at ho
                    subst ho
                    go_simp
                    refine hK _ _ cF0 ?_
                    clear hK K
                    refine wpAnyC_calls 13 (by kernel_rfl) (fun oi ho K hK => ?_)
                    simp only [List.getElem?_toArray, List.getElem?_cons_succ, List.getElem?_cons_zero, Option.some.injEq] at ho
                    subst ho
                    go_simp
                    refine hK _ _ cF ?_
                    clear hK K
                    refine wpAnyC_reads 14 cF (by kernel_rfl) (by kernel_rfl) (by kernel_rfl) (fun d _ _ _ _ h => by cases d <;> exact h) (fun oi ho K hK => ?_)
                    simp only [List.getElem?_toArray, List.getElem?_cons_succ, List.getElem?_cons_zero, Option.some.injEq] at ho
                    subst ho
                    rw [if_pos (by kernel_rfl)]
                    refine ⟨.bool true, fun w' hw' => ?_, hK _ ?_⟩
                    · clear hw'
                      go_simp
                    clear hK K
                    refine wpAnyC_done (by kernel_rfl) ?_ _
                    go_wp2
                    go_meet
                    case rel => exact ⟨_, rfl, rfl, Box.new w20 26 _, (bD.trans (hb20.mono bD.size)).trans (bF.mono (bD.trans (hb20.mono bD.size)).size)⟩
                  · simp only [List.getElem?_toArray, List.getElem?_cons_succ, List.getElem?_cons_zero, Option.some.injEq] at ho
                    subst ho
                    go_simp
                    refine hK _ _ cZ ?_
                    clear hK K
                    refine wpAnyC_calls 8 (by kernel_rfl) (fun oi ho K hK => ?_)
                    simp only [List.getElem?_toArray, List.getElem?_cons_succ, List.getElem?_cons_zero, Option.some.injEq] at ho
                    subst ho
                    go_simp
                    refine (unhide cG2).mono ?_
                    rintro e w20 ⟨rfl, hb20⟩
                    have cE : Box w20 w.heap.size 24 #[.slice a ts.length cap] ∧ Box w20 (w.heap.size + 1) 28 c.cs ∧ Box w20 (w.heap.size + 1 + 1) 31 #[.string t.1, .int .i64 tm, .slice av vs.length cv] ∧ Box w20 w4.heap.size 24 #[.slice a4 L.length c4] ∧ Box w20 w6.heap.size 31 #[.string t.1, .int .i64 tm, .slice a6 N.length c6] ∧ Box w20 w8.heap.size 44 #[.string tt.1.1, .slice (some ⟨bf, of', none⟩) F.length c9] ∧ w20.cell? ⟨bf, of' + q * 2, none⟩ = some (.string fn.1) := ⟨cZ.1.on hb20 cZ.1.lt, cZ.2.1.on hb20 cZ.2.1.lt, cZ.2.2.1.on hb20 cZ.2.2.1.lt, cZ.2.2.2.1.on hb20 cZ.2.2.2.1.lt, cZ.2.2.2.2.1.on hb20 cZ.2.2.2.2.1.lt, cZ.2.2.2.2.2.1.on hb20 cZ.2.2.2.2.2.1.lt, (hb20.cell (p := ⟨bf, of' + q * 2, none⟩) (cell_lt cZ.2.2.2.2.2.2)).trans cZ.2.2.2.2.2.2⟩
                    go_simp
                    refine hK _ _ cE ?_
                    clear hK K
                    refine wpAnyC_reads 9 cE (by kernel_rfl) (by kernel_rfl) (by kernel_rfl) (fun d _ _ _ _ h => by cases d <;> exact h) (fun oi ho K hK => ?_)
                    simp only [List.getElem?_toArray, List.getElem?_cons_succ, List.getElem?_cons_zero, Option.some.injEq] at ho
                    subst ho
                    rw [if_pos (by kernel_rfl)]
                    refine ⟨.tuple #[.agg #[.int .i64 vk, .int .i64 vn, .string vt.1], .bool true], fun w' hw' => ?_, hK _ ?_⟩
                    · clear hw'
                      go_simp
                    clear hK K
                    refine wpAnyC_reads 10 cE (by kernel_rfl) (by kernel_rfl) (by kernel_rfl) (fun d _ _ _ _ h => by cases d <;> exact h) (fun oi ho K hK => ?_)
                    simp only [List.getElem?_toArray, List.getElem?_cons_succ, List.getElem?_cons_zero, Option.some.injEq] at ho
                    subst ho
                    rw [if_pos (by kernel_rfl)]
                    refine ⟨.agg #[.int .i64 vk, .int .i64 vn, .string vt.1], fun w' hw' => ?_, hK _ ?_⟩
                    · clear hw'
                      go_simp
                    clear hK K
                    refine wpAnyC_reads 11 cE (by kernel_rfl) (by kernel_rfl) (by kernel_rfl) (fun d _ _ _ _ h => by cases d <;> exact h) (fun oi ho K hK => ?_)
                    simp only [List.getElem?_toArray, List.getElem?_cons_succ, List.getElem?_cons_zero, Option.some.injEq] at ho
                    subst ho
                    rw [if_pos (by kernel_rfl)]
                    refine ⟨.bool true, fun w' hw' => ?_, hK _ ?_⟩
                    · clear hw'
                      go_simp
                    clear hK K
                    have y := xz.on hb20 xz.lt
                    obtain ⟨yz0, yz1, yz2⟩ := y.three
                    have yf0 := y.frz 0
                    have yf1 := y.frz 1
                    have yf2 := y.frz 2
                    have y3 := ((y.set 0 (.int .i64 vk)).set 1 (.int .i64 vn)).set 2 (.string vt.1)
                    have hlt3 := cD.1.lt
                    have hlt4 := cD.2.1.lt
                    have hlt5 := cD.2.2.1.lt
                    have hlt7 := cD.2.2.2.1.lt
                    have hlt9 := cD.2.2.2.2.1.lt
                    have hlt10 := cD.2.2.2.2.2.1.lt
                    have hltf := cell_lt cD.2.2.2.2.2.2
                    simp only [World.size_drew] at hlt3 hlt4 hlt5 hlt7 hlt9 hlt10 hltf
                    have cT : Box (((w20.setCell ⟨wr.heap.size, 0, none⟩ (.int .i64 vk)).setCell ⟨wr.heap.size, 1, none⟩ (.int .i64 vn)).setCell ⟨wr.heap.size, 2, none⟩ (.string vt.1)) w.heap.size 24 #[.slice a ts.length cap] ∧ Box (((w20.setCell ⟨wr.heap.size, 0, none⟩ (.int .i64 vk)).setCell ⟨wr.heap.size, 1, none⟩ (.int .i64 vn)).setCell ⟨wr.heap.size, 2, none⟩ (.string vt.1)) (w.heap.size + 1) 28 c.cs ∧ Box (((w20.setCell ⟨wr.heap.size, 0, none⟩ (.int .i64 vk)).setCell ⟨wr.heap.size, 1, none⟩ (.int .i64 vn)).setCell ⟨wr.heap.size, 2, none⟩ (.string vt.1)) (w.heap.size + 1 + 1) 31 #[.string t.1, .int .i64 tm, .slice av vs.length cv] ∧ Box (((w20.setCell ⟨wr.heap.size, 0, none⟩ (.int .i64 vk)).setCell ⟨wr.heap.size, 1, none⟩ (.int .i64 vn)).setCell ⟨wr.heap.size, 2, none⟩ (.string vt.1)) w4.heap.size 24 #[.slice a4 L.length c4] ∧ Box (((w20.setCell ⟨wr.heap.size, 0, none⟩ (.int .i64 vk)).setCell ⟨wr.heap.size, 1, none⟩ (.int .i64 vn)).setCell ⟨wr.heap.size, 2, none⟩ (.string vt.1)) w6.heap.size 31 #[.string t.1, .int .i64 tm, .slice a6 N.length c6] ∧ Box (((w20.setCell ⟨wr.heap.size, 0, none⟩ (.int .i64 vk)).setCell ⟨wr.heap.size, 1, none⟩ (.int .i64 vn)).setCell ⟨wr.heap.size, 2, none⟩ (.string vt.1)) w8.heap.size 44 #[.string tt.1.1, .slice (some ⟨bf, of', none⟩) F.length c9] ∧ (((w20.setCell ⟨wr.heap.size, 0, none⟩ (.int .i64 vk)).setCell ⟨wr.heap.size, 1, none⟩ (.int .i64 vn)).setCell ⟨wr.heap.size, 2, none⟩ (.string vt.1)).cell? ⟨bf, of' + q * 2, none⟩ = some (.string fn.1) := ⟨(((cE.1.other ⟨wr.heap.size, 0, none⟩ (.int .i64 vk) (by simp only; omega)).other ⟨wr.heap.size, 1, none⟩ (.int .i64 vn) (by simp only; omega)).other ⟨wr.heap.size, 2, none⟩ (.string vt.1) (by simp only; omega)), (((cE.2.1.other ⟨wr.heap.size, 0, none⟩ (.int .i64 vk) (by simp only; omega)).other ⟨wr.heap.size, 1, none⟩ (.int .i64 vn) (by simp only; omega)).other ⟨wr.heap.size, 2, none⟩ (.string vt.1) (by simp only; omega)), (((cE.2.2.1.other ⟨wr.heap.size, 0, none⟩ (.int .i64 vk) (by simp only; omega)).other ⟨wr.heap.size, 1, none⟩ (.int .i64 vn) (by simp only; omega)).other ⟨wr.heap.size, 2, none⟩ (.string vt.1) (by simp only; omega)), (((cE.2.2.2.1.other ⟨wr.heap.size, 0, none⟩ (.int .i64 vk) (by simp only; omega)).other ⟨wr.heap.size, 1, none⟩ (.int .i64 vn) (by simp only; omega)).other ⟨wr.heap.size, 2, none⟩ (.string vt.1) (by simp only; omega)), (((cE.2.2.2.2.1.other ⟨wr.heap.size, 0, none⟩ (.int .i64 vk) (by simp only; omega)).other ⟨wr.heap.size, 1, none⟩ (.int .i64 vn) (by simp only; omega)).other ⟨wr.heap.size, 2, none⟩ (.string vt.1) (by simp only; omega)), (((cE.2.2.2.2.2.1.other ⟨wr.heap.size, 0, none⟩ (.int .i64 vk) (by simp only; omega)).other ⟨wr.heap.size, 1, none⟩ (.int .i64 vn) (by simp only; omega)).other ⟨wr.heap.size, 2, none⟩ (.string vt.1) (by simp only; omega)), by
                      rw [World.cell?_setCell_other _ _ _ _ (fun e => by have := congrArg Addr.block e; simp only at this; omega), World.cell?_setCell_other _ _ _ _ (fun e => by have := congrArg Addr.block e; simp only at this; omega), World.cell?_setCell_other _ _ _ _ (fun e => by have := congrArg Addr.block e; simp only at this; omega)]
                      exact cE.2.2.2.2.2.2⟩
                    refine wpAnyC_calls 13 (by kernel_rfl) (fun oi ho K hK => ?_)
                    simp only [List.getElem?_toArray, List.getElem?_cons_succ, List.getElem?_cons_zero, Option.some.injEq] at ho
                    subst ho
                    go_simp
                    refine hK _ _ cT ?_
                    clear hK K
                    refine wpAnyC_reads 14 cT (by kernel_rfl) (by kernel_rfl) (by kernel_rfl) (fun d _ _ _ _ h => by cases d <;> exact h) (fun oi ho K hK => ?_)
                    simp only [List.getElem?_toArray, List.getElem?_cons_succ, List.getElem?_cons_zero, Option.some.injEq] at ho
                    subst ho
                    rw [if_pos (by kernel_rfl)]
                    refine ⟨.bool true, fun w' hw' => ?_, hK _ ?_⟩
                    · clear hw'
                      go_simp
                    clear hK K
                    refine wpAnyC_done (by kernel_rfl) ?_ _
                    go_wp2
                    go_meet
                    case rel =>
                      have bq := bD.trans ((bZ.trans (hb20.mono bZ.size)).mono bD.size)
                      exact ⟨_, rfl, rfl, y3, ((bq.setCell (p := ⟨wr.heap.size, 0, none⟩) (by simp) _).setCell (p := ⟨wr.heap.size, 1, none⟩) (by simp) _).setCell (p := ⟨wr.heap.size, 2, none⟩) (by simp) _⟩
                case rest =>
                  obtain ⟨Bv, rfl, rfl, xv, bx⟩ := hcut
                  have cF : Box wc w.heap.size 24 #[.slice a ts.length cap] ∧ Box wc (w.heap.size + 1) 28 c.cs ∧ Box wc (w.heap.size + 1 + 1) 31 #[.string t.1, .int .i64 tm, .slice av vs.length cv] ∧ Box wc w4.heap.size 24 #[.slice a4 L.length c4] ∧ Box wc w6.heap.size 31 #[.string t.1, .int .i64 tm, .slice a6 N.length c6] ∧ Box wc w8.heap.size 44 #[.string tt.1.1, .slice (some ⟨bf, of', none⟩) F.length c9] ∧ wc.cell? ⟨bf, of' + q * 2, none⟩ = some (.string fn.1) := ⟨cW.1.on bx cW.1.lt, cW.2.1.on bx cW.2.1.lt, cW.2.2.1.on bx cW.2.2.1.lt, cW.2.2.2.1.on bx cW.2.2.2.1.lt, cW.2.2.2.2.1.on bx cW.2.2.2.2.1.lt, cW.2.2.2.2.2.1.on bx cW.2.2.2.2.2.1.lt, (bx.cell (p := ⟨bf, of' + q * 2, none⟩) (cell_lt cW.2.2.2.2.2.2)).trans cW.2.2.2.2.2.2⟩
                  have hbF := hbn.trans (bx.mono hbn.size)
                  have hs := cF.1.one.1
                  obtain ⟨he0, he1, he2⟩ := cF.2.2.1.three
                  have cH := hide (unhide cS _ ((unhide S9).on hbF) ((unhide V9).on hbF))
                  go_wp2_with fail
                  refine (unhide cH).mono ?_
                  rintro e w30 ⟨rfl, hb30⟩
                  clear cH hs he0 he1 he2
                  have bG : Below w30.heap.size w30 (w30.alloc (.cells #[.int .i64 wk, .int .i64 vn, .string vt.1] 26)) := (Below.refl _ _).alloc (Nat.le_refl _) _
                  have q30 := hb30.trans (bG.mono hb30.size)
                  obtain ⟨hv0, hv1, hv2⟩ := (xv.on q30 xv.lt).three
                  obtain ⟨hc0, hc1, hc2, hc3, hc4, hc5, hc6⟩ := (cF.2.1.on q30 cF.2.1.lt).seven
                  have hbZ := hbF.trans (q30.mono hbF.size)
                  go_wp2_with fail
                  exact ⟨⟨q + 1, by omega, by go_num, hbZ⟩, by simp [intOf]; omega⟩
              · have hmine := hmine (by simpa using hqm)
                clear hnot
                rcases hmine with ⟨hbk, he⟩ | ⟨s, ⟨wk, wn, wt⟩, hbk, hgw, he⟩
                · simp only [Prod.mk.injEq] at he
                  obtain ⟨rfl, rfl, rfl⟩ := he
                  have cB := fun W => refBack_c c fn W
                  rw [hbk, show backV none = .tuple #[.string ⟨#[]⟩, .bool false] from rfl] at cB
                  replace cB := hide cB
                  have cS := fun W h h' => refGet_c a av cap cv ts ⟨t, tm, vs⟩ ⟨#[]⟩ h5 hk5 h20 W h h'
                  obtain ⟨⟨wk, wn, wt⟩, wb, hgw⟩ := gotV_form (getE ts ⟨t, tm, vs⟩ ⟨#[]⟩)
                  rw [hgw] at cS
                  replace cS := hide cS
                  clear hgw hbk
                  have cW : Box wr w.heap.size 24 #[.slice a ts.length cap] ∧ Box wr (w.heap.size + 1) 28 c.cs ∧ Box wr (w.heap.size + 1 + 1) 31 #[.string t.1, .int .i64 tm, .slice av vs.length cv] ∧ Box wr w4.heap.size 24 #[.slice a4 L.length c4] ∧ Box wr w6.heap.size 31 #[.string t.1, .int .i64 tm, .slice a6 N.length c6] ∧ Box wr w8.heap.size 44 #[.string tt.1.1, .slice (some ⟨bf, of', none⟩) F.length c9] ∧ wr.cell? ⟨bf, of' + q * 2, none⟩ = some (.string fn.1) := ⟨o3, o4, o5, o7, o9, o10, f0⟩
                  have bE : Below wr.heap.size wr wr.drew := (Below.refl _ _).drew
                  have cX : Box wr.drew w.heap.size 24 #[.slice a ts.length cap] ∧ Box wr.drew (w.heap.size + 1) 28 c.cs ∧ Box wr.drew (w.heap.size + 1 + 1) 31 #[.string t.1, .int .i64 tm, .slice av vs.length cv] ∧ Box wr.drew w4.heap.size 24 #[.slice a4 L.length c4] ∧ Box wr.drew w6.heap.size 31 #[.string t.1, .int .i64 tm, .slice a6 N.length c6] ∧ Box wr.drew w8.heap.size 44 #[.string tt.1.1, .slice (some ⟨bf, of', none⟩) F.length c9] ∧ wr.drew.cell? ⟨bf, of' + q * 2, none⟩ = some (.string fn.1) := ⟨cW.1.on bE cW.1.lt, cW.2.1.on bE cW.2.1.lt, cW.2.2.1.on bE cW.2.2.1.lt, cW.2.2.2.1.on bE cW.2.2.2.1.lt, cW.2.2.2.2.1.on bE cW.2.2.2.2.1.lt, cW.2.2.2.2.2.1.on bE cW.2.2.2.2.2.1.lt, (bE.cell (p := ⟨bf, of' + q * 2, none⟩) (cell_lt cW.2.2.2.2.2.2)).trans cW.2.2.2.2.2.2⟩
                  have cB1 := hide (unhide cB wr.drew)
                  go_wp2_with fail
                  clear hn0 hn1 he0 hc1 f0
                  refine wp_region_any hmx (wpAny_of_C (C := fun w' => Box w' w.heap.size 24 #[.slice a ts.length cap] ∧ Box w' (w.heap.size + 1) 28 c.cs ∧ Box w' (w.heap.size + 1 + 1) 31 #[.string t.1, .int .i64 tm, .slice av vs.length cv] ∧ Box w' w4.heap.size 24 #[.slice a4 L.length c4] ∧ Box w' w6.heap.size 31 #[.string t.1, .int .i64 tm, .slice a6 N.length c6] ∧ Box w' w8.heap.size 44 #[.string tt.1.1, .slice (some ⟨bf, of', none⟩) F.length c9] ∧ w'.cell? ⟨bf, of' + q * 2, none⟩ = some (.string fn.1)) _ _ _ _ ?_)
                  refine wpAnyC_reads 0 cX (by kernel_rfl) (by kernel_rfl) (by kernel_rfl) (fun d _ _ _ _ h => by cases d <;> exact h) (fun oi ho K hK => ?_)
                  simp only [List.getElem?_toArray, List.getElem?_cons_zero, Option.some.injEq] at ho
                  subst ho
                  rw [if_pos (by kernel_rfl)]
                  refine ⟨c.v, fun w' hw' => ?_, hK _ ?_⟩
                  · obtain ⟨hx3, hx4, hx5, hx7, hx9, hx10, hxf⟩ := hw'
                    have hs := hx3.one.1
                    obtain ⟨hc0, hc1, hc2, hc3, hc4, hc5, hc6⟩ := hx4.seven
                    obtain ⟨he0, he1, he2⟩ := hx5.three
                    have ha := hx7.one.1
                    obtain ⟨hm0, hm1, hm2⟩ := hx9.three
                    obtain ⟨hn0, hn1⟩ := hx10.two
                    go_simp
                  clear hK K
                  refine wpAnyC_reads 1 cX (by kernel_rfl) (by kernel_rfl) (by kernel_rfl) (fun d _ _ _ _ h => by cases d <;> exact h) (fun oi ho K hK => ?_)
                  simp only [List.getElem?_toArray, List.getElem?_cons_succ, List.getElem?_cons_zero, Option.some.injEq] at ho
                  subst ho
                  rw [if_pos (by kernel_rfl)]
                  refine ⟨.pointer (some ⟨w8.heap.size, 1, none⟩), fun w' hw' => ?_, hK _ ?_⟩
                  · obtain ⟨hx3, hx4, hx5, hx7, hx9, hx10, hxf⟩ := hw'
                    have hs := hx3.one.1
                    obtain ⟨hc0, hc1, hc2, hc3, hc4, hc5, hc6⟩ := hx4.seven
                    obtain ⟨he0, he1, he2⟩ := hx5.three
                    have ha := hx7.one.1
                    obtain ⟨hm0, hm1, hm2⟩ := hx9.three
                    obtain ⟨hn0, hn1⟩ := hx10.two
                    go_simp
                  clear hK K
                  refine wpAnyC_reads 2 cX (by kernel_rfl) (by kernel_rfl) (by kernel_rfl) (fun d _ _ _ _ h => by cases d <;> exact h) (fun oi ho K hK => ?_)
                  simp only [List.getElem?_toArray, List.getElem?_cons_succ, List.getElem?_cons_zero, Option.some.injEq] at ho
                  subst ho
                  rw [if_pos (by kernel_rfl)]
                  refine ⟨.slice (some ⟨bf, of', none⟩) F.length c9, fun w' hw' => ?_, hK _ ?_⟩
                  · obtain ⟨hx3, hx4, hx5, hx7, hx9, hx10, hxf⟩ := hw'
                    have hs := hx3.one.1
                    obtain ⟨hc0, hc1, hc2, hc3, hc4, hc5, hc6⟩ := hx4.seven
                    obtain ⟨he0, he1, he2⟩ := hx5.three
                    have ha := hx7.one.1
                    obtain ⟨hm0, hm1, hm2⟩ := hx9.three
                    obtain ⟨hn0, hn1⟩ := hx10.two
                    go_simp
                  clear hK K
                  refine wpAnyC_reads 3 cX (by kernel_rfl) (by kernel_rfl) (by kernel_rfl) (fun d _ _ _ _ h => by cases d <;> exact h) (fun oi ho K hK => ?_)
                  simp only [List.getElem?_toArray, List.getElem?_cons_succ, List.getElem?_cons_zero, Option.some.injEq] at ho
                  subst ho
                  rw [if_pos (by kernel_rfl)]
                  refine ⟨.int .i64 q, fun w' hw' => ?_, hK _ ?_⟩
                  · obtain ⟨hx3, hx4, hx5, hx7, hx9, hx10, hxf⟩ := hw'
                    have hs := hx3.one.1
                    obtain ⟨hc0, hc1, hc2, hc3, hc4, hc5, hc6⟩ := hx4.seven
                    obtain ⟨he0, he1, he2⟩ := hx5.three
                    have ha := hx7.one.1
                    obtain ⟨hm0, hm1, hm2⟩ := hx9.three
                    obtain ⟨hn0, hn1⟩ := hx10.two
                    go_simp
                  clear hK K
                  refine wpAnyC_reads 4 cX (by kernel_rfl) (by kernel_rfl) (by kernel_rfl) (fun d _ _ _ _ h => by cases d <;> exact h) (fun oi ho K hK => ?_)
                  simp only [List.getElem?_toArray, List.getElem?_cons_succ, List.getElem?_cons_zero, Option.some.injEq] at ho
                  subst ho
                  rw [if_pos (by kernel_rfl)]
                  refine ⟨.pointer (some ⟨bf, of' + q * 2, none⟩), fun w' hw' => ?_, hK _ ?_⟩
                  · obtain ⟨hx3, hx4, hx5, hx7, hx9, hx10, hxf⟩ := hw'
                    have hs := hx3.one.1
                    obtain ⟨hc0, hc1, hc2, hc3, hc4, hc5, hc6⟩ := hx4.seven
                    obtain ⟨he0, he1, he2⟩ := hx5.three
                    have ha := hx7.one.1
                    obtain ⟨hm0, hm1, hm2⟩ := hx9.three
                    obtain ⟨hn0, hn1⟩ := hx10.two
                    go_simp
                  clear hK K
                  refine wpAnyC_reads 5 cX (by kernel_rfl) (by kernel_rfl) (by kernel_rfl) (fun d _ _ _ _ h => by cases d <;> exact h) (fun oi ho K hK => ?_)
                  simp only [List.getElem?_toArray, List.getElem?_cons_succ, List.getElem?_cons_zero, Option.some.injEq] at ho
                  subst ho
                  rw [if_pos (by kernel_rfl)]
                  refine ⟨.pointer (some ⟨bf, of' + q * 2, none⟩), fun w' hw' => ?_, hK _ ?_⟩
                  · obtain ⟨hx3, hx4, hx5, hx7, hx9, hx10, hxf⟩ := hw'
                    have hs := hx3.one.1
                    obtain ⟨hc0, hc1, hc2, hc3, hc4, hc5, hc6⟩ := hx4.seven
                    obtain ⟨he0, he1, he2⟩ := hx5.three
                    have ha := hx7.one.1
                    obtain ⟨hm0, hm1, hm2⟩ := hx9.three
                    obtain ⟨hn0, hn1⟩ := hx10.two
                    go_simp
                  clear hK K
                  refine wpAnyC_reads 6 cX (by kernel_rfl) (by kernel_rfl) (by kernel_rfl) (fun d _ _ _ _ h => by cases d <;> exact h) (fun oi ho K hK => ?_)
                  simp only [List.getElem?_toArray, List.getElem?_cons_succ, List.getElem?_cons_zero, Option.some.injEq] at ho
                  subst ho
                  rw [if_pos (by kernel_rfl)]
                  refine ⟨.string fn.1, fun w' hw' => ?_, hK _ ?_⟩
                  · obtain ⟨hx3, hx4, hx5, hx7, hx9, hx10, hxf⟩ := hw'
                    have hs := hx3.one.1
                    obtain ⟨hc0, hc1, hc2, hc3, hc4, hc5, hc6⟩ := hx4.seven
                    obtain ⟨he0, he1, he2⟩ := hx5.three
                    have ha := hx7.one.1
                    obtain ⟨hm0, hm1, hm2⟩ := hx9.three
                    obtain ⟨hn0, hn1⟩ := hx10.two
                    go_simp
                  clear hK K
                  refine wpAnyC_calls 7 (by kernel_rfl) (fun oi ho K hK => ?_)
                  simp only [List.getElem?_toArray, List.getElem?_cons_succ, List.getElem?_cons_zero, Option.some.injEq] at ho
                  subst ho
                  go_simp
                  refine (unhide cB1).mono ?_
                  rintro e w10 ⟨rfl, hb10⟩
                  have cY : Box w10 w.heap.size 24 #[.slice a ts.length cap] ∧ Box w10 (w.heap.size + 1) 28 c.cs ∧ Box w10 (w.heap.size + 1 + 1) 31 #[.string t.1, .int .i64 tm, .slice av vs.length cv] ∧ Box w10 w4.heap.size 24 #[.slice a4 L.length c4] ∧ Box w10 w6.heap.size 31 #[.string t.1, .int .i64 tm, .slice a6 N.length c6] ∧ Box w10 w8.heap.size 44 #[.string tt.1.1, .slice (some ⟨bf, of', none⟩) F.length c9] ∧ w10.cell? ⟨bf, of' + q * 2, none⟩ = some (.string fn.1) := ⟨cX.1.on hb10 cX.1.lt, cX.2.1.on hb10 cX.2.1.lt, cX.2.2.1.on hb10 cX.2.2.1.lt, cX.2.2.2.1.on hb10 cX.2.2.2.1.lt, cX.2.2.2.2.1.on hb10 cX.2.2.2.2.1.lt, cX.2.2.2.2.2.1.on hb10 cX.2.2.2.2.2.1.lt, (hb10.cell (p := ⟨bf, of' + q * 2, none⟩) (cell_lt cX.2.2.2.2.2.2)).trans cX.2.2.2.2.2.2⟩
                  go_simp
                  refine hK _ _ cY ?_
                  clear hK K
                  refine wpAnyC_reads 8 cY (by kernel_rfl) (by kernel_rfl) (by kernel_rfl) (fun d _ _ _ _ h => by cases d <;> exact h) (fun oi ho K hK => ?_)
                  simp only [List.getElem?_toArray, List.getElem?_cons_succ, List.getElem?_cons_zero, Option.some.injEq] at ho
                  subst ho
                  rw [if_pos (by kernel_rfl)]
                  refine ⟨.tuple #[.string ⟨#[]⟩, .bool false], fun w' hw' => ?_, hK _ ?_⟩
                  · clear hw'
                    go_simp
                  clear hK K
                  refine wpAnyC_reads 9 cY (by kernel_rfl) (by kernel_rfl) (by kernel_rfl) (fun d _ _ _ _ h => by cases d <;> exact h) (fun oi ho K hK => ?_)
                  simp only [List.getElem?_toArray, List.getElem?_cons_succ, List.getElem?_cons_zero, Option.some.injEq] at ho
                  subst ho
                  rw [if_pos (by kernel_rfl)]
                  refine ⟨.string ⟨#[]⟩, fun w' hw' => ?_, hK _ ?_⟩
                  · clear hw'
                    go_simp
                  clear hK K
                  refine wpAnyC_reads 10 cY (by kernel_rfl) (by kernel_rfl) (by kernel_rfl) (fun d _ _ _ _ h => by cases d <;> exact h) (fun oi ho K hK => ?_)
                  simp only [List.getElem?_toArray, List.getElem?_cons_succ, List.getElem?_cons_zero, Option.some.injEq] at ho
                  subst ho
                  rw [if_pos (by kernel_rfl)]
                  refine ⟨.bool false, fun w' hw' => ?_, hK _ ?_⟩
                  · clear hw'
                    go_simp
                  clear hK K
                  refine wpAnyC_reads 11 cY (by kernel_rfl) (by kernel_rfl) (by kernel_rfl) (fun d _ _ _ _ h => by cases d <;> exact h) (fun oi ho K hK => ?_)
                  simp only [List.getElem?_toArray, List.getElem?_cons_succ, List.getElem?_cons_zero, Option.some.injEq] at ho
                  subst ho
                  rw [if_pos (by kernel_rfl)]
                  refine ⟨.string ⟨#[]⟩, fun w' hw' => ?_, hK _ ?_⟩
                  · clear hw'
                    go_simp
                  clear hK K
                  refine wpAnyC_reads 12 cY (by kernel_rfl) (by kernel_rfl) (by kernel_rfl) (fun d _ _ _ _ h => by cases d <;> exact h) (fun oi ho K hK => ?_)
                  simp only [List.getElem?_toArray, List.getElem?_cons_succ, List.getElem?_cons_zero, Option.some.injEq] at ho
                  subst ho
                  rw [if_pos (by kernel_rfl)]
                  refine ⟨.bool false, fun w' hw' => ?_, hK _ ?_⟩
                  · clear hw'
                    go_simp
                  clear hK K
                  refine wpAnyC_done (by kernel_rfl) ?_ _
                  have hbn := hbw.trans ((bE.trans (hb10.mono bE.size)).mono hbw.size)
                  go_simp
                  go_upto_region 16 with fail
                  go_cut [15, 16] (fun x y wx => ∃ Bv, x = .pointer (some ⟨Bv, 0, none⟩) ∧ y = .bool true ∧ Box wx Bv 26 #[.int .i64 c.dk, .int .i64 c.dn, .string c.ds.1] ∧ Below w10.heap.size w10 wx)
                  case first =>
                    clear cS
                    have bD : Below w10.heap.size w10 w10.drew := (Below.refl _ _).drew
                    have cD : Box w10.drew w.heap.size 24 #[.slice a ts.length cap] ∧ Box w10.drew (w.heap.size + 1) 28 c.cs ∧ Box w10.drew (w.heap.size + 1 + 1) 31 #[.string t.1, .int .i64 tm, .slice av vs.length cv] ∧ Box w10.drew w4.heap.size 24 #[.slice a4 L.length c4] ∧ Box w10.drew w6.heap.size 31 #[.string t.1, .int .i64 tm, .slice a6 N.length c6] ∧ Box w10.drew w8.heap.size 44 #[.string tt.1.1, .slice (some ⟨bf, of', none⟩) F.length c9] ∧ w10.drew.cell? ⟨bf, of' + q * 2, none⟩ = some (.string fn.1) := ⟨cY.1.on bD cY.1.lt, cY.2.1.on bD cY.2.1.lt, cY.2.2.1.on bD cY.2.2.1.lt, cY.2.2.2.1.on bD cY.2.2.2.1.lt, cY.2.2.2.2.1.on bD cY.2.2.2.2.1.lt, cY.2.2.2.2.2.1.on bD cY.2.2.2.2.2.1.lt, (bD.cell (p := ⟨bf, of' + q * 2, none⟩) (cell_lt cY.2.2.2.2.2.2)).trans cY.2.2.2.2.2.2⟩
                    have bZ : Below w10.drew.heap.size w10.drew (w10.drew.alloc (.cells #[.int .i64 0, .int .i64 0, .string ⟨#[]⟩] 26)) := (Below.refl _ _).alloc (Nat.le_refl _) _
                    have cZ : Box (w10.drew.alloc (.cells #[.int .i64 0, .int .i64 0, .string ⟨#[]⟩] 26)) w.heap.size 24 #[.slice a ts.length cap] ∧ Box (w10.drew.alloc (.cells #[.int .i64 0, .int .i64 0, .string ⟨#[]⟩] 26)) (w.heap.size + 1) 28 c.cs ∧ Box (w10.drew.alloc (.cells #[.int .i64 0, .int .i64 0, .string ⟨#[]⟩] 26)) (w.heap.size + 1 + 1) 31 #[.string t.1, .int .i64 tm, .slice av vs.length cv] ∧ Box (w10.drew.alloc (.cells #[.int .i64 0, .int .i64 0, .string ⟨#[]⟩] 26)) w4.heap.size 24 #[.slice a4 L.length c4] ∧ Box (w10.drew.alloc (.cells #[.int .i64 0, .int .i64 0, .string ⟨#[]⟩] 26)) w6.heap.size 31 #[.string t.1, .int .i64 tm, .slice a6 N.length c6] ∧ Box (w10.drew.alloc (.cells #[.int .i64 0, .int .i64 0, .string ⟨#[]⟩] 26)) w8.heap.size 44 #[.string tt.1.1, .slice (some ⟨bf, of', none⟩) F.length c9] ∧ (w10.drew.alloc (.cells #[.int .i64 0, .int .i64 0, .string ⟨#[]⟩] 26)).cell? ⟨bf, of' + q * 2, none⟩ = some (.string fn.1) := ⟨cD.1.on bZ cD.1.lt, cD.2.1.on bZ cD.2.1.lt, cD.2.2.1.on bZ cD.2.2.1.lt, cD.2.2.2.1.on bZ cD.2.2.2.1.lt, cD.2.2.2.2.1.on bZ cD.2.2.2.2.1.lt, cD.2.2.2.2.2.1.on bZ cD.2.2.2.2.2.1.lt, (bZ.cell (p := ⟨bf, of' + q * 2, none⟩) (cell_lt cD.2.2.2.2.2.2)).trans cD.2.2.2.2.2.2⟩
                    have q1 := hbn.trans (bD.mono hbn.size)
                    have q2 := q1.trans (bZ.mono q1.size)
                    have cG1 := hide (unhide cG w10.drew ((unhide T9).on q1) ((unhide N9).on q1))
                    have cG2 := hide (unhide cG (w10.drew.alloc (.cells #[.int .i64 0, .int .i64 0, .string ⟨#[]⟩] 26)) ((unhide T9).on q2) ((unhide N9).on q2))
                    have xz : Box (w10.drew.alloc (.cells #[.int .i64 0, .int .i64 0, .string ⟨#[]⟩] 26)) w10.heap.size 26 #[.int .i64 0, .int .i64 0, .string ⟨#[]⟩] := Box.new w10.drew 26 #[.int .i64 0, .int .i64 0, .string ⟨#[]⟩]
                    refine wp_region_any hmx (wpAny_of_C (C := fun w' => Box w' w.heap.size 24 #[.slice a ts.length cap] ∧ Box w' (w.heap.size + 1) 28 c.cs ∧ Box w' (w.heap.size + 1 + 1) 31 #[.string t.1, .int .i64 tm, .slice av vs.length cv] ∧ Box w' w4.heap.size 24 #[.slice a4 L.length c4] ∧ Box w' w6.heap.size 31 #[.string t.1, .int .i64 tm, .slice a6 N.length c6] ∧ Box w' w8.heap.size 44 #[.string tt.1.1, .slice (some ⟨bf, of', none⟩) F.length c9] ∧ w'.cell? ⟨bf, of' + q * 2, none⟩ = some (.string fn.1)) _ _ _ _ ?_)
                    refine wpAnyC_reads 0 cD (by kernel_rfl) (by kernel_rfl) (by kernel_rfl) (fun d _ _ _ _ h => by cases d <;> exact h) (fun oi ho K hK => ?_)
                    simp only [List.getElem?_toArray, List.getElem?_cons_zero, Option.some.injEq] at ho
                    subst ho
                    rw [if_pos (by kernel_rfl)]
                    refine ⟨.agg #[.slice a4 L.length c4], fun w' hw' => ?_, hK _ ?_⟩
                    · obtain ⟨hx3, hx4, hx5, hx7, hx9, hx10, hxf⟩ := hw'
                      have hs := hx3.one.1
                      obtain ⟨hc0, hc1, hc2, hc3, hc4, hc5, hc6⟩ := hx4.seven
                      obtain ⟨he0, he1, he2⟩ := hx5.three
                      have ha := hx7.one.1
                      obtain ⟨hm0, hm1, hm2⟩ := hx9.three
                      obtain ⟨hn0, hn1⟩ := hx10.two
                      go_simp
                    clear hK K
                    refine wpAnyC_reads 1 cD (by kernel_rfl) (by kernel_rfl) (by kernel_rfl) (fun d _ _ _ _ h => by cases d <;> exact h) (fun oi ho K hK => ?_)
                    simp only [List.getElem?_toArray, List.getElem?_cons_succ, List.getElem?_cons_zero, Option.some.injEq] at ho
                    subst ho
                    rw [if_pos (by kernel_rfl)]
                    refine ⟨.agg #[.string t.1, .int .i64 tm, .slice a6 N.length c6], fun w' hw' => ?_, hK _ ?_⟩
                    · obtain ⟨hx3, hx4, hx5, hx7, hx9, hx10, hxf⟩ := hw'
                      have hs := hx3.one.1
                      obtain ⟨hc0, hc1, hc2, hc3, hc4, hc5, hc6⟩ := hx4.seven
                      obtain ⟨he0, he1, he2⟩ := hx5.three
                      have ha := hx7.one.1
                      obtain ⟨hm0, hm1, hm2⟩ := hx9.three
                      obtain ⟨hn0, hn1⟩ := hx10.two
                      go_simp
                    clear hK K
                    refine wpAnyC_reads 2 cD (by kernel_rfl) (by kernel_rfl) (by kernel_rfl) (fun d _ _ _ _ h => by cases d <;> exact h) (fun oi ho K hK => ?_)
                    simp only [List.getElem?_toArray, List.getElem?_cons_succ, List.getElem?_cons_zero, Option.some.injEq] at ho
                    subst ho
                    rw [if_pos (by kernel_rfl)]
                    refine ⟨.pointer (some ⟨w8.heap.size, 1, none⟩), fun w' hw' => ?_, hK _ ?_⟩
                    · obtain ⟨hx3, hx4, hx5, hx7, hx9, hx10, hxf⟩ := hw'
                      have hs := hx3.one.1
                      obtain ⟨hc0, hc1, hc2, hc3, hc4, hc5, hc6⟩ := hx4.seven
                      obtain ⟨he0, he1, he2⟩ := hx5.three
                      have ha := hx7.one.1
                      obtain ⟨hm0, hm1, hm2⟩ := hx9.three
                      obtain ⟨hn0, hn1⟩ := hx10.two
                      go_simp
                    clear hK K
                    refine wpAnyC_reads 3 cD (by kernel_rfl) (by kernel_rfl) (by kernel_rfl) (fun d _ _ _ _ h => by cases d <;> exact h) (fun oi ho K hK => ?_)
                    simp only [List.getElem?_toArray, List.getElem?_cons_succ, List.getElem?_cons_zero, Option.some.injEq] at ho
                    subst ho
                    rw [if_pos (by kernel_rfl)]
                    refine ⟨.slice (some ⟨bf, of', none⟩) F.length c9, fun w' hw' => ?_, hK _ ?_⟩
                    · obtain ⟨hx3, hx4, hx5, hx7, hx9, hx10, hxf⟩ := hw'
                      have hs := hx3.one.1
                      obtain ⟨hc0, hc1, hc2, hc3, hc4, hc5, hc6⟩ := hx4.seven
                      obtain ⟨he0, he1, he2⟩ := hx5.three
                      have ha := hx7.one.1
                      obtain ⟨hm0, hm1, hm2⟩ := hx9.three
                      obtain ⟨hn0, hn1⟩ := hx10.two
                      go_simp
                    clear hK K
                    refine wpAnyC_reads 4 cD (by kernel_rfl) (by kernel_rfl) (by kernel_rfl) (fun d _ _ _ _ h => by cases d <;> exact h) (fun oi ho K hK => ?_)
                    simp only [List.getElem?_toArray, List.getElem?_cons_succ, List.getElem?_cons_zero, Option.some.injEq] at ho
                    subst ho
                    rw [if_pos (by kernel_rfl)]
                    refine ⟨.int .i64 q, fun w' hw' => ?_, hK _ ?_⟩
                    · obtain ⟨hx3, hx4, hx5, hx7, hx9, hx10, hxf⟩ := hw'
                      have hs := hx3.one.1
                      obtain ⟨hc0, hc1, hc2, hc3, hc4, hc5, hc6⟩ := hx4.seven
                      obtain ⟨he0, he1, he2⟩ := hx5.three
                      have ha := hx7.one.1
                      obtain ⟨hm0, hm1, hm2⟩ := hx9.three
                      obtain ⟨hn0, hn1⟩ := hx10.two
                      go_simp
                    clear hK K
                    refine wpAnyC_reads 5 cD (by kernel_rfl) (by kernel_rfl) (by kernel_rfl) (fun d _ _ _ _ h => by cases d <;> exact h) (fun oi ho K hK => ?_)
                    simp only [List.getElem?_toArray, List.getElem?_cons_succ, List.getElem?_cons_zero, Option.some.injEq] at ho
                    subst ho
                    rw [if_pos (by kernel_rfl)]
                    refine ⟨.pointer (some ⟨bf, of' + q * 2, none⟩), fun w' hw' => ?_, hK _ ?_⟩
                    · obtain ⟨hx3, hx4, hx5, hx7, hx9, hx10, hxf⟩ := hw'
                      have hs := hx3.one.1
                      obtain ⟨hc0, hc1, hc2, hc3, hc4, hc5, hc6⟩ := hx4.seven
                      obtain ⟨he0, he1, he2⟩ := hx5.three
                      have ha := hx7.one.1
                      obtain ⟨hm0, hm1, hm2⟩ := hx9.three
                      obtain ⟨hn0, hn1⟩ := hx10.two
                      go_simp
                    clear hK K
                    refine wpAnyC_reads 6 cD (by kernel_rfl) (by kernel_rfl) (by kernel_rfl) (fun d _ _ _ _ h => by cases d <;> exact h) (fun oi ho K hK => ?_)
                    simp only [List.getElem?_toArray, List.getElem?_cons_succ, List.getElem?_cons_zero, Option.some.injEq] at ho
                    subst ho
                    rw [if_pos (by kernel_rfl)]
                    refine ⟨.pointer (some ⟨bf, of' + q * 2, none⟩), fun w' hw' => ?_, hK _ ?_⟩
                    · obtain ⟨hx3, hx4, hx5, hx7, hx9, hx10, hxf⟩ := hw'
                      have hs := hx3.one.1
                      obtain ⟨hc0, hc1, hc2, hc3, hc4, hc5, hc6⟩ := hx4.seven
                      obtain ⟨he0, he1, he2⟩ := hx5.three
                      have ha := hx7.one.1
                      obtain ⟨hm0, hm1, hm2⟩ := hx9.three
                      obtain ⟨hn0, hn1⟩ := hx10.two
                      go_simp
                    clear hK K
                    refine wpAnyC_reads 7 cD (by kernel_rfl) (by kernel_rfl) (by kernel_rfl) (fun d _ _ _ _ h => by cases d <;> exact h) (fun oi ho K hK => ?_)
                    simp only [List.getElem?_toArray, List.getElem?_cons_succ, List.getElem?_cons_zero, Option.some.injEq] at ho
                    subst ho
                    rw [if_pos (by kernel_rfl)]
                    refine ⟨.string fn.1, fun w' hw' => ?_, hK _ ?_⟩
                    · obtain ⟨hx3, hx4, hx5, hx7, hx9, hx10, hxf⟩ := hw'
                      have hs := hx3.one.1
                      obtain ⟨hc0, hc1, hc2, hc3, hc4, hc5, hc6⟩ := hx4.seven
                      obtain ⟨he0, he1, he2⟩ := hx5.three
                      have ha := hx7.one.1
                      obtain ⟨hm0, hm1, hm2⟩ := hx9.three
                      obtain ⟨hn0, hn1⟩ := hx10.two
                      go_simp
                    clear hK K
                    refine wpAnyC_two 8 12 (by kernel_rfl) (fun oi ho K hK => ?_) (fun oi ho K hK => ?_)
                    · simp only [List.getElem?_toArray, List.getElem?_cons_succ, List.getElem?_cons_zero, Option.some.injEq] at ho
                      subst ho
                      go_simp
                      refine (unhide cG1).mono ?_
                      rintro e w20 ⟨rfl, hb20⟩
                      have cE : Box w20 w.heap.size 24 #[.slice a ts.length cap] ∧ Box w20 (w.heap.size + 1) 28 c.cs ∧ Box w20 (w.heap.size + 1 + 1) 31 #[.string t.1, .int .i64 tm, .slice av vs.length cv] ∧ Box w20 w4.heap.size 24 #[.slice a4 L.length c4] ∧ Box w20 w6.heap.size 31 #[.string t.1, .int .i64 tm, .slice a6 N.length c6] ∧ Box w20 w8.heap.size 44 #[.string tt.1.1, .slice (some ⟨bf, of', none⟩) F.length c9] ∧ w20.cell? ⟨bf, of' + q * 2, none⟩ = some (.string fn.1) := ⟨cD.1.on hb20 cD.1.lt, cD.2.1.on hb20 cD.2.1.lt, cD.2.2.1.on hb20 cD.2.2.1.lt, cD.2.2.2.1.on hb20 cD.2.2.2.1.lt, cD.2.2.2.2.1.on hb20 cD.2.2.2.2.1.lt, cD.2.2.2.2.2.1.on hb20 cD.2.2.2.2.2.1.lt, (hb20.cell (p := ⟨bf, of' + q * 2, none⟩) (cell_lt cD.2.2.2.2.2.2)).trans cD.2.2.2.2.2.2⟩
                      go_simp
                      refine hK _ _ cE ?_
                      clear hK K
                      refine wpAnyC_reads 9 cE (by kernel_rfl) (by kernel_rfl) (by kernel_rfl) (fun d _ _ _ _ h => by cases d <;> exact h) (fun oi ho K hK => ?_)
                      simp only [List.getElem?_toArray, List.getElem?_cons_succ, List.getElem?_cons_zero, Option.some.injEq] at ho
                      subst ho
                      rw [if_pos (by kernel_rfl)]
                      refine ⟨.tuple #[.agg #[.int .i64 c.dk, .int .i64 c.dn, .string c.ds.1], .bool true], fun w' hw' => ?_, hK _ ?_⟩
                      · clear hw'
                        go_simp
                      clear hK K
                      refine wpAnyC_reads 10 cE (by kernel_rfl) (by kernel_rfl) (by kernel_rfl) (fun d _ _ _ _ h => by cases d <;> exact h) (fun oi ho K hK => ?_)
                      simp only [List.getElem?_toArray, List.getElem?_cons_succ, List.getElem?_cons_zero, Option.some.injEq] at ho
                      subst ho
                      rw [if_pos (by kernel_rfl)]
                      refine ⟨.agg #[.int .i64 c.dk, .int .i64 c.dn, .string c.ds.1], fun w' hw' => ?_, hK _ ?_⟩
                      · clear hw'
                        go_simp
                      clear hK K
                      have bF : Below w20.heap.size w20 (w20.alloc (.cells #[.int .i64 c.dk, .int .i64 c.dn, .string c.ds.1] 26)) := (Below.refl _ _).alloc (Nat.le_refl _) _
                      have bF0 : Below w20.heap.size w20 (w20.alloc (.cells #[.int .i64 0, .int .i64 0, .string ⟨#[]⟩] 26)) := (Below.refl _ _).alloc (Nat.le_refl _) _
                      have cF : Box (w20.alloc (.cells #[.int .i64 c.dk, .int .i64 c.dn, .string c.ds.1] 26)) w.heap.size 24 #[.slice a ts.length cap] ∧ Box (w20.alloc (.cells #[.int .i64 c.dk, .int .i64 c.dn, .string c.ds.1] 26)) (w.heap.size + 1) 28 c.cs ∧ Box (w20.alloc (.cells #[.int .i64 c.dk, .int .i64 c.dn, .string c.ds.1] 26)) (w.heap.size + 1 + 1) 31 #[.string t.1, .int .i64 tm, .slice av vs.length cv] ∧ Box (w20.alloc (.cells #[.int .i64 c.dk, .int .i64 c.dn, .string c.ds.1] 26)) w4.heap.size 24 #[.slice a4 L.length c4] ∧ Box (w20.alloc (.cells #[.int .i64 c.dk, .int .i64 c.dn, .string c.ds.1] 26)) w6.heap.size 31 #[.string t.1, .int .i64 tm, .slice a6 N.length c6] ∧ Box (w20.alloc (.cells #[.int .i64 c.dk, .int .i64 c.dn, .string c.ds.1] 26)) w8.heap.size 44 #[.string tt.1.1, .slice (some ⟨bf, of', none⟩) F.length c9] ∧ (w20.alloc (.cells #[.int .i64 c.dk, .int .i64 c.dn, .string c.ds.1] 26)).cell? ⟨bf, of' + q * 2, none⟩ = some (.string fn.1) := ⟨cE.1.on bF cE.1.lt, cE.2.1.on bF cE.2.1.lt, cE.2.2.1.on bF cE.2.2.1.lt, cE.2.2.2.1.on bF cE.2.2.2.1.lt, cE.2.2.2.2.1.on bF cE.2.2.2.2.1.lt, cE.2.2.2.2.2.1.on bF cE.2.2.2.2.2.1.lt, (bF.cell (p := ⟨bf, of' + q * 2, none⟩) (cell_lt cE.2.2.2.2.2.2)).trans cE.2.2.2.2.2.2⟩
                      have cF0 : Box (w20.alloc (.cells #[.int .i64 0, .int .i64 0, .string ⟨#[]⟩] 26)) w.heap.size 24 #[.slice a ts.length cap] ∧ Box (w20.alloc (.cells #[.int .i64 0, .int .i64 0, .string ⟨#[]⟩] 26)) (w.heap.size + 1) 28 c.cs ∧ Box (w20.alloc (.cells #[.int .i64 0, .int .i64 0, .string ⟨#[]⟩] 26)) (w.heap.size + 1 + 1) 31 #[.string t.1, .int .i64 tm, .slice av vs.length cv] ∧ Box (w20.alloc (.cells #[.int .i64 0, .int .i64 0, .string ⟨#[]⟩] 26)) w4.heap.size 24 #[.slice a4 L.length c4] ∧ Box (w20.alloc (.cells #[.int .i64 0, .int .i64 0, .string ⟨#[]⟩] 26)) w6.heap.size 31 #[.string t.1, .int .i64 tm, .slice a6 N.length c6] ∧ Box (w20.alloc (.cells #[.int .i64 0, .int .i64 0, .string ⟨#[]⟩] 26)) w8.heap.size 44 #[.string tt.1.1, .slice (some ⟨bf, of', none⟩) F.length c9] ∧ (w20.alloc (.cells #[.int .i64 0, .int .i64 0, .string ⟨#[]⟩] 26)).cell? ⟨bf, of' + q * 2, none⟩ = some (.string fn.1) := ⟨cE.1.on bF0 cE.1.lt, cE.2.1.on bF0 cE.2.1.lt, cE.2.2.1.on bF0 cE.2.2.1.lt, cE.2.2.2.1.on bF0 cE.2.2.2.1.lt, cE.2.2.2.2.1.on bF0 cE.2.2.2.2.1.lt, cE.2.2.2.2.2.1.on bF0 cE.2.2.2.2.2.1.lt, (bF0.cell (p := ⟨bf, of' + q * 2, none⟩) (cell_lt cE.2.2.2.2.2.2)).trans cE.2.2.2.2.2.2⟩
                      refine wpAnyC_reads 11 cE (by kernel_rfl) (by kernel_rfl) (by kernel_rfl) (fun d _ _ _ _ h => by cases d <;> exact h) (fun oi ho K hK => ?_)
                      simp only [List.getElem?_toArray, List.getElem?_cons_succ, List.getElem?_cons_zero, Option.some.injEq] at ho
                      subst ho
                      rw [if_pos (by kernel_rfl)]
                      refine ⟨.bool true, fun w' hw' => ?_, hK _ ?_⟩
                      · clear hw'
                        go_simp
                      clear hK K
                      refine wpAnyC_calls 12 (by kernel_rfl) (fun oi ho K hK => ?_)
                      simp only [List.getElem?_toArray, List.getElem?_cons_succ, List.getElem?_cons_zero, Option.some.injEq] at ho
                      subst ho
                      go_simp
                      refine hK _ _ cF0 ?_
                      clear hK K
                      refine wpAnyC_calls 13 (by kernel_rfl) (fun oi ho K hK => ?_)
                      simp only [List.getElem?_toArray, List.getElem?_cons_succ, List.getElem?_cons_zero, Option.some.injEq] at ho
                      subst ho
                      go_simp
                      refine hK _ _ cF ?_
                      clear hK K
                      refine wpAnyC_reads 14 cF (by kernel_rfl) (by kernel_rfl) (by kernel_rfl) (fun d _ _ _ _ h => by cases d <;> exact h) (fun oi ho K hK => ?_)
                      simp only [List.getElem?_toArray, List.getElem?_cons_succ, List.getElem?_cons_zero, Option.some.injEq] at ho
                      subst ho
                      rw [if_pos (by kernel_rfl)]
                      refine ⟨.bool true, fun w' hw' => ?_, hK _ ?_⟩
                      · clear hw'
                        go_simp
                      clear hK K
                      refine wpAnyC_done (by kernel_rfl) ?_ _
                      go_wp2
                      go_meet
                      case rel => exact ⟨_, rfl, rfl, Box.new w20 26 _, (bD.trans (hb20.mono bD.size)).trans (bF.mono (bD.trans (hb20.mono bD.size)).size)⟩
                    · simp only [List.getElem?_toArray, List.getElem?_cons_succ, List.getElem?_cons_zero, Option.some.injEq] at ho
                      subst ho
                      go_simp
                      refine hK _ _ cZ ?_
                      clear hK K
                      refine wpAnyC_calls 8 (by kernel_rfl) (fun oi ho K hK => ?_)
                      simp only [List.getElem?_toArray, List.getElem?_cons_succ, List.getElem?_cons_zero, Option.some.injEq] at ho
                      subst ho
                      go_simp
                      refine (unhide cG2).mono ?_
                      rintro e w20 ⟨rfl, hb20⟩
                      have cE : Box w20 w.heap.size 24 #[.slice a ts.length cap] ∧ Box w20 (w.heap.size + 1) 28 c.cs ∧ Box w20 (w.heap.size + 1 + 1) 31 #[.string t.1, .int .i64 tm, .slice av vs.length cv] ∧ Box w20 w4.heap.size 24 #[.slice a4 L.length c4] ∧ Box w20 w6.heap.size 31 #[.string t.1, .int .i64 tm, .slice a6 N.length c6] ∧ Box w20 w8.heap.size 44 #[.string tt.1.1, .slice (some ⟨bf, of', none⟩) F.length c9] ∧ w20.cell? ⟨bf, of' + q * 2, none⟩ = some (.string fn.1) := ⟨cZ.1.on hb20 cZ.1.lt, cZ.2.1.on hb20 cZ.2.1.lt, cZ.2.2.1.on hb20 cZ.2.2.1.lt, cZ.2.2.2.1.on hb20 cZ.2.2.2.1.lt, cZ.2.2.2.2.1.on hb20 cZ.2.2.2.2.1.lt, cZ.2.2.2.2.2.1.on hb20 cZ.2.2.2.2.2.1.lt, (hb20.cell (p := ⟨bf, of' + q * 2, none⟩) (cell_lt cZ.2.2.2.2.2.2)).trans cZ.2.2.2.2.2.2⟩
                      go_simp
                      refine hK _ _ cE ?_
                      clear hK K
                      refine wpAnyC_reads 9 cE (by kernel_rfl) (by kernel_rfl) (by kernel_rfl) (fun d _ _ _ _ h => by cases d <;> exact h) (fun oi ho K hK => ?_)
                      simp only [List.getElem?_toArray, List.getElem?_cons_succ, List.getElem?_cons_zero, Option.some.injEq] at ho
                      subst ho
                      rw [if_pos (by kernel_rfl)]
                      refine ⟨.tuple #[.agg #[.int .i64 c.dk, .int .i64 c.dn, .string c.ds.1], .bool true], fun w' hw' => ?_, hK _ ?_⟩
                      · clear hw'
                        go_simp
                      clear hK K
                      refine wpAnyC_reads 10 cE (by kernel_rfl) (by kernel_rfl) (by kernel_rfl) (fun d _ _ _ _ h => by cases d <;> exact h) (fun oi ho K hK => ?_)
                      simp only [List.getElem?_toArray, List.getElem?_cons_succ, List.getElem?_cons_zero, Option.some.injEq] at ho
                      subst ho
                      rw [if_pos (by kernel_rfl)]
                      refine ⟨.agg #[.int .i64 c.dk, .int .i64 c.dn, .string c.ds.1], fun w' hw' => ?_, hK _ ?_⟩
                      · clear hw'
                        go_simp
                      clear hK K
                      refine wpAnyC_reads 11 cE (by kernel_rfl) (by kernel_rfl) (by kernel_rfl) (fun d _ _ _ _ h => by cases d <;> exact h) (fun oi ho K hK => ?_)
                      simp only [List.getElem?_toArray, List.getElem?_cons_succ, List.getElem?_cons_zero, Option.some.injEq] at ho
                      subst ho
                      rw [if_pos (by kernel_rfl)]
                      refine ⟨.bool true, fun w' hw' => ?_, hK _ ?_⟩
                      · clear hw'
                        go_simp
                      clear hK K
                      have y := xz.on hb20 xz.lt
                      obtain ⟨yz0, yz1, yz2⟩ := y.three
                      have yf0 := y.frz 0
                      have yf1 := y.frz 1
                      have yf2 := y.frz 2
                      have y3 := ((y.set 0 (.int .i64 c.dk)).set 1 (.int .i64 c.dn)).set 2 (.string c.ds.1)
                      have hlt3 := cD.1.lt
                      have hlt4 := cD.2.1.lt
                      have hlt5 := cD.2.2.1.lt
                      have hlt7 := cD.2.2.2.1.lt
                      have hlt9 := cD.2.2.2.2.1.lt
                      have hlt10 := cD.2.2.2.2.2.1.lt
                      have hltf := cell_lt cD.2.2.2.2.2.2
                      simp only [World.size_drew] at hlt3 hlt4 hlt5 hlt7 hlt9 hlt10 hltf
                      have cT : Box (((w20.setCell ⟨w10.heap.size, 0, none⟩ (.int .i64 c.dk)).setCell ⟨w10.heap.size, 1, none⟩ (.int .i64 c.dn)).setCell ⟨w10.heap.size, 2, none⟩ (.string c.ds.1)) w.heap.size 24 #[.slice a ts.length cap] ∧ Box (((w20.setCell ⟨w10.heap.size, 0, none⟩ (.int .i64 c.dk)).setCell ⟨w10.heap.size, 1, none⟩ (.int .i64 c.dn)).setCell ⟨w10.heap.size, 2, none⟩ (.string c.ds.1)) (w.heap.size + 1) 28 c.cs ∧ Box (((w20.setCell ⟨w10.heap.size, 0, none⟩ (.int .i64 c.dk)).setCell ⟨w10.heap.size, 1, none⟩ (.int .i64 c.dn)).setCell ⟨w10.heap.size, 2, none⟩ (.string c.ds.1)) (w.heap.size + 1 + 1) 31 #[.string t.1, .int .i64 tm, .slice av vs.length cv] ∧ Box (((w20.setCell ⟨w10.heap.size, 0, none⟩ (.int .i64 c.dk)).setCell ⟨w10.heap.size, 1, none⟩ (.int .i64 c.dn)).setCell ⟨w10.heap.size, 2, none⟩ (.string c.ds.1)) w4.heap.size 24 #[.slice a4 L.length c4] ∧ Box (((w20.setCell ⟨w10.heap.size, 0, none⟩ (.int .i64 c.dk)).setCell ⟨w10.heap.size, 1, none⟩ (.int .i64 c.dn)).setCell ⟨w10.heap.size, 2, none⟩ (.string c.ds.1)) w6.heap.size 31 #[.string t.1, .int .i64 tm, .slice a6 N.length c6] ∧ Box (((w20.setCell ⟨w10.heap.size, 0, none⟩ (.int .i64 c.dk)).setCell ⟨w10.heap.size, 1, none⟩ (.int .i64 c.dn)).setCell ⟨w10.heap.size, 2, none⟩ (.string c.ds.1)) w8.heap.size 44 #[.string tt.1.1, .slice (some ⟨bf, of', none⟩) F.length c9] ∧ (((w20.setCell ⟨w10.heap.size, 0, none⟩ (.int .i64 c.dk)).setCell ⟨w10.heap.size, 1, none⟩ (.int .i64 c.dn)).setCell ⟨w10.heap.size, 2, none⟩ (.string c.ds.1)).cell? ⟨bf, of' + q * 2, none⟩ = some (.string fn.1) := ⟨(((cE.1.other ⟨w10.heap.size, 0, none⟩ (.int .i64 c.dk) (by simp only; omega)).other ⟨w10.heap.size, 1, none⟩ (.int .i64 c.dn) (by simp only; omega)).other ⟨w10.heap.size, 2, none⟩ (.string c.ds.1) (by simp only; omega)), (((cE.2.1.other ⟨w10.heap.size, 0, none⟩ (.int .i64 c.dk) (by simp only; omega)).other ⟨w10.heap.size, 1, none⟩ (.int .i64 c.dn) (by simp only; omega)).other ⟨w10.heap.size, 2, none⟩ (.string c.ds.1) (by simp only; omega)), (((cE.2.2.1.other ⟨w10.heap.size, 0, none⟩ (.int .i64 c.dk) (by simp only; omega)).other ⟨w10.heap.size, 1, none⟩ (.int .i64 c.dn) (by simp only; omega)).other ⟨w10.heap.size, 2, none⟩ (.string c.ds.1) (by simp only; omega)), (((cE.2.2.2.1.other ⟨w10.heap.size, 0, none⟩ (.int .i64 c.dk) (by simp only; omega)).other ⟨w10.heap.size, 1, none⟩ (.int .i64 c.dn) (by simp only; omega)).other ⟨w10.heap.size, 2, none⟩ (.string c.ds.1) (by simp only; omega)), (((cE.2.2.2.2.1.other ⟨w10.heap.size, 0, none⟩ (.int .i64 c.dk) (by simp only; omega)).other ⟨w10.heap.size, 1, none⟩ (.int .i64 c.dn) (by simp only; omega)).other ⟨w10.heap.size, 2, none⟩ (.string c.ds.1) (by simp only; omega)), (((cE.2.2.2.2.2.1.other ⟨w10.heap.size, 0, none⟩ (.int .i64 c.dk) (by simp only; omega)).other ⟨w10.heap.size, 1, none⟩ (.int .i64 c.dn) (by simp only; omega)).other ⟨w10.heap.size, 2, none⟩ (.string c.ds.1) (by simp only; omega)), by
                        rw [World.cell?_setCell_other _ _ _ _ (fun e => by have := congrArg Addr.block e; simp only at this; omega), World.cell?_setCell_other _ _ _ _ (fun e => by have := congrArg Addr.block e; simp only at this; omega), World.cell?_setCell_other _ _ _ _ (fun e => by have := congrArg Addr.block e; simp only at this; omega)]
                        exact cE.2.2.2.2.2.2⟩
                      refine wpAnyC_calls 13 (by kernel_rfl) (fun oi ho K hK => ?_)
                      simp only [List.getElem?_toArray, List.getElem?_cons_succ, List.getElem?_cons_zero, Option.some.injEq] at ho
                      subst ho
                      go_simp
                      refine hK _ _ cT ?_
                      clear hK K
                      refine wpAnyC_reads 14 cT (by kernel_rfl) (by kernel_rfl) (by kernel_rfl) (fun d _ _ _ _ h => by cases d <;> exact h) (fun oi ho K hK => ?_)
                      simp only [List.getElem?_toArray, List.getElem?_cons_succ, List.getElem?_cons_zero, Option.some.injEq] at ho
                      subst ho
                      rw [if_pos (by kernel_rfl)]
                      refine ⟨.bool true, fun w' hw' => ?_, hK _ ?_⟩
                      · clear hw'
                        go_simp
                      clear hK K
                      refine wpAnyC_done (by kernel_rfl) ?_ _
                      go_wp2
                      go_meet
                      case rel =>
                        have bq := bD.trans ((bZ.trans (hb20.mono bZ.size)).mono bD.size)
                        exact ⟨_, rfl, rfl, y3, ((bq.setCell (p := ⟨w10.heap.size, 0, none⟩) (by simp) _).setCell (p := ⟨w10.heap.size, 1, none⟩) (by simp) _).setCell (p := ⟨w10.heap.size, 2, none⟩) (by simp) _⟩
                  case rest =>
                    obtain ⟨Bv, rfl, rfl, xv, bx⟩ := hcut
                    have cF : Box wc w.heap.size 24 #[.slice a ts.length cap] ∧ Box wc (w.heap.size + 1) 28 c.cs ∧ Box wc (w.heap.size + 1 + 1) 31 #[.string t.1, .int .i64 tm, .slice av vs.length cv] ∧ Box wc w4.heap.size 24 #[.slice a4 L.length c4] ∧ Box wc w6.heap.size 31 #[.string t.1, .int .i64 tm, .slice a6 N.length c6] ∧ Box wc w8.heap.size 44 #[.string tt.1.1, .slice (some ⟨bf, of', none⟩) F.length c9] ∧ wc.cell? ⟨bf, of' + q * 2, none⟩ = some (.string fn.1) := ⟨cY.1.on bx cY.1.lt, cY.2.1.on bx cY.2.1.lt, cY.2.2.1.on bx cY.2.2.1.lt, cY.2.2.2.1.on bx cY.2.2.2.1.lt, cY.2.2.2.2.1.on bx cY.2.2.2.2.1.lt, cY.2.2.2.2.2.1.on bx cY.2.2.2.2.2.1.lt, (bx.cell (p := ⟨bf, of' + q * 2, none⟩) (cell_lt cY.2.2.2.2.2.2)).trans cY.2.2.2.2.2.2⟩
                    have hbF := hbn.trans (bx.mono hbn.size)
                    have hs := cF.1.one.1
                    obtain ⟨he0, he1, he2⟩ := cF.2.2.1.three
                    have cH := hide (unhide cS _ ((unhide S9).on hbF) ((unhide V9).on hbF))
                    go_wp2_with fail
                    refine (unhide cH).mono ?_
                    rintro e w30 ⟨rfl, hb30⟩
                    clear cH hs he0 he1 he2
                    have bG : Below w30.heap.size w30 (w30.alloc (.cells #[.int .i64 wk, .int .i64 wn, .string wt.1] 26)) := (Below.refl _ _).alloc (Nat.le_refl _) _
                    have q30 := hb30.trans (bG.mono hb30.size)
                    obtain ⟨hv0, hv1, hv2⟩ := (xv.on q30 xv.lt).three
                    obtain ⟨hc0, hc1, hc2, hc3, hc4, hc5, hc6⟩ := (cF.2.1.on q30 cF.2.1.lt).seven
                    have hbZ := hbF.trans (q30.mono hbF.size)
                    go_wp2_with fail
                    exact ⟨⟨q + 1, by omega, by go_num, hbZ⟩, by simp [intOf]; omega⟩
                · simp only [Prod.mk.injEq] at he
                  obtain ⟨rfl, rfl⟩ := he
                  have cB := fun W => refBack_c c fn W
                  rw [hbk, show backV (some s) = .tuple #[.string s.1, .bool true] from rfl] at cB
                  replace cB := hide cB
                  have cS := fun W h h' => refGet_c a av cap cv ts ⟨t, tm, vs⟩ s.1 h5 hk5 h20 W h h'
                  rw [hgw, show gotV (some (wk, vn, vt)) = .tuple #[.agg #[.int .i64 wk, .int .i64 vn, .string vt.1], .bool true] from rfl] at cS
                  replace cS := hide cS
                  clear hgw hbk
                  have cW : Box wr w.heap.size 24 #[.slice a ts.length cap] ∧ Box wr (w.heap.size + 1) 28 c.cs ∧ Box wr (w.heap.size + 1 + 1) 31 #[.string t.1, .int .i64 tm, .slice av vs.length cv] ∧ Box wr w4.heap.size 24 #[.slice a4 L.length c4] ∧ Box wr w6.heap.size 31 #[.string t.1, .int .i64 tm, .slice a6 N.length c6] ∧ Box wr w8.heap.size 44 #[.string tt.1.1, .slice (some ⟨bf, of', none⟩) F.length c9] ∧ wr.cell? ⟨bf, of' + q * 2, none⟩ = some (.string fn.1) := ⟨o3, o4, o5, o7, o9, o10, f0⟩
                  have bE : Below wr.heap.size wr wr.drew := (Below.refl _ _).drew
                  have cX : Box wr.drew w.heap.size 24 #[.slice a ts.length cap] ∧ Box wr.drew (w.heap.size + 1) 28 c.cs ∧ Box wr.drew (w.heap.size + 1 + 1) 31 #[.string t.1, .int .i64 tm, .slice av vs.length cv] ∧ Box wr.drew w4.heap.size 24 #[.slice a4 L.length c4] ∧ Box wr.drew w6.heap.size 31 #[.string t.1, .int .i64 tm, .slice a6 N.length c6] ∧ Box wr.drew w8.heap.size 44 #[.string tt.1.1, .slice (some ⟨bf, of', none⟩) F.length c9] ∧ wr.drew.cell? ⟨bf, of' + q * 2, none⟩ = some (.string fn.1) := ⟨cW.1.on bE cW.1.lt, cW.2.1.on bE cW.2.1.lt, cW.2.2.1.on bE cW.2.2.1.lt, cW.2.2.2.1.on bE cW.2.2.2.1.lt, cW.2.2.2.2.1.on bE cW.2.2.2.2.1.lt, cW.2.2.2.2.2.1.on bE cW.2.2.2.2.2.1.lt, (bE.cell (p := ⟨bf, of' + q * 2, none⟩) (cell_lt cW.2.2.2.2.2.2)).trans cW.2.2.2.2.2.2⟩
                  have cB1 := hide (unhide cB wr.drew)
                  go_wp2_with fail
                  clear hn0 hn1 he0 hc1 f0
                  refine wp_region_any hmx (wpAny_of_C (C := fun w' => Box w' w.heap.size 24 #[.slice a ts.length cap] ∧ Box w' (w.heap.size + 1) 28 c.cs ∧ Box w' (w.heap.size + 1 + 1) 31 #[.string t.1, .int .i64 tm, .slice av vs.length cv] ∧ Box w' w4.heap.size 24 #[.slice a4 L.length c4] ∧ Box w' w6.heap.size 31 #[.string t.1, .int .i64 tm, .slice a6 N.length c6] ∧ Box w' w8.heap.size 44 #[.string tt.1.1, .slice (some ⟨bf, of', none⟩) F.length c9] ∧ w'.cell? ⟨bf, of' + q * 2, none⟩ = some (.string fn.1)) _ _ _ _ ?_)
                  refine wpAnyC_reads 0 cX (by kernel_rfl) (by kernel_rfl) (by kernel_rfl) (fun d _ _ _ _ h => by cases d <;> exact h) (fun oi ho K hK => ?_)
                  simp only [List.getElem?_toArray, List.getElem?_cons_zero, Option.some.injEq] at ho
                  subst ho
                  rw [if_pos (by kernel_rfl)]
                  refine ⟨c.v, fun w' hw' => ?_, hK _ ?_⟩
                  · obtain ⟨hx3, hx4, hx5, hx7, hx9, hx10, hxf⟩ := hw'
                    have hs := hx3.one.1
                    obtain ⟨hc0, hc1, hc2, hc3, hc4, hc5, hc6⟩ := hx4.seven
                    obtain ⟨he0, he1, he2⟩ := hx5.three
                    have ha := hx7.one.1
                    obtain ⟨hm0, hm1, hm2⟩ := hx9.three
                    obtain ⟨hn0, hn1⟩ := hx10.two
                    go_simp
                  clear hK K
                  refine wpAnyC_reads 1 cX (by kernel_rfl) (by kernel_rfl) (by kernel_rfl) (fun d _ _ _ _ h => by cases d <;> exact h) (fun oi ho K hK => ?_)
                  simp only [List.getElem?_toArray, List.getElem?_cons_succ, List.getElem?_cons_zero, Option.some.injEq] at ho
                  subst ho
                  rw [if_pos (by kernel_rfl)]
                  refine ⟨.pointer (some ⟨w8.heap.size, 1, none⟩), fun w' hw' => ?_, hK _ ?_⟩
                  · obtain ⟨hx3, hx4, hx5, hx7, hx9, hx10, hxf⟩ := hw'
                    have hs := hx3.one.1
                    obtain ⟨hc0, hc1, hc2, hc3, hc4, hc5, hc6⟩ := hx4.seven
                    obtain ⟨he0, he1, he2⟩ := hx5.three
                    have ha := hx7.one.1
                    obtain ⟨hm0, hm1, hm2⟩ := hx9.three
                    obtain ⟨hn0, hn1⟩ := hx10.two
                    go_simp
                  clear hK K
                  refine wpAnyC_reads 2 cX (by kernel_rfl) (by kernel_rfl) (by kernel_rfl) (fun d _ _ _ _ h => by cases d <;> exact h) (fun oi ho K hK => ?_)
                  simp only [List.getElem?_toArray, List.getElem?_cons_succ, List.getElem?_cons_zero, Option.some.injEq] at ho
                  subst ho
                  rw [if_pos (by kernel_rfl)]
                  refine ⟨.slice (some ⟨bf, of', none⟩) F.length c9, fun w' hw' => ?_, hK _ ?_⟩
                  · obtain ⟨hx3, hx4, hx5, hx7, hx9, hx10, hxf⟩ := hw'
                    have hs := hx3.one.1
                    obtain ⟨hc0, hc1, hc2, hc3, hc4, hc5, hc6⟩ := hx4.seven
                    obtain ⟨he0, he1, he2⟩ := hx5.three
                    have ha := hx7.one.1
                    obtain ⟨hm0, hm1, hm2⟩ := hx9.three
                    obtain ⟨hn0, hn1⟩ := hx10.two
                    go_simp
                  clear hK K
                  refine wpAnyC_reads 3 cX (by kernel_rfl) (by kernel_rfl) (by kernel_rfl) (fun d _ _ _ _ h => by cases d <;> exact h) (fun oi ho K hK => ?_)
                  simp only [List.getElem?_toArray, List.getElem?_cons_succ, List.getElem?_cons_zero, Option.some.injEq] at ho
                  subst ho
                  rw [if_pos (by kernel_rfl)]
                  refine ⟨.int .i64 q, fun w' hw' => ?_, hK _ ?_⟩
                  · obtain ⟨hx3, hx4, hx5, hx7, hx9, hx10, hxf⟩ := hw'
                    have hs := hx3.one.1
                    obtain ⟨hc0, hc1, hc2, hc3, hc4, hc5, hc6⟩ := hx4.seven
                    obtain ⟨he0, he1, he2⟩ := hx5.three
                    have ha := hx7.one.1
                    obtain ⟨hm0, hm1, hm2⟩ := hx9.three
                    obtain ⟨hn0, hn1⟩ := hx10.two
                    go_simp
                  clear hK K
                  refine wpAnyC_reads 4 cX (by kernel_rfl) (by kernel_rfl) (by kernel_rfl) (fun d _ _ _ _ h => by cases d <;> exact h) (fun oi ho K hK => ?_)
                  simp only [List.getElem?_toArray, List.getElem?_cons_succ, List.getElem?_cons_zero, Option.some.injEq] at ho
                  subst ho
                  rw [if_pos (by kernel_rfl)]
                  refine ⟨.pointer (some ⟨bf, of' + q * 2, none⟩), fun w' hw' => ?_, hK _ ?_⟩
                  · obtain ⟨hx3, hx4, hx5, hx7, hx9, hx10, hxf⟩ := hw'
                    have hs := hx3.one.1
                    obtain ⟨hc0, hc1, hc2, hc3, hc4, hc5, hc6⟩ := hx4.seven
                    obtain ⟨he0, he1, he2⟩ := hx5.three
                    have ha := hx7.one.1
                    obtain ⟨hm0, hm1, hm2⟩ := hx9.three
                    obtain ⟨hn0, hn1⟩ := hx10.two
                    go_simp
                  clear hK K
                  refine wpAnyC_reads 5 cX (by kernel_rfl) (by kernel_rfl) (by kernel_rfl) (fun d _ _ _ _ h => by cases d <;> exact h) (fun oi ho K hK => ?_)
                  simp only [List.getElem?_toArray, List.getElem?_cons_succ, List.getElem?_cons_zero, Option.some.injEq] at ho
                  subst ho
                  rw [if_pos (by kernel_rfl)]
                  refine ⟨.pointer (some ⟨bf, of' + q * 2, none⟩), fun w' hw' => ?_, hK _ ?_⟩
                  · obtain ⟨hx3, hx4, hx5, hx7, hx9, hx10, hxf⟩ := hw'
                    have hs := hx3.one.1
                    obtain ⟨hc0, hc1, hc2, hc3, hc4, hc5, hc6⟩ := hx4.seven
                    obtain ⟨he0, he1, he2⟩ := hx5.three
                    have ha := hx7.one.1
                    obtain ⟨hm0, hm1, hm2⟩ := hx9.three
                    obtain ⟨hn0, hn1⟩ := hx10.two
                    go_simp
                  clear hK K
                  refine wpAnyC_reads 6 cX (by kernel_rfl) (by kernel_rfl) (by kernel_rfl) (fun d _ _ _ _ h => by cases d <;> exact h) (fun oi ho K hK => ?_)
                  simp only [List.getElem?_toArray, List.getElem?_cons_succ, List.getElem?_cons_zero, Option.some.injEq] at ho
                  subst ho
                  rw [if_pos (by kernel_rfl)]
                  refine ⟨.string fn.1, fun w' hw' => ?_, hK _ ?_⟩
                  · obtain ⟨hx3, hx4, hx5, hx7, hx9, hx10, hxf⟩ := hw'
                    have hs := hx3.one.1
                    obtain ⟨hc0, hc1, hc2, hc3, hc4, hc5, hc6⟩ := hx4.seven
                    obtain ⟨he0, he1, he2⟩ := hx5.three
                    have ha := hx7.one.1
                    obtain ⟨hm0, hm1, hm2⟩ := hx9.three
                    obtain ⟨hn0, hn1⟩ := hx10.two
                    go_simp
                  clear hK K
                  refine wpAnyC_calls 7 (by kernel_rfl) (fun oi ho K hK => ?_)
                  simp only [List.getElem?_toArray, List.getElem?_cons_succ, List.getElem?_cons_zero, Option.some.injEq] at ho
                  subst ho
                  go_simp
                  refine (unhide cB1).mono ?_
                  rintro e w10 ⟨rfl, hb10⟩
                  have cY : Box w10 w.heap.size 24 #[.slice a ts.length cap] ∧ Box w10 (w.heap.size + 1) 28 c.cs ∧ Box w10 (w.heap.size + 1 + 1) 31 #[.string t.1, .int .i64 tm, .slice av vs.length cv] ∧ Box w10 w4.heap.size 24 #[.slice a4 L.length c4] ∧ Box w10 w6.heap.size 31 #[.string t.1, .int .i64 tm, .slice a6 N.length c6] ∧ Box w10 w8.heap.size 44 #[.string tt.1.1, .slice (some ⟨bf, of', none⟩) F.length c9] ∧ w10.cell? ⟨bf, of' + q * 2, none⟩ = some (.string fn.1) := ⟨cX.1.on hb10 cX.1.lt, cX.2.1.on hb10 cX.2.1.lt, cX.2.2.1.on hb10 cX.2.2.1.lt, cX.2.2.2.1.on hb10 cX.2.2.2.1.lt, cX.2.2.2.2.1.on hb10 cX.2.2.2.2.1.lt, cX.2.2.2.2.2.1.on hb10 cX.2.2.2.2.2.1.lt, (hb10.cell (p := ⟨bf, of' + q * 2, none⟩) (cell_lt cX.2.2.2.2.2.2)).trans cX.2.2.2.2.2.2⟩
                  go_simp
                  refine hK _ _ cY ?_
                  clear hK K
                  refine wpAnyC_reads 8 cY (by kernel_rfl) (by kernel_rfl) (by kernel_rfl) (fun d _ _ _ _ h => by cases d <;> exact h) (fun oi ho K hK => ?_)
                  simp only [List.getElem?_toArray, List.getElem?_cons_succ, List.getElem?_cons_zero, Option.some.injEq] at ho
                  subst ho
                  rw [if_pos (by kernel_rfl)]
                  refine ⟨.tuple #[.string s.1, .bool true], fun w' hw' => ?_, hK _ ?_⟩
                  · clear hw'
                    go_simp
                  clear hK K
                  refine wpAnyC_reads 9 cY (by kernel_rfl) (by kernel_rfl) (by kernel_rfl) (fun d _ _ _ _ h => by cases d <;> exact h) (fun oi ho K hK => ?_)
                  simp only [List.getElem?_toArray, List.getElem?_cons_succ, List.getElem?_cons_zero, Option.some.injEq] at ho
                  subst ho
                  rw [if_pos (by kernel_rfl)]
                  refine ⟨.string s.1, fun w' hw' => ?_, hK _ ?_⟩
                  · clear hw'
                    go_simp
                  clear hK K
                  refine wpAnyC_reads 10 cY (by kernel_rfl) (by kernel_rfl) (by kernel_rfl) (fun d _ _ _ _ h => by cases d <;> exact h) (fun oi ho K hK => ?_)
                  simp only [List.getElem?_toArray, List.getElem?_cons_succ, List.getElem?_cons_zero, Option.some.injEq] at ho
                  subst ho
                  rw [if_pos (by kernel_rfl)]
                  refine ⟨.bool true, fun w' hw' => ?_, hK _ ?_⟩
                  · clear hw'
                    go_simp
                  clear hK K
                  refine wpAnyC_reads 11 cY (by kernel_rfl) (by kernel_rfl) (by kernel_rfl) (fun d _ _ _ _ h => by cases d <;> exact h) (fun oi ho K hK => ?_)
                  simp only [List.getElem?_toArray, List.getElem?_cons_succ, List.getElem?_cons_zero, Option.some.injEq] at ho
                  subst ho
                  rw [if_pos (by kernel_rfl)]
                  refine ⟨.string s.1, fun w' hw' => ?_, hK _ ?_⟩
                  · clear hw'
                    go_simp
                  clear hK K
                  refine wpAnyC_reads 12 cY (by kernel_rfl) (by kernel_rfl) (by kernel_rfl) (fun d _ _ _ _ h => by cases d <;> exact h) (fun oi ho K hK => ?_)
                  simp only [List.getElem?_toArray, List.getElem?_cons_succ, List.getElem?_cons_zero, Option.some.injEq] at ho
                  subst ho
                  rw [if_pos (by kernel_rfl)]
                  refine ⟨.bool true, fun w' hw' => ?_, hK _ ?_⟩
                  · clear hw'
                    go_simp
                  clear hK K
                  refine wpAnyC_done (by kernel_rfl) ?_ _
                  have hbn := hbw.trans ((bE.trans (hb10.mono bE.size)).mono hbw.size)
                  go_simp
                  go_upto_region 16 with fail
                  go_cut [15, 16] (fun x y wx => ∃ Bv, x = .pointer (some ⟨Bv, 0, none⟩) ∧ y = .bool true ∧ Box wx Bv 26 #[.int .i64 vk, .int .i64 vn, .string vt.1] ∧ Below w10.heap.size w10 wx)
                  case first =>
                    clear cS
                    have bD : Below w10.heap.size w10 w10.drew := (Below.refl _ _).drew
                    have cD : Box w10.drew w.heap.size 24 #[.slice a ts.length cap] ∧ Box w10.drew (w.heap.size + 1) 28 c.cs ∧ Box w10.drew (w.heap.size + 1 + 1) 31 #[.string t.1, .int .i64 tm, .slice av vs.length cv] ∧ Box w10.drew w4.heap.size 24 #[.slice a4 L.length c4] ∧ Box w10.drew w6.heap.size 31 #[.string t.1, .int .i64 tm, .slice a6 N.length c6] ∧ Box w10.drew w8.heap.size 44 #[.string tt.1.1, .slice (some ⟨bf, of', none⟩) F.length c9] ∧ w10.drew.cell? ⟨bf, of' + q * 2, none⟩ = some (.string fn.1) := ⟨cY.1.on bD cY.1.lt, cY.2.1.on bD cY.2.1.lt, cY.2.2.1.on bD cY.2.2.1.lt, cY.2.2.2.1.on bD cY.2.2.2.1.lt, cY.2.2.2.2.1.on bD cY.2.2.2.2.1.lt, cY.2.2.2.2.2.1.on bD cY.2.2.2.2.2.1.lt, (bD.cell (p := ⟨bf, of' + q * 2, none⟩) (cell_lt cY.2.2.2.2.2.2)).trans cY.2.2.2.2.2.2⟩
                    have bZ : Below w10.drew.heap.size w10.drew (w10.drew.alloc (.cells #[.int .i64 0, .int .i64 0, .string ⟨#[]⟩] 26)) := (Below.refl _ _).alloc (Nat.le_refl _) _
                    have cZ : Box (w10.drew.alloc (.cells #[.int .i64 0, .int .i64 0, .string ⟨#[]⟩] 26)) w.heap.size 24 #[.slice a ts.length cap] ∧ Box (w10.drew.alloc (.cells #[.int .i64 0, .int .i64 0, .string ⟨#[]⟩] 26)) (w.heap.size + 1) 28 c.cs ∧ Box (w10.drew.alloc (.cells #[.int .i64 0, .int .i64 0, .string ⟨#[]⟩] 26)) (w.heap.size + 1 + 1) 31 #[.string t.1, .int .i64 tm, .slice av vs.length cv] ∧ Box (w10.drew.alloc (.cells #[.int .i64 0, .int .i64 0, .string ⟨#[]⟩] 26)) w4.heap.size 24 #[.slice a4 L.length c4] ∧ Box (w10.drew.alloc (.cells #[.int .i64 0, .int .i64 0, .string ⟨#[]⟩] 26)) w6.heap.size 31 #[.string t.1, .int .i64 tm, .slice a6 N.length c6] ∧ Box (w10.drew.alloc (.cells #[.int .i64 0, .int .i64 0, .string ⟨#[]⟩] 26)) w8.heap.size 44 #[.string tt.1.1, .slice (some ⟨bf, of', none⟩) F.length c9] ∧ (w10.drew.alloc (.cells #[.int .i64 0, .int .i64 0, .string ⟨#[]⟩] 26)).cell? ⟨bf, of' + q * 2, none⟩ = some (.string fn.1) := ⟨cD.1.on bZ cD.1.lt, cD.2.1.on bZ cD.2.1.lt, cD.2.2.1.on bZ cD.2.2.1.lt, cD.2.2.2.1.on bZ cD.2.2.2.1.lt, cD.2.2.2.2.1.on bZ cD.2.2.2.2.1.lt, cD.2.2.2.2.2.1.on bZ cD.2.2.2.2.2.1.lt, (bZ.cell (p := ⟨bf, of' + q * 2, none⟩) (cell_lt cD.2.2.2.2.2.2)).trans cD.2.2.2.2.2.2⟩
                    have q1 := hbn.trans (bD.mono hbn.size)
                    have q2 := q1.trans (bZ.mono q1.size)
                    have cG1 := hide (unhide cG w10.drew ((unhide T9).on q1) ((unhide N9).on q1))
                    have cG2 := hide (unhide cG (w10.drew.alloc (.cells #[.int .i64 0, .int .i64 0, .string ⟨#[]⟩] 26)) ((unhide T9).on q2) ((unhide N9).on q2))
                    have xz : Box (w10.drew.alloc (.cells #[.int .i64 0, .int .i64 0, .string ⟨#[]⟩] 26)) w10.heap.size 26 #[.int .i64 0, .int .i64 0, .string ⟨#[]⟩] := Box.new w10.drew 26 #[.int .i64 0, .int .i64 0, .string ⟨#[]⟩]
                    refine wp_region_any hmx (wpAny_of_C (C := fun w' => Box w' w.heap.size 24 #[.slice a ts.length cap] ∧ Box w' (w.heap.size + 1) 28 c.cs ∧ Box w' (w.heap.size + 1 + 1) 31 #[.string t.1, .int .i64 tm, .slice av vs.length cv] ∧ Box w' w4.heap.size 24 #[.slice a4 L.length c4] ∧ Box w' w6.heap.size 31 #[.string t.1, .int .i64 tm, .slice a6 N.length c6] ∧ Box w' w8.heap.size 44 #[.string tt.1.1, .slice (some ⟨bf, of', none⟩) F.length c9] ∧ w'.cell? ⟨bf, of' + q * 2, none⟩ = some (.string fn.1)) _ _ _ _ ?_)
                    refine wpAnyC_reads 0 cD (by kernel_rfl) (by kernel_rfl) (by kernel_rfl) (fun d _ _ _ _ h => by cases d <;> exact h) (fun oi ho K hK => ?_)
                    simp only [List.getElem?_toArray, List.getElem?_cons_zero, Option.some.injEq] at ho
                    subst ho
                    rw [if_pos (by kernel_rfl)]
                    refine ⟨.agg #[.slice a4 L.length c4], fun w' hw' => ?_, hK _ ?_⟩
                    · obtain ⟨hx3, hx4, hx5, hx7, hx9, hx10, hxf⟩ := hw'
                      have hs := hx3.one.1
                      obtain ⟨hc0, hc1, hc2, hc3, hc4, hc5, hc6⟩ := hx4.seven
                      obtain ⟨he0, he1, he2⟩ := hx5.three
                      have ha := hx7.one.1
                      obtain ⟨hm0, hm1, hm2⟩ := hx9.three
                      obtain ⟨hn0, hn1⟩ := hx10.two
                      go_simp
                    clear hK K
                    refine wpAnyC_reads 1 cD (by kernel_rfl) (by kernel_rfl) (by kernel_rfl) (fun d _ _ _ _ h => by cases d <;> exact h) (fun oi ho K hK => ?_)
                    simp only [List.getElem?_toArray, List.getElem?_cons_succ, List.getElem?_cons_zero, Option.some.injEq] at ho
                    subst ho
                    rw [if_pos (by kernel_rfl)]
                    refine ⟨.agg #[.string t.1, .int .i64 tm, .slice a6 N.length c6], fun w' hw' => ?_, hK _ ?_⟩
                    · obtain ⟨hx3, hx4, hx5, hx7, hx9, hx10, hxf⟩ := hw'
                      have hs := hx3.one.1
                      obtain ⟨hc0, hc1, hc2, hc3, hc4, hc5, hc6⟩ := hx4.seven
                      obtain ⟨he0, he1, he2⟩ := hx5.three
                      have ha := hx7.one.1
                      obtain ⟨hm0, hm1, hm2⟩ := hx9.three
                      obtain ⟨hn0, hn1⟩ := hx10.two
                      go_simp
                    clear hK K
                    refine wpAnyC_reads 2 cD (by kernel_rfl) (by kernel_rfl) (by kernel_rfl) (fun d _ _ _ _ h => by cases d <;> exact h) (fun oi ho K hK => ?_)
                    simp only [List.getElem?_toArray, List.getElem?_cons_succ, List.getElem?_cons_zero, Option.some.injEq] at ho
                    subst ho
                    rw [if_pos (by kernel_rfl)]
                    refine ⟨.pointer (some ⟨w8.heap.size, 1, none⟩), fun w' hw' => ?_, hK _ ?_⟩
                    · obtain ⟨hx3, hx4, hx5, hx7, hx9, hx10, hxf⟩ := hw'
                      have hs := hx3.one.1
                      obtain ⟨hc0, hc1, hc2, hc3, hc4, hc5, hc6⟩ := hx4.seven
                      obtain ⟨he0, he1, he2⟩ := hx5.three
                      have ha := hx7.one.1
                      obtain ⟨hm0, hm1, hm2⟩ := hx9.three
                      obtain ⟨hn0, hn1⟩ := hx10.two
                      go_simp
                    clear hK K
                    refine wpAnyC_reads 3 cD (by kernel_rfl) (by kernel_rfl) (by kernel_rfl) (fun d _ _ _ _ h => by cases d <;> exact h) (fun oi ho K hK => ?_)
                    simp only [List.getElem?_toArray, List.getElem?_cons_succ, List.getElem?_cons_zero, Option.some.injEq] at ho
                    subst ho
                    rw [if_pos (by kernel_rfl)]
                    refine ⟨.slice (some ⟨bf, of', none⟩) F.length c9, fun w' hw' => ?_, hK _ ?_⟩
                    · obtain ⟨hx3, hx4, hx5, hx7, hx9, hx10, hxf⟩ := hw'
                      have hs := hx3.one.1
                      obtain ⟨hc0, hc1, hc2, hc3, hc4, hc5, hc6⟩ := hx4.seven
                      obtain ⟨he0, he1, he2⟩ := hx5.three
                      have ha := hx7.one.1
                      obtain ⟨hm0, hm1, hm2⟩ := hx9.three
                      obtain ⟨hn0, hn1⟩ := hx10.two
                      go_simp
                    clear hK K
                    refine wpAnyC_reads 4 cD (by kernel_rfl) (by kernel_rfl) (by kernel_rfl) (fun d _ _ _ _ h => by cases d <;> exact h) (fun oi ho K hK => ?_)
                    simp only [List.getElem?_toArray, List.getElem?_cons_succ, List.getElem?_cons_zero, Option.some.injEq] at ho
                    subst ho
                    rw [if_pos (by kernel_rfl)]
                    refine ⟨.int .i64 q, fun w' hw' => ?_, hK _ ?_⟩
                    · obtain ⟨hx3, hx4, hx5, hx7, hx9, hx10, hxf⟩ := hw'
                      have hs := hx3.one.1
                      obtain ⟨hc0, hc1, hc2, hc3, hc4, hc5, hc6⟩ := hx4.seven
                      obtain ⟨he0, he1, he2⟩ := hx5.three
                      have ha := hx7.one.1
                      obtain ⟨hm0, hm1, hm2⟩ := hx9.three
                      obtain ⟨hn0, hn1⟩ := hx10.two
                      go_simp
                    clear hK K
                    refine wpAnyC_reads 5 cD (by kernel_rfl) (by kernel_rfl) (by kernel_rfl) (fun d _ _ _ _ h => by cases d <;> exact h) (fun oi ho K hK => ?_)
                    simp only [List.getElem?_toArray, List.getElem?_cons_succ, List.getElem?_cons_zero, Option.some.injEq] at ho
                    subst ho
                    rw [if_pos (by kernel_rfl)]
                    refine ⟨.pointer (some ⟨bf, of' + q * 2, none⟩), fun w' hw' => ?_, hK _ ?_⟩
                    · obtain ⟨hx3, hx4, hx5, hx7, hx9, hx10, hxf⟩ := hw'
                      have hs := hx3.one.1
                      obtain ⟨hc0, hc1, hc2, hc3, hc4, hc5, hc6⟩ := hx4.seven
                      obtain ⟨he0, he1, he2⟩ := hx5.three
                      have ha := hx7.one.1
                      obtain ⟨hm0, hm1, hm2⟩ := hx9.three
                      obtain ⟨hn0, hn1⟩ := hx10.two
                      go_simp
                    clear hK K
                    refine wpAnyC_reads 6 cD (by kernel_rfl) (by kernel_rfl) (by kernel_rfl) (fun d _ _ _ _ h => by cases d <;> exact h) (fun oi ho K hK => ?_)
                    simp only [List.getElem?_toArray, List.getElem?_cons_succ, List.getElem?_cons_zero, Option.some.injEq] at ho
                    subst ho
                    rw [if_pos (by kernel_rfl)]
                    refine ⟨.pointer (some ⟨bf, of' + q * 2, none⟩), fun w' hw' => ?_, hK _ ?_⟩
                    · obtain ⟨hx3, hx4, hx5, hx7, hx9, hx10, hxf⟩ := hw'
                      have hs := hx3.one.1
                      obtain ⟨hc0, hc1, hc2, hc3, hc4, hc5, hc6⟩ := hx4.seven
                      obtain ⟨he0, he1, he2⟩ := hx5.three
                      have ha := hx7.one.1
                      obtain ⟨hm0, hm1, hm2⟩ := hx9.three
                      obtain ⟨hn0, hn1⟩ := hx10.two
                      go_simp
                    clear hK K
                    refine wpAnyC_reads 7 cD (by kernel_rfl) (by kernel_rfl) (by kernel_rfl) (fun d _ _ _ _ h => by cases d <;> exact h) (fun oi ho K hK => ?_)
                    simp only [List.getElem?_toArray, List.getElem?_cons_succ, List.getElem?_cons_zero, Option.some.injEq] at ho
                    subst ho
                    rw [if_pos (by kernel_rfl)]
                    refine ⟨.string fn.1, fun w' hw' => ?_, hK _ ?_⟩
                    · obtain ⟨hx3, hx4, hx5, hx7, hx9, hx10, hxf⟩ := hw'
                      have hs := hx3.one.1
                      obtain ⟨hc0, hc1, hc2, hc3, hc4, hc5, hc6⟩ := hx4.seven
                      obtain ⟨he0, he1, he2⟩ := hx5.three
                      have ha := hx7.one.1
                      obtain ⟨hm0, hm1, hm2⟩ := hx9.three
                      obtain ⟨hn0, hn1⟩ := hx10.two
                      go_simp
                    clear hK K
                    refine wpAnyC_two 8 12 (by kernel_rfl) (fun oi ho K hK => ?_) (fun oi ho K hK => ?_)
                    · simp only [List.getElem?_toArray, List.getElem?_cons_succ, List.getElem?_cons_zero, Option.some.injEq] at ho
                      subst ho
                      go_simp
                      refine (unhide cG1).mono ?_
                      rintro e w20 ⟨rfl, hb20⟩
                      have cE : Box w20 w.heap.size 24 #[.slice a ts.length cap] ∧ Box w20 (w.heap.size + 1) 28 c.cs ∧ Box w20 (w.heap.size + 1 + 1) 31 #[.string t.1, .int .i64 tm, .slice av vs.length cv] ∧ Box w20 w4.heap.size 24 #[.slice a4 L.length c4] ∧ Box w20 w6.heap.size 31 #[.string t.1, .int .i64 tm, .slice a6 N.length c6] ∧ Box w20 w8.heap.size 44 #[.string tt.1.1, .slice (some ⟨bf, of', none⟩) F.length c9] ∧ w20.cell? ⟨bf, of' + q * 2, none⟩ = some (.string fn.1) := ⟨cD.1.on hb20 cD.1.lt, cD.2.1.on hb20 cD.2.1.lt, cD.2.2.1.on hb20 cD.2.2.1.lt, cD.2.2.2.1.on hb20 cD.2.2.2.1.lt, cD.2.2.2.2.1.on hb20 cD.2.2.2.2.1.lt, cD.2.2.2.2.2.1.on hb20 cD.2.2.2.2.2.1.lt, (hb20.cell (p := ⟨bf, of' + q * 2, none⟩) (cell_lt cD.2.2.2.2.2.2)).trans cD.2.2.2.2.2.2⟩
                      go_simp
                      refine hK _ _ cE ?_
                      clear hK K
                      refine wpAnyC_reads 9 cE (by kernel_rfl) (by kernel_rfl) (by kernel_rfl) (fun d _ _ _ _ h => by cases d <;> exact h) (fun oi ho K hK => ?_)
                      simp only [List.getElem?_toArray, List.getElem?_cons_succ, List.getElem?_cons_zero, Option.some.injEq] at ho
                      subst ho
                      rw [if_pos (by kernel_rfl)]
                      refine ⟨.tuple #[.agg #[.int .i64 vk, .int .i64 vn, .string vt.1], .bool true], fun w' hw' => ?_, hK _ ?_⟩
                      · clear hw'
                        go_simp
                      clear hK K
                      refine wpAnyC_reads 10 cE (by kernel_rfl) (by kernel_rfl) (by kernel_rfl) (fun d _ _ _ _ h => by cases d <;> exact h) (fun oi ho K hK => ?_)
                      simp only [List.getElem?_toArray, List.getElem?_cons_succ, List.getElem?_cons_zero, Option.some.injEq] at ho
                      subst ho
                      rw [if_pos (by kernel_rfl)]
                      refine ⟨.agg #[.int .i64 vk, .int .i64 vn, .string vt.1], fun w' hw' => ?_, hK _ ?_⟩
                      · clear hw'
                        go_simp
                      clear hK K
                      have bF : Below w20.heap.size w20 (w20.alloc (.cells #[.int .i64 vk, .int .i64 vn, .string vt.1] 26)) := (Below.refl _ _).alloc (Nat.le_refl _) _
                      have bF0 : Below w20.heap.size w20 (w20.alloc (.cells #[.int .i64 0, .int .i64 0, .string ⟨#[]⟩] 26)) := (Below.refl _ _).alloc (Nat.le_refl _) _
                      have cF : Box (w20.alloc (.cells #[.int .i64 vk, .int .i64 vn, .string vt.1] 26)) w.heap.size 24 #[.slice a ts.length cap] ∧ Box (w20.alloc (.cells #[.int .i64 vk, .int .i64 vn, .string vt.1] 26)) (w.heap.size + 1) 28 c.cs ∧ Box (w20.alloc (.cells #[.int .i64 vk, .int .i64 vn, .string vt.1] 26)) (w.heap.size + 1 + 1) 31 #[.string t.1, .int .i64 tm, .slice av vs.length cv] ∧ Box (w20.alloc (.cells #[.int .i64 vk, .int .i64 vn, .string vt.1] 26)) w4.heap.size 24 #[.slice a4 L.length c4] ∧ Box (w20.alloc (.cells #[.int .i64 vk, .int .i64 vn, .string vt.1] 26)) w6.heap.size 31 #[.string t.1, .int .i64 tm, .slice a6 N.length c6] ∧ Box (w20.alloc (.cells #[.int .i64 vk, .int .i64 vn, .string vt.1] 26)) w8.heap.size 44 #[.string tt.1.1, .slice (some ⟨bf, of', none⟩) F.length c9] ∧ (w20.alloc (.cells #[.int .i64 vk, .int .i64 vn, .string vt.1] 26)).cell? ⟨bf, of' + q * 2, none⟩ = some (.string fn.1) := ⟨cE.1.on bF cE.1.lt, cE.2.1.on bF cE.2.1.lt, cE.2.2.1.on bF cE.2.2.1.lt, cE.2.2.2.1.on bF cE.2.2.2.1.lt, cE.2.2.2.2.1.on bF cE.2.2.2.2.1.lt, cE.2.2.2.2.2.1.on bF cE.2.2.2.2.2.1.lt, (bF.cell (p := ⟨bf, of' + q * 2, none⟩) (cell_lt cE.2.2.2.2.2.2)).trans cE.2.2.2.2.2.2⟩
                      have cF0 : Box (w20.alloc (.cells #[.int .i64 0, .int .i64 0, .string ⟨#[]⟩] 26)) w.heap.size 24 #[.slice a ts.length cap] ∧ Box (w20.alloc (.cells #[.int .i64 0, .int .i64 0, .string ⟨#[]⟩] 26)) (w.heap.size + 1) 28 c.cs ∧ Box (w20.alloc (.cells #[.int .i64 0, .int .i64 0, .string ⟨#[]⟩] 26)) (w.heap.size + 1 + 1) 31 #[.string t.1, .int .i64 tm, .slice av vs.length cv] ∧ Box (w20.alloc (.cells #[.int .i64 0, .int .i64 0, .string ⟨#[]⟩] 26)) w4.heap.size 24 #[.slice a4 L.length c4] ∧ Box (w20.alloc (.cells #[.int .i64 0, .int .i64 0, .string ⟨#[]⟩] 26)) w6.heap.size 31 #[.string t.1, .int .i64 tm, .slice a6 N.length c6] ∧ Box (w20.alloc (.cells #[.int .i64 0, .int .i64 0, .string ⟨#[]⟩] 26)) w8.heap.size 44 #[.string tt.1.1, .slice (some ⟨bf, of', none⟩) F.length c9] ∧ (w20.alloc (.cells #[.int .i64 0, .int .i64 0, .string ⟨#[]⟩] 26)).cell? ⟨bf, of' + q * 2, none⟩ = some (.string fn.1) := ⟨cE.1.on bF0 cE.1.lt, cE.2.1.on bF0 cE.2.1.lt, cE.2.2.1.on bF0 cE.2.2.1.lt, cE.2.2.2.1.on bF0 cE.2.2.2.1.lt, cE.2.2.2.2.1.on bF0 cE.2.2.2.2.1.lt, cE.2.2.2.2.2.1.on bF0 cE.2.2.2.2.2.1.lt, (bF0.cell (p := ⟨bf, of' + q * 2, none⟩) (cell_lt cE.2.2.2.2.2.2)).trans cE.2.2.2.2.2.2⟩
                      refine wpAnyC_reads 11 cE (by kernel_rfl) (by kernel_rfl) (by kernel_rfl) (fun d _ _ _ _ h => by cases d <;> exact h) (fun oi ho K hK => ?_)
                      simp only [List.getElem?_toArray, List.getElem?_cons_succ, List.getElem?_cons_zero, Option.some.injEq] at ho
                      subst ho
                      rw [if_pos (by kernel_rfl)]
                      refine ⟨.bool true, fun w' hw' => ?_, hK _ ?_⟩
                      · clear hw'
                        go_simp
                      clear hK K
                      refine wpAnyC_calls 12 (by kernel_rfl) (fun oi ho K hK => ?_)
                      simp only [List.getElem?_toArray, List.getElem?_cons_succ, List.getElem?_cons_zero, Option.some.injEq] at ho
                      subst ho
                      go_simp
                      refine hK _ _ cF0 ?_
                      clear hK K
                      refine wpAnyC_calls 13 (by kernel_rfl) (fun oi ho K hK => ?_)
                      simp only [List.getElem?_toArray, List.getElem?_cons_succ, List.getElem?_cons_zero, Option.some.injEq] at ho
                      subst ho
                      go_simp
                      refine hK _ _ cF ?_
                      clear hK K
                      refine wpAnyC_reads 14 cF (by kernel_rfl) (by kernel_rfl) (by kernel_rfl) (fun d _ _ _ _ h => by cases d <;> exact h) (fun oi ho K hK => ?_)
                      simp only [List.getElem?_toArray, List.getElem?_cons_succ, List.getElem?_cons_zero, Option.some.injEq] at ho
                      subst ho
                      rw [if_pos (by kernel_rfl)]
                      refine ⟨.bool true, fun w' hw' => ?_, hK _ ?_⟩
                      · clear hw'
                        go_simp
                      clear hK K
                      refine wpAnyC_done (by kernel_rfl) ?_ _
                      go_wp2
                      go_meet
                      case rel => exact ⟨_, rfl, rfl, Box.new w20 26 _, (bD.trans (hb20.mono bD.size)).trans (bF.mono (bD.trans (hb20.mono bD.size)).size)⟩
                    · simp only [List.getElem?_toArray, List.getElem?_cons_succ, List.getElem?_cons_zero, Option.some.injEq] at ho
                      subst ho
                      go_simp
                      refine hK _ _ cZ ?_
                      clear hK K
                      refine wpAnyC_calls 8 (by kernel_rfl) (fun oi ho K hK => ?_)
                      simp only [List.getElem?_toArray, List.getElem?_cons_succ, List.getElem?_cons_zero, Option.some.injEq] at ho
                      subst ho
                      go_simp
                      refine (unhide cG2).mono ?_
                      rintro e w20 ⟨rfl, hb20⟩
                      have cE : Box w20 w.heap.size 24 #[.slice a ts.length cap] ∧ Box w20 (w.heap.size + 1) 28 c.cs ∧ Box w20 (w.heap.size + 1 + 1) 31 #[.string t.1, .int .i64 tm, .slice av vs.length cv] ∧ Box w20 w4.heap.size 24 #[.slice a4 L.length c4] ∧ Box w20 w6.heap.size 31 #[.string t.1, .int .i64 tm, .slice a6 N.length c6] ∧ Box w20 w8.heap.size 44 #[.string tt.1.1, .slice (some ⟨bf, of', none⟩) F.length c9] ∧ w20.cell? ⟨bf, of' + q * 2, none⟩ = some (.string fn.1) := ⟨cZ.1.on hb20 cZ.1.lt, cZ.2.1.on hb20 cZ.2.1.lt, cZ.2.2.1.on hb20 cZ.2.2.1.lt, cZ.2.2.2.1.on hb20 cZ.2.2.2.1.lt, cZ.2.2.2.2.1.on hb20 cZ.2.2.2.2.1.lt, cZ.2.2.2.2.2.1.on hb20 cZ.2.2.2.2.2.1.lt, (hb20.cell (p := ⟨bf, of' + q * 2, none⟩) (cell_lt cZ.2.2.2.2.2.2)).trans cZ.2.2.2.2.2.2⟩
                      go_simp
                      refine hK _ _ cE ?_
                      clear hK K
                      refine wpAnyC_reads 9 cE (by kernel_rfl) (by kernel_rfl) (by kernel_rfl) (fun d _ _ _ _ h => by cases d <;> exact h) (fun oi ho K hK => ?_)
                      simp only [List.getElem?_toArray, List.getElem?_cons_succ, List.getElem?_cons_zero, Option.some.injEq] at ho
                      subst ho
                      rw [if_pos (by kernel_rfl)]
                      refine ⟨.tuple #[.agg #[.int .i64 vk, .int .i64 vn, .string vt.1], .bool true], fun w' hw' => ?_, hK _ ?_⟩
                      · clear hw'
                        go_simp
                      clear hK K
                      refine wpAnyC_reads 10 cE (by kernel_rfl) (by kernel_rfl) (by kernel_rfl) (fun d _ _ _ _ h => by cases d <;> exact h) (fun oi ho K hK => ?_)
                      simp only [List.getElem?_toArray, List.getElem?_cons_succ, List.getElem?_cons_zero, Option.some.injEq] at ho
                      subst ho
                      rw [if_pos (by kernel_rfl)]
                      refine ⟨.agg #[.int .i64 vk, .int .i64 vn, .string vt.1], fun w' hw' => ?_, hK _ ?_⟩
                      · clear hw'
                        go_simp
                      clear hK K
                      refine wpAnyC_reads 11 cE (by kernel_rfl) (by kernel_rfl) (by kernel_rfl) (fun d _ _ _ _ h => by cases d <;> exact h) (fun oi ho K hK => ?_)
                      simp only [List.getElem?_toArray, List.getElem?_cons_succ, List.getElem?_cons_zero, Option.some.injEq] at ho
                      subst ho
                      rw [if_pos (by kernel_rfl)]
                      refine ⟨.bool true, fun w' hw' => ?_, hK _ ?_⟩
                      · clear hw'
                        go_simp
                      clear hK K
                      have y := xz.on hb20 xz.lt
                      obtain ⟨yz0, yz1, yz2⟩ := y.three
                      have yf0 := y.frz 0
                      have yf1 := y.frz 1
                      have yf2 := y.frz 2
                      have y3 := ((y.set 0 (.int .i64 vk)).set 1 (.int .i64 vn)).set 2 (.string vt.1)
                      have hlt3 := cD.1.lt
                      have hlt4 := cD.2.1.lt
                      have hlt5 := cD.2.2.1.lt
                      have hlt7 := cD.2.2.2.1.lt
                      have hlt9 := cD.2.2.2.2.1.lt
                      have hlt10 := cD.2.2.2.2.2.1.lt
                      have hltf := cell_lt cD.2.2.2.2.2.2
                      simp only [World.size_drew] at hlt3 hlt4 hlt5 hlt7 hlt9 hlt10 hltf
                      have cT : Box (((w20.setCell ⟨w10.heap.size, 0, none⟩ (.int .i64 vk)).setCell ⟨w10.heap.size, 1, none⟩ (.int .i64 vn)).setCell ⟨w10.heap.size, 2, none⟩ (.string vt.1)) w.heap.size 24 #[.slice a ts.length cap] ∧ Box (((w20.setCell ⟨w10.heap.size, 0, none⟩ (.int .i64 vk)).setCell ⟨w10.heap.size, 1, none⟩ (.int .i64 vn)).setCell ⟨w10.heap.size, 2, none⟩ (.string vt.1)) (w.heap.size + 1) 28 c.cs ∧ Box (((w20.setCell ⟨w10.heap.size, 0, none⟩ (.int .i64 vk)).setCell ⟨w10.heap.size, 1, none⟩ (.int .i64 vn)).setCell ⟨w10.heap.size, 2, none⟩ (.string vt.1)) (w.heap.size + 1 + 1) 31 #[.string t.1, .int .i64 tm, .slice av vs.length cv] ∧ Box (((w20.setCell ⟨w10.heap.size, 0, none⟩ (.int .i64 vk)).setCell ⟨w10.heap.size, 1, none⟩ (.int .i64 vn)).setCell ⟨w10.heap.size, 2, none⟩ (.string vt.1)) w4.heap.size 24 #[.slice a4 L.length c4] ∧ Box (((w20.setCell ⟨w10.heap.size, 0, none⟩ (.int .i64 vk)).setCell ⟨w10.heap.size, 1, none⟩ (.int .i64 vn)).setCell ⟨w10.heap.size, 2, none⟩ (.string vt.1)) w6.heap.size 31 #[.string t.1, .int .i64 tm, .slice a6 N.length c6] ∧ Box (((w20.setCell ⟨w10.heap.size, 0, none⟩ (.int .i64 vk)).setCell ⟨w10.heap.size, 1, none⟩ (.int .i64 vn)).setCell ⟨w10.heap.size, 2, none⟩ (.string vt.1)) w8.heap.size 44 #[.string tt.1.1, .slice (some ⟨bf, of', none⟩) F.length c9] ∧ (((w20.setCell ⟨w10.heap.size, 0, none⟩ (.int .i64 vk)).setCell ⟨w10.heap.size, 1, none⟩ (.int .i64 vn)).setCell ⟨w10.heap.size, 2, none⟩ (.string vt.1)).cell? ⟨bf, of' + q * 2, none⟩ = some (.string fn.1) := ⟨(((cE.1.other ⟨w10.heap.size, 0, none⟩ (.int .i64 vk) (by simp only; omega)).other ⟨w10.heap.size, 1, none⟩ (.int .i64 vn) (by simp only; omega)).other ⟨w10.heap.size, 2, none⟩ (.string vt.1) (by simp only; omega)), (((cE.2.1.other ⟨w10.heap.size, 0, none⟩ (.int .i64 vk) (by simp only; omega)).other ⟨w10.heap.size, 1, none⟩ (.int .i64 vn) (by simp only; omega)).other ⟨w10.heap.size, 2, none⟩ (.string vt.1) (by simp only; omega)), (((cE.2.2.1.other ⟨w10.heap.size, 0, none⟩ (.int .i64 vk) (by simp only; omega)).other ⟨w10.heap.size, 1, none⟩ (.int .i64 vn) (by simp only; omega)).other ⟨w10.heap.size, 2, none⟩ (.string vt.1) (by simp only; omega)), (((cE.2.2.2.1.other ⟨w10.heap.size, 0, none⟩ (.int .i64 vk) (by simp only; omega)).other ⟨w10.heap.size, 1, none⟩ (.int .i64 vn) (by simp only; omega)).other ⟨w10.heap.size, 2, none⟩ (.string vt.1) (by simp only; omega)), (((cE.2.2.2.2.1.other ⟨w10.heap.size, 0, none⟩ (.int .i64 vk) (by simp only; omega)).other ⟨w10.heap.size, 1, none⟩ (.int .i64 vn) (by simp only; omega)).other ⟨w10.heap.size, 2, none⟩ (.string vt.1) (by simp only; omega)), (((cE.2.2.2.2.2.1.other ⟨w10.heap.size, 0, none⟩ (.int .i64 vk) (by simp only; omega)).other ⟨w10.heap.size, 1, none⟩ (.int .i64 vn) (by simp only; omega)).other ⟨w10.heap.size, 2, none⟩ (.string vt.1) (by simp only; omega)), by
                        rw [World.cell?_setCell_other _ _ _ _ (fun e => by have := congrArg Addr.block e; simp only at this; omega), World.cell?_setCell_other _ _ _ _ (fun e => by have := congrArg Addr.block e; simp only at this; omega), World.cell?_setCell_other _ _ _ _ (fun e => by have := congrArg Addr.block e; simp only at this; omega)]
                        exact cE.2.2.2.2.2.2⟩
                      refine wpAnyC_calls 13 (by kernel_rfl) (fun oi ho K hK => ?_)
                      simp only [List.getElem?_toArray, List.getElem?_cons_succ, List.getElem?_cons_zero, Option.some.injEq] at ho
                      subst ho
                      go_simp
                      refine hK _ _ cT ?_
                      clear hK K
                      refine wpAnyC_reads 14 cT (by kernel_rfl) (by kernel_rfl) (by kernel_rfl) (fun d _ _ _ _ h => by cases d <;> exact h) (fun oi ho K hK => ?_)
                      simp only [List.getElem?_toArray, List.getElem?_cons_succ, List.getElem?_cons_zero, Option.some.injEq] at ho
                      subst ho
                      rw [if_pos (by kernel_rfl)]
                      refine ⟨.bool true, fun w' hw' => ?_, hK _ ?_⟩
                      · clear hw'
                        go_simp
                      clear hK K
                      refine wpAnyC_done (by kernel_rfl) ?_ _
                      go_wp2
                      go_meet
                      case rel =>
                        have bq := bD.trans ((bZ.trans (hb20.mono bZ.size)).mono bD.size)
                        exact ⟨_, rfl, rfl, y3, ((bq.setCell (p := ⟨w10.heap.size, 0, none⟩) (by simp) _).setCell (p := ⟨w10.heap.size, 1, none⟩) (by simp) _).setCell (p := ⟨w10.heap.size, 2, none⟩) (by simp) _⟩
                  case rest =>
                    obtain ⟨Bv, rfl, rfl, xv, bx⟩ := hcut
                    have cF : Box wc w.heap.size 24 #[.slice a ts.length cap] ∧ Box wc (w.heap.size + 1) 28 c.cs ∧ Box wc (w.heap.size + 1 + 1) 31 #[.string t.1, .int .i64 tm, .slice av vs.length cv] ∧ Box wc w4.heap.size 24 #[.slice a4 L.length c4] ∧ Box wc w6.heap.size 31 #[.string t.1, .int .i64 tm, .slice a6 N.length c6] ∧ Box wc w8.heap.size 44 #[.string tt.1.1, .slice (some ⟨bf, of', none⟩) F.length c9] ∧ wc.cell? ⟨bf, of' + q * 2, none⟩ = some (.string fn.1) := ⟨cY.1.on bx cY.1.lt, cY.2.1.on bx cY.2.1.lt, cY.2.2.1.on bx cY.2.2.1.lt, cY.2.2.2.1.on bx cY.2.2.2.1.lt, cY.2.2.2.2.1.on bx cY.2.2.2.2.1.lt, cY.2.2.2.2.2.1.on bx cY.2.2.2.2.2.1.lt, (bx.cell (p := ⟨bf, of' + q * 2, none⟩) (cell_lt cY.2.2.2.2.2.2)).trans cY.2.2.2.2.2.2⟩
                    have hbF := hbn.trans (bx.mono hbn.size)
                    have hs := cF.1.one.1
                    obtain ⟨he0, he1, he2⟩ := cF.2.2.1.three
                    have cH := hide (unhide cS _ ((unhide S9).on hbF) ((unhide V9).on hbF))
                    go_wp2_with fail
                    refine (unhide cH).mono ?_
                    rintro e w30 ⟨rfl, hb30⟩
                    clear cH hs he0 he1 he2
                    have bG : Below w30.heap.size w30 (w30.alloc (.cells #[.int .i64 wk, .int .i64 vn, .string vt.1] 26)) := (Below.refl _ _).alloc (Nat.le_refl _) _
                    have q30 := hb30.trans (bG.mono hb30.size)
                    obtain ⟨hv0, hv1, hv2⟩ := (xv.on q30 xv.lt).three
                    obtain ⟨hc0, hc1, hc2, hc3, hc4, hc5, hc6⟩ := (cF.2.1.on q30 cF.2.1.lt).seven
                    have hbZ := hbF.trans (q30.mono hbF.size)
                    go_wp2_with fail
                    exact ⟨⟨q + 1, by omega, by go_num, hbZ⟩, by simp [intOf]; omega⟩
            · obtain ⟨hn0, hn1⟩ := o10.two
              obtain ⟨he0, he1, he2⟩ := o5.three
              obtain ⟨hm0, hm1, hm2⟩ := o9.three
              have hNF' : ((N.length : Int) == F.length) = true := by rw [unhide hNF]; simp
              go_wp2_with fail
              go_ret
              exact ⟨rfl, b9.trans (hbw.mono b9.size)⟩
        · rw [errE_no h0]
          obtain ⟨en, hen⟩ : ∃ en, en = refE ts c := ⟨_, rfl⟩
          rw [← hen]
          clear hen h0
          go_wp2_with fail
          go_ret
          have b4 := b3.trans (hb4.mono b3.size)
          exact ⟨rfl, b4.alloc b4.size _⟩
      · obtain ⟨n, hn⟩ : ∃ n, n = isE ts ⟨t, tm, vs⟩ := ⟨_, rfl⟩
        rw [← hn] at cI hi
        have hn' : (n != 0) = true := by simp [hi]
        replace cI := hide cI
        clear hn hi
        go_wp2_with fail
        refine (unhide cI).mono ?_
        rintro e w3 ⟨rfl, hb3⟩
        go_wp2_with fail
        go_ret
        exact ⟨rfl, b2.trans (hb3.mono b2.size)⟩
    · have h20' : (20 : Int) < vs.length := by omega
      go_wp2_with fail
      go_ret
      exact ⟨rfl, b2⟩

end Go.Proofs.Ytjbgojemgpeokaa
