/-
  ShowUnlike's own walk: whatever the two conditions and the two patterns; that unlike ones have unlike texts is a premise here.
-/
import Derived.Test.YtfofpenajkaalaaDoorWide
import Derived.Test.YtfofpenajkaalaaDoorSameP
import Derived.BigQuiet
namespace Go.Proofs.YtfofpenajkaalaaDoor
open Go.RowKit Go.Shelf

set_option maxRecDepth 100000 in
set_option maxHeartbeats 8000000 in
theorem unlike_walk (x y : Dat) (xa ya : Option Addr) (xs ys : List Tree) (xc yc : Nat) (hbx : Bnd (.mk x xs)) (hby : Bnd (.mk y ys)) (hMx : cntT 20 (.mk x xs) ≤ 1073741824) (hMy : cntT 20 (.mk y ys) ≤ 1073741824)
    (p q : Pt) (pa qa : Option Addr) (pc qc : Nat) (hpc : p.es.length ≤ pc) (hqc : q.es.length ≤ qc) (hbp : ∀ e ∈ p.es, Bnd e.t) (hbq : ∀ e ∈ q.es, Bnd e.t) (hMp : ∀ e ∈ p.es, cntT 20 e.t ≤ 1073741824) (hMq : ∀ e ∈ q.es, cntT 20 e.t ≤ 1073741824)
    (hU : isT (.mk x xs) = true → isT (.mk y ys) = true → ((exprB (.mk x xs)).toList == (exprB (.mk y ys)).toList) = sameT (.mk x xs) (.mk y ys))
    (hT : patB p = true → patB q = true → ((pattB p).toList == (pattB q).toList) = samePt p q)
    (W : World) (hLx : Lies W.heap.size W xa xs) (hLy : Lies W.heap.size W ya ys) (hEp : Ems W.heap.size W pa p.es) (hKp : EmsK W.heap.size W pa p.es) (hEq : Ems W.heap.size W qa q.es) (hKq : EmsK W.heap.size W qa q.es) (hV : Vars W)
    (hknown : ∀ W', Below W.heap.size W W' → Calls Tryd.prog 5 #[] W' fun r W'' => r = .returned (.bool true) ∧ Below W'.heap.size W' W'') :
    Calls Tryd.prog 4 #[x.v xa xs.length xc, y.v ya ys.length yc, p.v pa pc, q.v qa qc] W fun r W' => r = .returned (.bool true) ∧ Below W.heap.size W W' := by
  have hmx : Tryd.prog.follows .mixedOrders = true := by kernel_rfl
  obtain ⟨W0, hW0⟩ : ∃ W0, W0 = (((W.alloc (.cells (x.cs xa xs.length xc) 26)).alloc (.cells (y.cs ya ys.length yc) 26)).alloc (.cells (p.cs pa pc) 29)).alloc (.cells (q.cs qa qc) 29) := ⟨_, rfl⟩
  have b0 : Below W.heap.size W W0 := by rw [hW0]; exact ((((Below.refl _ _).alloc (Nat.le_refl _) _).alloc (by simp) _).alloc (by simp; omega) _).alloc (by simp; omega) _
  have x0 : Box W0 W.heap.size 26 (x.cs xa xs.length xc) := by rw [hW0]; exact (((Box.new _ _ _).alloc _).alloc _).alloc _
  have y0 : Box W0 (W.heap.size + 1) 26 (y.cs ya ys.length yc) := by
    have := ((Box.new (W.alloc (.cells (x.cs xa xs.length xc) 26)) 26 (y.cs ya ys.length yc)).alloc (.cells (p.cs pa pc) 29)).alloc (.cells (q.cs qa qc) 29)
    simp only [World.size_alloc] at this
    rw [hW0]; exact this
  have p0 : Box W0 (W.heap.size + 1 + 1) 29 (p.cs pa pc) := by
    have := (Box.new ((W.alloc (.cells (x.cs xa xs.length xc) 26)).alloc (.cells (y.cs ya ys.length yc) 26)) 29 (p.cs pa pc)).alloc (.cells (q.cs qa qc) 29)
    simp only [World.size_alloc] at this
    rw [hW0]; exact this
  have q0 : Box W0 (W.heap.size + 1 + 1 + 1) 29 (q.cs qa qc) := by
    have := Box.new (((W.alloc (.cells (x.cs xa xs.length xc) 26)).alloc (.cells (y.cs ya ys.length yc) 26)).alloc (.cells (p.cs pa pc) 29)) 29 (q.cs qa qc)
    simp only [World.size_alloc] at this
    rw [hW0]; exact this
  have cK := hide (hknown W0 b0)
  have HU := hide hU
  have HT := hide hT
  clear hknown hU hT
  go_enter Tryd.func4, Tryd.ntmps4
  go_upto_region 1 with fail
  rw [show Obj.cells #[Value.int .i64 x.op, .int .i64 x.k, .int .i64 x.n, .string x.s.1, .string x.al.1, .string x.fd.1, .slice xa xs.length xc] 26 = Obj.cells (x.cs xa xs.length xc) 26 from rfl,
    show Obj.cells #[Value.int .i64 y.op, .int .i64 y.k, .int .i64 y.n, .string y.s.1, .string y.al.1, .string y.fd.1, .slice ya ys.length yc] 26 = Obj.cells (y.cs ya ys.length yc) 26 from rfl,
    show Obj.cells #[Value.slice pa p.es.length pc, .int .i64 p.wi, .string p.nm.1, .bool p.any] 29 = Obj.cells (p.cs pa pc) 29 from rfl,
    show Obj.cells #[Value.slice qa q.es.length qc, .int .i64 q.wi, .string q.nm.1, .bool q.any] 29 = Obj.cells (q.cs qa qc) 29 from rfl, ← hW0]
  clear hW0
  go_wp2_with fail
  refine (unhide cK).mono ?_
  rintro r W1 ⟨rfl, hb1⟩
  clear cK
  have b1 := b0.trans (hb1.mono b0.size)
  replace x0 := x0.on hb1 x0.lt
  replace y0 := y0.on hb1 y0.lt
  replace p0 := p0.on hb1 p0.lt
  replace q0 := q0.on hb1 q0.lt
  have cW := hide (wide_c x xc xa xs W1 (hLx.on b1) hMx)
  obtain ⟨g0, g1, g2, g3, g4, g5, g6⟩ := x0.seven
  go_wp2_with fail
  refine (unhide cW).mono ?_
  rintro r W2 ⟨⟨g, rfl⟩, hb2⟩
  clear cW g0 g1 g2 g3 g4 g5 g6
  have b2 := b1.trans (hb2.mono b1.size)
  replace x0 := x0.on hb2 x0.lt
  replace y0 := y0.on hb2 y0.lt
  replace p0 := p0.on hb2 p0.lt
  replace q0 := q0.on hb2 q0.lt
  cases g
  case true =>
    go_wp2_with fail
    go_ret
    exact ⟨rfl, b2⟩
  have cW := hide (wide_c y yc ya ys W2 (hLy.on b2) hMy)
  obtain ⟨g0, g1, g2, g3, g4, g5, g6⟩ := y0.seven
  go_wp2_with fail
  refine (unhide cW).mono ?_
  rintro r W3 ⟨⟨g, rfl⟩, hb3⟩
  clear cW g0 g1 g2 g3 g4 g5 g6
  have b3 := b2.trans (hb3.mono b2.size)
  replace x0 := x0.on hb3 x0.lt
  replace y0 := y0.on hb3 y0.lt
  replace p0 := p0.on hb3 p0.lt
  replace q0 := q0.on hb3 q0.lt
  cases g
  case true =>
    go_wp2_with fail
    go_ret
    exact ⟨rfl, b3⟩
  have cA := hide (wideAny_c p pa pc hMp W3 (hEp.on b3))
  obtain ⟨g0, g1, g2, g3⟩ := p0.four
  go_wp2_with fail
  refine (unhide cA).mono ?_
  rintro r W4 ⟨⟨g, rfl⟩, hb4⟩
  clear cA g0 g1 g2 g3
  have b4 := b3.trans (hb4.mono b3.size)
  replace x0 := x0.on hb4 x0.lt
  replace y0 := y0.on hb4 y0.lt
  replace p0 := p0.on hb4 p0.lt
  replace q0 := q0.on hb4 q0.lt
  cases g
  case true =>
    go_wp2_with fail
    go_ret
    exact ⟨rfl, b4⟩
  have cA := hide (wideAny_c q qa qc hMq W4 (hEq.on b4))
  obtain ⟨g0, g1, g2, g3⟩ := q0.four
  go_wp2_with fail
  refine (unhide cA).mono ?_
  rintro r W5 ⟨⟨g, rfl⟩, hb5⟩
  clear cA g0 g1 g2 g3
  have b5 := b4.trans (hb5.mono b4.size)
  replace x0 := x0.on hb5 x0.lt
  replace y0 := y0.on hb5 y0.lt
  replace p0 := p0.on hb5 p0.lt
  replace q0 := q0.on hb5 q0.lt
  cases g
  case true =>
    go_wp2_with fail
    go_ret
    exact ⟨rfl, b5⟩
  go_upto_region 5 with fail
  go_cut [41] (fun v wx => v = .bool false ∧ Below W5.heap.size W5 wx)
  case first =>
    obtain ⟨cx0, cx1, cx2, cx3, cx4, cx5, cx6⟩ := x0.seven
    have ex0 := cell_regrown cx0
    have ex1 := cell_regrown cx1
    have ex2 := cell_regrown cx2
    have ex3 := cell_regrown cx3
    have ex4 := cell_regrown cx4
    have ex5 := cell_regrown cx5
    have ex6 := cell_regrown cx6
    obtain ⟨cy0, cy1, cy2, cy3, cy4, cy5, cy6⟩ := y0.seven
    have ey0 := cell_regrown cy0
    have ey1 := cell_regrown cy1
    have ey2 := cell_regrown cy2
    have ey3 := cell_regrown cy3
    have ey4 := cell_regrown cy4
    have ey5 := cell_regrown cy5
    have ey6 := cell_regrown cy6
    have bg : ∀ (dd : Nat) (oo : Array Obj), Below W.heap.size W (Sort.grow (redrawn W5 dd) oo) := fun dd oo => b5.trans ((below_regrown W5 dd oo).mono b5.size)
    have k14 := hide (fun (dd : Nat) (oo : Array Obj) => refIsE_c x xc xa xs (Sort.grow (redrawn W5 dd) oo) (hLx.on (bg dd oo)))
    have k14' := hide (fun (dd : Nat) (oo : Array Obj) => refIsE_c y yc ya ys (Sort.grow (redrawn W5 dd) oo) (hLy.on (bg dd oo)))
    have k10 := hide (fun (dd : Nat) (oo : Array Obj) => faceE_c x xc xa xs hbx (Sort.grow (redrawn W5 dd) oo) (hLx.on (bg dd oo)) (hV.on (bg dd oo)))
    have k10' := hide (fun (dd : Nat) (oo : Array Obj) => faceE_c y yc ya ys hby (Sort.grow (redrawn W5 dd) oo) (hLy.on (bg dd oo)) (hV.on (bg dd oo)))
    have k15 := hide (fun (dd : Nat) (oo : Array Obj) => refSame_c x y xc yc xa ya xs ys (Sort.grow (redrawn W5 dd) oo) (hLx.on (bg dd oo)) (hLy.on (bg dd oo)))
    have q1 := unhide HU
    clear HU
    generalize isT (.mk x xs) = gx at k14 q1
    generalize isT (.mk y ys) = gy at k14' q1
    generalize exprB (.mk x xs) = ex at k10 q1
    generalize exprB (.mk y ys) = ey at k10' q1
    generalize sameT (.mk x xs) (.mk y ys) = sm at k15 q1
    clear bg cx0 cx1 cx2 cx3 cx4 cx5 cx6 cy0 cy1 cy2 cy3 cy4 cy5 cy6
    rcases gx with _ | _
    · clear q1 k14' k10 k10' k15
      refine wp_region_quiet_below hmx (by kernel_rfl) ?_
      repeat (go_big_quiet_step (first | (go_at_call 14; first | with_reducible exact Calls.regrown_of (unhide k14 _ _) | with_reducible exact Calls.regrown_of (unhide k14' _ _)) | (go_at_call 10; first | with_reducible exact Calls.regrown_of (unhide k10 _ _) | with_reducible exact Calls.regrown_of (unhide k10' _ _)) | (go_at_call 15; exact Calls.regrown_of (unhide k15 _ _))))
      refine wpQuiet_nil ?_
      intro _ hw'
      obtain ⟨⟨dq, osq⟩, hw''⟩ := hw'
      subst hw''
      have hb6 := below_regrown W5 dq osq
      generalize Sort.grow (redrawn W5 dq) osq = W6 at hb6 ⊢
      go_wp2_with fail
      go_meet
      case rel => exact ⟨rfl, hb6⟩
    rcases gy with _ | _
    · clear q1 k10 k10' k15
      refine wp_region_quiet_below hmx (by kernel_rfl) ?_
      repeat (go_big_quiet_step (first | (go_at_call 14; first | with_reducible exact Calls.regrown_of (unhide k14 _ _) | with_reducible exact Calls.regrown_of (unhide k14' _ _)) | (go_at_call 10; first | with_reducible exact Calls.regrown_of (unhide k10 _ _) | with_reducible exact Calls.regrown_of (unhide k10' _ _)) | (go_at_call 15; exact Calls.regrown_of (unhide k15 _ _))))
      refine wpQuiet_nil ?_
      intro _ hw'
      obtain ⟨⟨dq, osq⟩, hw''⟩ := hw'
      subst hw''
      have hb6 := below_regrown W5 dq osq
      generalize Sort.grow (redrawn W5 dq) osq = W6 at hb6 ⊢
      go_wp2_with fail
      go_meet
      case rel => exact ⟨rfl, hb6⟩
    have q2 := q1 rfl rfl
    clear q1
    cases sm
    · skip
      refine wp_region_quiet_below hmx (by kernel_rfl) ?_
      repeat (go_big_quiet_step (first | (go_at_call 14; first | with_reducible exact Calls.regrown_of (unhide k14 _ _) | with_reducible exact Calls.regrown_of (unhide k14' _ _)) | (go_at_call 10; first | with_reducible exact Calls.regrown_of (unhide k10 _ _) | with_reducible exact Calls.regrown_of (unhide k10' _ _)) | (go_at_call 15; exact Calls.regrown_of (unhide k15 _ _))))
      refine wpQuiet_nil ?_
      intro _ hw'
      obtain ⟨⟨dq, osq⟩, hw''⟩ := hw'
      subst hw''
      have hb6 := below_regrown W5 dq osq
      generalize Sort.grow (redrawn W5 dq) osq = W6 at hb6 ⊢
      go_wp2_with fail
      go_meet
      case rel => exact ⟨rfl, hb6⟩
    · skip
      refine wp_region_quiet_below hmx (by kernel_rfl) ?_
      repeat (go_big_quiet_step (first | (go_at_call 14; first | with_reducible exact Calls.regrown_of (unhide k14 _ _) | with_reducible exact Calls.regrown_of (unhide k14' _ _)) | (go_at_call 10; first | with_reducible exact Calls.regrown_of (unhide k10 _ _) | with_reducible exact Calls.regrown_of (unhide k10' _ _)) | (go_at_call 15; exact Calls.regrown_of (unhide k15 _ _))))
      refine wpQuiet_nil ?_
      intro _ hw'
      obtain ⟨⟨dq, osq⟩, hw''⟩ := hw'
      subst hw''
      have hb6 := below_regrown W5 dq osq
      generalize Sort.grow (redrawn W5 dq) osq = W6 at hb6 ⊢
      go_wp2_with fail
      go_meet
      case rel => exact ⟨rfl, hb6⟩
  case rest =>
    obtain ⟨rfl, hb6⟩ := hcut
    have b6 := b5.trans (hb6.mono b5.size)
    have p1 := p0.on hb6 p0.lt
    have q1 := q0.on hb6 q0.lt
    clear x0 y0 p0 q0
    go_upto_region 7 with fail
    obtain ⟨cp0, cp1, cp2, cp3⟩ := p1.four
    have ep0 := cell_regrown cp0
    have ep1 := cell_regrown cp1
    have ep2 := cell_regrown cp2
    have ep3 := cell_regrown cp3
    obtain ⟨cq0, cq1, cq2, cq3⟩ := q1.four
    have eq0 := cell_regrown cq0
    have eq1 := cell_regrown cq1
    have eq2 := cell_regrown cq2
    have eq3 := cell_regrown cq3
    have bg : ∀ (dd : Nat) (oo : Array Obj), Below W.heap.size W (Sort.grow (redrawn wc dd) oo) := fun dd oo => b6.trans ((below_regrown wc dd oo).mono b6.size)
    have k16 := hide (fun (dd : Nat) (oo : Array Obj) => refPat_c p pa pc (Sort.grow (redrawn wc dd) oo) (hEp.on (bg dd oo)))
    have k16' := hide (fun (dd : Nat) (oo : Array Obj) => refPat_c q qa qc (Sort.grow (redrawn wc dd) oo) (hEq.on (bg dd oo)))
    have k12 := hide (fun (dd : Nat) (oo : Array Obj) => faceP_c p pa pc hpc hbp (Sort.grow (redrawn wc dd) oo) (hEp.on (bg dd oo)) (hKp.on (bg dd oo)) (hV.on (bg dd oo)))
    have k12' := hide (fun (dd : Nat) (oo : Array Obj) => faceP_c q qa qc hqc hbq (Sort.grow (redrawn wc dd) oo) (hEq.on (bg dd oo)) (hKq.on (bg dd oo)) (hV.on (bg dd oo)))
    have k17 := hide (fun (dd : Nat) (oo : Array Obj) => refPatt_c p q pa qa pc qc (Sort.grow (redrawn wc dd) oo) (hEp.on (bg dd oo)) (hEq.on (bg dd oo)))
    have r1 := unhide HT
    clear HT
    generalize patB p = gx at k16 r1
    generalize patB q = gy at k16' r1
    generalize pattB p = ex at k12 r1
    generalize pattB q = ey at k12' r1
    generalize samePt p q = sm at k17 r1
    clear bg cp0 cp1 cp2 cp3 cq0 cq1 cq2 cq3
    rcases gx with _ | _
    · clear r1 k16' k12 k12' k17
      refine wp_region_quiet_below hmx (by kernel_rfl) ?_
      repeat (go_big_quiet_step (first | (go_at_call 16; first | with_reducible exact Calls.regrown_of (unhide k16 _ _) | with_reducible exact Calls.regrown_of (unhide k16' _ _)) | (go_at_call 12; first | with_reducible exact Calls.regrown_of (unhide k12 _ _) | with_reducible exact Calls.regrown_of (unhide k12' _ _)) | (go_at_call 17; exact Calls.regrown_of (unhide k17 _ _))))
      refine wpQuiet_nil ?_
      intro _ hw'
      obtain ⟨⟨dq, osq⟩, hw''⟩ := hw'
      subst hw''
      have hb7 := below_regrown wc dq osq
      generalize Sort.grow (redrawn wc dq) osq = W7 at hb7 ⊢
      go_wp2_with fail
      go_ret
      exact ⟨rfl, b6.trans (hb7.mono b6.size)⟩
    rcases gy with _ | _
    · clear r1 k12 k12' k17
      refine wp_region_quiet_below hmx (by kernel_rfl) ?_
      repeat (go_big_quiet_step (first | (go_at_call 16; first | with_reducible exact Calls.regrown_of (unhide k16 _ _) | with_reducible exact Calls.regrown_of (unhide k16' _ _)) | (go_at_call 12; first | with_reducible exact Calls.regrown_of (unhide k12 _ _) | with_reducible exact Calls.regrown_of (unhide k12' _ _)) | (go_at_call 17; exact Calls.regrown_of (unhide k17 _ _))))
      refine wpQuiet_nil ?_
      intro _ hw'
      obtain ⟨⟨dq, osq⟩, hw''⟩ := hw'
      subst hw''
      have hb7 := below_regrown wc dq osq
      generalize Sort.grow (redrawn wc dq) osq = W7 at hb7 ⊢
      go_wp2_with fail
      go_ret
      exact ⟨rfl, b6.trans (hb7.mono b6.size)⟩
    have r2 := r1 rfl rfl
    clear r1
    cases sm
    · skip
      refine wp_region_quiet_below hmx (by kernel_rfl) ?_
      repeat (go_big_quiet_step (first | (go_at_call 16; first | with_reducible exact Calls.regrown_of (unhide k16 _ _) | with_reducible exact Calls.regrown_of (unhide k16' _ _)) | (go_at_call 12; first | with_reducible exact Calls.regrown_of (unhide k12 _ _) | with_reducible exact Calls.regrown_of (unhide k12' _ _)) | (go_at_call 17; exact Calls.regrown_of (unhide k17 _ _))))
      refine wpQuiet_nil ?_
      intro _ hw'
      obtain ⟨⟨dq, osq⟩, hw''⟩ := hw'
      subst hw''
      have hb7 := below_regrown wc dq osq
      generalize Sort.grow (redrawn wc dq) osq = W7 at hb7 ⊢
      go_wp2_with fail
      go_ret
      exact ⟨rfl, b6.trans (hb7.mono b6.size)⟩
    · skip
      refine wp_region_quiet_below hmx (by kernel_rfl) ?_
      repeat (go_big_quiet_step (first | (go_at_call 16; first | with_reducible exact Calls.regrown_of (unhide k16 _ _) | with_reducible exact Calls.regrown_of (unhide k16' _ _)) | (go_at_call 12; first | with_reducible exact Calls.regrown_of (unhide k12 _ _) | with_reducible exact Calls.regrown_of (unhide k12' _ _)) | (go_at_call 17; exact Calls.regrown_of (unhide k17 _ _))))
      refine wpQuiet_nil ?_
      intro _ hw'
      obtain ⟨⟨dq, osq⟩, hw''⟩ := hw'
      subst hw''
      have hb7 := below_regrown wc dq osq
      generalize Sort.grow (redrawn wc dq) osq = W7 at hb7 ⊢
      go_wp2_with fail
      go_ret
      exact ⟨rfl, b6.trans (hb7.mono b6.size)⟩

end Go.Proofs.YtfofpenajkaalaaDoor
