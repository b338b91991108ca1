/-
  ShowTells' own walk: behind its head, whatever the value, the condition, the pattern.
-/
import Derived.Test.YtfofpenajkaalaaDoorWide
namespace Go.Proofs.YtfofpenajkaalaaDoor
open Go.RowKit Go.Shelf

theorem eqlS (s : ByteArray) (W : World) : (binOp .eql 9 (.string s) (.string s)).run Tryd.prog W = .ok (.bool true) W := by go_simp

set_option maxRecDepth 100000 in
set_option maxHeartbeats 8000000 in
theorem tellsS_walk (k n : Int) (s : Txt) (h0 : -9223372036854775808 ≤ n) (h1 : n ≤ 9223372036854775807) (d : Dat) (ka : Option Addr) (ks : List Tree) (kc : Nat) (hb : Bnd (.mk d ks)) (hM : cntT 20 (.mk d ks) ≤ 1073741824)
    (q : Pt) (a : Option Addr) (cap : Nat) (hcap : q.es.length ≤ cap) (hbq : ∀ e ∈ q.es, Bnd e.t) (hMq : ∀ e ∈ q.es, cntT 20 e.t ≤ 1073741824)
    (W : World) (hL : Lies W.heap.size W ka ks) (hE : Ems W.heap.size W a q.es) (hK : EmsK W.heap.size W a q.es) (hV : Vars W)
    (hknown : ∀ W', Below W.heap.size W W' → Calls Tryd.prog 5 #[] W' fun r W'' => r = .returned (.bool true) ∧ Below W'.heap.size W' W'') :
    Calls Tryd.prog 3 #[.agg #[.int .i64 k, .int .i64 n, .string s.1], d.v ka ks.length kc, q.v a cap] W fun r W' => r = .returned (.bool true) ∧ Below W.heap.size W W' := by
  have hmx : Tryd.prog.follows .mixedOrders = true := by kernel_rfl
  obtain ⟨W0, hW0⟩ : ∃ W0, W0 = ((W.alloc (.cells #[.int .i64 k, .int .i64 n, .string s.1] 23)).alloc (.cells (d.cs ka ks.length kc) 26)).alloc (.cells (q.cs a cap) 29) := ⟨_, rfl⟩
  have b0 : Below W.heap.size W W0 := by rw [hW0]; exact (((Below.refl _ _).alloc (Nat.le_refl _) _).alloc (by simp) _).alloc (by simp; omega) _
  have x0 : Box W0 W.heap.size 23 #[.int .i64 k, .int .i64 n, .string s.1] := by rw [hW0]; exact ((Box.new _ _ _).alloc _).alloc _
  have y0 : Box W0 (W.heap.size + 1) 26 (d.cs ka ks.length kc) := by
    have := (Box.new (W.alloc (.cells #[.int .i64 k, .int .i64 n, .string s.1] 23)) 26 (d.cs ka ks.length kc)).alloc (.cells (q.cs a cap) 29)
    simp only [World.size_alloc] at this
    rw [hW0]; exact this
  have z0 : Box W0 (W.heap.size + 1 + 1) 29 (q.cs a cap) := by
    have := Box.new ((W.alloc (.cells #[.int .i64 k, .int .i64 n, .string s.1] 23)).alloc (.cells (d.cs ka ks.length kc) 26)) 29 (q.cs a cap)
    simp only [World.size_alloc] at this
    rw [hW0]; exact this
  have cK := hide (hknown W0 b0)
  clear hknown
  go_enter Tryd.func3, Tryd.ntmps3
  go_upto_region 1 with fail
  rw [show Obj.cells #[Value.int .i64 d.op, .int .i64 d.k, .int .i64 d.n, .string d.s.1, .string d.al.1, .string d.fd.1, .slice ka ks.length kc] 26 = Obj.cells (d.cs ka ks.length kc) 26 from rfl,
    show Obj.cells #[Value.slice a q.es.length cap, .int .i64 q.wi, .string q.nm.1, .bool q.any] 29 = Obj.cells (q.cs a cap) 29 from rfl, ← hW0]
  clear hW0
  go_wp2_with fail
  refine (unhide cK).mono ?_
  rintro r W1 ⟨rfl, hb1⟩
  clear cK
  have b1 := b0.trans (hb1.mono b0.size)
  have x1 := x0.on hb1 x0.lt
  have y1 := y0.on hb1 y0.lt
  have z1 := z0.on hb1 z0.lt
  have cW := hide (wide_c d kc ka ks W1 (hL.on b1) hM)
  obtain ⟨g0, g1, g2, g3, g4, g5, g6⟩ := y1.seven
  go_wp2_with fail
  refine (unhide cW).mono ?_
  rintro r W2 ⟨⟨g, rfl⟩, hb2⟩
  clear cW g0 g1 g2 g3 g4 g5 g6
  have b2 := b1.trans (hb2.mono b1.size)
  have x2 := x1.on hb2 x1.lt
  have y2 := y1.on hb2 y1.lt
  have z2 := z1.on hb2 z1.lt
  cases g
  case true =>
    go_wp2_with fail
    go_ret
    exact ⟨rfl, b2⟩
  have cA := hide (wideAny_c q a cap hMq W2 (hE.on b2))
  obtain ⟨p0, p1, p2, p3⟩ := z2.four
  go_wp2_with fail
  refine (unhide cA).mono ?_
  rintro r W3 ⟨⟨g, rfl⟩, hb3⟩
  clear cA p0 p1 p2 p3
  have b3 := b2.trans (hb3.mono b2.size)
  have x3 := x2.on hb3 x2.lt
  have y3 := y2.on hb3 y2.lt
  have z3 := z2.on hb3 z2.lt
  cases g
  case true =>
    go_wp2_with fail
    go_ret
    exact ⟨rfl, b3⟩
  obtain ⟨c0, c1, c2⟩ := x3.three
  by_cases hs : (50 : Int) < s.1.size
  · go_wp2_with fail
    go_ret
    exact ⟨rfl, b3⟩
  go_upto_region 5 with fail
  obtain ⟨g0, g1, g2, g3, g4, g5, g6⟩ := y3.seven
  obtain ⟨p0, p1, p2, p3⟩ := z3.four
  have e0 := cell_regrown c0
  have e1 := cell_regrown c1
  have e2 := cell_regrown c2
  have f0 := cell_regrown g0
  have f1 := cell_regrown g1
  have f2 := cell_regrown g2
  have f3 := cell_regrown g3
  have f4 := cell_regrown g4
  have f5 := cell_regrown g5
  have f6 := cell_regrown g6
  have t0 := cell_regrown p0
  have t1 := cell_regrown p1
  have t2 := cell_regrown p2
  have t3 := cell_regrown p3
  have bg : ∀ (dd : Nat) (oo : Array Obj), Below W.heap.size W (Sort.grow (redrawn W3 dd) oo) := fun dd oo => b3.trans ((below_regrown W3 dd oo).mono b3.size)
  have k8 := hide (fun (dd : Nat) (oo : Array Obj) => faceV_c k n s.1 h0 h1 s.2 (Sort.grow (redrawn W3 dd) oo) (hV.on (bg dd oo)))
  have k9 := hide (fun (dd : Nat) (oo : Array Obj) => showV_c k n s.1 h0 h1 s.2 (Sort.grow (redrawn W3 dd) oo))
  have k10 := hide (fun (dd : Nat) (oo : Array Obj) => faceE_c d kc ka ks hb (Sort.grow (redrawn W3 dd) oo) (hL.on (bg dd oo)) (hV.on (bg dd oo)))
  have k11 := hide (fun (dd : Nat) (oo : Array Obj) => refShowE_c d kc ka ks hb (Sort.grow (redrawn W3 dd) oo) (hL.on (bg dd oo)))
  have k12 := hide (fun (dd : Nat) (oo : Array Obj) => faceP_c q a cap hcap hbq (Sort.grow (redrawn W3 dd) oo) (hE.on (bg dd oo)) (hK.on (bg dd oo)) (hV.on (bg dd oo)))
  have k13 := hide (fun (dd : Nat) (oo : Array Obj) => refShowP_c q a cap hbq (Sort.grow (redrawn W3 dd) oo) (hE.on (bg dd oo)))
  generalize valB k n s.1 = vt at k8 k9
  generalize exprB (.mk d ks) = et at k10 k11
  generalize pattB q = pt at k12 k13
  have q1 := eqlS vt
  have q2 := eqlS et
  have q3 := eqlS pt
  clear bg c0 c1 c2 g0 g1 g2 g3 g4 g5 g6 p0 p1 p2 p3
  refine wp_region_quiet_below hmx (by kernel_rfl) ?_
  repeat (quiet_step (first | (go_at_call 8; exact Calls.regrown_of (unhide k8 _ _)) | (go_at_call 9; exact Calls.regrown_of (unhide k9 _ _)) | (go_at_call 10; exact Calls.regrown_of (unhide k10 _ _)) | (go_at_call 11; exact Calls.regrown_of (unhide k11 _ _)) | (go_at_call 12; exact Calls.regrown_of (unhide k12 _ _)) | (go_at_call 13; exact Calls.regrown_of (unhide k13 _ _))))
  refine wpQuiet_nil ?_
  intro _ hw'
  obtain ⟨⟨dq, osq⟩, hw''⟩ := hw'
  subst hw''
  have hb5 := below_regrown W3 dq osq
  generalize Sort.grow (redrawn W3 dq) osq = W5 at hb5 ⊢
  go_wp2_with fail
  go_ret
  exact ⟨rfl, b3.trans (hb5.mono b3.size)⟩

end Go.Proofs.YtfofpenajkaalaaDoor
