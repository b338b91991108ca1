/-
  What the document's show answers: the text that the pieces of a condition make, for every condition whose nodes are as they may be.
-/
import Derived.Test.YtfofpenajkaalaaDoorShowV
namespace Go.Proofs.YtfofpenajkaalaaDoor
open Go.RowKit Go.Shelf

theorem txtB_list (ps : List ByteArray) : (txtB ps).data.toList = flatB ps := by simp [txtB]
theorem txt_not (u : List ByteArray) : txtB [[notB], u, [clB]].flatten = (notB ++ txtB u) ++ clB := eq_of_list (by
  rw [txtB_list, append_list, append_list, txtB_list]; simp [flatB])
theorem txt_two (u v : List ByteArray) (g : ByteArray) : txtB [[opB], u, [blB, g, blB], v, [clB]].flatten = (((((opB ++ txtB u) ++ blB) ++ g) ++ blB) ++ txtB v) ++ clB := eq_of_list (by
  rw [txtB_list]; simp only [append_list, txtB_list]; simp [flatB])
theorem txt_dot (a b : ByteArray) : txtB [a, dotB, b] = (a ++ dotB) ++ b := eq_of_list (by
  rw [txtB_list]; simp only [append_list]; simp [flatB])
theorem sgB_size (q : Nat) (h3 : 3 ≤ q) (h11 : q ≤ 11) : (sgB q).size ≤ 3 := by
  obtain rfl | rfl | rfl | rfl | rfl | rfl | rfl | rfl | rfl : q = 3 ∨ q = 4 ∨ q = 5 ∨ q = 6 ∨ q = 7 ∨ q = 8 ∨ q = 9 ∨ q = 10 ∨ q = 11 := by omega
  all_goals decide

set_option maxRecDepth 100000 in
set_option maxHeartbeats 8000000 in
theorem show_c (t : Tree) (hS : Snd t) : ∀ (a : Option Addr) (cap : Nat) (w : World), Lies w.heap.size w a t.kids → (flatB (condP t)).length ≤ 1099511627776 →
    Calls Tryd.prog 26 #[t.dat.v a t.kids.length cap] w fun e w' => e = .returned (.string (txtB (condP t))) ∧ Below w.heap.size w w' := by
  induction hS with
  | mk d ks hs hn0 hn1 hk ih =>
  intro a cap w hL hz
  have hmx : Tryd.prog.follows .mixedOrders = true := by kernel_rfl
  obtain ⟨ho1, ho12, hkn, hlit⟩ := sound_op hs
  obtain ⟨W0, hW0⟩ : ∃ W0, W0 = w.alloc (.cells (d.cs a ks.length cap) 26) := ⟨_, rfl⟩
  have b0 : Below w.heap.size w W0 := by rw [hW0]; exact (Below.refl _ _).alloc (Nat.le_refl _) _
  have x0 : Box W0 w.heap.size 26 (d.cs a ks.length cap) := by rw [hW0]; exact Box.new _ _ _
  obtain ⟨c0, c1, c2, c3, c4, c5, c6⟩ := x0.seven
  have hu := hide (show condP (.mk d ks) = condN d (condL ks) by rw [condP])
  by_cases q1 : d.op = 1
  · have hv := hide (showV_c d.k d.n d.s.1 hn0 hn1 d.s.2 W0)
    have hu2 := hide (show valB d.k d.n d.s.1 = txtB (condP (.mk d ks)) by rw [unhide hu, condN, if_pos q1, valB_yes (hlit q1)])
    have e1 : (d.op == 1) = true := by simp [q1]
    clear hk ih hlit hkn hs q1 hz
    go_enter Tryd.func26, Tryd.ntmps26
    go_upto_region 1 with fail
    rw [show Obj.cells #[Value.int .i64 d.op, .int .i64 d.k, .int .i64 d.n, .string d.s.1, .string d.al.1, .string d.fd.1, .slice a ks.length cap] 26 = Obj.cells (d.cs a ks.length cap) 26 from rfl, ← hW0]
    clear hW0
    go_wp2_with fail
    refine (unhide hv).mono ?_
    rintro e w1 ⟨rfl, hb1⟩
    rw [unhide hu2]
    go_wp2_with fail
    go_ret
    exact ⟨rfl, b0.trans (hb1.mono b0.size)⟩
  have e1 : (d.op == 1) = false := by simp [q1]
  by_cases q2 : d.op = 2
  · have hu1 : condP (.mk d ks) = [d.al.1, dotB, d.fd.1] := by rw [unhide hu, condN, if_neg q1, if_pos q2]
    have hu2 := hide (show txtB (condP (.mk d ks)) = (d.al.1 ++ dotB) ++ d.fd.1 by rw [hu1, txt_dot])
    have hz2 : (d.al.1 ++ dotB).size = d.al.1.size + 1 := by rw [ByteArray.size_append]; rfl
    have hz3 : d.al.1.size + 1 + d.fd.1.size ≤ 1099511627776 := by
      have h1 := txtB_size (condP (.mk d ks))
      rw [unhide hu2, ByteArray.size_append, hz2] at h1
      omega
    have e2 : (d.op == 2) = true := by simp [q2]
    clear hk ih hlit hkn hs q1 q2 hz hu1
    go_enter Tryd.func26, Tryd.ntmps26
    go_upto_region 1 with fail
    rw [show Obj.cells #[Value.int .i64 d.op, .int .i64 d.k, .int .i64 d.n, .string d.s.1, .string d.al.1, .string d.fd.1, .slice a ks.length cap] 26 = Obj.cells (d.cs a ks.length cap) 26 from rfl, ← hW0]
    clear hW0
    go_wp2_with fail
    go_ret
    exact ⟨by rw [unhide hu2]; rfl, b0⟩
  have e2 : (d.op == 2) = false := by simp [q2]
  by_cases q12 : d.op = 12
  · have e12 : (d.op == 12) = true := by simp [q12]
    obtain ⟨t0, rfl⟩ : ∃ t0, ks = [t0] := by
      rw [kidsN, if_pos q12] at hkn
      match ks, hkn with
      | [t0], _ => exact ⟨t0, rfl⟩
    have ih0 := ih 0 t0 rfl
    have hu1 : condP (.mk d [t0]) = [[notB], condP t0, [clB]].flatten := by rw [unhide hu, condN, if_neg q1, if_neg q2, if_pos q12]; simp [condL]
    have hu2 := hide (show txtB (condP (.mk d [t0])) = (notB ++ txtB (condP t0)) ++ clB by rw [hu1, txt_not])
    have hz2 : (notB ++ txtB (condP t0)).size = (txtB (condP t0)).size + 5 := by rw [ByteArray.size_append]; show 5 + _ = _; omega
    have hz3 : (txtB (condP t0)).size + 6 ≤ 1099511627776 := by
      have h1 := txtB_size (condP (.mk d [t0]))
      rw [unhide hu2, ByteArray.size_append, hz2] at h1
      have h2 : clB.size = 1 := rfl
      omega
    have hz0 : (flatB (condP t0)).length ≤ 1099511627776 := by rw [← txtB_size]; omega
    clear hk ih hlit hkn hs q1 q2 q12 hz hu1
    cases hL with
    | row b off _ f hl hbw hc hkl =>
    simp only [List.length_cons, List.length_nil, Nat.zero_add] at hW0 x0 c6
    have l0 := hkl 0 t0 rfl
    have k0 := (b0.cell (p := ⟨b, off, none⟩) hbw).trans (hc 0 t0 rfl 0 (.int .i64 t0.dat.op) rfl)
    have k1 := (b0.cell (p := ⟨b, off + 1, none⟩) hbw).trans (hc 0 t0 rfl 1 (.int .i64 t0.dat.k) rfl)
    have k2 := (b0.cell (p := ⟨b, off + 2, none⟩) hbw).trans (hc 0 t0 rfl 2 (.int .i64 t0.dat.n) rfl)
    have k3 := (b0.cell (p := ⟨b, off + 3, none⟩) hbw).trans (hc 0 t0 rfl 3 (.string t0.dat.s.1) rfl)
    have k4 := (b0.cell (p := ⟨b, off + 4, none⟩) hbw).trans (hc 0 t0 rfl 4 (.string t0.dat.al.1) rfl)
    have k5 := (b0.cell (p := ⟨b, off + 5, none⟩) hbw).trans (hc 0 t0 rfl 5 (.string t0.dat.fd.1) rfl)
    have k6 := (b0.cell (p := ⟨b, off + 6, none⟩) hbw).trans (hc 0 t0 rfl 6 (.slice (f 0).1 t0.kids.length (f 0).2) rfl)
    clear hc hkl
    have hv := hide (ih0 (f 0).1 (f 0).2 W0 (l0.on b0) hz0)
    clear ih0 l0 hz0
    generalize txtB (condP t0) = u at hv hu2 hz2 hz3
    obtain ⟨d0, ks0⟩ := t0
    simp only [Tree.dat, Tree.kids] at hv k0 k1 k2 k3 k4 k5 k6
    go_enter Tryd.func26, Tryd.ntmps26
    go_upto_region 1 with fail
    rw [show Obj.cells #[Value.int .i64 d.op, .int .i64 d.k, .int .i64 d.n, .string d.s.1, .string d.al.1, .string d.fd.1, .slice (some ⟨b, off, none⟩) 1 cap] 26 = Obj.cells (d.cs (some ⟨b, off, none⟩) 1 cap) 26 from rfl, ← hW0]
    clear hW0
    go_wp2_with fail
    refine (unhide hv).mono ?_
    rintro e w1 ⟨rfl, hb1⟩
    go_wp2_with fail
    go_ret
    exact ⟨by rw [unhide hu2]; rfl, b0.trans (hb1.mono b0.size)⟩
  · have e12 : (d.op == 12) = false := by simp [q12]
    have h3 : 3 ≤ d.op := by omega
    have h11 : d.op ≤ 11 := by omega
    obtain ⟨t0, t1, rfl⟩ : ∃ t0 t1, ks = [t0, t1] := by
      rw [kidsN, if_neg q12, if_pos ⟨h3, h11⟩] at hkn
      match ks, hkn with
      | [t0, t1], _ => exact ⟨t0, t1, rfl⟩
    have ih0 := ih 0 t0 rfl
    have ih1 := ih 1 t1 rfl
    have hu1 : condP (.mk d [t0, t1]) = [[opB], condP t0, [blB, sgB d.op.toNat, blB], condP t1, [clB]].flatten := by rw [unhide hu, condN, if_neg q1, if_neg q2, if_neg q12]; simp [condL]
    have hsg := sgB_size d.op.toNat (by omega) (by omega)
    have cS := hide (sign_c d.op h3 h11)
    generalize sgB d.op.toNat = g at hsg cS hu1
    have hu2 := hide (show txtB (condP (.mk d [t0, t1])) = (((((opB ++ txtB (condP t0)) ++ blB) ++ g) ++ blB) ++ txtB (condP t1)) ++ clB by rw [hu1, txt_two])
    have z1 : (opB ++ txtB (condP t0)).size = (txtB (condP t0)).size + 1 := by rw [ByteArray.size_append]; show 1 + _ = _; omega
    have z2 : ((opB ++ txtB (condP t0)) ++ blB).size = (txtB (condP t0)).size + 2 := by rw [ByteArray.size_append, z1]; rfl
    have z3 : (((opB ++ txtB (condP t0)) ++ blB) ++ g).size = (txtB (condP t0)).size + 2 + g.size := by rw [ByteArray.size_append, z2]
    have z4 : ((((opB ++ txtB (condP t0)) ++ blB) ++ g) ++ blB).size = (txtB (condP t0)).size + 3 + g.size := by rw [ByteArray.size_append, z3]; show _ + 1 = _; omega
    have z5 : (((((opB ++ txtB (condP t0)) ++ blB) ++ g) ++ blB) ++ txtB (condP t1)).size = (txtB (condP t0)).size + 3 + g.size + (txtB (condP t1)).size := by rw [ByteArray.size_append, z4]
    have z6 : (txtB (condP t0)).size + 4 + g.size + (txtB (condP t1)).size ≤ 1099511627776 := by
      have h1 := txtB_size (condP (.mk d [t0, t1]))
      rw [unhide hu2, ByteArray.size_append, z5] at h1
      have h2 : clB.size = 1 := rfl
      omega
    have hz0 : (flatB (condP t0)).length ≤ 1099511627776 := by rw [← txtB_size]; omega
    have hz1 : (flatB (condP t1)).length ≤ 1099511627776 := by rw [← txtB_size]; omega
    clear hk ih hlit hkn hs q1 q2 q12 hz hu1 ho1 ho12 h3 h11
    cases hL with
    | row b off _ f hl hbw hc hkl =>
    simp only [List.length_cons, List.length_nil, Nat.zero_add, Nat.reduceAdd] at hW0 x0 c6
    have l0 := hkl 0 t0 rfl
    have l1 := hkl 1 t1 rfl
    have ce : ∀ (i : Nat) v, w.cell? ⟨b, off + i, none⟩ = some v → W0.cell? ⟨b, off + i, none⟩ = some v := fun i v h => (b0.cell (p := ⟨b, off + i, none⟩) hbw).trans h
    have k0 := cell_regrown (ce 0 _ (hc 0 t0 rfl 0 (.int .i64 t0.dat.op) rfl))
    have k1 := cell_regrown (ce 1 _ (hc 0 t0 rfl 1 (.int .i64 t0.dat.k) rfl))
    have k2 := cell_regrown (ce 2 _ (hc 0 t0 rfl 2 (.int .i64 t0.dat.n) rfl))
    have k3 := cell_regrown (ce 3 _ (hc 0 t0 rfl 3 (.string t0.dat.s.1) rfl))
    have k4 := cell_regrown (ce 4 _ (hc 0 t0 rfl 4 (.string t0.dat.al.1) rfl))
    have k5 := cell_regrown (ce 5 _ (hc 0 t0 rfl 5 (.string t0.dat.fd.1) rfl))
    have k6 := cell_regrown (ce 6 _ (hc 0 t0 rfl 6 (.slice (f 0).1 t0.kids.length (f 0).2) rfl))
    have j0 := cell_regrown (ce 7 _ (hc 1 t1 rfl 0 (.int .i64 t1.dat.op) rfl))
    have j1 := cell_regrown (ce 8 _ (hc 1 t1 rfl 1 (.int .i64 t1.dat.k) rfl))
    have j2 := cell_regrown (ce 9 _ (hc 1 t1 rfl 2 (.int .i64 t1.dat.n) rfl))
    have j3 := cell_regrown (ce 10 _ (hc 1 t1 rfl 3 (.string t1.dat.s.1) rfl))
    have j4 := cell_regrown (ce 11 _ (hc 1 t1 rfl 4 (.string t1.dat.al.1) rfl))
    have j5 := cell_regrown (ce 12 _ (hc 1 t1 rfl 5 (.string t1.dat.fd.1) rfl))
    have j6 := cell_regrown (ce 13 _ (hc 1 t1 rfl 6 (.slice (f 1).1 t1.kids.length (f 1).2) rfl))
    rw [Nat.add_zero] at k0
    clear hc hkl ce
    have g0 := cell_regrown c0
    have g6 := cell_regrown c6
    have cA : Hid (∀ (dd : Nat) (oo : Array Obj), Calls Tryd.prog 26 #[t0.dat.v (f 0).1 t0.kids.length (f 0).2] (Sort.grow (redrawn W0 dd) oo) fun r W' => r = .returned (.string (txtB (condP t0))) ∧ Below (Sort.grow (redrawn W0 dd) oo).heap.size (Sort.grow (redrawn W0 dd) oo) W') := hide fun dd oo => ih0 _ _ _ ((l0.on b0).on (below_regrown W0 dd oo)) hz0
    have cB : Hid (∀ (dd : Nat) (oo : Array Obj), Calls Tryd.prog 26 #[t1.dat.v (f 1).1 t1.kids.length (f 1).2] (Sort.grow (redrawn W0 dd) oo) fun r W' => r = .returned (.string (txtB (condP t1))) ∧ Below (Sort.grow (redrawn W0 dd) oo).heap.size (Sort.grow (redrawn W0 dd) oo) W') := hide fun dd oo => ih1 _ _ _ ((l1.on b0).on (below_regrown W0 dd oo)) hz1
    have cG : Hid (∀ (dd : Nat) (oo : Array Obj), Calls Tryd.prog 48 #[.int .i64 d.op] (Sort.grow (redrawn W0 dd) oo) fun r W' => r = .returned (.string g) ∧ Below (Sort.grow (redrawn W0 dd) oo).heap.size (Sort.grow (redrawn W0 dd) oo) W') := hide fun dd oo => (unhide cS _).mono fun e w' ⟨h1, h2⟩ => ⟨h1, by rw [h2]; exact Below.refl _ _⟩
    clear ih0 ih1 l0 l1 hz0 hz1 cS
    generalize txtB (condP t0) = u at cA hu2 z1 z2 z3 z4 z5 z6
    generalize txtB (condP t1) = v at cB hu2 z5 z6
    have s1 : opB.size = 1 := rfl
    have s2 : blB.size = 1 := rfl
    have s3 : clB.size = 1 := rfl
    have n1 : ¬ 9223372036854775807 < 1 + u.size := by omega
    have n2 : ¬ 9223372036854775807 < 1 + u.size + 1 := by omega
    have n3 : ¬ 9223372036854775807 < 1 + u.size + 1 + g.size := by omega
    have n4 : ¬ 9223372036854775807 < 1 + u.size + 1 + g.size + 1 := by omega
    have n5 : ¬ 9223372036854775807 < 1 + u.size + 1 + g.size + 1 + v.size := by omega
    have n6 : ¬ 9223372036854775807 < 1 + u.size + 1 + g.size + 1 + v.size + 1 := by omega
    clear z1 z2 z3 z4 z5 z6 s1 s2 s3 hsg
    obtain ⟨d0, ks0⟩ := t0
    obtain ⟨d1, ks1⟩ := t1
    simp only [Tree.dat, Tree.kids] at cA cB k0 k1 k2 k3 k4 k5 k6 j0 j1 j2 j3 j4 j5 j6
    go_enter Tryd.func26, Tryd.ntmps26
    go_upto_region 1 with fail
    rw [show Obj.cells #[Value.int .i64 d.op, .int .i64 d.k, .int .i64 d.n, .string d.s.1, .string d.al.1, .string d.fd.1, .slice (some ⟨b, off, none⟩) 2 cap] 26 = Obj.cells (d.cs (some ⟨b, off, none⟩) 2 cap) 26 from rfl, ← hW0]
    clear hW0
    go_upto_region 8 with fail
    refine wp_region_quiet_below hmx (by kernel_rfl) ?_
    repeat (quiet_step (first | (go_at_call 48; exact Calls.regrown_of (unhide cG _ _)) | (go_at_call 26; first | (with_reducible exact Calls.regrown_of (unhide cA _ _)) | (with_reducible exact Calls.regrown_of (unhide cB _ _)))))
    refine wpQuiet_nil ?_
    intro _ hw'
    obtain ⟨⟨dq, osq⟩, hw''⟩ := hw'
    subst hw''
    have hb5 := below_regrown W0 dq osq
    generalize Sort.grow (redrawn W0 dq) osq = W5 at hb5 ⊢
    go_wp2_with fail
    go_ret
    exact ⟨by rw [unhide hu2]; rfl, b0.trans (hb5.mono b0.size)⟩

end Go.Proofs.YtfofpenajkaalaaDoor
