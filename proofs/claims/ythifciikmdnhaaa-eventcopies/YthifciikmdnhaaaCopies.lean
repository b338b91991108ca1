/-
  What EventCopies answers: true, for every event, place and number, in whatever world; nothing that lay is turned.
-/
import Derived.Test.YthifciikmdnhaaaKnown
import Derived.Lib.QuietBelow
import Derived.Deep.CutRange
import Derived.Deep.DeepCutAuto
namespace Go.Proofs.Ythifciikmdnhaaa
open Go.RowKit Go.Shelf

/-- A value stored in its place. -/
theorem Vals.store {n : Nat} {W : World} {b off : Nat} {vs : List Vl} (h : Vals n W (some ⟨b, off, none⟩) vs) (j : Nat) (hj : j < vs.length) (x : Vl) :
    Vals n (((W.setCell ⟨b, off + j * 3, none⟩ (.int .i64 x.1)).setCell ⟨b, off + j * 3 + 1, none⟩ (.int .i64 x.2.1)).setCell ⟨b, off + j * 3 + 2, none⟩ (.string x.2.2.1)) (some ⟨b, off, none⟩) (vs.set j x) := by
  rcases h with rfl | ⟨b', off', e, hb, hc⟩
  · simp at hj
  cases e
  refine .inr ⟨b, off, rfl, hb, fun i hi => ?_⟩
  rw [List.length_set] at hi
  by_cases hij : i = j
  · subst hij
    have e : vl (vs.set i x) i = x := by simp [vl, hi]
    rw [e]
    obtain ⟨h0, h1, h2⟩ := hc i hi
    have k1 : (W.setCell ⟨b, off + i * 3, none⟩ (.int .i64 x.1)).cell? ⟨b, off + i * 3 + 1, none⟩ = some (.int .i64 (vl vs i).2.1) := (World.cell?_setCell_other _ _ _ _ (by simp)).trans h1
    have k2 : ((W.setCell ⟨b, off + i * 3, none⟩ (.int .i64 x.1)).setCell ⟨b, off + i * 3 + 1, none⟩ (.int .i64 x.2.1)).cell? ⟨b, off + i * 3 + 2, none⟩ = some (.string (vl vs i).2.2.1) := ((World.cell?_setCell_other _ _ _ _ (by simp)).trans (World.cell?_setCell_other _ _ _ _ (by simp))).trans h2
    refine ⟨?_, ?_, World.cell?_setCell_same' _ _ _ (by rw [k2]; rfl)⟩
    · exact ((World.cell?_setCell_other _ _ _ _ (by simp)).trans (World.cell?_setCell_other _ _ _ _ (by simp))).trans (World.cell?_setCell_same' _ _ _ (by rw [h0]; rfl))
    · exact (World.cell?_setCell_other _ _ _ _ (by simp)).trans (World.cell?_setCell_same' _ _ _ (by rw [k1]; rfl))
  · have e : vl (vs.set j x) i = vl vs i := by simp [vl, Ne.symm hij]
    rw [e]
    obtain ⟨h0, h1, h2⟩ := hc i hi
    refine ⟨?_, ?_, ?_⟩
    · exact (((World.cell?_setCell_other _ _ _ _ (fun e => by have := congrArg Addr.off e; simp only at this; omega)).trans (World.cell?_setCell_other _ _ _ _ (fun e => by have := congrArg Addr.off e; simp only at this; omega))).trans (World.cell?_setCell_other _ _ _ _ (fun e => by have := congrArg Addr.off e; simp only at this; omega))).trans h0
    · exact (((World.cell?_setCell_other _ _ _ _ (fun e => by have := congrArg Addr.off e; simp only at this; omega)).trans (World.cell?_setCell_other _ _ _ _ (fun e => by have := congrArg Addr.off e; simp only at this; omega))).trans (World.cell?_setCell_other _ _ _ _ (fun e => by have := congrArg Addr.off e; simp only at this; omega))).trans h1
    · exact (((World.cell?_setCell_other _ _ _ _ (fun e => by have := congrArg Addr.off e; simp only at this; omega)).trans (World.cell?_setCell_other _ _ _ _ (fun e => by have := congrArg Addr.off e; simp only at this; omega))).trans (World.cell?_setCell_other _ _ _ _ (fun e => by have := congrArg Addr.off e; simp only at this; omega))).trans h2

theorem samesV_set (vs : List Vl) (j : Nat) (hj : j < vs.length) (x : Vl) : sameVs (vs.set j x) vs = sameV x (vl vs j) := by
  simp only [sameVs, List.length_set, decide_true, Bool.true_and]
  unfold samesV
  cases h : sameV x (vl vs j)
  · rw [List.all_eq_false]
    refine ⟨(x, vl vs j), ?_, by simp [h]⟩
    rw [List.mem_iff_getElem]
    exact ⟨j, by simpa using hj, by simp [vl, hj]⟩
  · rw [List.all_eq_true]
    rintro ⟨y, z⟩ hm
    rw [List.mem_iff_getElem] at hm
    obtain ⟨i, hi, e⟩ := hm
    simp only [List.getElem_zip, Prod.mk.injEq] at e
    obtain ⟨e1, e2⟩ := e
    have hil : i < vs.length := by simp at hi; omega
    by_cases hij : i = j
    · subst hij
      have : y = x := by rw [← e1]; simp
      rw [this, ← e2]
      simpa [vl, hil] using h
    · have : y = vs[i] := by rw [← e1, List.getElem_set_ne (Ne.symm hij)]
      rw [this, ← e2]
      exact sameV_self _

set_option maxHeartbeats 2000000 in
theorem copies_far (t : ByteArray) (ts : Int) (a : Option Addr) (nv cap : Nat) (m : Nat) (n : Int) (h : nv = 0 ∨ 20 < nv) (hm : nv ≤ maxLen) (w : World) :
    Calls Try.prog 4 #[.agg #[.string t, .int .i64 ts, .slice a nv cap], .int .u8 m, .int .i64 n] w fun e w' => e = .returned (.bool true) ∧ Below w.heap.size w w' := by
  unfold maxLen at hm
  have xe := Box.new w 29 #[.string t, .int .i64 ts, .slice a nv cap]
  have b0 : Below w.heap.size w (w.alloc (.cells #[.string t, .int .i64 ts, .slice a nv cap] 29)) := (Below.refl _ _).alloc (Nat.le_refl _) _
  have hc : nv = 0 ∨ (20 < nv ∧ 0 < nv) := by omega
  clear h
  rcases hc with rfl | ⟨h, h0⟩
  all_goals
    go_enter Try.func4, Try.ntmps4
    go_wp2_with fail
    refine (known_c _).mono ?_
    rintro e w1 ⟨rfl, hb1⟩
    obtain ⟨hc0, hc1, hc2⟩ := (xe.on hb1 xe.lt).three
    go_wp2_with fail
    go_ret
    exact ⟨rfl, b0.trans (hb1.mono b0.size)⟩

set_option maxRecDepth 100000 in
set_option maxHeartbeats 10000000 in
theorem copies_near (t : Txt) (ts : Int) (a : Option Addr) (cap : Nat) (vs : List Vl) (m : Nat) (n : Int) (hm : m < 256) (h0 : 0 < vs.length) (h20 : vs.length ≤ 20) (w : World) (hV : Vals w.heap.size w a vs) :
    Calls Try.prog 4 #[.agg #[.string t.1, .int .i64 ts, .slice a vs.length cap], .int .u8 m, .int .i64 n] w fun e w' => e = .returned (.bool true) ∧ Below w.heap.size w w' := by
  have hmx : Try.prog.follows .mixedOrders = true := by kernel_rfl
  have hz : ((vs.length : Int) == 0) = false := by rw [beq_eq_false_iff_ne]; omega
  have xe := Box.new w 29 #[.string t.1, .int .i64 ts, .slice a vs.length cap]
  have b0 : Below w.heap.size w (w.alloc (.cells #[.string t.1, .int .i64 ts, .slice a vs.length cap] 29)) := (Below.refl _ _).alloc (Nat.le_refl _) _
  go_enter Try.func4, Try.ntmps4
  go_wp2_with fail
  refine (known_c _).mono ?_
  rintro e w1 ⟨rfl, hb1⟩
  have xe1 := xe.on hb1 xe.lt
  have b1 := b0.trans (hb1.mono b0.size)
  obtain ⟨hc0, hc1, hc2⟩ := xe1.three
  have hV1 : Vals w1.heap.size w1 a vs := (hV.below b1).mono b1.size
  go_wp2_with fail
  refine (copy_c t.1 ts a cap vs h20 _ hV1).mono ?_
  rintro e w2 ⟨a2, c2, rfl, ho2, hb2⟩
  obtain ⟨g, rfl, hg1, hg2, hcap, ⟨cur, hcur⟩, hcell, hfrz⟩ := owns_cells ho2 h0
  have xe2 := (xe1.on hb2 xe1.lt).alloc (.cells #[.string t.1, .int .i64 ts, .slice (some ⟨g, 0, none⟩) vs.length c2] 29)
  have xc2 := Box.new w2 29 #[.string t.1, .int .i64 ts, .slice (some ⟨g, 0, none⟩) vs.length c2]
  have b2 := (b1.trans (hb2.mono b1.size)).alloc (b1.trans (hb2.mono b1.size)).size (.cells #[.string t.1, .int .i64 ts, .slice (some ⟨g, 0, none⟩) vs.length c2] 29)
  have hVc2 : Vals w2.heap.size w2 (some ⟨g, 0, none⟩) vs := by
    obtain ⟨a', c', e', hv, _⟩ := vals_of_owns ho2
    cases e'; exact hv
  have hVc3 := hVc2.on ((Below.refl _ w2).alloc (Nat.le_refl _) (.cells #[.string t.1, .int .i64 ts, .slice (some ⟨g, 0, none⟩) vs.length c2] 29))
  clear hc0 hc1 hc2 hcell
  obtain ⟨hc0, hc1, hc2⟩ := xe2.three
  obtain ⟨hd0, hd1, hd2⟩ := xc2.three
  replace hcur := hide hcur
  replace hfrz := hide hfrz
  clear ho2 hVc2
  go_upto_region 9 with fail
  obtain ⟨j, hj, hjl⟩ : ∃ j : Nat, ((m : Int) % (vs.length : Int)) = (j : Int) ∧ j < vs.length := ⟨m % vs.length, by simp, Nat.mod_lt _ h0⟩
  rw [hj]
  clear hj
  obtain ⟨w3, hw3⟩ : ∃ w3, w3 = w2.alloc (.cells #[.string t.1, .int .i64 ts, .slice (some ⟨g, 0, none⟩) vs.length c2] 29) := ⟨_, rfl⟩
  have hz3 : w3.heap.size = w2.heap.size + 1 := by rw [hw3]; simp
  have hf3 : ∀ i, w3.frozen? ⟨g, i, none⟩ = false := fun i => by
    have hb := (Below.refl _ w2).alloc (Nat.le_refl _) (.cells #[.string t.1, .int .i64 ts, .slice (some ⟨g, 0, none⟩) vs.length c2] 29)
    rw [hw3, hb.frozen (p := ⟨g, i, none⟩) hg2]
    exact unhide hfrz i
  rw [← hw3] at xe2 xc2 b2 hVc3 hc0 hc1 hc2 hd0 hd1 hd2 ⊢
  have hVe3 := hV.below b2
  clear hw3 hfrz hcur
  rcases hVe3 with rfl | ⟨b, off, rfl, hb, hc⟩
  · simp at h0
  have hVe3 : Vals w3.heap.size w3 (some ⟨b, off, none⟩) vs := (hV.below b2).mono b2.size
  obtain ⟨g0, g1, g2⟩ := hc j hjl
  obtain ⟨x, hx⟩ : ∃ x, x = vl vs j := ⟨_, rfl⟩
  rw [← hx] at g0 g1 g2
  obtain ⟨k0, n0, s0⟩ := x
  simp only at g0 g1 g2
  have b4 : Below w3.heap.size w3 (w3.alloc (.cells #[.int .i64 k0, .int .i64 n0, .string s0.1] 33)) := (Below.refl _ _).alloc (Nat.le_refl _) _
  have hg3 : g < w3.heap.size := by omega
  have hVc3' := hVc3
  rcases hVc3' with rfl | ⟨_, _, e, _, hcc⟩
  · simp at h0
  cases e
  obtain ⟨p0, p1, p2⟩ := hcc j hjl
  rw [Nat.zero_add] at p0 p1 p2
  have q0 := hf3 (j * 3)
  have q1 := hf3 (j * 3 + 1)
  have q2 := hf3 (j * 3 + 2)
  have hl2 := xc2.lt
  have hl0 := xe2.lt
  have hlb : b < w3.heap.size := Nat.lt_of_lt_of_le hb b2.size
  have hbg : b ≠ g := by have := b1.size; omega
  have hne2 : g ≠ w2.heap.size := by omega
  have hne0 : g ≠ w.heap.size := by have := (xe1.lt); omega
  clear hz3 hf3 hc hcc
  replace hx := hide hx
  go_wp2_with fail
  obtain ⟨w4, hw4⟩ : ∃ w4, w4 = ((w3.setCell ⟨g, j * 3, none⟩ (.int .i64 1)).setCell ⟨g, j * 3 + 1, none⟩ (.int .i64 n)).setCell ⟨g, j * 3 + 2, none⟩ (.string ⟨#[]⟩) := ⟨_, rfl⟩
  have hVc4 : Vals w4.heap.size w4 (some ⟨g, 0, none⟩) (vs.set j (1, n, t0)) := by
    have := hVc3.store j hjl (1, n, t0)
    rw [Nat.zero_add] at this
    rw [hw4]
    simpa [t0] using this
  have hVe4 : Vals w4.heap.size w4 (some ⟨b, off, none⟩) vs := by
    have hq : ∀ ad : Addr, some (⟨b, off, none⟩ : Addr) = some ad → g ≠ ad.block := fun ad e => by cases e; exact Ne.symm hbg
    have := ((hVe3.set ⟨g, j * 3, none⟩ (.int .i64 1) hq).set ⟨g, j * 3 + 1, none⟩ (.int .i64 n) hq).set ⟨g, j * 3 + 2, none⟩ (.string ⟨#[]⟩) hq
    rw [hw4]
    simpa using this
  have xe4 : Box w4 w.heap.size 29 #[.string t.1, .int .i64 ts, .slice (some ⟨b, off, none⟩) vs.length cap] := by
    rw [hw4]; exact ((xe2.other _ _ hne0).other _ _ hne0).other _ _ hne0
  have xc4 : Box w4 w2.heap.size 29 #[.string t.1, .int .i64 ts, .slice (some ⟨g, 0, none⟩) vs.length c2] := by
    rw [hw4]; exact ((xc2.other _ _ hne2).other _ _ hne2).other _ _ hne2
  have b4 : Below w.heap.size w w4 := by
    have hgw : w.heap.size ≤ g := Nat.le_trans b1.size hg1
    rw [hw4]; exact ((b2.setCell (p := ⟨g, j * 3, none⟩) hgw _).setCell (p := ⟨g, j * 3 + 1, none⟩) hgw _).setCell (p := ⟨g, j * 3 + 2, none⟩) hgw _
  have hs4 : w4.heap.size = w3.heap.size := by rw [hw4]; simp
  rw [← hw4, ← hs4]
  clear hw4 hs4 hVc3 hVe3 p0 p1 p2 q0 q1 q2 g0 g1 g2 hl2 hl0 hlb hne2 hne0 hc0 hc1 hc2 hd0 hd1 hd2 hV1 xe2 xc2
  have b5 : Below w4.heap.size w4 (w4.alloc (.cells #[.int .i64 k0, .int .i64 n0, .string s0.1] 33)) := (Below.refl _ _).alloc (Nat.le_refl _) _
  have xw5 := Box.new w4 33 #[.int .i64 k0, .int .i64 n0, .string s0.1]
  have xe5 := xe4.alloc (.cells #[.int .i64 k0, .int .i64 n0, .string s0.1] 33)
  have xc5 := xc4.alloc (.cells #[.int .i64 k0, .int .i64 n0, .string s0.1] 33)
  have hVe5 := hVe4.on b5
  have hVc5 := hVc4.on b5
  have b6 := b4.trans (b5.mono b4.size)
  obtain ⟨w5, hw5⟩ : ∃ w5, w5 = w4.alloc (.cells #[.int .i64 k0, .int .i64 n0, .string s0.1] 33) := ⟨_, rfl⟩
  rw [← hw5] at xw5 xe5 xc5 hVe5 hVc5 b6 ⊢
  clear hw5 b5 xe4 xc4 hVe4 hVc4
  obtain ⟨B, hB⟩ : ∃ B, B = w4.heap.size := ⟨_, rfl⟩
  rw [← hB] at xw5 ⊢
  clear hB
  have hVe := hVe5
  have hVc := hVc5
  rcases hVe5 with rfl | ⟨_, _, e, _, hc⟩
  · simp at h0
  cases e
  rcases hVc5 with h | ⟨_, _, e, _, hd⟩
  · have := congrArg List.length h
    rw [List.length_set, List.length_nil] at this; omega
  cases e
  obtain ⟨g0, g1, g2⟩ := hc j hjl
  obtain ⟨p0, p1, p2⟩ := hd j (by simpa using hjl)
  rw [← unhide hx] at g0 g1 g2
  rw [show vl (vs.set j (1, n, t0)) j = (1, n, t0) by simp [vl, hjl], Nat.zero_add] at p0 p1 p2
  simp only at g0 g1 g2
  have p2 : w5.cell? ⟨g, j * 3 + 2, none⟩ = some (.string ⟨#[]⟩) := p2
  have hr : sameE ⟨t, ts, vs.set j (1, n, t0)⟩ ⟨t, ts, vs⟩ = sameV (1, n, t0) (k0, n0, s0) := by
    rw [unhide hx, ← samesV_set vs j hjl]
    simp [sameE]
  have cA : ∀ d os, Calls Try.prog 10 #[.agg #[.string t.1, .int .i64 ts, .slice (some ⟨b, off, none⟩) vs.length cap], .agg #[.string t.1, .int .i64 ts, .slice (some ⟨b, off, none⟩) vs.length cap]] (Go.Sort.grow (redrawn w5 d) os) fun e w'' => e = .returned (.bool true) ∧ ∃ p : Regrown, w'' = Go.Sort.grow (redrawn w5 p.d) p.os := fun d os => by
    have h := sameE_c ⟨t, ts, vs⟩ ⟨t, ts, vs⟩ (some ⟨b, off, none⟩) (some ⟨b, off, none⟩) cap cap h20 h20 (Go.Sort.grow (redrawn w5 d) os) (hVe.on (below_regrown w5 d os)) (hVe.on (below_regrown w5 d os))
    rw [sameE_self] at h
    exact Calls.regrown_of h
  have cB : ∀ d os, Calls Try.prog 10 #[.agg #[.string t.1, .int .i64 ts, .slice (some ⟨g, 0, none⟩) vs.length c2], .agg #[.string t.1, .int .i64 ts, .slice (some ⟨b, off, none⟩) vs.length cap]] (Go.Sort.grow (redrawn w5 d) os) fun e w'' => e = .returned (.bool (sameV (1, n, t0) (k0, n0, s0))) ∧ ∃ p : Regrown, w'' = Go.Sort.grow (redrawn w5 p.d) p.os := fun d os => by
    have h := sameE_c ⟨t, ts, vs.set j (1, n, t0)⟩ ⟨t, ts, vs⟩ (some ⟨g, 0, none⟩) (some ⟨b, off, none⟩) c2 cap (by simpa using h20) h20 (Go.Sort.grow (redrawn w5 d) os) (hVc.on (below_regrown w5 d os)) (hVe.on (below_regrown w5 d os))
    rw [hr] at h
    simp only [List.length_set] at h
    exact Calls.regrown_of h
  obtain ⟨he0, he1, he2⟩ := xe5.three
  obtain ⟨hc0, hc1, hc2⟩ := xc5.three
  obtain ⟨hw0, hw1, hw2⟩ := xw5.three
  have e0 := cell_regrown he0
  have e1 := cell_regrown he1
  have e2 := cell_regrown he2
  have f0 := cell_regrown hc0
  have f1 := cell_regrown hc1
  have f2 := cell_regrown hc2
  have u0 := cell_regrown hw0
  have u1 := cell_regrown hw1
  have u2 := cell_regrown hw2
  have v0 := cell_regrown g0
  have v1 := cell_regrown g1
  have v2 := cell_regrown g2
  have y0 := cell_regrown p0
  have y1 := cell_regrown p1
  have y2 := cell_regrown p2
  replace hr := hide hr
  clear hc hd hV hVe hVc xe xe1 xw5 xe5 xc5 g0 g1 g2 p0 p1 p2 he0 he1 he2 hc0 hc1 hc2 hw0 hw1 hw2 hx
  have hnil : (⟨#[]⟩ : ByteArray).toList = [] := by unfold ByteArray.toList ByteArray.toList.loop; rfl
  have hcase : (k0 ≠ 1 ∧ sameV (1, n, t0) (k0, n0, s0) = false) ∨ (k0 = 1 ∧ n0 ≠ n ∧ sameV (1, n, t0) (k0, n0, s0) = false) ∨ (k0 = 1 ∧ n0 = n ∧ s0.1.toList ≠ [] ∧ sameV (1, n, t0) (k0, n0, s0) = false) ∨ (k0 = 1 ∧ n0 = n ∧ s0.1.toList = [] ∧ sameV (1, n, t0) (k0, n0, s0) = true) := by
    unfold sameV t0
    simp only [hnil]
    by_cases q1 : k0 = 1
    · by_cases q2 : n0 = n
      · by_cases q3 : s0.1.toList = []
        · simp [q1, q2, q3]
        · simp [q1, q2, q3, Ne.symm q3]
      · simp [q1, q2, Ne.symm q2]
    · simp [q1, Ne.symm q1]
  rcases hcase with ⟨z1, hs⟩ | ⟨rfl, z2, hs⟩ | ⟨rfl, rfl, z3, hs⟩ | ⟨rfl, rfl, z3, hs⟩
  all_goals
    rw [hs] at cB
    refine wp_region_quiet_below (by assumption) (by kernel_rfl) ?_
    repeat (quiet_step (first | (go_at_call 10; with_reducible exact cA _ _) | (go_at_call 10; with_reducible exact cB _ _)))
    refine wpQuiet_nil ?_
    intro _ hw'
    obtain ⟨⟨dq, osq⟩, hw''⟩ := hw'
    subst hw''
    go_wp2
    go_ret
    exact ⟨rfl, b6.trans ((below_regrown w5 dq osq).mono b6.size)⟩

end Go.Proofs.Ythifciikmdnhaaa
