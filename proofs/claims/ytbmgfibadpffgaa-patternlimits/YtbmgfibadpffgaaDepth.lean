/-
  What Depth answers of a condition: for every tree that lies, in whatever world; nothing that lay is turned.
-/
import Derived.Test.YtbmgfibadpffgaaIsT
namespace Go.Proofs.Ytbmgfibadpffgaa
open Go.RowKit Go.Shelf

attribute [local go_sem] Oper.semAt_some

/-- The greatest depth among steps whose nodes have a sign. -/
def depS (m : Nat) (p : Nat × Tree) : Nat := if p.2.dat.op = 0 then m else max m p.1
def depthL (l : List (Nat × Tree)) : Nat := l.foldl depS 0
def depthT (t : Tree) : Nat := depthL (walkT 1 t)
theorem depS_ge (m : Nat) (p : Nat × Tree) : m ≤ depS m p := by unfold depS; split <;> omega
theorem foldl_depS_ge (l : List (Nat × Tree)) (m : Nat) : m ≤ l.foldl depS m := by
  induction l generalizing m with
  | nil => exact Nat.le_refl _
  | cons p l ih => exact Nat.le_trans (depS_ge m p) (ih _)
theorem foldl_depS_le (l : List (Nat × Tree)) (m : Nat) (hm : m ≤ 20) (h : ∀ p ∈ l, p.1 ≤ 20) : l.foldl depS m ≤ 20 := by
  induction l generalizing m with
  | nil => exact hm
  | cons p l ih =>
    refine ih _ ?_ (fun q hq => h q (List.mem_cons_of_mem _ hq))
    have := h p (List.mem_cons_self ..)
    unfold depS; split <;> omega
mutual
theorem walkT_le : ∀ (d : Nat) (t : Tree), d ≤ 20 → ∀ p ∈ walkT d t, p.1 ≤ 20
  | d, .mk x ks, h, p, hp => by
    rw [walkT] at hp
    simp only [List.mem_cons] at hp
    rcases hp with rfl | hp
    · exact h
    · split at hp
      · simp at hp
      · exact walkL_le (d + 1) ks (by omega) p hp
theorem walkL_le : ∀ (d : Nat) (ts : List Tree), d ≤ 20 → ∀ p ∈ walkL d ts, p.1 ≤ 20
  | _, [], _, p, hp => by simp [walkL] at hp
  | d, t :: ts, h, p, hp => by
    rw [walkL, List.mem_append] at hp
    rcases hp with hp | hp
    · exact walkT_le d t h p hp
    · exact walkL_le d ts h p hp
end
theorem depthL_snoc (l : List (Nat × Tree)) (p : Nat × Tree) : depthL (l ++ [p]) = depS (depthL l) p := by simp [depthL]
theorem depthT_stop (t : Tree) (l r : List (Nat × Tree)) (h : l ++ r = walkT 1 t) (h20 : depthL l = 20) : depthT t = 20 := by
  have h1 : depthT t ≤ 20 := foldl_depS_le _ 0 (by omega) (walkT_le 1 t (by omega))
  have h2 : depthL l ≤ depthT t := by
    unfold depthT
    rw [← h]
    simp only [depthL, List.foldl_append]
    exact foldl_depS_ge _ _
  omega

set_option maxRecDepth 100000 in
set_option maxHeartbeats 4000000 in
theorem depthT_in (n : Nat) (hn : 5 ≤ n) (d : Dat) (a : Option Addr) (ks : List Tree) (cap : Nat) (w : World) (hL : Lies w.heap.size w a ks) :
    CallsIn Fence.wide n Try.prog 11 #[d.v a ks.length cap] w fun e W' => e = .returned (.int .i64 (depthT (.mk d ks))) ∧ Below w.heap.size w W' := by
  have h1 : 1 ≤ n := by omega
  have hro : Fence.wide.round = none := rfl
  have hdl := hL.len
  obtain ⟨s, es⟩ : ∃ s, s = w.heap.size := ⟨_, rfl⟩
  obtain ⟨W0, hW0⟩ : ∃ W0, W0 = (w.alloc (.cells (d.cs a ks.length cap) 27)).alloc (.cells #[.int .i64 0] 3) := ⟨_, rfl⟩
  have e0 : W0.heap.size = s + 2 := by rw [hW0]; simp [es]
  have b0 : Below s w W0 := by rw [hW0, es]; exact ((Below.refl _ _).alloc (Nat.le_refl _) _).alloc (by simp) _
  have x1 : Box W0 s 27 (d.cs a ks.length cap) := by rw [hW0, es]; exact (Box.new w 27 _).alloc _
  have x3 : Box W0 (s + 1) 3 #[.int .i64 0] := by
    have := (Box.new (w.alloc (.cells (d.cs a ks.length cap) 27)) 3 #[.int .i64 0])
    simp only [World.size_alloc] at this
    rw [hW0, es]; exact this
  obtain ⟨hc0, hc1, hc2, hc3, hc4, hc5, hc6⟩ := x1.seven
  refine callsIn_of_wp_marks Try.func11 rfl trivial ?_ rfl
  simp only [Try.ntmps11, List.size_toArray, List.length_cons, List.length_nil, Nat.reduceAdd, Nat.reduceSub, Array.replicate_succ, Array.replicate_zero, List.push_toArray, List.append_toArray, List.nil_append, List.cons_append]
  gi_upto_region 2 with fail
  rw [← hW0, ← es]
  clear hW0
  have hsw : s ≤ w.heap.size := Nat.le_of_eq es
  have hws : w.heap.size ≤ s := Nat.le_of_eq es.symm
  replace hL : Lies s w a ks := by rw [es]; exact hL
  replace es := hide es
  gi_wp2_with fail
  refine ⟨trivial, ?_⟩
  refine (callsIn_wide.2 (walk_c d a ks.length cap W0)).mono ?_
  rintro e w1 ⟨rfl, ew⟩
  have b1 : Below W0.heap.size W0 w1 := by rw [ew]; exact (Below.refl _ _).alloc (Nat.le_refl _) _
  have e1 : w1.heap.size = s + 3 := by rw [ew]; simp [e0]
  have x4 : Box w1 (s + 2) 27 (d.cs a ks.length cap) := by rw [ew, ← e0]; exact Box.new _ _ _
  rw [e0]
  clear ew hc0 hc1 hc2 hc3 hc4 hc5 hc6
  have bw1 : Below s w w1 := b0.trans (b1.mono (by omega))
  gi_wp2_with fail
  refine wpIn_rangeFunc_told (ok := okN) (fun o h => h) hro h1 (gf := 27) (lb := #[.pointer (some ⟨s + 2, 0, none⟩)]) rfl trivial (enters_of Try.func27 (by kernel_rfl) rfl)
    (walk_told (n - 1) (s + 2) s (fun k _ => k = s + 1) (fun W => s + 3 ≤ W.heap.size) (cls_static s (s + 3) _ (fun k h => by omega)) d a ks cap w1 (by omega) (hL.sm (Sm.of_below bw1)) x4 (fun W hW => by have := hW.size; omega)) KeepX.trans
    (fun W l o o' hl h hc hw => KeepX.put (cls_static s (s + 3) _ (fun k h => by omega)) W h hc o') (Below.refl _ _) (fun _ => rfl)
    (fun pre W => Box W (s + 1) 3 #[.int .i64 (depthL (pre.map Step.p))] ∧ Below s w W)
    (fun c pre W => c = .exit 0 ∧ Box W (s + 1) 3 #[.int .i64 (depthL (pre.map Step.p))] ∧ Hid (depthL (pre.map Step.p) = 20) ∧ Below s w W)
    (ownP_and (ownP_box (by omega) _ (fun (pre : List Step) => #[.int .i64 (depthL (pre.map Step.p))])) (ownP_below (by omega) (by omega)))
    (fun c => ownP_and (ownP_pure _ _ (fun _ => c = .exit 0)) (ownP_and (ownP_box (by omega) _ (fun (pre : List Step) => #[.int .i64 (depthL (pre.map Step.p))])) (ownP_and (ownP_pure _ _ (fun (pre : List Step) => Hid (depthL (pre.map Step.p) = 20))) (ownP_below (by omega) (by omega)))))
    ⟨x3.on b1 x3.lt, bw1⟩
    (fun pre x a1' W => ∃ B1, Box W B1 27 (x.t.dat.cs x.a x.t.kids.length x.cap) ∧ a1' = { tmps := #[d.v a ks.length cap, .pointer (some ⟨s, 0, none⟩), .int .i64 0, .pointer (some ⟨s + 1, 0, none⟩), .int .i64 x.d, .pointer (some ⟨B1, 0, none⟩), d.v a ks.length cap, .func (.func 27) #[] #[.pointer (some ⟨s + 2, 0, none⟩)], .int .i64 x.d, x.t.dat.v x.a x.t.kids.length x.cap, undef, undef, undef, undef, undef, undef, undef, undef, undef], defers := [] })
    (fun pre x a1' st A B row hs hg hr => by
      obtain ⟨B1, hf1, e⟩ := hs
      exact ⟨B1, box_own _ _ (fun _ => _) st A B row hf1 hg (fun r e => (hr r e).2), e⟩) ?assign ?body ?done ?stop
  case assign =>
    rintro l pre x W K ⟨hb1, hB⟩ ⟨he1, he2⟩ hK
    obtain ⟨WA, hWA⟩ : ∃ WA, WA = W.alloc (.cells (x.t.dat.cs x.a x.t.kids.length x.cap) 27) := ⟨_, rfl⟩
    have bA : Below W.heap.size W WA := by rw [hWA]; exact (Below.refl _ W).alloc (Nat.le_refl _) _
    have q1 : Box WA W.heap.size 27 (x.t.dat.cs x.a x.t.kids.length x.cap) := by rw [hWA]; exact Box.new W 27 _
    replace he1 := hide he1
    replace he2 := hide he2
    replace hWA := hide hWA
    gi_wp2
    rw [← unhide hWA]
    refine hK _ _ ?_ ?_ ?_ ?_
    · exact (keeps_below bA).from _
    · exact KeepX.stat_below bA
    · exact ⟨hb1.on bA hb1.lt, hB.trans (bA.mono (Nat.le_trans hsw hB.size))⟩
    · exact ⟨W.heap.size, q1, rfl⟩
  case body =>
    rintro l pre x a1' W ⟨hb1, hB⟩ ⟨B1, hq, rfl⟩
    have h2 : 1 ≤ n - 1 - 1 := by omega
    obtain ⟨hd0, hd1, hd2, hd3, hd4, hd5, hd6⟩ := hq.seven
    obtain ⟨hr0, hf0⟩ := hb1.one
    have hsn := hide (show depthL ((pre ++ [x]).map Step.p) = depS (depthL (pre.map Step.p)) x.p by rw [List.map_append]; exact depthL_snoc _ _)
    obtain ⟨m, hm⟩ : ∃ m, m = depthL (pre.map Step.p) := ⟨_, rfl⟩
    rw [← hm] at hr0 hsn hb1
    clear hm
    by_cases c0 : x.t.dat.op = 0
    · have hsn' := hide (show depthL ((pre ++ [x]).map Step.p) = m by rw [unhide hsn]; simp [depS, c0])
      rw [c0] at hd0
      by_cases c20 : m = 20
      · subst c20
        gi_wp2_with fail
        exact ⟨KeepsFrom.refl _ _, rfl, by rw [unhide hsn']; exact hb1, hsn', hB⟩
      · have e20 : ((m : Int) == 20) = false := by simp; omega
        clear c20
        gi_wp2_with fail
        exact ⟨KeepsFrom.refl _ _, KeepX.refl _ _ _, by rw [unhide hsn']; exact hb1, hB⟩
    · have e0 : (x.t.dat.op == 0) = false := by simp [c0]
      have hsn' := hide (show depthL ((pre ++ [x]).map Step.p) = max m x.d by rw [unhide hsn]; simp [depS, c0])
      clear c0
      by_cases hm : m < x.d
      · have hs2 := hide (show depthL ((pre ++ [x]).map Step.p) = x.d by rw [unhide hsn']; omega)
        clear hsn hsn'
        by_cases c20 : x.d = 20
        · have e20 : ((x.d : Int) == 20) = true := by simp; omega
          have h20 := hide c20
          clear c20
          gi_wp2_with fail
          exact ⟨(KeepsOthers.setCell _ _ _).from _, rfl, by rw [unhide hs2]; exact hb1.set 0 _, hide (by rw [unhide hs2, unhide h20]), hB.setCell (p := ⟨s + 1, 0, none⟩) (by simp) _⟩
        · have e20 : ((x.d : Int) == 20) = false := by simp; omega
          clear c20
          gi_wp2_with fail
          exact ⟨(KeepsOthers.setCell _ _ _).from _, KeepX.stat_set W (s + 1) 0 _ rfl, by rw [unhide hs2]; exact hb1.set 0 _, hB.setCell (p := ⟨s + 1, 0, none⟩) (by simp) _⟩
      · have hs2 := hide (show depthL ((pre ++ [x]).map Step.p) = m by rw [unhide hsn']; omega)
        clear hsn hsn'
        by_cases c20 : m = 20
        · have e20 : ((m : Int) == 20) = true := by simp; omega
          have h20 := hide c20
          clear c20
          gi_wp2_with fail
          exact ⟨(KeepsOthers.setCell _ _ _).from _, rfl, by rw [unhide hs2]; exact hb1.set 0 _, hide (by rw [unhide hs2, unhide h20]), hB.setCell (p := ⟨s + 1, 0, none⟩) (by simp) _⟩
        · have e20 : ((m : Int) == 20) = false := by simp; omega
          clear c20
          gi_wp2_with fail
          exact ⟨(KeepsOthers.setCell _ _ _).from _, KeepX.stat_set W (s + 1) 0 _ rfl, by rw [unhide hs2]; exact hb1.set 0 _, hB.setCell (p := ⟨s + 1, 0, none⟩) (by simp) _⟩
  case done =>
    rintro D ys W hD hys ⟨hb1, hB⟩ hK
    rw [hys] at hb1
    replace hys := hide hys
    obtain ⟨hr0, hf0⟩ := hb1.one
    gi_wp2_with fail
    refine ⟨by simp, .inl ⟨_, _, rfl, run_takeDeferred hK, ?_⟩⟩
    refine ⟨.int .i64 (depthT (.mk d ks)), ?_, rfl, by rw [← unhide es]; exact hB.trans (belowK_b (w := w) hsw _ D _ _ (by omega) hK rfl rfl)⟩
    simp [results, Try.f11, go_sem, depthT]
  case stop =>
    rintro D c pre W hD ⟨rest, hr⟩ ⟨rfl, hb1, hg, hB⟩ hK
    have hno := hide (depthT_stop _ _ _ hr (unhide hg))
    rw [unhide hg] at hb1
    clear hr
    obtain ⟨hr0, hf0⟩ := hb1.one
    gi_wp2_with fail
    refine ⟨by simp, .inl ⟨_, _, rfl, run_takeDeferred hK, ?_⟩⟩
    refine ⟨.int .i64 20, ?_, by rw [unhide hno]; rfl, by rw [← unhide es]; exact hB.trans (belowK_b (w := w) hsw _ D _ _ (by omega) hK rfl rfl)⟩
    simp [results, Try.f11, go_sem]

theorem depthT_c (d : Dat) (a : Option Addr) (ks : List Tree) (cap : Nat) (w : World) (hL : Lies w.heap.size w a ks) :
    Calls Try.prog 11 #[d.v a ks.length cap] w fun e W' => e = .returned (.int .i64 (depthT (.mk d ks))) ∧ Below w.heap.size w W' :=
  callsIn_wide.1 (depthT_in 5 (Nat.le_refl _) d a ks cap w hL)

end Go.Proofs.Ytbmgfibadpffgaa
