/-
  What evolve's Apply answers, with the schema in memory that the call made; and the versions of a schema behind a row of changes, as lists.
-/
import Derived.Test.YtcjpaldijngnpaaGreatDoorChCopy
import Derived.Test.YtcjpaldijngnpaaGreatDoorPureEv
namespace Go.Proofs.YtcjpaldijngnpaaGreatDoor
open Go.RowKit Go.Shelf

set_option maxRecDepth 100000 in
set_option maxHeartbeats 4000000 in
theorem apply_o (a : Option Addr) (cap : Nat) (ts : List Ty) (c : Ch) (h5 : ts.length ≤ 5) (hk5 : ∀ k, (ty ts k).2.length ≤ 5) (w : World) (hT : Typs w.heap.size w a ts) :
    Calls Tryz.prog 31 #[.agg #[.slice a ts.length cap], c.v] w fun e w' => ∃ a' c', e = .returned (.tuple #[.agg #[.slice a' (appT ts c).length c'], errE (refE ts c)]) ∧ OwnT w.heap.size w' a' c' (appT ts c) ∧ Below w.heap.size w w' := by
  have x2 := ((Box.new w 24 #[.slice a ts.length cap]).alloc (.cells c.cs 42)).alloc (.cells #[.slice none 0 0] 24)
  have x3 := (Box.new (w.alloc (.cells #[.slice a ts.length cap] 24)) 42 c.cs).alloc (.cells #[.slice none 0 0] 24)
  have x4 := Box.new ((w.alloc (.cells #[.slice a ts.length cap] 24)).alloc (.cells c.cs 42)) 24 #[.slice none 0 0]
  simp only [World.size_alloc] at x3 x4
  have b0 : Below w.heap.size w (((w.alloc (.cells #[.slice a ts.length cap] 24)).alloc (.cells c.cs 42)).alloc (.cells #[.slice none 0 0] 24)) := (((Below.refl _ _).alloc (Nat.le_refl _) _).alloc (by simp) _).alloc (by simp; omega) _
  have T0 := hT.on b0
  have cR := hide (refusal_c a cap ts c h5 hk5 _ T0)
  by_cases h0 : refE ts c = 0
  · have eA := hide (show appT ts c = tNew c ts by simp [appT, h0])
    rw [h0, show errE 0 = Value.nilIface from rfl] at cR ⊢
    clear h0
    go_enter Tryz.func31, Tryz.ntmps31
    go_wp2_with fail
    refine (unhide cR).mono ?_
    rintro e w1 ⟨rfl, hb1⟩
    have y2 := x2.on hb1 x2.lt
    have y3 := x3.on hb1 x3.lt
    have y4 := x4.on hb1 x4.lt
    have hs := y2.one.1
    obtain ⟨hc0, hc1, hc2, hc3, hc4, hc5, hc6⟩ := y3.seven
    have T1 := T0.on hb1
    have b1 := b0.trans (hb1.mono b0.size)
    go_wp2_with fail
    refine (typesW_c a ts.length cap c w1).mono ?_
    rintro e w2 ⟨rfl, rfl⟩
    have b2 : Below w1.heap.size w1 ((w1.alloc (.cells #[.slice a ts.length cap] 24)).alloc (.cells c.cs 42)) := ((Below.refl _ _).alloc (Nat.le_refl _) _).alloc (by simp) _
    have z2 := (Box.new w1 24 #[.slice a ts.length cap]).alloc (.cells c.cs 42)
    have z3 := Box.new (w1.alloc (.cells #[.slice a ts.length cap] 24)) 42 c.cs
    rw [World.size_alloc] at z3
    have cC := hide (collect_c w1.heap.size (w1.heap.size + 1) ((w1.alloc (.cells #[.slice a ts.length cap] 24)).alloc (.cells c.cs 42)).heap.size cap a ts c h5 hk5 _ (Nat.le_refl _) z2 z3 (T1.on b2))
    go_wp2_with fail
    refine (unhide cC).mono ?_
    rintro e w3 ⟨v, xs, rfl, ⟨hxs, hown⟩, hrow, hb3⟩
    have b3 := b2.trans (hb3.mono b2.size)
    have u4 := y4.on b3 y4.lt
    obtain ⟨hd0, hdf⟩ := u4.one
    have h6 : ∀ x ∈ xs, x.1.2.length ≤ maxLen := fun x hx => by
      have := tNew_fs c ts hk5 x.1 (by rw [← hxs]; exact List.mem_map_of_mem hx)
      unfold maxLen; omega
    obtain ⟨a4, c4, rfl, -⟩ := typs_of_owns hrow hown h6
    have hlen : xs.length = (appT ts c).length := by rw [unhide eA, ← hxs]; simp
    have hsz := u4.lt
    have hy4 := y4.lt
    have hall := hide (show OwnT w.heap.size (w3.setCell ⟨w.heap.size + 1 + 1, 0, none⟩ (.slice a4 (appT ts c).length c4)) a4 c4 (appT ts c) by
      have r1 := owns_set hrow ⟨w.heap.size + 1 + 1, 0, none⟩ (.slice a4 (appT ts c).length c4) (by simp; omega)
      have r2 : ∀ x ∈ xs, Tw.own _ (w3.setCell ⟨w.heap.size + 1 + 1, 0, none⟩ (.slice a4 (appT ts c).length c4)) x := fun x hx => owns_set (hown x hx) ⟨w.heap.size + 1 + 1, 0, none⟩ (.slice a4 (appT ts c).length c4) (by simp; omega)
      rw [hlen] at r1
      exact ⟨xs, by rw [hxs, unhide eA], owns_base (by simp; omega) r1, fun x hx => owns_base (by simp; omega) (r2 x hx)⟩)
    rw [hlen]
    clear hxs hown hrow h6 hlen
    go_wp2_with fail
    have u5 := (u4.set 0 (.slice a4 (appT ts c).length c4)).one.1
    refine bodyPost_ret (v := .tuple #[.agg #[.slice a4 (appT ts c).length c4], .nilIface]) (by simp [results, Tryz.results31, go_sem, u5]) rfl ⟨a4, c4, rfl, unhide hall, ?_⟩
    exact (b1.trans (b3.mono b1.size)).setCell (p := ⟨w.heap.size + 1 + 1, 0, none⟩) (by simp only; omega) _
  · have eA := hide (show appT ts c = tNew noCh ts by rw [tNew_no]; simp [appT, h0])
    have hev : ∃ n, errE (refE ts c) = errV n := ⟨refE ts c, by simp [errE, h0]⟩
    obtain ⟨en, hev⟩ := hev
    rw [hev] at cR ⊢
    clear h0 hev
    go_enter Tryz.func31, Tryz.ntmps31
    go_wp2_with fail
    refine (unhide cR).mono ?_
    rintro e w1 ⟨rfl, hb1⟩
    have y2 := x2.on hb1 x2.lt
    have y3 := x3.on hb1 x3.lt
    have y4 := x4.on hb1 x4.lt
    have hs := y2.one.1
    obtain ⟨hc0, hc1, hc2, hc3, hc4, hc5, hc6⟩ := y3.seven
    have f0 := y3.frz 0
    have f1 := y3.frz 1
    have f2 := y3.frz 2
    have f3 := y3.frz 3
    have f4 := y3.frz 4
    have f5 := y3.frz 5
    have f6 := y3.frz 6
    have T1 := T0.on hb1
    have b1 := b0.trans (hb1.mono b0.size)
    go_wp2_with fail
    have y2' := ((((((y2.other ⟨w.heap.size + 1, 0, none⟩ (.int .i64 0) (by simp)).other ⟨w.heap.size + 1, 1, none⟩ (.string ⟨#[]⟩) (by simp)).other ⟨w.heap.size + 1, 2, none⟩ (.string ⟨#[]⟩) (by simp)).other ⟨w.heap.size + 1, 3, none⟩ (.string ⟨#[]⟩) (by simp)).other ⟨w.heap.size + 1, 4, none⟩ (.int .i64 0) (by simp)).other ⟨w.heap.size + 1, 5, none⟩ (.int .i64 0) (by simp)).other ⟨w.heap.size + 1, 6, none⟩ (.string ⟨#[]⟩) (by simp)
    have y4' := ((((((y4.other ⟨w.heap.size + 1, 0, none⟩ (.int .i64 0) (by simp)).other ⟨w.heap.size + 1, 1, none⟩ (.string ⟨#[]⟩) (by simp)).other ⟨w.heap.size + 1, 2, none⟩ (.string ⟨#[]⟩) (by simp)).other ⟨w.heap.size + 1, 3, none⟩ (.string ⟨#[]⟩) (by simp)).other ⟨w.heap.size + 1, 4, none⟩ (.int .i64 0) (by simp)).other ⟨w.heap.size + 1, 5, none⟩ (.int .i64 0) (by simp)).other ⟨w.heap.size + 1, 6, none⟩ (.string ⟨#[]⟩) (by simp)
    have y3' := ((((((y3.set 0 (.int .i64 0)).set 1 (.string ⟨#[]⟩)).set 2 (.string ⟨#[]⟩)).set 3 (.string ⟨#[]⟩)).set 4 (.int .i64 0)).set 5 (.int .i64 0)).set 6 (.string ⟨#[]⟩)
    have b1' := ((((((b1.setCell (p := ⟨w.heap.size + 1, 0, none⟩) (by simp) (.int .i64 0)).setCell (p := ⟨w.heap.size + 1, 1, none⟩) (by simp) (.string ⟨#[]⟩)).setCell (p := ⟨w.heap.size + 1, 2, none⟩) (by simp) (.string ⟨#[]⟩)).setCell (p := ⟨w.heap.size + 1, 3, none⟩) (by simp) (.string ⟨#[]⟩)).setCell (p := ⟨w.heap.size + 1, 4, none⟩) (by simp) (.int .i64 0)).setCell (p := ⟨w.heap.size + 1, 5, none⟩) (by simp) (.int .i64 0)).setCell (p := ⟨w.heap.size + 1, 6, none⟩) (by simp) (.string ⟨#[]⟩)
    replace y3' : Box _ (w.heap.size + 1) 42 noCh.cs := y3'
    obtain ⟨w2', hw2'⟩ : ∃ w2', w2' = (((((((w1.setCell ⟨w.heap.size + 1, 0, none⟩ (.int .i64 0)).setCell ⟨w.heap.size + 1, 1, none⟩ (.string ⟨#[]⟩)).setCell ⟨w.heap.size + 1, 2, none⟩ (.string ⟨#[]⟩)).setCell ⟨w.heap.size + 1, 3, none⟩ (.string ⟨#[]⟩)).setCell ⟨w.heap.size + 1, 4, none⟩ (.int .i64 0)).setCell ⟨w.heap.size + 1, 5, none⟩ (.int .i64 0)).setCell ⟨w.heap.size + 1, 6, none⟩ (.string ⟨#[]⟩)) := ⟨_, rfl⟩
    rw [← hw2'] at y2' y3' y4' b1' ⊢
    clear hw2' hs hc0 hc1 hc2 hc3 hc4 hc5 hc6 f0 f1 f2 f3 f4 f5 f6
    have T1' := (hT.below b1').mono b1'.size
    refine (typesW_c a ts.length cap noCh w2').mono ?_
    rintro e w2 ⟨rfl, rfl⟩
    have b2 : Below w2'.heap.size w2' ((w2'.alloc (.cells #[.slice a ts.length cap] 24)).alloc (.cells noCh.cs 42)) := ((Below.refl _ _).alloc (Nat.le_refl _) _).alloc (by simp) _
    have z2 := (Box.new w2' 24 #[.slice a ts.length cap]).alloc (.cells noCh.cs 42)
    have z3 := Box.new (w2'.alloc (.cells #[.slice a ts.length cap] 24)) 42 noCh.cs
    rw [World.size_alloc] at z3
    have cC := hide (collect_c w2'.heap.size (w2'.heap.size + 1) ((w2'.alloc (.cells #[.slice a ts.length cap] 24)).alloc (.cells noCh.cs 42)).heap.size cap a ts noCh h5 hk5 _ (Nat.le_refl _) z2 z3 (T1'.on b2))
    go_wp2_with fail
    refine (unhide cC).mono ?_
    rintro e w3 ⟨v, xs, rfl, ⟨hxs, hown⟩, hrow, hb3⟩
    have b3 := b2.trans (hb3.mono b2.size)
    have u4 := y4'.on b3 y4'.lt
    obtain ⟨hd0, hdf⟩ := u4.one
    have h6 : ∀ x ∈ xs, x.1.2.length ≤ maxLen := fun x hx => by
      have := tNew_fs noCh ts hk5 x.1 (by rw [← hxs]; exact List.mem_map_of_mem hx)
      unfold maxLen; omega
    obtain ⟨a4, c4, rfl, -⟩ := typs_of_owns hrow hown h6
    have hlen : xs.length = (appT ts c).length := by rw [unhide eA, ← hxs]; simp
    have hsz := u4.lt
    have hy4' := y4'.lt
    have hall := hide (show OwnT w.heap.size (w3.setCell ⟨w.heap.size + 1 + 1, 0, none⟩ (.slice a4 (appT ts c).length c4)) a4 c4 (appT ts c) by
      have r1 := owns_set hrow ⟨w.heap.size + 1 + 1, 0, none⟩ (.slice a4 (appT ts c).length c4) (by simp; omega)
      have r2 : ∀ x ∈ xs, Tw.own _ (w3.setCell ⟨w.heap.size + 1 + 1, 0, none⟩ (.slice a4 (appT ts c).length c4)) x := fun x hx => owns_set (hown x hx) ⟨w.heap.size + 1 + 1, 0, none⟩ (.slice a4 (appT ts c).length c4) (by simp; omega)
      rw [hlen] at r1
      exact ⟨xs, by rw [hxs, unhide eA], owns_base (by simp; omega) r1, fun x hx => owns_base (by simp; omega) (r2 x hx)⟩)
    rw [hlen]
    clear hxs hown hrow h6 hlen
    go_wp2_with fail
    have u5 := (u4.set 0 (.slice a4 (appT ts c).length c4)).one.1
    refine bodyPost_ret (v := .tuple #[.agg #[.slice a4 (appT ts c).length c4], errV en]) (by simp [results, Tryz.results31, go_sem, u5]) rfl ⟨a4, c4, rfl, unhide hall, ?_⟩
    exact (b1'.trans (b3.mono b1'.size)).setCell (p := ⟨w.heap.size + 1 + 1, 0, none⟩) (by simp only; omega) _


/-- The version behind so many changes. -/
def vers (ts : List Ty) (cs : List Ch) (k : Nat) : List Ty := (cs.take k).foldl appT ts
theorem vers_zero (ts : List Ty) (cs : List Ch) : vers ts cs 0 = ts := rfl
instance : Inhabited Ch := ⟨noCh⟩
abbrev chn (cs : List Ch) (k : Nat) : Ch := cs[k]?.getD default
theorem vers_succ (ts : List Ty) (cs : List Ch) {k : Nat} (hk : k < cs.length) : vers ts cs (k + 1) = appT (vers ts cs k) (chn cs k) := by
  unfold vers
  rw [List.take_succ_eq_append_getElem hk, List.foldl_append]
  simp [chn, hk]
theorem sch_app {ts : List Ty} (hS : Sch ts) (c : Ch) : Sch (appT ts c) := by
  unfold appT
  split
  · next h => exact sch_new hS h
  · exact hS
theorem sch_vers {ts : List Ty} (hS : Sch ts) (cs : List Ch) (k : Nat) : Sch (vers ts cs k) := by
  unfold vers
  generalize cs.take k = l
  induction l generalizing ts with
  | nil => exact hS
  | cons c l ih => exact ih (sch_app hS c)
theorem sch_hk5 {ts : List Ty} (h : Sch ts) : ∀ k, (ty ts k).2.length ≤ 5 := fun k => by
  by_cases hk : k < ts.length
  · exact (h.2 k hk).2.2.1
  · simp only [ty, List.getElem?_eq_none (Nat.le_of_not_lt hk), Option.getD_none]
    exact Nat.zero_le _
theorem sch_max {ts : List Ty} (h : Sch ts) : ∀ t ∈ ts, t.2.length ≤ maxLen := fun t ht => by
  have := (((sch_iff ts).1 h).2.1 t ht).2.1
  unfold maxLen; omega

end Go.Proofs.YtcjpaldijngnpaaGreatDoor
