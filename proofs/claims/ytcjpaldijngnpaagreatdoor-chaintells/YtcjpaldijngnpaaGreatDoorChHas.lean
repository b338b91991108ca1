/-
  What a chain's spans, has and Changes answer; for every chain, in whatever world; nothing that lay is turned.
-/
import Derived.Test.YtcjpaldijngnpaaGreatDoorChNew
import Derived.Test.YtcjpaldijngnpaaGreatDoorPureEv
namespace Go.Proofs.YtcjpaldijngnpaaGreatDoor
open Go.RowKit Go.Shelf

def spansB (cs : List Ch) (f t : Int) : Bool := decide (0 ≤ f) && decide (f ≤ t) && decide (t ≤ cs.length)
theorem spans_c (Bp cap capc : Nat) (a ac : Option Addr) (ts : List Ty) (cs : List Ch) (f t : Int) (w : World) (hC : IsCh w.heap.size w Bp a ac cap capc ts cs) :
    Calls Tryz.prog 35 #[.pointer (some ⟨Bp, 0, none⟩), .int .i64 f, .int .i64 t] w fun e w' => e = .returned (.bool (spansB cs f t)) ∧ w' = w := by
  obtain ⟨sb, hsb⟩ : ∃ sb, sb = spansB cs f t := ⟨_, rfl⟩
  rw [← hsb]
  by_cases h0 : 0 ≤ f
  · by_cases h1 : f ≤ t
    · by_cases h2 : t ≤ (cs.length : Int)
      · obtain rfl : sb = true := by rw [hsb]; simp [spansB, h0, h1, h2]
        clear hsb
        go_enter Tryz.func35, Tryz.ntmps35
        go_wp2_with fail
        refine (now_c Bp cap capc a ac ts cs w hC).mono ?_
        rintro e W1 ⟨rfl, rfl⟩
        go_wp2_with fail
        go_ret
        exact ⟨rfl, rfl⟩
      · obtain rfl : sb = false := by rw [hsb]; simp [spansB, h2]
        clear hsb
        go_enter Tryz.func35, Tryz.ntmps35
        go_wp2_with fail
        refine (now_c Bp cap capc a ac ts cs w hC).mono ?_
        rintro e W1 ⟨rfl, rfl⟩
        go_wp2_with fail
        go_ret
        refine ⟨?_, rfl⟩
        show Ending.returned (.bool (decide (t ≤ (cs.length : Int)))) = _
        simp [h2]
    · obtain rfl : sb = false := by rw [hsb]; simp [spansB, h1]
      clear hsb
      go_enter Tryz.func35, Tryz.ntmps35
      go_wp2_with fail
      go_ret
      exact ⟨rfl, rfl⟩
  · obtain rfl : sb = false := by rw [hsb]; simp [spansB, h0]
    clear hsb
    go_enter Tryz.func35, Tryz.ntmps35
    go_wp2_with fail
    go_ret
    exact ⟨rfl, rfl⟩

/-- Whether the schema has that field of that type. -/
def hasF (ts : List Ty) (t f : ByteArray) : Bool := match findT ts t with | none => false | some x => decide (0 ≤ placeI (fnames x.2) f)

set_option maxHeartbeats 2000000 in
theorem chHas_c (Bp cap capc : Nat) (a ac : Option Addr) (ts : List Ty) (cs : List Ch) (ty' fd' : ByteArray) (k : Nat) (hk : k ≤ cs.length) (hS : Sch ts) (h20 : cs.length ≤ 20) (w : World) (hC : IsCh w.heap.size w Bp a ac cap capc ts cs) :
    Calls Tryz.prog 41 #[.pointer (some ⟨Bp, 0, none⟩), .string ty', .string fd', .int .i64 k] w fun e w' => e = .returned (.bool (hasF (vers ts cs k) ty' fd')) ∧ Below w.heap.size w w' := by
  have hSk := sch_vers hS cs k
  obtain ⟨vs, hvs⟩ : ∃ vs, vs = vers ts cs k := ⟨_, rfl⟩
  rw [← hvs]
  rw [← hvs] at hSk
  have cA := hide (at_c Bp cap capc a ac ts cs k hS h20 w hC)
  go_enter Tryz.func41, Tryz.ntmps41
  go_wp2_with fail
  refine (unhide cA).mono ?_
  rintro e w1 ⟨hat, hb1⟩
  clear cA
  rcases hat with ⟨k', a1, c1, hk', -, rfl, hO⟩ | ⟨h, -⟩
  case inr => omega
  obtain rfl : k' = k := by omega
  rw [← hvs] at hO ⊢
  clear hk' hvs
  obtain ⟨w2, hw2⟩ : ∃ w2, w2 = w1.alloc (.cells #[.slice a1 vs.length c1] 24) := ⟨_, rfl⟩
  have b2 : Below w1.heap.size w1 w2 := by rw [hw2]; exact (Below.refl _ _).alloc (Nat.le_refl _) _
  have v9 : Box w2 w1.heap.size 24 #[.slice a1 vs.length c1] := by rw [hw2]; exact Box.new _ _ _
  go_upto_region 2 with fail
  rw [← hw2]
  clear hw2
  have bw2 := hb1.trans (b2.mono hb1.size)
  have T2 := (hO.on b2).typs (sch_max hSk)
  have hs := v9.one.1
  cases hp : placeN (tnames vs) ty' with
  | none =>
    have hr := hide (show hasF vs ty' fd' = false by simp [hasF, findT_place, hp])
    have cF := hide (find_none a1 c1 vs ty' hSk.1 w2 T2 hp)
    clear hp
    go_wp2_with fail
    refine (unhide cF).mono ?_
    rintro e w3 ⟨rfl, hb3⟩
    go_wp2_with fail
    go_ret
    exact ⟨by rw [unhide hr]; rfl, (bw2.trans (hb3.mono bw2.size)).alloc (bw2.trans (hb3.mono bw2.size)).size _⟩
  | some i =>
    have cF := hide (find_some a1 c1 vs ty' i hSk.1 w2 T2 hp (sch_hk5 hSk i))
    have hr := hide (show hasF vs ty' fd' = decide (0 ≤ placeI (fnames (ty vs i).2) fd') by simp [hasF, findT_place, hp])
    have h5 := sch_hk5 hSk i
    clear hp
    go_wp2_with fail
    refine (unhide cF).mono ?_
    rintro e w3 ⟨a3, c3, rfl, ⟨hF3, -⟩, hb3⟩
    clear cF hs
    obtain ⟨w4, hw4⟩ : ∃ w4, w4 = w3.alloc (.cells #[.string (ty vs i).1.1, .slice a3 (ty vs i).2.length c3] 69) := ⟨_, rfl⟩
    have b4 : Below w3.heap.size w3 w4 := by rw [hw4]; exact (Below.refl _ _).alloc (Nat.le_refl _) _
    have v11 : Box w4 w3.heap.size 69 #[.string (ty vs i).1.1, .slice a3 (ty vs i).2.length c3] := by rw [hw4]; exact Box.new _ _ _
    go_upto_region 3 with fail
    rw [← hw4]
    clear hw4
    have bw3 := bw2.trans (hb3.mono bw2.size)
    have bw4 := bw3.trans (b4.mono bw3.size)
    obtain ⟨ht0, ht1⟩ := v11.two
    have cG := hide (field_c (ty vs i).1.1 fd' a3 c3 (ty vs i).2 h5 w4 (hF3.on b4))
    obtain ⟨P, hP⟩ : ∃ P, P = placeI (fnames (ty vs i).2) fd' := ⟨_, rfl⟩
    rw [← hP] at cG hr
    clear hP
    go_wp2_with fail
    refine (unhide cG).mono ?_
    rintro e w5 ⟨rfl, hb5⟩
    clear cG ht0 ht1
    have bw5 := bw4.trans (hb5.mono bw4.size)
    by_cases hP0 : 0 ≤ P
    · have hr' := hide (show hasF vs ty' fd' = true by rw [unhide hr]; simp [hP0])
      go_wp2_with fail
      go_ret
      exact ⟨by rw [unhide hr']; first | rfl | (show Ending.returned (.bool (decide _)) = _; simp [hP0]), bw5⟩
    · have hr' := hide (show hasF vs ty' fd' = false by rw [unhide hr]; simp [hP0])
      go_wp2_with fail
      go_ret
      exact ⟨by rw [unhide hr']; first | rfl | (show Ending.returned (.bool (decide _)) = _; simp [hP0]), bw5⟩

set_option maxHeartbeats 1000000 in
theorem cloneC_c (a : Option Addr) (cap : Nat) (cs : List Ch) (h20 : cs.length ≤ 20) (w : World) (hC : ChsB w.heap.size w a cap cs) :
    Calls Tryz.prog 47 #[.slice a cs.length cap] w fun e w' => ∃ a' c', e = .returned (.slice a' cs.length c') ∧ Below w.heap.size w w' := by
  obtain ⟨i0, hi, hz0, hz1, hz2⟩ := info_parts infoCh
  have heq : ∀ (w : World) (n c : Nat), (binOp .eql 25 (.slice a n c) (.slice none 0 0)).run Tryz.prog w = .ok (.bool a.isNone) w := fun w n c => Lib.run_eql_slice_nil w 25 42 a n c 0 0 Tryz.underlying25
  cases a with
  | none =>
    have e0 : cs = [] := by
      rcases hC.1.2 with ⟨_, h⟩ | ⟨_, _, _, e, _⟩
      · exact List.length_eq_zero_iff.1 h
      · cases e
    subst e0
    go_enter Tryz.func47, Tryz.ntmps47
    go_wp2_with fail
    go_ret
    exact ⟨_, _, rfl, Below.refl _ _⟩
  | some ad =>
    have b0 : Below w.heap.size w (w.alloc (.cells #[] 42)) := (Below.refl _ _).alloc (Nat.le_refl _) _
    have ho : (w.alloc (.cells #[] 42)).ownsRow w.heap.size 42 7 (.slice (some ⟨w.heap.size, 0, none⟩) 0 0) 0 [] := ⟨rfl, .inr ⟨w.heap.size, 0, #[], rfl, Nat.le_refl _, World.alloc_heap_new w _, Nat.le_refl _, Nat.zero_le _, rfl, rfl⟩⟩
    have hnews : ∀ j u, (newsC cs)[j]? = some u → (w.alloc (.cells #[] 42)).cell? (ad.add j) = some u := by
      have hb := owns_below hC.1 b0
      rcases hb.2 with ⟨e, _⟩ | ⟨g, c', cur, e, _⟩
      · cases e
      · simp only [Value.slice.injEq, true_and, Option.some.injEq] at e
        rw [e.1]
        exact hb.cells (g := g) (by rw [e.1]; rfl)
    have hnews := hide hnews
    have hln := hide (newsC_len cs)
    have h1 := hide (newsC_one cs)
    replace hC := hide hC
    go_enter Tryz.func47, Tryz.ntmps47
    go_wp2_with (at_builtin; go_must (refine wpList_append_own _ rfl _ _ 25 rfl w.heap.size 42 i0 (.agg #[.int .i64 0, .string ⟨#[]⟩, .string ⟨#[]⟩, .string ⟨#[]⟩, .int .i64 0, .int .i64 0, .string ⟨#[]⟩]) 7 88 Tryz.underlying25 hi hz0 hz1 hz2 rfl (by decide) (.slice (some ⟨w.heap.size, 0, none⟩) 0 0) 0 [] rfl ho ad cs.length cap (newsC cs) rfl (unhide hln) (unhide hnews) (unhide h1) (by unfold maxLen; omega) (by omega) (by simp) ?_); intro v' w2 hown hgrow _)
    rw [Nat.zero_add, List.nil_append] at hown
    obtain ⟨a', c', rfl⟩ : ∃ a' c', v' = .slice a' cs.length c' := by
      rcases hown.2 with ⟨e, h0⟩ | ⟨g, cc, _, e, _⟩
      · exact ⟨none, 0, by rw [e, h0]⟩
      · exact ⟨_, _, e⟩
    replace hown := hide hown
    go_wp2_with fail
    go_ret
    exact ⟨a', c', rfl, b0.grown hgrow (by simp) (fun k e => by cases e; exact Nat.le_refl _)⟩
theorem changes_c (Bp cap capc : Nat) (a ac : Option Addr) (ts : List Ty) (cs : List Ch) (h20 : cs.length ≤ 20) (w : World) (hC : IsCh w.heap.size w Bp a ac cap capc ts cs) :
    Calls Tryz.prog 22 #[.pointer (some ⟨Bp, 0, none⟩)] w fun e w' => ∃ a' c', e = .returned (.slice a' cs.length c') ∧ Below w.heap.size w w' := by
  obtain ⟨hp0, hp1⟩ := hC.box.two
  have cC := hide (cloneC_c ac capc cs h20 w hC.row)
  go_enter Tryz.func22, Tryz.ntmps22
  go_wp2_with fail
  refine (unhide cC).mono ?_
  rintro e w1 ⟨a1, c1, rfl, hb1⟩
  go_wp2_with fail
  go_ret
  exact ⟨_, _, rfl, hb1⟩

end Go.Proofs.YtcjpaldijngnpaaGreatDoor
