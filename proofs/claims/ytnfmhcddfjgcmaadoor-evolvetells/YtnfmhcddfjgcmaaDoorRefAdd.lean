/-
  What the document's add answers (package pasternref1, layer 4): why a field may not be added: the same as the program's; for every type of at most 5 fields and every change, in whatever world; nothing that lay is turned.
-/
import Derived.Test.YtnfmhcddfjgcmaaDoorRefuseAdd
import Derived.Test.YtnfmhcddfjgcmaaDoorRef
namespace Go.Proofs.YtnfmhcddfjgcmaaDoor
open Go.RowKit Go.Shelf

set_option maxRecDepth 100000 in
set_option maxHeartbeats 4000000 in
theorem refAdd_c (nm : ByteArray) (a : Option Addr) (cap : Nat) (fs : List Fd) (c : Ch) (h5 : fs.length ≤ 5) (w : World) :
    Calls Tryd.prog 24 #[.agg #[.string nm, .slice a fs.length cap], c.v, .int .i64 (placeI (fnames fs) c.f.1)] w fun e w' => e = .returned (.int .i64 (addE fs c)) ∧ Below w.heap.size w w' := by
  obtain ⟨k, t, f, o, dk, dn, ds⟩ := c
  have b0 : Below w.heap.size w ((w.alloc (.cells #[.string nm, .slice a fs.length cap] 51)).alloc (.cells #[.int .i64 k, .string t.1, .string f.1, .string o.1, .int .i64 dk, .int .i64 dn, .string ds.1] 28)) := ((Below.refl _ _).alloc (Nat.le_refl _) _).alloc (by simp) _
  obtain ⟨rv, hrv⟩ : ∃ rv, rv = addE fs ⟨k, t, f, o, dk, dn, ds⟩ := ⟨_, rfl⟩
  rw [← hrv]
  have xt := (Box.new w 51 #[.string nm, .slice a fs.length cap]).alloc (.cells #[.int .i64 k, .string t.1, .string f.1, .string o.1, .int .i64 dk, .int .i64 dn, .string ds.1] 28)
  have xc := Box.new (w.alloc (.cells #[.string nm, .slice a fs.length cap] 51)) 28 #[.int .i64 k, .string t.1, .string f.1, .string o.1, .int .i64 dk, .int .i64 dn, .string ds.1]
  rw [World.size_alloc] at xc
  obtain ⟨pl, hpl⟩ : ∃ pl, pl = placeI (fnames fs) f.1 := ⟨_, rfl⟩
  show Calls Tryd.prog 24 #[.agg #[.string nm, .slice a fs.length cap], .agg #[.int .i64 k, .string t.1, .string f.1, .string o.1, .int .i64 dk, .int .i64 dn, .string ds.1], .int .i64 (placeI (fnames fs) f.1)] w _
  rw [← hpl]
  have hH : (hasB fs f.1 = true ∧ 0 ≤ pl) ∨ (hasB fs f.1 = false ∧ ¬ 0 ≤ pl) := by
    rw [hpl]
    unfold hasB placeI
    cases placeN (fnames fs) f.1 with
    | none => exact .inr ⟨rfl, by decide⟩
    | some p => exact .inl ⟨rfl, by simp⟩
  clear hpl
  cases hN : nameB f.1
  · have hr := hide (show rv = 10 by rw [hrv]; simp [addE, hN])
    clear hrv hH
    go_enter Tryd.func24, Tryd.ntmps24
    go_wp2_with fail
    refine (refName_c _ _ f.2).mono ?_
    rintro e w1 ⟨rfl, rfl⟩
    rw [hN]
    go_wp2_with fail
    go_ret
    exact ⟨by rw [unhide hr]; rfl, b0⟩
  cases hI : isB dk dn ds.1
  · have hr := hide (show rv = 10 by rw [hrv]; simp [addE, hN, hI])
    clear hrv hH
    go_enter Tryd.func24, Tryd.ntmps24
    go_wp2_with fail
    refine (refName_c _ _ f.2).mono ?_
    rintro e w1 ⟨rfl, rfl⟩
    rw [hN]
    go_wp2_with fail
    refine (refIs_c _ _ _ _ ds.2).mono ?_
    rintro e w2 ⟨rfl, hb2⟩
    rw [hI]
    go_wp2_with fail
    go_ret
    exact ⟨by rw [unhide hr]; rfl, b0.trans (hb2.mono b0.size)⟩
  have hr := hide (show rv = if hasB fs f.1 then 13 else if 5 ≤ fs.length then 12 else 0 by rw [hrv]; simp [addE, hN, hI])
  clear hrv
  rcases hH with ⟨hH, hp⟩ | ⟨hH, hp⟩
  · replace hr := hide (show rv = 13 by rw [unhide hr, hH]; rfl)
    clear hH
    go_enter Tryd.func24, Tryd.ntmps24
    go_wp2_with fail
    refine (refName_c _ _ f.2).mono ?_
    rintro e w1 ⟨rfl, rfl⟩
    rw [hN]
    go_wp2_with fail
    refine (refIs_c _ _ _ _ ds.2).mono ?_
    rintro e w2 ⟨rfl, hb2⟩
    rw [hI]
    go_wp2_with fail
    go_ret
    exact ⟨by rw [unhide hr]; rfl, b0.trans (hb2.mono b0.size)⟩
  · by_cases hl : 5 ≤ fs.length
    · replace hr := hide (show rv = 12 by rw [unhide hr, hH]; simp [hl])
      have hl' : (5 : Int) ≤ fs.length := by omega
      clear hH hl
      go_enter Tryd.func24, Tryd.ntmps24
      go_wp2_with fail
      refine (refName_c _ _ f.2).mono ?_
      rintro e w1 ⟨rfl, rfl⟩
      rw [hN]
      go_wp2_with fail
      refine (refIs_c _ _ _ _ ds.2).mono ?_
      rintro e w2 ⟨rfl, hb2⟩
      rw [hI]
      have ht := (xt.on hb2 xt.lt).two.2
      go_wp2_with fail
      go_ret
      exact ⟨by rw [unhide hr]; rfl, b0.trans (hb2.mono b0.size)⟩
    · replace hr := hide (show rv = 0 by rw [unhide hr, hH]; simp [hl])
      have hl' : ¬ (5 : Int) ≤ fs.length := by omega
      clear hH hl
      go_enter Tryd.func24, Tryd.ntmps24
      go_wp2_with fail
      refine (refName_c _ _ f.2).mono ?_
      rintro e w1 ⟨rfl, rfl⟩
      rw [hN]
      go_wp2_with fail
      refine (refIs_c _ _ _ _ ds.2).mono ?_
      rintro e w2 ⟨rfl, hb2⟩
      rw [hI]
      have ht := (xt.on hb2 xt.lt).two.2
      go_wp2_with fail
      go_ret
      exact ⟨by rw [unhide hr]; rfl, b0.trans (hb2.mono b0.size)⟩

end Go.Proofs.YtnfmhcddfjgcmaaDoor
