/-
  Why a change may not be (package evolve: isFormed, refusalOfType, has, refusalOfAdd, refusalAtField, refusal), and what a field was called (Back, the program's and the document's): for every schema of at most 5 types of at most 5 fields and every change, in whatever world; nothing that lay is turned.
-/
import Derived.Test.YtcjpaldijngnpaaGreatDoorFlds
import Derived.Test.YtcjpaldijngnpaaGreatDoorAskIs
import Derived.BigRegion
namespace Go.Proofs.YtcjpaldijngnpaaGreatDoor
open Go.RowKit Go.Shelf

def noT (s : ByteArray) : Bool := s.toList.isEmpty
/-- No value. -/
def noD (c : Ch) : Bool := decide (c.dk = 0 ∧ c.dn = 0) && noT c.ds.1
/-- What a change of its kind doesn't use isn't there. -/
def bareB (c : Ch) : Bool :=
  if c.k = 1 then noT c.o.1 else if c.k = 2 then noT c.o.1 && noD c else if c.k = 4 then noT c.o.1 && noD c else if c.k = 3 then noD c else if c.k = 5 then noT c.f.1 && noT c.o.1 && noD c else false
def formedB (c : Ch) : Bool := nameB c.t.1 && bareB c

theorem below2 {w w1 : World} {o1 o2 : Obj} (h : Below ((w.alloc o1).alloc o2).heap.size ((w.alloc o1).alloc o2) w1) : Below w.heap.size w w1 :=
  (((Below.refl _ _).alloc (Nat.le_refl _) _).alloc (by simp) _).trans (h.mono (by simp; omega))
theorem below2d {w w1 : World} {o1 o2 : Obj} (h : Below ((w.alloc o1).alloc o2).drew.heap.size ((w.alloc o1).alloc o2).drew w1) : Below w.heap.size w w1 :=
  (((Below.refl _ _).alloc (Nat.le_refl _) _).alloc (by simp) _).drew.trans (h.mono (by simp; omega))
theorem below1 {w w1 : World} {o1 : Obj} (h : Below (w.alloc o1).heap.size (w.alloc o1) w1) : Below w.heap.size w w1 :=
  ((Below.refl _ _).alloc (Nat.le_refl _) _).trans (h.mono (by simp))

set_option maxRecDepth 100000 in
set_option maxHeartbeats 4000000 in
theorem formed_c (c : Ch) (w : World) :
    Calls Tryz.prog 88 #[c.v] w fun e w' => e = .returned (.bool (formedB c)) ∧ Below w.heap.size w w' := by
  obtain ⟨k, t, f, o, dk, dn, ds⟩ := c
  obtain ⟨N, hN⟩ : ∃ N, N = nameB t.1 := ⟨_, rfl⟩
  obtain ⟨R, hR⟩ : ∃ R, R = formedB ⟨k, t, f, o, dk, dn, ds⟩ := ⟨_, rfl⟩
  rw [← hR]
  have hR2 : R = (N && bareB ⟨k, t, f, o, dk, dn, ds⟩) := by rw [hR, hN]; rfl
  replace hR2 := hide hR2
  clear hR
  have cN : ∀ W, Calls Tryz.prog 77 #[.string t.1] W fun e w' => e = .returned (.bool N) ∧ Below W.heap.size W w' := fun W => by rw [hN]; exact name_c _ _ t.2
  clear hN
  by_cases h1 : k = 1
  · subst h1
    cases N
    all_goals
      go_enter Tryz.func88, Tryz.ntmps88
      go_wp2_with fail
      go_region
      go_wp2_with fail
      refine (cN _).mono ?_
      rintro e w1 ⟨rfl, hb1⟩
      obtain ⟨hc, hf⟩ := bcell hb1
      go_wp2_with fail
    all_goals
      go_ret
      refine ⟨?_, below2d hb1⟩
      clear hc hf hb1
      have := unhide hR2
      simp_all [bareB, noT]
  by_cases h2 : k = 2
  · subst h2
    cases N
    all_goals
      go_enter Tryz.func88, Tryz.ntmps88
      go_wp2_with fail
      refine (cN _).mono ?_
      rintro e w1 ⟨rfl, hb1⟩
      obtain ⟨hc, hf⟩ := bcell hb1
      go_wp2_with fail
    all_goals
      go_ret
      refine ⟨?_, below2 hb1⟩
      clear hc hf hb1
      have := unhide hR2
      simp_all [bareB, noT, noD]
  by_cases h4 : k = 4
  · subst h4
    cases N
    all_goals
      go_enter Tryz.func88, Tryz.ntmps88
      go_wp2_with fail
      refine (cN _).mono ?_
      rintro e w1 ⟨rfl, hb1⟩
      obtain ⟨hc, hf⟩ := bcell hb1
      go_wp2_with fail
    all_goals
      go_ret
      refine ⟨?_, below2 hb1⟩
      clear hc hf hb1
      have := unhide hR2
      simp_all [bareB, noT, noD]
  by_cases h3 : k = 3
  · subst h3
    cases N
    all_goals
      go_enter Tryz.func88, Tryz.ntmps88
      go_wp2_with fail
      go_region
      go_wp2_with fail
      refine (cN _).mono ?_
      rintro e w1 ⟨rfl, hb1⟩
      obtain ⟨hc, hf⟩ := bcell hb1
      go_wp2_with fail
    all_goals
      go_ret
      refine ⟨?_, below2d hb1⟩
      clear hc hf hb1
      have := unhide hR2
      simp_all [bareB, noD, noT]
  by_cases h5 : k = 5
  · subst h5
    cases N
    all_goals
      go_enter Tryz.func88, Tryz.ntmps88
      go_wp2_with fail
      refine (cN _).mono ?_
      rintro e w1 ⟨rfl, hb1⟩
      obtain ⟨hc, hf⟩ := bcell hb1
      go_wp2_with fail
    all_goals
      go_ret
      refine ⟨?_, below2 hb1⟩
      clear hc hf hb1
      have := unhide hR2
      simp_all [bareB, noT, noD]
  have h : R = false := by rw [unhide hR2]; simp [bareB, h1, h2, h3, h4, h5]
  subst h
  have h1' : (k == 1) = false := by simp [h1]
  have h2' : (k == 2) = false := by simp [h2]
  have h3' : (k == 3) = false := by simp [h3]
  have h4' : (k == 4) = false := by simp [h4]
  have h5' : (k == 5) = false := by simp [h5]
  clear h1 h2 h3 h4 h5 hR2 cN
  go_enter Tryz.func88, Tryz.ntmps88
  go_wp2_with fail
  go_ret
  exact ⟨rfl, below2 (Below.refl _ _)⟩

set_option maxHeartbeats 1000000 in
theorem ofType_c (a : Option Addr) (n cap : Nat) (w : World) :
    Calls Tryz.prog 89 #[.agg #[.slice a n cap]] w fun e w' => e = .returned (errE (if 5 ≤ n then 12 else 0)) ∧ Below w.heap.size w w' := by
  by_cases h : 5 ≤ n
  · have h' : (5 : Int) ≤ n := by omega
    rw [if_pos h]
    clear h
    go_enter Tryz.func89, Tryz.ntmps89
    go_wp2_with fail
    go_ret
    exact ⟨rfl, below1 (Below.refl _ _)⟩
  · have h' : ¬ (5 : Int) ≤ n := by omega
    rw [if_neg h]
    clear h
    go_enter Tryz.func89, Tryz.ntmps89
    go_wp2_with fail
    go_ret
    exact ⟨rfl, below1 (Below.refl _ _)⟩

def hasB (fs : List Fd) (s : ByteArray) : Bool := (placeN (fnames fs) s).isSome

set_option maxHeartbeats 1000000 in
theorem has_c (nm s : ByteArray) (a : Option Addr) (cap : Nat) (fs : List Fd) (h5 : fs.length ≤ 5) (w : World) (hF : Flds w.heap.size w a fs) :
    Calls Tryz.prog 108 #[.agg #[.string nm, .slice a fs.length cap], .string s] w fun e w' => e = .returned (.bool (hasB fs s)) ∧ Below w.heap.size w w' := by
  have b0 : Below w.heap.size w (w.alloc (.cells #[.string nm, .slice a fs.length cap] 69)) := (Below.refl _ _).alloc (Nat.le_refl _) _
  have F0 := hF.on b0
  cases hp : placeN (fnames fs) s with
  | none =>
    have e1 : placeI (fnames fs) s = -1 := by simp [placeI, hp]
    have e2 : hasB fs s = false := by simp [hasB, hp]
    rw [e2]
    clear hp e2
    go_enter Tryz.func108, Tryz.ntmps108
    go_wp2_with fail
    refine (field_c _ _ _ _ _ h5 _ F0).mono ?_
    rintro e w1 ⟨rfl, hb1⟩
    rw [e1]
    go_wp2_with fail
    go_ret
    exact ⟨rfl, below1 hb1⟩
  | some k =>
    have e1 : placeI (fnames fs) s = k := by simp [placeI, hp]
    have e2 : hasB fs s = true := by simp [hasB, hp]
    rw [e2]
    clear hp e2
    go_enter Tryz.func108, Tryz.ntmps108
    go_wp2_with fail
    refine (field_c _ _ _ _ _ h5 _ F0).mono ?_
    rintro e w1 ⟨rfl, hb1⟩
    rw [e1]
    go_wp2_with fail
    go_ret
    exact ⟨rfl, below1 hb1⟩

end Go.Proofs.YtcjpaldijngnpaaGreatDoor
