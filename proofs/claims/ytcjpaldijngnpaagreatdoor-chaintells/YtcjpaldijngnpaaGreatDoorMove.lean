/-
  What Move answers (package evolve): the event behind the change, its values in new memory; for every schema of at most 5 types of at most 5 fields, every change and every event of at most 20 values, in whatever world; nothing that lay is turned.
-/
import Derived.Test.YtcjpaldijngnpaaGreatDoorRefusal
import Derived.Test.YtcjpaldijngnpaaGreatDoorMoved
import Derived.Test.YtcjpaldijngnpaaGreatDoorReadsZ
namespace Go.Proofs.YtcjpaldijngnpaaGreatDoor
open Go.RowKit Go.Shelf

/-- The event behind a change. -/
def movE (ts : List Ty) (c : Ch) (x : Ev) : Ev :=
  match placeN (tnames ts) x.ty.1 with
  | none => x
  | some k => if refE ts c = 0 ∧ isE ts x = 0 then ⟨x.ty, x.ts, vNew (ty ts k).1 c (ty ts k).2 x.vs⟩ else x

theorem errE_zero : errE 0 = .nilIface := rfl
theorem errE_no {n : Int} (h : n ≠ 0) : errE n = errV n := by simp [errE, h]

theorem isE_len {ts : List Ty} {x : Ev} {k : Nat} (hp : placeN (tnames ts) x.ty.1 = some k) (h : isE ts x = 0) : x.vs.length = (ty ts k).2.length := by
  unfold isE at h
  rw [hp] at h
  simp only at h
  cases hw : wholeB (ty ts k).2.length x.ts x.vs
  · rw [hw] at h; simp at h
  · unfold wholeB at hw
    simp only [Bool.and_eq_true, decide_eq_true_eq] at hw
    exact hw.1.2

end Go.Proofs.YtcjpaldijngnpaaGreatDoor
