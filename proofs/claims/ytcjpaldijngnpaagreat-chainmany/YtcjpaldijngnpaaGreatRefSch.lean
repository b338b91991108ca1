/-
  What the document's IsSchema answers (package pasternref1, layer 2): true just where the types are few enough, their names rise, and each type's fields are few enough, with names that are names, each once, and kinds that are kinds: for every schema, in whatever world; nothing that lay is turned.
-/
import Derived.Test.YtcjpaldijngnpaaGreatAskIs
import Derived.Deep.CutRange
import Derived.Deep.DeepCutAuto
namespace Go.Proofs.YtcjpaldijngnpaaGreat
open Go.RowKit Go.Shelf

/-- A field of a type may be: its name, its kind, and that no other ahead of it is called so. -/
def SchFd (fs : List Fd) (p : Nat) : Prop := nameB (fd fs p).1.1 = true ∧ 1 ≤ (fd fs p).2 ∧ (fd fs p).2 ≤ 3 ∧ placeI (fnames fs) (fd fs p).1.1 = p
def SchF (fs : List Fd) : Prop := fs.length ≤ 5 ∧ ∀ p, p < fs.length → SchFd fs p
/-- A type of a schema may be, where it stands. -/
def SchT (ts : List Ty) (k : Nat) : Prop := nameB (ty ts k).1.1 = true ∧ (0 < k → Op.bytesLess (ty ts (k - 1)).1.1.toList (ty ts k).1.1.toList = true) ∧ SchF (ty ts k).2
/-- A schema that may be. -/
def Sch (ts : List Ty) : Prop := ts.length ≤ 5 ∧ ∀ k, k < ts.length → SchT ts k

theorem Typs.bound {n : Nat} {W : World} {a : Option Addr} {ts : List Ty} (h : Typs n W a ts) (k : Nat) (hk : k < ts.length) : (ty ts k).2.length ≤ maxLen := by
  rcases h with rfl | ⟨b, off, rfl, hb, hc⟩
  · simp at hk
  · obtain ⟨_, _, _, _, _, h4⟩ := hc k hk
    exact h4



end Go.Proofs.YtcjpaldijngnpaaGreat
