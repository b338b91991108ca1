/-
  A block of plain cells in memory, carried along.
-/
import Derived.Test.YtfofpenajkaalaaDoorIter
namespace Go.Proofs.YtfofpenajkaalaaDoor
open Go.RowKit

/-- The block B holds these cells, none of them frozen. -/
def Box (W : World) (B : Nat) (t : TypeId) (cs : Array Value) : Prop := W.heap[B]? = some (.cells cs t (0, 0))
theorem Box.new (W : World) (t : TypeId) (cs : Array Value) : Box (W.alloc (.cells cs t)) W.heap.size t cs := World.alloc_heap_new W _
theorem Box.lt {W : World} {B : Nat} {t : TypeId} {cs : Array Value} (h : Box W B t cs) : B < W.heap.size := (Array.getElem?_eq_some_iff.1 h).1
theorem Box.at {W : World} {B : Nat} {t : TypeId} {cs : Array Value} (h : Box W B t cs) (i : Nat) {v : Value} (hv : cs[i]? = some v) : W.cell? ⟨B, i, none⟩ = some v := by simp [World.cell?, show W.heap[B]? = _ from h, hv]
theorem Box.frz {W : World} {B : Nat} {t : TypeId} {cs : Array Value} (h : Box W B t cs) (i : Nat) : W.frozen? ⟨B, i, none⟩ = false := by simp [World.frozen?, show W.heap[B]? = _ from h]
theorem Box.on {A W : World} {n B : Nat} {t : TypeId} {cs : Array Value} (h : Box A B t cs) (hb : Below n A W) (hB : B < n) : Box W B t cs := (hb.block B hB).trans h
theorem Box.alloc {W : World} {B : Nat} {t : TypeId} {cs : Array Value} (h : Box W B t cs) (o : Obj) : Box (W.alloc o) B t cs := h.on ((Below.refl _ W).alloc (Nat.le_refl _) o) h.lt
theorem Box.other {W : World} {B : Nat} {t : TypeId} {cs : Array Value} (h : Box W B t cs) (p : Addr) (v : Value) (hne : p.block ≠ B) : Box (W.setCell p v) B t cs := by
  unfold Box at *
  simp [World.setCell, Array.getElem?_modify, hne, h]
theorem Box.set {W : World} {B : Nat} {t : TypeId} {cs : Array Value} (h : Box W B t cs) (i : Nat) (v : Value) : Box (W.setCell ⟨B, i, none⟩ v) B t (cs.setIfInBounds i v) := by
  unfold Box at *
  simp [World.setCell, Array.getElem?_modify, h]
theorem Box.drewN {W : World} {B : Nat} {t : TypeId} {cs : Array Value} (h : Box W B t cs) (n : Nat) : Box (W.drewN n) B t cs := h
theorem Box.drew {W : World} {B : Nat} {t : TypeId} {cs : Array Value} (h : Box W B t cs) : Box W.drew B t cs := h
/-- Every cell and its freedom, at once. -/
theorem Box.one {W : World} {B : Nat} {t : TypeId} {v : Value} (h : Box W B t #[v]) : W.cell? ⟨B, 0, none⟩ = some v ∧ W.frozen? ⟨B, 0, none⟩ = false := ⟨h.at 0 rfl, h.frz 0⟩
theorem Box.two {W : World} {B : Nat} {t : TypeId} {u v : Value} (h : Box W B t #[u, v]) : W.cell? ⟨B, 0, none⟩ = some u ∧ W.cell? ⟨B, 1, none⟩ = some v := ⟨h.at 0 rfl, h.at 1 rfl⟩
theorem Box.three {W : World} {B : Nat} {t : TypeId} {u v x : Value} (h : Box W B t #[u, v, x]) : W.cell? ⟨B, 0, none⟩ = some u ∧ W.cell? ⟨B, 1, none⟩ = some v ∧ W.cell? ⟨B, 2, none⟩ = some x := ⟨h.at 0 rfl, h.at 1 rfl, h.at 2 rfl⟩
theorem box_own {β : Type} (B : Nat) (t : TypeId) (f : β → Array Value) : Own (fun s W => Box W B t (f s)) := fun s X Y row hs hg hrow =>
  (hg.block B hs.lt (fun e' => by obtain ⟨o, ho, hc⟩ := hrow B e'.symm; rw [show X.heap[B]? = _ from hs] at ho; cases ho; cases hc)).trans hs
theorem Box.put {W : World} {B : Nat} {t : TypeId} {cs : Array Value} (h : Box W B t cs) {D : Nat} {o : Obj} (hD : W.heap[D]? = some o) (ho : o.isCells = false) (o' : Obj) : Box (W.putObj D o') B t cs :=
  box_own B t (fun _ : Unit => cs) () W _ (some D) h (grownBy_putObj' W D o') (fun r e => by cases e; exact ⟨o, hD, ho⟩)

end Go.Proofs.YtfofpenajkaalaaDoor
