/-
  A block of plain cells in memory, carried along.
-/
import Derived.Test.YtmhpakhnclkenaaGreatDoorIter
namespace Go.Proofs.YtmhpakhnclkenaaGreatDoor
open Go.RowKit

/-- The block B holds these cells, none of them frozen. -/
def Box (W : World) (B : Nat) (t : TypeId) (cs : Array Value) : Prop := W.heap[B]? = some (.cells cs t (0, 0))
theorem Box.new (W : World) (t : TypeId) (cs : Array Value) : Box (W.alloc (.cells cs t)) W.heap.size t cs := World.alloc_heap_new W _
theorem Box.lt {W : World} {B : Nat} {t : TypeId} {cs : Array Value} (h : Box W B t cs) : B < W.heap.size := (Array.getElem?_eq_some_iff.1 h).1
theorem Box.at {W : World} {B : Nat} {t : TypeId} {cs : Array Value} (h : Box W B t cs) (i : Nat) {v : Value} (hv : cs[i]? = some v) : W.cell? ⟨B, i, none⟩ = some v := by simp [World.cell?, show W.heap[B]? = _ from h, hv]
theorem Box.frz {W : World} {B : Nat} {t : TypeId} {cs : Array Value} (h : Box W B t cs) (i : Nat) : W.frozen? ⟨B, i, none⟩ = false := by simp [World.frozen?, show W.heap[B]? = _ from h]
theorem Box.on {A W : World} {n B : Nat} {t : TypeId} {cs : Array Value} (h : Box A B t cs) (hb : Below n A W) (hB : B < n) : Box W B t cs := (hb.block B hB).trans h
theorem Box.alloc {W : World} {B : Nat} {t : TypeId} {cs : Array Value} (h : Box W B t cs) (o : Obj) : Box (W.alloc o) B t cs := h.on ((Below.refl _ W).alloc (Nat.le_refl _) o) h.lt
theorem Box.other {W : World} {B : Nat} {t : TypeId} {cs : Array Value} (h : Box W B t cs) (p : Addr) (v : Value) (hne : p.block ≠ B) : Box (W.setCell p v) B t cs := by
  unfold Box at *
  simp [World.setCell, Array.getElem?_modify, hne, h]
theorem Box.set {W : World} {B : Nat} {t : TypeId} {cs : Array Value} (h : Box W B t cs) (i : Nat) (v : Value) : Box (W.setCell ⟨B, i, none⟩ v) B t (cs.setIfInBounds i v) := by
  unfold Box at *
  simp [World.setCell, Array.getElem?_modify, h]
theorem Box.drewN {W : World} {B : Nat} {t : TypeId} {cs : Array Value} (h : Box W B t cs) (n : Nat) : Box (W.drewN n) B t cs := h
theorem Box.drew {W : World} {B : Nat} {t : TypeId} {cs : Array Value} (h : Box W B t cs) : Box W.drew B t cs := h
/-- Every cell and its freedom, at once. -/
theorem Box.one {W : World} {B : Nat} {t : TypeId} {v : Value} (h : Box W B t #[v]) : W.cell? ⟨B, 0, none⟩ = some v ∧ W.frozen? ⟨B, 0, none⟩ = false := ⟨h.at 0 rfl, h.frz 0⟩
theorem Box.two {W : World} {B : Nat} {t : TypeId} {u v : Value} (h : Box W B t #[u, v]) : W.cell? ⟨B, 0, none⟩ = some u ∧ W.cell? ⟨B, 1, none⟩ = some v := ⟨h.at 0 rfl, h.at 1 rfl⟩
theorem Box.three {W : World} {B : Nat} {t : TypeId} {u v x : Value} (h : Box W B t #[u, v, x]) : W.cell? ⟨B, 0, none⟩ = some u ∧ W.cell? ⟨B, 1, none⟩ = some v ∧ W.cell? ⟨B, 2, none⟩ = some x := ⟨h.at 0 rfl, h.at 1 rfl, h.at 2 rfl⟩
theorem box_own {β : Type} (B : Nat) (t : TypeId) (f : β → Array Value) : Own (fun s W => Box W B t (f s)) := fun s X Y row hs hg hrow =>
  (hg.block B hs.lt (fun e' => by obtain ⟨o, ho, hc⟩ := hrow B e'.symm; rw [show X.heap[B]? = _ from hs] at ho; cases ho; cases hc)).trans hs
theorem Box.put {W : World} {B : Nat} {t : TypeId} {cs : Array Value} (h : Box W B t cs) {D : Nat} {o : Obj} (hD : W.heap[D]? = some o) (ho : o.isCells = false) (o' : Obj) : Box (W.putObj D o') B t cs :=
  box_own B t (fun _ : Unit => cs) () W _ (some D) h (grownBy_putObj' W D o') (fun r e => by cases e; exact ⟨o, hD, ho⟩)

theorem Box.four {W : World} {B : Nat} {t : TypeId} {a b c d : Value} (h : Box W B t #[a, b, c, d]) : W.cell? ⟨B, 0, none⟩ = some a ∧ W.cell? ⟨B, 1, none⟩ = some b ∧ W.cell? ⟨B, 2, none⟩ = some c ∧ W.cell? ⟨B, 3, none⟩ = some d :=
  ⟨h.at 0 rfl, h.at 1 rfl, h.at 2 rfl, h.at 3 rfl⟩


theorem keeps_below {W W' : World} (hb : Below W.heap.size W W') : KeepsOthers W W' := ⟨hb.size, fun k _ hk _ => (hb.block k (Array.getElem?_eq_some_iff.1 hk).1).trans hk⟩

theorem setCell_block (W : World) (p : Addr) (v : Value) {g : Nat} (h : p.block ≠ g) : (W.setCell p v).heap[g]? = W.heap[g]? := by
  simp [World.setCell, Array.getElem?_modify, h]

theorem ext_list (s : ByteArray) (a b : Nat) : (s.extract a b).data.toList = (s.data.toList.take b).drop a := by
  rw [ByteArray.data_extract, Array.toList_extract, List.drop_take]

theorem owns_keep {W W' : World} {base : Nat} {e : TypeId} {size : Nat} {v : Value} {n : Nat} {xs : List Value} (h : W.ownsRow base e size v n xs) (hk : ∀ g, v.ownBlock = some g → g < W.heap.size → W'.heap[g]? = W.heap[g]?) : W'.ownsRow base e size v n xs := by
  refine ⟨h.1, ?_⟩
  rcases h.2 with h0 | ⟨g, cap, cur, rfl, hb, hg, hr⟩
  · exact .inl h0
  · exact .inr ⟨g, cap, cur, rfl, hb, (hk g rfl (Array.getElem?_eq_some_iff.1 hg).1).trans hg, hr⟩

theorem owns_form {W : World} {base : Nat} {e : TypeId} {size : Nat} {v : Value} {n : Nat} {xs : List Value} (h : W.ownsRow base e size v n xs) : ∃ a cap, v = .slice a n cap := by
  rcases h.2 with ⟨rfl, h0⟩ | ⟨g, cap, cur, rfl, _⟩
  · exact ⟨none, 0, by rw [h0]⟩
  · exact ⟨_, _, rfl⟩

theorem owns_base {W : World} {base base' : Nat} (hl : base' ≤ base) {e : TypeId} {size : Nat} {v : Value} {n : Nat} {xs : List Value} (h : W.ownsRow base e size v n xs) : W.ownsRow base' e size v n xs := by
  refine ⟨h.1, ?_⟩
  rcases h.2 with h0 | ⟨g, cap, cur, rfl, hb, hr⟩
  · exact .inl h0
  · exact .inr ⟨g, cap, cur, rfl, Nat.le_trans hl hb, hr⟩


end Go.Proofs.YtmhpakhnclkenaaGreatDoor
