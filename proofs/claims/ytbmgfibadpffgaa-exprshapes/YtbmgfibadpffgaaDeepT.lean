/-
  ExprDeep's trees, and where they lie beside a box that is turned; what two makes, with its row.
-/
import Derived.Test.YtbmgfibadpffgaaKnown
namespace Go.Proofs.Ytbmgfibadpffgaa
open Go.RowKit Go.Shelf

/-- These trees lie at a, none of their memory in the block B. -/
def HL (B n : Nat) (W : World) (a : Option Addr) (ks : List Tree) : Prop := Lies n (W.putObj B (.deferred none)) a ks
theorem put_same {W : World} {B k : Nat} {o : Obj} (h : (W.putObj B (.deferred none)).heap[k]? = some o) (ho : o.isCells = true) : W.heap[k]? = some o ∧ k ≠ B := by
  have hne : k ≠ B := fun e => by
    subst e
    by_cases hl : k < W.heap.size
    · rw [World.putObj_heap_same hl] at h; cases h; cases ho
    · rw [Array.getElem?_eq_none (by simpa using hl)] at h; cases h
  rw [World.putObj_heap_other hne] at h
  exact ⟨h, hne⟩
theorem HL.lies {B n : Nat} {W : World} {a : Option Addr} {ks : List Tree} (h : HL B n W a ks) : Lies n W a ks := Lies.sm (fun _ _ _ ho hc => (put_same ho hc).1) h
theorem HL.keep {B n : Nat} {W W' : World} (hk : ∀ k o, k < n → k ≠ B → W.heap[k]? = some o → o.isCells = true → W'.heap[k]? = some o) {a : Option Addr} {ks : List Tree} (h : HL B n W a ks) : HL B n W' a ks :=
  Lies.sm (fun k o hn ho hc => by
    obtain ⟨h1, h2⟩ := put_same ho hc
    rw [World.putObj_heap_other h2]
    exact hk k o hn h2 h1 hc) h
theorem HL.on {B : Nat} {W W' : World} (hb : Below W.heap.size W W') {a : Option Addr} {ks : List Tree} (h : HL B W.heap.size W a ks) : HL B W'.heap.size W' a ks :=
  Lies.mono hb.size (HL.keep (fun k _ hn _ ho _ => (hb.block k hn).trans ho) h)
theorem HL.set {B n i : Nat} {W : World} (v : Value) {a : Option Addr} {ks : List Tree} (h : HL B n W a ks) : HL B n (W.setCell ⟨B, i, none⟩ v) a ks :=
  HL.keep (fun _ _ _ hne ho _ => (setCell_block W _ v (Ne.symm hne)).trans ho) h
theorem HL.nil (B n : Nat) (W : World) (a : Option Addr) : HL B n W a [] := Lies.nil a
theorem HL.two {B g : Nat} {W : World} {d e : Dat} {a a' : Option Addr} {ks ls : List Tree} {cap cap' : Nat} (hb : Box W g 27 #[.int .i64 d.op, .int .i64 d.k, .int .i64 d.n, .string d.s.1, .string d.al.1, .string d.fd.1, .slice a ks.length cap, .int .i64 e.op, .int .i64 e.k, .int .i64 e.n, .string e.s.1, .string e.al.1, .string e.fd.1, .slice a' ls.length cap']) (hne : g ≠ B)
    (h : HL B W.heap.size W a ks) (h' : HL B W.heap.size W a' ls) : HL B W.heap.size W (some ⟨g, 0, none⟩) [.mk d ks, .mk e ls] := by
  have hb2 : Box (W.putObj B (.deferred none)) g 27 #[.int .i64 d.op, .int .i64 d.k, .int .i64 d.n, .string d.s.1, .string d.al.1, .string d.fd.1, .slice a ks.length cap, .int .i64 e.op, .int .i64 e.k, .int .i64 e.n, .string e.s.1, .string e.al.1, .string e.fd.1, .slice a' ls.length cap'] := (World.putObj_heap_other hne).trans hb
  refine lies_of_nds [⟨d, a, ks.length, cap⟩, ⟨e, a', ls.length, cap'⟩] rfl (by simp) hb.lt (nds_box hb2 (by simp [newsN])) (fun j x t hx ht => ?_)
  match j with
  | 0 => simp at hx ht; subst hx ht; exact ⟨rfl, rfl, h⟩
  | 1 => simp at hx ht; subst hx ht; exact ⟨rfl, rfl, h'⟩
  | j + 2 => simp at hx

set_option maxHeartbeats 1000000 in
theorem two_b (op : Int) (d e : Dat) (a a' : Option Addr) (ks ls : List Tree) (cap cap' : Nat) (w : World) :
    Calls Try.prog 9 #[.int .i64 op, d.v a ks.length cap, e.v a' ls.length cap'] w fun r w' => (∃ g, r = .returned ((opD op).v (some ⟨g, 0, none⟩) 2 2) ∧ w.heap.size ≤ g ∧ Box w' g 27 #[.int .i64 d.op, .int .i64 d.k, .int .i64 d.n, .string d.s.1, .string d.al.1, .string d.fd.1, .slice a ks.length cap, .int .i64 e.op, .int .i64 e.k, .int .i64 e.n, .string e.s.1, .string e.al.1, .string e.fd.1, .slice a' ls.length cap']) ∧ Below w.heap.size w w' := by
  obtain ⟨W, hW⟩ : ∃ W, W = (((w.alloc (.cells (d.cs a ks.length cap) 27)).alloc (.cells (e.cs a' ls.length cap') 27)).alloc (.cells ((opD op).cs (some ⟨w.heap.size + 1 + 1 + 1, 0, none⟩) 2 2) 27)).alloc (.cells #[.int .i64 d.op, .int .i64 d.k, .int .i64 d.n, .string d.s.1, .string d.al.1, .string d.fd.1, .slice a ks.length cap, .int .i64 e.op, .int .i64 e.k, .int .i64 e.n, .string e.s.1, .string e.al.1, .string e.fd.1, .slice a' ls.length cap'] 27) := ⟨_, rfl⟩
  have bW : Below w.heap.size w W := by rw [hW]; exact ((((Below.refl _ _).alloc (Nat.le_refl _) _).alloc (by simp) _).alloc (by simp; omega) _).alloc (by simp; omega) _
  have xb : Box W (w.heap.size + 1 + 1 + 1) 27 #[.int .i64 d.op, .int .i64 d.k, .int .i64 d.n, .string d.s.1, .string d.al.1, .string d.fd.1, .slice a ks.length cap, .int .i64 e.op, .int .i64 e.k, .int .i64 e.n, .string e.s.1, .string e.al.1, .string e.fd.1, .slice a' ls.length cap'] := by
    have := Box.new (((w.alloc (.cells (d.cs a ks.length cap) 27)).alloc (.cells (e.cs a' ls.length cap') 27)).alloc (.cells ((opD op).cs (some ⟨w.heap.size + 1 + 1 + 1, 0, none⟩) 2 2) 27)) 27 #[.int .i64 d.op, .int .i64 d.k, .int .i64 d.n, .string d.s.1, .string d.al.1, .string d.fd.1, .slice a ks.length cap, .int .i64 e.op, .int .i64 e.k, .int .i64 e.n, .string e.s.1, .string e.al.1, .string e.fd.1, .slice a' ls.length cap']
    simp only [World.size_alloc] at this
    rw [hW]; exact this
  dsimp only [opD, Dat.cs] at hW
  replace hW := hide hW
  go_enter Try.func9, Try.ntmps9
  go_wp2_with fail
  have xr : Box W (w.heap.size + 1 + 1) 27 ((opD op).cs (some ⟨w.heap.size + 1 + 1 + 1, 0, none⟩) 2 2) := by
    have := (Box.new ((w.alloc (.cells (d.cs a ks.length cap) 27)).alloc (.cells (e.cs a' ls.length cap') 27)) 27 ((opD op).cs (some ⟨w.heap.size + 1 + 1 + 1, 0, none⟩) 2 2)).alloc (.cells #[.int .i64 d.op, .int .i64 d.k, .int .i64 d.n, .string d.s.1, .string d.al.1, .string d.fd.1, .slice a ks.length cap, .int .i64 e.op, .int .i64 e.k, .int .i64 e.n, .string e.s.1, .string e.al.1, .string e.fd.1, .slice a' ls.length cap'] 27)
    simp only [World.size_alloc] at this
    rw [unhide hW]; exact this
  rw [← unhide hW]
  obtain ⟨r0, r1, r2, r3, r4, r5, r6⟩ := xr.seven
  simp only [opD] at r0 r1 r2 r3 r4 r5 r6
  refine bodyPost_ret (v := (opD op).v (some ⟨w.heap.size + 1 + 1 + 1, 0, none⟩) 2 2) (by simp [results, Try.results9, go_sem, opD, r0, r1, r2, r3, r4, r5, r6]) rfl ⟨⟨_, rfl, by omega, xb⟩, bW⟩

def treeK (full : Bool) : Nat → Tree
  | 0 => litT 1
  | 1 => litT 1
  | j + 2 => twoT 3 (treeK full (j + 1)) (if full then treeK full (j + 1) else litT 2)
def nodesK (full : Bool) (k : Nat) : Nat := if full then 2 ^ k - 1 else 2 * k - 1
theorem deep_facts (full : Bool) (k : Nat) (h1 : 1 ≤ k) (h7 : k ≤ 7) : isT (treeK full k) = (decide (k ≤ 5) && decide (nodesK full k ≤ 24)) ∧ depthT (treeK full k) = k ∧ nodesN (treeK full k) = nodesK full k := by
  match k, h1, h7 with
  | 1, _, _ => cases full <;> exact ⟨by kernel_rfl, by kernel_rfl, by kernel_rfl⟩
  | 2, _, _ => cases full <;> exact ⟨by kernel_rfl, by kernel_rfl, by kernel_rfl⟩
  | 3, _, _ => cases full <;> exact ⟨by kernel_rfl, by kernel_rfl, by kernel_rfl⟩
  | 4, _, _ => cases full <;> exact ⟨by kernel_rfl, by kernel_rfl, by kernel_rfl⟩
  | 5, _, _ => cases full <;> exact ⟨by kernel_rfl, by kernel_rfl, by kernel_rfl⟩
  | 6, _, _ => cases full <;> exact ⟨by kernel_rfl, by kernel_rfl, by kernel_rfl⟩
  | 7, _, _ => cases full <;> exact ⟨by kernel_rfl, by kernel_rfl, by kernel_rfl⟩

end Go.Proofs.Ytbmgfibadpffgaa
